/- FloorOffsets returns true, whatever the room and the width. -/
import Derived.Test.YtpobkdbnldogcaaFlBo2
namespace Go.Proofs.Ytpobkdbnldogcaa
open Go.RowKit

set_option maxRecDepth 100000 in
set_option maxHeartbeats 4000000 in
theorem offsets_walk (rv dv : Value) (rs : List Fl.R) (ds : List Fl.D) (n : Int) (w : World) (hr : Rects w rv rs) (hd : Doors w dv ds) :
    Calls Try.prog 5 #[roomV rv dv, .int .i64 n] w fun e w' => e = .returned (.bool true) ∧ Below w.heap.size w w' := by
  have HB0 := Lib.hid (And.intro (BlockAt.new w #[rv, dv] RoomT) (below_alloc2 (Below.refl w.heap.size w) (.cells #[rv, dv] RoomT)))
  have CM := Lib.hid (many_any rv dv none 0 0 rs ds _ (hr.all HB0.out.2) (hd.all HB0.out.2))
  have HR := Lib.hid (And.intro hr hd)
  have FS := Lib.hid (fun W => sane_any W)
  obtain ⟨ra, rc, rfl⟩ := hr.form
  obtain ⟨da, dc, rfl⟩ := hd.form
  have x0 : World.cell? _ _ = some (.slice ra rs.length rc) := HB0.out.1.cell 0
  have x1 : World.cell? _ _ = some (.slice da ds.length dc) := HB0.out.1.cell 1
  clear hr hd
  cases hm : manyB rs ds 0
  case true =>
    rw [hm] at CM
    clear hm
    go_enter Try.func5, Try.ntmps5
    go_wp2_with fail
    refine CM.out.mono ?_
    rintro e w1 ⟨rfl, hb1⟩
    have HB1 := Lib.hid (below_step HB0.out.2 hb1)
    clear hb1 x0 x1
    go_wp2_with fail
    refine (FS.out _).mono ?_
    rintro e w2 ⟨rfl, hb2⟩
    have HB2 := Lib.hid (below_step HB1.out hb2)
    clear hb2
    go_wp2
    go_ret
    exact ⟨rfl, HB2.out⟩
  rw [hm] at CM
  obtain ⟨hl1, hl2, _⟩ := manyB_no hm
  clear hm
  have FA := Lib.hid (fun W (hW : Below w.heap.size w W) => bestOffset_any _ _ rs ds n W (HR.out.1.all hW) (HR.out.2.all hW) (by omega) (by omega))
  have FB := Lib.hid (fun W (hW : Below w.heap.size w W) => rbestOffset_any _ _ rs ds n W (HR.out.1.all hW) (HR.out.2.all hW) (by omega) (by omega))
  generalize Fl.widE rs ds n = E at *
  generalize (Fl.widOff rs ds n).o = qo at *
  generalize (Fl.widOff rs ds n).n = qn at *
  generalize (Fl.widOff rs ds n).f = qf at *
  clear hl1 hl2
  go_enter Try.func5, Try.ntmps5
  go_wp2_with fail
  refine CM.out.mono ?_
  rintro e w1 ⟨rfl, hb1⟩
  have HN1 := Lib.hid (And.intro (HB0.out.1.below hb1 HB0.out.1.lt) (below_step HB0.out.2 hb1))
  clear hb1 x0 x1 CM HB0
  have C := Lib.hid (FA.out _ HN1.out.2)
  have x0 : World.cell? _ _ = some (.slice ra rs.length rc) := HN1.out.1.cell 0
  have x1 : World.cell? _ _ = some (.slice da ds.length dc) := HN1.out.1.cell 1
  go_wp2_with fail
  refine C.out.mono ?_
  rintro e w2 ⟨rfl, hb⟩
  have HN2 := Lib.hid (And.intro (HN1.out.1.below hb HN1.out.1.lt) (below_step HN1.out.2 hb))
  clear hb x0 x1 HN1 C
  have C := Lib.hid (FB.out _ HN2.out.2)
  have x0 : World.cell? _ _ = some (.slice ra rs.length rc) := HN2.out.1.cell 0
  have x1 : World.cell? _ _ = some (.slice da ds.length dc) := HN2.out.1.cell 1
  go_wp2_with fail
  refine C.out.mono ?_
  rintro e w3 ⟨rfl, hb⟩
  have HN3 := Lib.hid (below_step HN2.out.2 hb)
  have h1 : (qo == qo) = true := by simp
  have h2 : (qn == qn) = true := by simp
  have h3 : (qf == qf) = true := by simp
  have h4 : (E == E) = true := by simp
  clear hb x0 x1 HN2 C
  go_wp2_with fail
  refine (FS.out _).mono ?_
  rintro e w4 ⟨rfl, hb⟩
  have HN4 := Lib.hid (below_step HN3.out hb)
  clear hb HN3
  go_wp2
  go_ret
  exact ⟨rfl, HN4.out⟩
end Go.Proofs.Ytpobkdbnldogcaa
