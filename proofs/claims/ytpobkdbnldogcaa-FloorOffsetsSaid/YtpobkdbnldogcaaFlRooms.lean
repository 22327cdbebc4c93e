/- FloorRooms returns true, whatever the room and the place. -/
import Derived.Test.YtpobkdbnldogcaaFl19
namespace Go.Proofs.Ytpobkdbnldogcaa
open Go.RowKit

/-- A room lies in a block. -/
def RmB (B : Nat) (u v : Value) (W : World) : Prop := (W.cell? ⟨B, 0, none⟩ = some u ∧ W.cell? ⟨B, 1, none⟩ = some v) ∧ B < W.heap.size
theorem RmB.below {B N : Nat} {u v : Value} {W W2 : World} (h : RmB B u v W) (hb : Below N W W2) (hN : B < N) : RmB B u v W2 :=
  ⟨⟨(hb.cell (p := ⟨B, 0, none⟩) hN).trans h.1.1, (hb.cell (p := ⟨B, 1, none⟩) hN).trans h.1.2⟩, Nat.lt_of_lt_of_le h.2 hb.size⟩
theorem RmB.of {B : Nat} {u v : Value} {W : World} {t : TypeId} (h : BlockAt W B #[u, v] t) : RmB B u v W := ⟨⟨h.cell 0, h.cell 1⟩, h.lt⟩
set_option maxRecDepth 100000 in
set_option maxHeartbeats 4000000 in
theorem rooms_walk (rv dv : Value) (rs : List Fl.R) (ds : List Fl.D) (x y : Int) (w : World) (hr : Rects w rv rs) (hd : Doors w dv ds) :
    Calls Try.prog 3 #[roomV rv dv, .int .i64 x, .int .i64 y] w fun e w' => e = .returned (.bool true) ∧ Below w.heap.size w w' := by
  have HB0 := Lib.hid (BlockAt.new w #[rv, dv] RoomT)
  have HW0 := Lib.hid (below_alloc2 (Below.refl w.heap.size w) (.cells #[rv, dv] RoomT))
  have CM := Lib.hid (many_any rv dv none 0 0 rs ds _ (hr.all HW0.out) (hd.all HW0.out))
  have HR := Lib.hid (And.intro hr hd)
  have FS := Lib.hid (fun W => sane_any W)
  obtain ⟨ra, rc, rfl⟩ := hr.form
  obtain ⟨da, dc, rfl⟩ := hd.form
  have x0 : World.cell? _ _ = some (.slice ra rs.length rc) := HB0.out.cell 0
  have x1 : World.cell? _ _ = some (.slice da ds.length dc) := HB0.out.cell 1
  clear hr hd
  cases hm : manyB rs ds 0
  case true =>
    rw [hm] at CM
    clear hm
    go_enter Try.func3, Try.ntmps3
    go_wp2_with fail
    refine CM.out.mono ?_
    rintro e w1 ⟨rfl, hb1⟩
    have HB1 := Lib.hid (below_step HW0.out hb1)
    clear hb1 x0 x1
    go_wp2_with fail
    refine (FS.out _).mono ?_
    rintro e w2 ⟨rfl, hb2⟩
    have HB2 := Lib.hid (below_step HB1.out hb2)
    clear hb2
    go_wp2
    go_ret
    exact ⟨rfl, HB2.out⟩
  rw [hm] at CM
  obtain ⟨hl1, hl2, _⟩ := manyB_no hm
  clear hm
  have FA := Lib.hid (fun W (hW : Below w.heap.size w W) => area_any _ _ rs ds W (HR.out.1.all hW) (HR.out.2.all hW) (by omega) (by omega))
  have FB := Lib.hid (fun W (hW : Below w.heap.size w W) => rarea_any _ _ rs ds W (HR.out.1.all hW) (HR.out.2.all hW) (by omega) (by omega))
  have FC := Lib.hid (fun W (hW : Below w.heap.size w W) => hasF_any _ _ rs ds x y W (HR.out.1.all hW) (HR.out.2.all hW) (by omega) (by omega))
  have FD := Lib.hid (fun W (hW : Below w.heap.size w W) => rhasF_any _ _ rs ds x y W (HR.out.1.all hW) (HR.out.2.all hW) (by omega) (by omega))
  have FV := Lib.hid (fun W (hW : Below w.heap.size w W) => validate_any _ _ rs ds W (HR.out.1.all hW) (HR.out.2.all hW) (by omega) (by omega))
  have FW := Lib.hid (fun W (hW : Below w.heap.size w W) => rvalidate_any _ _ rs ds W (HR.out.1.all hW) (HR.out.2.all hW) (by omega) (by omega))
  generalize Fl.valE rs ds = E at *
  generalize Fl.areaR rs ds = A at *
  generalize Fl.hasRr rs ds x y = Hb at *
  clear hl1 hl2
  go_enter Try.func3, Try.ntmps3
  go_wp2_with fail
  refine CM.out.mono ?_
  rintro e w1 ⟨rfl, hb1⟩
  have HN1 := Lib.hid (And.intro (HB0.out.below hb1 HB0.out.lt) (below_step HW0.out hb1))
  clear hb1 x0 x1 CM HB0 HW0
  have C := Lib.hid (FA.out _ HN1.out.2)
  have x0 : World.cell? _ _ = some (.slice ra rs.length rc) := HN1.out.1.cell 0
  have x1 : World.cell? _ _ = some (.slice da ds.length dc) := HN1.out.1.cell 1
  go_wp2_with fail
  refine C.out.mono ?_
  rintro e w2 ⟨rfl, hb⟩
  have HN2 := Lib.hid (And.intro (HN1.out.1.below hb HN1.out.1.lt) (below_step HN1.out.2 hb))
  clear hb x0 x1 HN1 C
  have C := Lib.hid (FB.out _ HN2.out.2)
  have x0 : World.cell? _ _ = some (.slice ra rs.length rc) := HN2.out.1.cell 0
  have x1 : World.cell? _ _ = some (.slice da ds.length dc) := HN2.out.1.cell 1
  go_wp2_with fail
  refine C.out.mono ?_
  rintro e w3 ⟨rfl, hb⟩
  have HN3 := Lib.hid (And.intro (HN2.out.1.below hb HN2.out.1.lt) (below_step HN2.out.2 hb))
  clear hb x0 x1 HN2 C
  have C := Lib.hid (FC.out _ HN3.out.2)
  have x0 : World.cell? _ _ = some (.slice ra rs.length rc) := HN3.out.1.cell 0
  have x1 : World.cell? _ _ = some (.slice da ds.length dc) := HN3.out.1.cell 1
  go_wp2_with fail
  refine C.out.mono ?_
  rintro e w4 ⟨rfl, hb⟩
  have HN4 := Lib.hid (And.intro (HN3.out.1.below hb HN3.out.1.lt) (below_step HN3.out.2 hb))
  clear hb x0 x1 HN3 C
  have C := Lib.hid (FD.out _ HN4.out.2)
  have x0 : World.cell? _ _ = some (.slice ra rs.length rc) := HN4.out.1.cell 0
  have x1 : World.cell? _ _ = some (.slice da ds.length dc) := HN4.out.1.cell 1
  go_wp2_with fail
  refine C.out.mono ?_
  rintro e w5 ⟨rfl, hb⟩
  have HN5 := Lib.hid (And.intro (HN4.out.1.below hb HN4.out.1.lt) (below_step HN4.out.2 hb))
  clear hb x0 x1 HN4 C
  have HS := Lib.hid (RmB.of HN5.out.1.drew)
  have HB := Lib.hid (below_drewN HN5.out.2 1)
  clear HN5
  go_upto_region 7 with fail
  refine wp_region_seq [(0, true), (2, true), (1, false), (3, false), (4, true), (5, true), (6, true), (7, true), (8, true), (9, true), (10, true), (11, true), (12, true), (13, true), (14, true), (15, true), (16, true), (17, true), (18, true), (19, true), (20, true), (21, true), (22, true), (23, true), (24, true), (25, true), (26, false), (27, true), (28, true)] (fun W => RmB w.heap.size (.slice ra rs.length rc) (.slice da ds.length dc) W)
    (by kernel_rfl) (by kernel_rfl) (by kernel_rfl) (by kernel_rfl) (fun d _ _ _ _ h => by cases d <;> exact h) HS.out (fun _ => ?_)
  repeat (first | (refine SeqH.take (v := ?_) rfl (by rfl) ?_ ?_; rotate_left; (· intro w hSw; (try dsimp only at hSw); obtain ⟨⟨b0, b1⟩, _⟩ := hSw; go_simp; (try with_reducible rfl)); simp only [Act.put, List.setIfInBounds_toArray, List.set_cons_zero, List.set_cons_succ]) | (refine SeqH.skip rfl (by rfl) ?_; simp only [Act.put, List.setIfInBounds_toArray, List.set_cons_zero, List.set_cons_succ]))
  refine SeqH.step rfl (by rfl) (fun K hK => ?_)
  go_simp
  go_at_call 21
  refine (FV.out _ HB.out).mono ?_
  rintro e w7 ⟨rfl, hb3⟩
  try dsimp only
  refine hK.out _ _ (HS.out.below hb3 HS.out.2) (fun _ => ?_)
  have HS1 := Lib.hid (HS.out.below hb3 HS.out.2)
  have HB1 := Lib.hid (below_step HB.out hb3)
  clear hK K hb3 HS HB
  try simp only [Act.put, List.setIfInBounds_toArray, List.set_cons_zero, List.set_cons_succ]
  repeat (first | (refine SeqH.take (v := ?_) rfl (by rfl) ?_ ?_; rotate_left; (· intro w hSw; (try dsimp only at hSw); obtain ⟨⟨b0, b1⟩, _⟩ := hSw; go_simp; (try with_reducible rfl)); simp only [Act.put, List.setIfInBounds_toArray, List.set_cons_zero, List.set_cons_succ]) | (refine SeqH.skip rfl (by rfl) ?_; simp only [Act.put, List.setIfInBounds_toArray, List.set_cons_zero, List.set_cons_succ]))
  refine SeqH.step rfl (by rfl) (fun K hK => ?_)
  go_simp
  go_at_call 22
  refine (FW.out _ HB1.out).mono ?_
  rintro e w8 ⟨rfl, hb3⟩
  try dsimp only
  refine hK.out _ _ (HS1.out.below hb3 HS1.out.2) (fun _ => ?_)
  have HS2 := Lib.hid (HS1.out.below hb3 HS1.out.2)
  have HB2 := Lib.hid (below_step HB1.out hb3)
  clear hK K hb3 HS1 HB1
  try simp only [Act.put, List.setIfInBounds_toArray, List.set_cons_zero, List.set_cons_succ]
  repeat (first | (refine SeqH.take (v := ?_) rfl (by rfl) ?_ ?_; rotate_left; (· intro w hSw; (try dsimp only at hSw); obtain ⟨⟨b0, b1⟩, _⟩ := hSw; go_simp; (try with_reducible rfl)); simp only [Act.put, List.setIfInBounds_toArray, List.set_cons_zero, List.set_cons_succ]) | (refine SeqH.skip rfl (by rfl) ?_; simp only [Act.put, List.setIfInBounds_toArray, List.set_cons_zero, List.set_cons_succ]))
  refine SeqH.step rfl (by rfl) (fun K hK => ?_)
  go_simp
  go_at_call 16
  refine (FS.out _).mono ?_
  rintro e w9 ⟨rfl, hb3⟩
  try dsimp only
  refine hK.out _ _ (HS2.out.below hb3 HS2.out.2) (fun _ => ?_)
  have HS3 := Lib.hid (HS2.out.below hb3 HS2.out.2)
  have HB3 := Lib.hid (below_step HB2.out hb3)
  clear hK K hb3 HS2 HB2
  try simp only [Act.put, List.setIfInBounds_toArray, List.set_cons_zero, List.set_cons_succ]
  repeat (first | (refine SeqH.take (v := ?_) rfl (by rfl) ?_ ?_; rotate_left; (· intro w hSw; (try dsimp only at hSw); obtain ⟨⟨b0, b1⟩, _⟩ := hSw; go_simp; (try with_reducible rfl)); simp only [Act.put, List.setIfInBounds_toArray, List.set_cons_zero, List.set_cons_succ]) | (refine SeqH.skip rfl (by rfl) ?_; simp only [Act.put, List.setIfInBounds_toArray, List.set_cons_zero, List.set_cons_succ]))
  refine SeqH.done ?_
  go_wp2
  go_ret
  exact ⟨rfl, HB3.out⟩
end Go.Proofs.Ytpobkdbnldogcaa
