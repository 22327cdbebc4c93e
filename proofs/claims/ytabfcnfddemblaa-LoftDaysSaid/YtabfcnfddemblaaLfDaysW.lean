/- LoftDays returns true, whatever the lofts and the goods. -/
import Derived.Test.YtabfcnfddemblaaLf24
namespace Go.Proofs.Ytabfcnfddemblaa.Lo
open Go.RowKit

set_option maxRecDepth 100000 in
set_option maxHeartbeats 8000000 in
theorem days_walk (v : Value) (ls : List Lf.F) (g : Lf.G) (w : World) (hl : Lofts w v ls) : Calls Try.prog 11 #[v, gdV g] w fun e w' => e = .returned (.bool true) ∧ Below w.heap.size w w' := by
  have CA := Lib.hid (fun W (hW : Below w.heap.size w W) => daysF_any v ls g W (hl.all hW))
  have CB := Lib.hid (fun W (hW : Below w.heap.size w W) => rdaysF_any v ls g W (hl.all hW))
  have CS := Lib.hid (fun W => sane_any W)
  obtain ⟨va, vc, rfl⟩ := hl.form
  have HW := Lib.hid (And.intro (BlockAt.new w (gdA g) GoodT) (below_alloc2 (Below.refl w.heap.size w) (.cells (gdA g) GoodT)))
  clear hl
  by_cases h20 : 10 < ls.length
  · go_enter Try.func11, Try.ntmps11
    go_wp2_with fail
    refine (CS.out _).mono ?_
    rintro e w1 ⟨rfl, hb1⟩
    have H1 := Lib.hid (below_step HW.out.2 hb1)
    clear hb1
    go_wp2
    go_ret
    exact ⟨rfl, H1.out⟩
  have hd20 : decide (10 < (ls.length : Int)) = false := decide_eq_false (by omega)
  generalize dyR ls g = R at *
  generalize dyE ls g = E at *
  obtain ⟨gp, gn, gm, ga, gu⟩ := g

  have x0 : World.cell? _ _ = some (.int .i64 gp) := HW.out.1.cell 0
  have x1 : World.cell? _ _ = some (.int .i64 gn) := HW.out.1.cell 1
  have x2 : World.cell? _ _ = some (.int .i64 gm) := HW.out.1.cell 2
  have x3 : World.cell? _ _ = some (.int .i64 ga) := HW.out.1.cell 3
  have x4 : World.cell? _ _ = some (.int .i64 gu) := HW.out.1.cell 4
  go_enter Try.func11, Try.ntmps11
  go_wp2_with fail
  refine (CA.out _ HW.out.2).mono ?_
  rintro e w1 ⟨rfl, hb1⟩
  have H1 := Lib.hid (And.intro (HW.out.1.below hb1 HW.out.1.lt) (below_step HW.out.2 hb1))
  clear hb1 x0 x1 x2 x3 x4 HW
  have x0 : World.cell? _ _ = some (.int .i64 gp) := H1.out.1.cell 0
  have x1 : World.cell? _ _ = some (.int .i64 gn) := H1.out.1.cell 1
  have x2 : World.cell? _ _ = some (.int .i64 gm) := H1.out.1.cell 2
  have x3 : World.cell? _ _ = some (.int .i64 ga) := H1.out.1.cell 3
  have x4 : World.cell? _ _ = some (.int .i64 gu) := H1.out.1.cell 4
  go_wp2_with fail
  refine (CB.out _ H1.out.2).mono ?_
  rintro e w2 ⟨rfl, hb1⟩
  have H2 := Lib.hid (below_step H1.out.2 hb1)
  clear hb1 x0 x1 x2 x3 x4 H1
  go_wp2_with fail
  refine (CS.out _).mono ?_
  rintro e w5 ⟨rfl, hb1⟩
  have H5 := Lib.hid (below_step H2.out hb1)
  clear hb1
  go_wp2
  go_ret
  exact ⟨rfl, H5.out⟩
end Go.Proofs.Ytabfcnfddemblaa.Lo
