/- LoftPrograms returns true, whatever the loft and the bounds. -/
import Derived.Test.YtabfcnfddemblaaLf23
import Derived.Test.YtabfcnfddemblaaLfT
namespace Go.Proofs.Ytabfcnfddemblaa.Lo
open Go.RowKit

set_option maxRecDepth 100000 in
set_option maxHeartbeats 4000000 in
theorem progs_walk (p : Int) (u : Value) (rs : List Int) (n m : Int) (w : World) (hu : Ints w u rs) :
    Calls Try.prog 8 #[loftV p u, .int .i64 n, .int .i64 m] w fun e w' => e = .returned (.bool true) ∧ Below w.heap.size w w' := by
  have CA := Lib.hid (fun W (hW : Below w.heap.size w W) => progF_any p u rs n m W (hu.all hW))
  have CB := Lib.hid (fun W (hW : Below w.heap.size w W) => rprogF_any p u rs n m W (hu.all hW))
  have CC := Lib.hid (fun v hs W (hW : Below w.heap.size w W) hv => warmF_any p u v rs hs W (hu.all hW) hv)
  have CX := Lib.hid (fun u v xs W hu hv hl => sameInts_any u v xs W hu hv hl)
  have CS := Lib.hid (fun W => sane_any W)
  have HOK := Lib.hid (fun h => Lf.pB_ok (p := p) (rs := rs) (n := n) (m := m) h)
  have HLN := Lib.hid (Lf.pR_len ⟨p, rs⟩ n m)
  obtain ⟨ua, uc, rfl⟩ := hu.form
  have HW := Lib.hid (loft_box w p (.slice ua rs.length uc))
  have x0 : World.cell? _ _ = some (.int .i64 p) := HW.out.1.cell 0
  have x1 : World.cell? _ _ = some (.slice ua rs.length uc) := HW.out.1.cell 1
  clear hu
  generalize Lf.pR ⟨p, rs⟩ n m = P at *
  generalize Lf.pE ⟨p, rs⟩ n m = E at *
  generalize hB : Lf.pB ⟨p, rs⟩ n m = B at *
  clear hB
  go_enter Try.func8, Try.ntmps8
  go_wp2_with fail
  refine (CA.out _ HW.out.2).mono ?_
  rintro e w1 ⟨a1, c1, rfl, ho, hb1⟩
  have H1 := Lib.hid (And.intro ho (And.intro (HW.out.1.below hb1 HW.out.1.lt) (below_step HW.out.2 hb1)))
  clear ho hb1 x0 x1
  have x0 : World.cell? _ _ = some (.int .i64 p) := H1.out.2.1.cell 0
  have x1 : World.cell? _ _ = some (.slice ua rs.length uc) := H1.out.2.1.cell 1
  go_wp2_with fail
  refine (CB.out _ H1.out.2.2).mono ?_
  rintro e w2 ⟨a2, c2, rfl, ho, hb1⟩
  have H2 := Lib.hid (And.intro (H1.out.1.all hb1) (And.intro ho (And.intro (H1.out.2.1.below hb1 H1.out.2.1.lt) (below_step H1.out.2.2 hb1))))
  clear ho hb1 x0 x1 H1
  have C3 := Lib.hid (CX.out (.slice a1 P.length c1) (.slice a2 P.length c2) P w2 (OwnI.ints H2.out.1) (OwnI.ints H2.out.2.1) (by have := HLN.out; omega))
  go_wp2_with fail
  refine C3.out.mono ?_
  rintro e w3 ⟨rfl, hb1⟩
  have H3 := Lib.hid (And.intro (H2.out.1.all hb1) (And.intro (H2.out.2.2.1.below hb1 H2.out.2.2.1.lt) (below_step H2.out.2.2.2 hb1)))
  clear hb1 H2 C3
  cases B
  · go_wp2_with fail
    refine (CS.out _).mono ?_
    rintro e w4 ⟨rfl, hb1⟩
    have H4 := Lib.hid (below_step H3.out.2.2 hb1)
    clear hb1
    go_wp2
    go_ret
    exact ⟨rfl, H4.out⟩
  obtain ⟨e1, e2, e3⟩ := HOK.out rfl
  have C4 := CC.out (.slice a1 P.length c1) P w3 H3.out.2.2 (OwnI.ints H3.out.1)
  rw [e1] at C4
  have HC4 := Lib.hid C4
  generalize Lf.wR ⟨p, rs⟩ P = R at *
  clear C4 e1
  have x0 : World.cell? _ _ = some (.int .i64 p) := H3.out.2.1.cell 0
  have x1 : World.cell? _ _ = some (.slice ua rs.length uc) := H3.out.2.1.cell 1
  have q1 : decide (R ≥ n) = true := decide_eq_true e2
  have q2 : decide (R ≤ m) = true := decide_eq_true e3
  go_wp2_with fail
  refine HC4.out.mono ?_
  rintro e w4 ⟨rfl, hb1⟩
  have H4 := Lib.hid (below_step H3.out.2.2 hb1)
  clear hb1 x0 x1
  go_wp2_with fail
  refine (CS.out _).mono ?_
  rintro e w5 ⟨rfl, hb1⟩
  have H5 := Lib.hid (below_step H4.out hb1)
  clear hb1
  go_wp2
  go_ret
  exact ⟨rfl, H5.out⟩
end Go.Proofs.Ytabfcnfddemblaa.Lo
