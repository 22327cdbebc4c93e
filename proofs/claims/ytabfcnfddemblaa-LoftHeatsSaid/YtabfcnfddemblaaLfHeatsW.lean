/- LoftHeats returns true, whatever the loft, the heats and the lofts. -/
import Derived.Test.YtabfcnfddemblaaLfS
namespace Go.Proofs.Ytabfcnfddemblaa.Lo
open Go.RowKit

set_option maxRecDepth 100000 in
set_option maxHeartbeats 4000000 in
theorem heats_walk (p : Int) (u : Value) (rs : List Int) (v : Value) (hs : List Int) (z : Value) (ls : List Lf.F) (w : World) (hu : Ints w u rs) (hv : Ints w v hs) (hz : Lofts w z ls) :
    Calls Try.prog 7 #[loftV p u, v, z] w fun e w' => e = .returned (.bool true) ∧ Below w.heap.size w w' := by
  have CA := Lib.hid (fun W (hW : Below w.heap.size w W) => warmF_any p u v rs hs W (hu.all hW) (hv.all hW))
  have CB := Lib.hid (fun W (hW : Below w.heap.size w W) => rwarmF_any p u v rs hs W (hu.all hW) (hv.all hW))
  have CC := Lib.hid (fun W (hW : Below w.heap.size w W) => vHeats_any v hs W (hv.all hW))
  have CD := Lib.hid (fun W (hW : Below w.heap.size w W) => rvHeats_any v hs W (hv.all hW))
  have CE := Lib.hid (fun W (hW : Below w.heap.size w W) => valLofts_any z ls W (hz.all hW))
  have CF := Lib.hid (fun W (hW : Below w.heap.size w W) => rvalLofts_any z ls W (hz.all hW))
  have CS := Lib.hid (fun W => sane_any W)
  obtain ⟨ua, uc, rfl⟩ := hu.form
  obtain ⟨va, vc, rfl⟩ := hv.form
  obtain ⟨za, zc, rfl⟩ := hz.form
  have HW := Lib.hid (loft_box w p (.slice ua rs.length uc))
  have x0 : World.cell? _ _ = some (.int .i64 p) := HW.out.1.cell 0
  have x1 : World.cell? _ _ = some (.slice ua rs.length uc) := HW.out.1.cell 1
  generalize Lf.wR ⟨p, rs⟩ hs = R at *
  generalize Lf.wE ⟨p, rs⟩ hs = E at *
  generalize Lf.vHt hs = V at *
  generalize Lf.valF ls = F at *
  clear hu hv hz
  go_enter Try.func7, Try.ntmps7
  go_wp2_with fail
  refine (CA.out _ HW.out.2).mono ?_
  rintro e w1 ⟨rfl, hb1⟩
  have HN := Lib.hid (And.intro (HW.out.1.below hb1 HW.out.1.lt) (below_step HW.out.2 hb1))
  clear hb1 x0 x1
  have x0 : World.cell? _ _ = some (.int .i64 p) := HN.out.1.cell 0
  have x1 : World.cell? _ _ = some (.slice ua rs.length uc) := HN.out.1.cell 1
  go_wp2_with fail
  refine (CB.out _ HN.out.2).mono ?_
  rintro e w2 ⟨rfl, hb1⟩
  have HM := Lib.hid (below_step HN.out.2 hb1)
  clear hb1 x0 x1
  go_wp2_with fail
  refine (CC.out _ HM.out).mono ?_
  rintro e w3 ⟨rfl, rfl⟩
  go_wp2_with fail
  refine (CD.out _ HM.out).mono ?_
  rintro e w3 ⟨rfl, rfl⟩
  go_wp2_with fail
  refine (CE.out _ HM.out).mono ?_
  rintro e w3 ⟨rfl, hb1⟩
  have HL := Lib.hid (below_step HM.out hb1)
  clear hb1
  go_wp2_with fail
  refine (CF.out _ HL.out).mono ?_
  rintro e w4 ⟨rfl, rfl⟩
  go_wp2_with fail
  refine (CS.out _).mono ?_
  rintro e w5 ⟨rfl, hb1⟩
  have HK := Lib.hid (below_step HL.out hb1)
  clear hb1
  go_wp2
  go_ret
  exact ⟨rfl, HK.out⟩
end Go.Proofs.Ytabfcnfddemblaa.Lo
