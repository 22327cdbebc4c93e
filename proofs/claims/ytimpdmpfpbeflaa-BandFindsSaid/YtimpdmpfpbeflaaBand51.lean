/- BandFinds returns true, whatever the two lists of runs. -/
import Derived.Test.YtimpdmpfpbeflaaBand48
import Derived.Test.YtimpdmpfpbeflaaBand50
import Derived.Test.YtimpdmpfpbeflaaBand8
namespace Go.Proofs.Ytimpdmpfpbeflaa
open Go.RowKit

set_option maxRecDepth 20000 in
set_option maxHeartbeats 1000000 in
theorem finds_walk (v u : Value) (rs qs : List Bd.R) (w : World) (hv : Runs w v rs) (hu : Runs w u qs) :
    Calls Try.prog 12 #[v, u] w fun e w' => e = .returned (.bool true) ∧ Below w.heap.size w w' := by
  have HV := Lib.hid (And.intro hv hu)
  by_cases hl : 100 < rs.length
  · have L := Lib.hid (long_true v rs w hv hl)
    clear hv hu hl
    go_enter Try.func12, Try.ntmps12
    go_wp2_with fail
    refine L.out.mono ?_
    rintro e w1 ⟨rfl, hb1⟩
    go_wp2_with fail
    refine (known_any _).mono ?_
    rintro e w2 ⟨rfl, hb2⟩
    go_wp2
    go_ret
    exact ⟨rfl, below_step hb1 hb2⟩
  · have L := Lib.hid (long_false v rs w hv (by omega))
    by_cases hl2 : 100 < qs.length
    · have L2 := Lib.hid (fun W (hW : Below w.heap.size w W) => long_true u qs W (hu.all hW) hl2)
      clear hv hu hl hl2
      go_enter Try.func12, Try.ntmps12
      go_wp2_with fail
      refine L.out.mono ?_
      rintro e w1 ⟨rfl, hb1⟩
      go_wp2_with fail
      refine (L2.out _ hb1).mono ?_
      rintro e w2 ⟨rfl, hb2⟩
      have h2 := below_step hb1 hb2
      go_wp2_with fail
      refine (known_any _).mono ?_
      rintro e w3 ⟨rfl, hb3⟩
      go_wp2
      go_ret
      exact ⟨rfl, below_step h2 hb3⟩
    · have L2 := Lib.hid (fun W (hW : Below w.heap.size w W) => long_false u qs W (hu.all hW) (by omega))
      have C1 := Lib.hid (fun W (hW : Below w.heap.size w W) => num_find_any v u rs qs W (HV.out.1.all hW) (HV.out.2.all hW) (by omega) (by omega))
      have C2 := Lib.hid (fun W (hW : Below w.heap.size w W) => ref_find_any v u rs qs W (HV.out.1.all hW) (HV.out.2.all hW) (by omega) (by omega))
      generalize Bd.finV rs qs = a at *
      generalize Bd.finB rs qs = b at *
      generalize Bd.bothE rs qs = z at *
      have q1 : (a == a) = true := by simp
      have q2 : (b == b) = true := by simp
      have q3 : (z == z) = true := by simp
      clear hv hu hl hl2
      go_enter Try.func12, Try.ntmps12
      go_wp2_with fail
      refine L.out.mono ?_
      rintro e w1 ⟨rfl, hb1⟩
      go_wp2_with fail
      refine (L2.out _ hb1).mono ?_
      rintro e w2 ⟨rfl, hb2⟩
      have H2 := Lib.hid (below_step hb1 hb2)
      clear hb1 hb2 L L2
      go_wp2_with fail
      refine (C1.out _ H2.out).mono ?_
      rintro e w3 ⟨rfl, hb3⟩
      have H3 := Lib.hid (below_step H2.out hb3)
      clear hb3 C1 H2
      go_wp2_with fail
      refine (C2.out _ H3.out).mono ?_
      rintro e w4 ⟨rfl, hb4⟩
      have H4 := Lib.hid (below_step H3.out hb4)
      clear hb4 C2 H3
      go_wp2_with fail
      refine (known_any _).mono ?_
      rintro e w5 ⟨rfl, hb5⟩
      have h5 := below_step H4.out hb5
      go_wp2
      go_ret
      exact ⟨rfl, h5⟩
end Go.Proofs.Ytimpdmpfpbeflaa
