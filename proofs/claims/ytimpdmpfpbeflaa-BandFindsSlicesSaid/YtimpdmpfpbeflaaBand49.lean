/- BandFindsSlices returns true, whatever the band and the span. -/
import Derived.Test.YtimpdmpfpbeflaaBand48
import Derived.Test.YtimpdmpfpbeflaaBandI
import Derived.Test.YtimpdmpfpbeflaaBand23
namespace Go.Proofs.Ytimpdmpfpbeflaa
open Go.RowKit

theorem Bd.finV_nonneg (rs qs : List Bd.R) : 0 ≤ Bd.finV rs qs := by unfold Bd.finV; split <;> omega

set_option maxRecDepth 20000 in
set_option maxHeartbeats 1000000 in
theorem findsSlices_walk (v : Value) (rs : List Bd.R) (fr to : Int) (w : World) (hv : Runs w v rs) :
    Calls Try.prog 13 #[v, .int .i64 fr, .int .i64 to] w fun e w' => e = .returned (.bool true) ∧ Below w.heap.size w w' := by
  by_cases hl : 100 < rs.length
  · have L := Lib.hid (long_true v rs w hv hl)
    clear hv hl
    go_enter Try.func13, Try.ntmps13
    go_wp2_with fail
    refine L.out.mono ?_
    rintro e w1 ⟨rfl, hb1⟩
    go_wp2_with fail
    refine (known_any _).mono ?_
    rintro e w2 ⟨rfl, hb2⟩
    go_wp2
    go_ret
    exact ⟨rfl, below_step hb1 hb2⟩
  · have HV := Lib.hid hv
    have l1 : rs.length ≤ 100 := by omega
    have l2 : rs.length ≤ 1000 := by omega
    have LF := Lib.hid (long_false v rs w hv l1)
    have l3 : (Bd.sliR rs fr to).length ≤ 1000 := Nat.le_trans (Bd.sliR_length rs fr to) l2
    have S1 := Lib.hid (fun W (hW : Below w.heap.size w W) => num_slice_any v rs fr to W (HV.out.all hW) l2)
    clear hl hv
    by_cases hs : Bd.sliE rs fr to = 0
    · obtain ⟨f1, f2, f3, f4, f5⟩ := Bd.found_slice hs
      obtain ⟨hv0, s1, s2, s3⟩ := Bd.sliE_zero.1 hs
      have hlv := Bd.len_valid hv0
      have h0 := Bd.finV_nonneg rs (Bd.sliR rs fr to)
      have FN := Lib.hid (fun x W (hW : Below w.heap.size w W) hx => num_find_any v x rs (Bd.sliR rs fr to) W (HV.out.all hW) hx l2 l3)
      have S2 := Lib.hid (fun W (hW : Below w.heap.size w W) => num_slice_any v rs (Bd.finV rs (Bd.sliR rs fr to)) (Bd.finV rs (Bd.sliR rs fr to) + to - fr) W (HV.out.all hW) l2)
      rw [f1, f2] at FN
      rw [f4, f5] at S2
      rw [hs] at S1
      generalize Bd.finV rs (Bd.sliR rs fr to) = a at *
      generalize Bd.sliR rs fr to = qs at *
      have hd : decide (a ≤ fr) = true := decide_eq_true f3
      clear f1 f2 f4 f5 hs hv0
      go_enter Try.func13, Try.ntmps13
      go_wp2_with fail
      refine LF.out.mono ?_
      rintro e w1 ⟨rfl, hb1⟩
      go_wp2_with fail
      refine (S1.out _ hb1).mono ?_
      rintro e w2 ⟨x, rfl, hx, hb2⟩
      have H2 := Lib.hid (below_step hb1 hb2)
      have HX := Lib.hid hx
      clear hb1 hb2 hx LF S1
      go_wp2_with fail
      refine (FN.out x _ H2.out HX.out.runs).mono ?_
      rintro e w3 ⟨rfl, hb3⟩
      have HX := Lib.hid (HX.out.all hb3)
      have H3 := Lib.hid (below_step H2.out hb3)
      clear hb3 H2 FN
      go_wp2_with fail
      refine (S2.out _ H3.out).mono ?_
      rintro e w4 ⟨y, rfl, hy, hb4⟩
      have HX := Lib.hid (HX.out.all hb4)
      have HY := Lib.hid hy
      have H4 := Lib.hid (below_step H3.out hb4)
      clear hb4 H3 S2 hy
      go_wp2_with fail
      refine (same_runs_true y x _ _ HY.out.runs HX.out.runs l3).mono ?_
      rintro e w5 ⟨rfl, hb5⟩
      have H5 := Lib.hid (below_step H4.out hb5)
      clear hb5 H4
      go_wp2_with fail
      refine (known_any _).mono ?_
      rintro e w6 ⟨rfl, hb6⟩
      have h6 := below_step H5.out hb6
      go_wp2
      go_ret
      exact ⟨rfl, h6⟩
    · have e : Bd.sliR rs fr to = [] := by unfold Bd.sliR; rw [if_neg hs]
      rw [e] at S1
      generalize Bd.sliE rs fr to = E at *
      have hne : (E != 0) = true := by simpa using hs
      clear hs e
      go_enter Try.func13, Try.ntmps13
      go_wp2_with fail
      refine LF.out.mono ?_
      rintro e w1 ⟨rfl, hb1⟩
      go_wp2_with fail
      refine (S1.out _ hb1).mono ?_
      rintro e w2 ⟨x, rfl, hx, hb2⟩
      have H2 := Lib.hid (below_step hb1 hb2)
      obtain ⟨xa, xc, rfl⟩ := hx.runs.form
      clear hb1 hb2 hx LF S1
      go_wp2_with fail
      refine (known_any _).mono ?_
      rintro e w6 ⟨rfl, hb6⟩
      have h6 := below_step H2.out hb6
      go_wp2
      go_ret
      exact ⟨rfl, h6⟩
end Go.Proofs.Ytimpdmpfpbeflaa
