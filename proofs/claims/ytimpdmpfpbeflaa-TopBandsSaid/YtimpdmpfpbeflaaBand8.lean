/- BandNormals returns true, whatever the list of runs. -/
import Derived.Test.YtimpdmpfpbeflaaBand7
namespace Go.Proofs.Ytimpdmpfpbeflaa
open Go.RowKit

theorem same_runs_true (v u : Value) (rs : List Bd.R) (w : World) (hv : Runs w v rs) (hu : Runs w u rs) (hlen : rs.length ≤ 1000) :
    Calls Try.prog 25 #[v, u] w fun e w' => e = .returned (.bool true) ∧ Below w.heap.size w w' :=
  (same_runs_any v u rs rs w hv hu hlen hlen).mono fun e w' ⟨h1, h2⟩ => ⟨by rw [h1]; simp, h2⟩
theorem Bd.norR_length (b : List Bd.R) : (Bd.norR b).length ≤ b.length := by
  unfold Bd.norR; split
  · exact Bd.norm_length b
  · simp

set_option maxRecDepth 20000 in
set_option maxHeartbeats 1000000 in
theorem normals_walk (v : Value) (rs : List Bd.R) (w : World) (hv : Runs w v rs) :
    Calls Try.prog 3 #[v] w fun e w' => e = .returned (.bool true) ∧ Below w.heap.size w w' := by
  by_cases hl : 100 < rs.length
  · have L := Lib.hid (long_true v rs w hv hl)
    clear hv hl
    go_enter Try.func3, Try.ntmps3
    go_wp2_with fail
    refine L.out.mono ?_
    rintro e w1 ⟨rfl, hb1⟩
    go_wp2_with fail
    refine (known_any _).mono ?_
    rintro e w2 ⟨rfl, hb2⟩
    go_wp2
    go_ret
    exact ⟨rfl, below_step hb1 hb2⟩
  · have hv_0 := hv
    have l1 : rs.length ≤ 100 := by omega
    have l2 : rs.length ≤ 1000 := by omega
    have l3 : (Bd.norR rs).length ≤ 1000 := Nat.le_trans (Bd.norR_length rs) l2
    clear hl hv
    go_enter Try.func3, Try.ntmps3
    go_wp2_with fail
    refine (long_false v rs _ hv_0 l1).mono ?_
    rintro e w1 ⟨rfl, hb1⟩
    have hc0_1 := hb1
    have hv_1 := hv_0.all hb1
    go_wp2_with fail
    refine (copied_any v rs _ hv_1 l2).mono ?_
    rintro e w2 ⟨own, rfl, ho_2, hb2⟩
    have hc0_2 := below_step hc0_1 hb2
    have hv_2 := hv_1.all hb2
    have hc0_2s := hc0_2.size
    go_wp2_with fail
    refine (num_normal_any own rs _ ho_2.runs l2).mono ?_
    rintro e w3 ⟨x, rfl, hx_3, hb3⟩
    have hc0_3 := below_step hc0_2 hb3
    have hc2_3 := hb3
    have ho_3 := ho_2.all hb3
    have hv_3 := hv_2.all hb3
    go_wp2_with fail
    refine (ref_normal_any v rs _ hv_3 l2).mono ?_
    rintro e w4 ⟨y, rfl, hy_4, hb4⟩
    have hc0_4 := below_step hc0_3 hb4
    have hc2_4 := below_step hc2_3 hb4
    have ho_4 := ho_3.all hb4
    have hv_4 := hv_3.all hb4
    have hx_4 := hx_3.all hb4
    go_wp2_with fail
    refine (num_length_any v rs _ hv_4 l2).mono ?_
    rintro e w5 ⟨rfl, hb5⟩
    have hc0_5 := below_step hc0_4 hb5
    have hc2_5 := below_step hc2_4 hb5
    have ho_5 := ho_4.all hb5
    have hv_5 := hv_4.all hb5
    have hx_5 := hx_4.all hb5
    have hy_5 := hy_4.all hb5
    go_wp2_with fail
    refine (ref_length_any v rs _ hv_5 l2).mono ?_
    rintro e w6 ⟨rfl, hb6⟩
    have hc0_6 := below_step hc0_5 hb6
    have hc2_6 := below_step hc2_5 hb6
    have ho_6 := ho_5.all hb6
    have hv_6 := hv_5.all hb6
    have hx_6 := hx_5.all hb6
    have hy_6 := hy_5.all hb6
    go_wp2_with fail
    refine (validate_any v rs _ hv_6 l2).mono ?_
    rintro e w7 ⟨rfl, hb7⟩
    have hc0_7 := below_step hc0_6 hb7
    have hc2_7 := below_step hc2_6 hb7
    have ho_7 := ho_6.all hb7
    have hv_7 := hv_6.all hb7
    have hx_7 := hx_6.all hb7
    have hy_7 := hy_6.all hb7
    go_wp2_with fail
    refine (ref_validate_any v rs _ hv_7 l2).mono ?_
    rintro e w8 ⟨rfl, hb8⟩
    have hc0_8 := below_step hc0_7 hb8
    have hc2_8 := below_step hc2_7 hb8
    have ho_8 := ho_7.all hb8
    have hv_8 := hv_7.all hb8
    have hx_8 := hx_7.all hb8
    have hy_8 := hy_7.all hb8
    go_wp2_with fail
    refine (same_runs_true x y _ _ hx_8.runs hy_8.runs l3).mono ?_
    rintro e w9 ⟨rfl, hb9⟩
    have hc0_9 := below_step hc0_8 hb9
    have hc2_9 := below_step hc2_8 hb9
    have ho_9 := ho_8.all hb9
    have hv_9 := hv_8.all hb9
    have hx_9 := hx_8.all hb9
    have hy_9 := hy_8.all hb9
    go_wp2_with fail
    refine (spoil_any w2.heap.size x _ _ hx_9 l3).mono ?_
    rintro e w10 ⟨rfl, hb10⟩
    have hc2_10 := hc2_9.trans hb10
    have hc0_10 := hc0_9.trans (hb10.mono hc0_2s)
    have ho_10 := ho_2.all hc2_10
    have hv_10 := hv_2.all hc2_10
    go_wp2_with fail
    refine (same_runs_true own v _ _ ho_10.runs hv_10 l2).mono ?_
    rintro e w11 ⟨rfl, hb11⟩
    have hc0_11 := below_step hc0_10 hb11
    have hc2_11 := below_step hc2_10 hb11
    have ho_11 := ho_10.all hb11
    have hv_11 := hv_10.all hb11
    go_wp2_with fail
    refine (known_any _).mono ?_
    rintro e w12 ⟨rfl, hb12⟩
    have hc0_12 := below_step hc0_11 hb12
    have hc2_12 := below_step hc2_11 hb12
    have ho_12 := ho_11.all hb12
    have hv_12 := hv_11.all hb12
    go_wp2
    go_ret
    exact ⟨rfl, hc0_12⟩
end Go.Proofs.Ytimpdmpfpbeflaa
