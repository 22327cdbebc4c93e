/- BandChanges and BandOvers return true. -/
import Derived.Test.YtimpdmpfpbeflaaBand26
import Derived.Test.YtimpdmpfpbeflaaBand16
namespace Go.Proofs.Ytimpdmpfpbeflaa
open Go.RowKit

/-- Four numbers that lie in memory. -/
def FourAt (w : World) (b : Nat) (x0 x1 x2 x3 : Int) : Prop :=
  w.cell? ⟨b, 0, none⟩ = some (.int .i64 x0) ∧ w.cell? ⟨b, 1, none⟩ = some (.int .i64 x1) ∧ w.cell? ⟨b, 2, none⟩ = some (.int .i64 x2) ∧ w.cell? ⟨b, 3, none⟩ = some (.int .i64 x3) ∧ b < w.heap.size
theorem FourAt.all {w w2 : World} {b : Nat} {x0 x1 x2 x3 : Int} (h : FourAt w b x0 x1 x2 x3) (hb : Below w.heap.size w w2) : FourAt w2 b x0 x1 x2 x3 := by
  obtain ⟨h0, h1, h2, h3, h4⟩ := h
  exact ⟨(hb.cell (p := ⟨b, 0, none⟩) h4).trans h0, (hb.cell (p := ⟨b, 1, none⟩) h4).trans h1, (hb.cell (p := ⟨b, 2, none⟩) h4).trans h2, (hb.cell (p := ⟨b, 3, none⟩) h4).trans h3, Nat.lt_of_lt_of_le h4 hb.size⟩
theorem FourAt.fresh (w : World) (x0 x1 x2 x3 : Int) (t : TypeId) : FourAt (w.alloc (.cells #[.int .i64 x0, .int .i64 x1, .int .i64 x2, .int .i64 x3] t)) w.heap.size x0 x1 x2 x3 := ⟨by simp, by simp, by simp, by simp, by simp⟩

theorem Bd.toldR_length (b : List Bd.R) : (Bd.toldR b).length ≤ b.length := by
  unfold Bd.toldR; split
  · simp
  · exact Bd.norm_length b
theorem Bd.toldR_40 (b : List Bd.R) : (Bd.toldR b).length ≤ 40 := by
  unfold Bd.toldR; split
  · simp
  · rename_i h; omega
theorem Bd.chaR_length (rs : List Bd.R) (fr to : Int) (ok : Bool) (c : Bd.M → Bd.M) : (Bd.chaR rs fr to ok c).length ≤ 1000 := by
  unfold Bd.chaR; split
  · split
    · exact Nat.le_trans (Bd.toldR_40 _) (by omega)
    · simp
  · simp

set_option maxRecDepth 20000 in
set_option maxHeartbeats 4000000 in
theorem changes_walk (v : Value) (rs : List Bd.R) (fr to fl th : Int) (w : World) (hv : Runs w v rs) :
    Calls Try.prog 8 #[v, .agg #[.int .i64 fr, .int .i64 to, .int .i64 fl, .int .i64 th]] w fun e w' => e = .returned (.bool true) ∧ Below w.heap.size w w' := by
  have hbx := (Below.refl w.heap.size w).alloc (Nat.le_refl _) (.cells #[.int .i64 fr, .int .i64 to, .int .i64 fl, .int .i64 th] 49)
  have hbxs := hbx.size
  have hv_0 := hv.all hbx
  have hq_0 := FourAt.fresh w fr to fl th 49
  by_cases hl : 100 < rs.length
  · have L := Lib.hid (long_true v rs _ hv_0 hl)
    clear hv hl hv_0 hq_0
    go_enter Try.func8, Try.ntmps8
    go_wp2_with fail
    refine L.out.mono ?_
    rintro e w1 ⟨rfl, hb1⟩
    go_wp2_with fail
    refine (known_any _).mono ?_
    rintro e w2 ⟨rfl, hb2⟩
    go_wp2
    go_ret
    exact ⟨rfl, hbx.trans ((below_step hb1 hb2).mono hbxs)⟩
  · have l1 : rs.length ≤ 100 := by omega
    have l2 : rs.length ≤ 1000 := by omega
    have k1 := Bd.chaR_length rs fr to (Bd.chFOk fl) (Bd.chF fl)
    have k2 := Bd.chaR_length rs fr to (Bd.chPOk th) (Bd.chP th)
    clear hl hv
    go_enter Try.func8, Try.ntmps8
    go_wp2_with fail
    refine (long_false v rs _ hv_0 l1).mono ?_
    rintro e w1 ⟨rfl, hb1⟩
    have hc0_1 := hb1
    have hq_1 := hq_0.all hb1
    have hv_1 := hv_0.all hb1
    go_wp2_with fail
    refine (copied_any v rs _ hv_1 l2).mono ?_
    rintro e w2 ⟨own, rfl, ho_2, hb2⟩
    have hc0_2 := below_step hc0_1 hb2
    have hq_2 := hq_1.all hb2
    have hv_2 := hv_1.all hb2
    have hc0_2s := hc0_2.size
    obtain ⟨c0, c1, c2, c3, _⟩ := id hq_2
    go_wp2_with fail
    refine (num_flaw_any own rs fr to fl _ ho_2.runs l2).mono ?_
    rintro e w3 ⟨x, rfl, hx_3, hb3⟩
    clear c0 c1 c2 c3
    have hc0_3 := below_step hc0_2 hb3
    have hc2_3 := hb3
    have ho_3 := ho_2.all hb3
    have hq_3 := hq_2.all hb3
    have hv_3 := hv_2.all hb3
    obtain ⟨c0, c1, c2, c3, _⟩ := id hq_3
    go_wp2_with fail
    refine (ref_flaw_any v rs fr to fl _ hv_3 l2).mono ?_
    rintro e w4 ⟨y, rfl, hy_4, hb4⟩
    clear c0 c1 c2 c3
    have hc0_4 := below_step hc0_3 hb4
    have hc2_4 := below_step hc2_3 hb4
    have ho_4 := ho_3.all hb4
    have hq_4 := hq_3.all hb4
    have hv_4 := hv_3.all hb4
    have hx_4 := hx_3.all hb4
    have hc0_4s := hc0_4.size
    have hc2_4s := hc2_4.size
    obtain ⟨c0, c1, c2, c3, _⟩ := id hq_4
    go_wp2_with fail
    refine (num_press_any own rs fr to th _ ho_4.runs l2).mono ?_
    rintro e w5 ⟨s, rfl, hs_5, hb5⟩
    clear c0 c1 c2 c3
    have hc0_5 := below_step hc0_4 hb5
    have hc2_5 := below_step hc2_4 hb5
    have hc4_5 := hb5
    have ho_5 := ho_4.all hb5
    have hq_5 := hq_4.all hb5
    have hv_5 := hv_4.all hb5
    have hx_5 := hx_4.all hb5
    have hy_5 := hy_4.all hb5
    obtain ⟨c0, c1, c2, c3, _⟩ := id hq_5
    go_wp2_with fail
    refine (ref_press_any v rs fr to th _ hv_5 l2).mono ?_
    rintro e w6 ⟨t, rfl, ht2_6, hb6⟩
    clear c0 c1 c2 c3
    have hc0_6 := below_step hc0_5 hb6
    have hc2_6 := below_step hc2_5 hb6
    have hc4_6 := below_step hc4_5 hb6
    have ho_6 := ho_5.all hb6
    have hq_6 := hq_5.all hb6
    have hs_6 := hs_5.all hb6
    have hv_6 := hv_5.all hb6
    have hx_6 := hx_5.all hb6
    have hy_6 := hy_5.all hb6
    go_wp2_with fail
    refine (same_runs_true x y _ _ hx_6.runs hy_6.runs k1).mono ?_
    rintro e w7 ⟨rfl, hb7⟩
    have hc0_7 := below_step hc0_6 hb7
    have hc2_7 := below_step hc2_6 hb7
    have hc4_7 := below_step hc4_6 hb7
    have ho_7 := ho_6.all hb7
    have hq_7 := hq_6.all hb7
    have hs_7 := hs_6.all hb7
    have ht2_7 := ht2_6.all hb7
    have hv_7 := hv_6.all hb7
    have hx_7 := hx_6.all hb7
    have hy_7 := hy_6.all hb7
    go_wp2_with fail
    refine (same_runs_true s t _ _ hs_7.runs ht2_7.runs k2).mono ?_
    rintro e w8 ⟨rfl, hb8⟩
    have hc0_8 := below_step hc0_7 hb8
    have hc2_8 := below_step hc2_7 hb8
    have hc4_8 := below_step hc4_7 hb8
    have ho_8 := ho_7.all hb8
    have hq_8 := hq_7.all hb8
    have hs_8 := hs_7.all hb8
    have ht2_8 := ht2_7.all hb8
    have hv_8 := hv_7.all hb8
    have hx_8 := hx_7.all hb8
    have hy_8 := hy_7.all hb8
    go_wp2_with fail
    refine (spoil_one w2.heap.size x _ _ hx_8 k1).mono ?_
    rintro e w9 ⟨rfl, ho9, hb9⟩
    have hs_9 := hs_8.later hx_3 hb4.size ho9
    have hc2_9 := hc2_8.trans hb9
    have hc0_9 := hc0_8.trans (hb9.mono hc0_2s)
    have ho_9 := ho_2.all hc2_9
    have hq_9 := hq_2.all hc2_9
    have hv_9 := hv_2.all hc2_9
    go_wp2_with fail
    refine (spoil_one w2.heap.size s _ _ (hs_9.mono hc2_4s) k2).mono ?_
    rintro e w10 ⟨rfl, _, hb10⟩
    have hc2_10 := hc2_9.trans hb10
    have hc0_10 := hc0_9.trans (hb10.mono hc0_2s)
    have ho_10 := ho_2.all hc2_10
    have hq_10 := hq_2.all hc2_10
    have hv_10 := hv_2.all hc2_10
    go_wp2_with fail
    refine (same_runs_true own v _ _ ho_10.runs hv_10 l2).mono ?_
    rintro e w11 ⟨rfl, hb11⟩
    have hc0_11 := below_step hc0_10 hb11
    have hc2_11 := below_step hc2_10 hb11
    have ho_11 := ho_10.all hb11
    have hq_11 := hq_10.all hb11
    have hv_11 := hv_10.all hb11
    go_wp2_with fail
    refine (known_any _).mono ?_
    rintro e w12 ⟨rfl, hb12⟩
    have hc0_12 := below_step hc0_11 hb12
    have hc2_12 := below_step hc2_11 hb12
    have ho_12 := ho_11.all hb12
    have hq_12 := hq_11.all hb12
    have hv_12 := hv_11.all hb12
    go_wp2
    go_ret
    exact ⟨rfl, hbx.trans (hc0_12.mono hbxs)⟩
end Go.Proofs.Ytimpdmpfpbeflaa
