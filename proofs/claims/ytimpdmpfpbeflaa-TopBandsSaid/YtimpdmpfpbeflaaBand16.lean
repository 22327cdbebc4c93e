/- BandJoins returns true, whatever the two lists of runs. -/
import Derived.Test.YtimpdmpfpbeflaaBand15
import Derived.Test.YtimpdmpfpbeflaaBand8
namespace Go.Proofs.Ytimpdmpfpbeflaa
open Go.RowKit

set_option maxRecDepth 20000 in
/-- As spoil_any: and no other block is touched. -/
theorem spoil_one (base : Nat) (v : Value) (rs : List Bd.R) (w : World) (hv : Own base w v rs) (hl : rs.length ≤ 1000) :
    Calls Try.prog 26 #[v] w fun e w' => e = .returned (.tuple #[]) ∧ (∀ k, v.ownBlock ≠ some k → w'.heap[k]? = w.heap[k]?) ∧ Below base w w' := by
  rcases hv.form with ⟨rfl, rfl⟩ | ⟨g, cap, rfl, hg1, hg2, hg3, hg4, hg5⟩
  · go_enter Try.func26, Try.ntmps26
    go_wp2
    go_loop [2] (fun t => t = .int .i64 0) (fun t => (0 - intOf t).toNat)
    case atStart => exact rfl
    case round =>
      obtain rfl := hrel
      go_wp2
      go_end0
      exact ⟨rfl, fun _ _ => rfl, Below.refl _ _⟩
  · generalize hn : rs.length = n at *
    have HN := Lib.hid (And.intro hv hn)
    clear hn hv hg4 hg5
    go_enter Try.func26, Try.ntmps26
    go_wp2
    go_loopw [2] (fun t wr => ∃ (k : Nat), k ≤ n ∧ t = .int .i64 k ∧ Hid (∃ qs : List Bd.R, qs.length = n ∧ Own base wr (.slice (some ⟨g, 0, none⟩) n cap) qs ∧ (∀ k, g ≠ k → wr.heap[k]? = w.heap[k]?) ∧ Below base w wr)) (fun t _ => n - (intOf t).toNat)
    case atStart => exact ⟨0, Nat.zero_le _, rfl, Lib.hid ⟨rs, HN.out.2, HN.out.1, fun _ _ => rfl, Below.refl _ _⟩⟩
    case round =>
      obtain ⟨k, hk, rfl, hg⟩ := hrel
      clear HN
      by_cases hlt : k < n
      · obtain ⟨qs, hq1, hq2, hq4, hq3⟩ := hg.out
        subst hq1
        rcases hq2.form with ⟨h, _⟩ | ⟨g', cap', h, _, _, _, hf, hr⟩
        · simp at h
        · obtain ⟨rfl, rfl⟩ : g = g' ∧ cap = cap' := by simpa using h
          have c0 := (hr k hlt).1
          have f0 := hf (k * 4)
          have HS := Lib.hid (And.intro (hq2.setK k (-1) hlt) (And.intro (fun i (hi : g ≠ i) => (Below.heap_setCell _ ⟨g, k * 4, none⟩ (.int .i64 (-1)) i (fun e => hi e.symm)).trans (hq4 i hi)) (hq3.setCell (p := ⟨g, k * 4, none⟩) hg1 (.int .i64 (-1)))))
          clear hg hq2 hq3 hq4 h hf hr
          go_wp2
          go_roundw
          case rel => exact ⟨k + 1, by omega, by go_num, Lib.hid ⟨_, by simp, HS.out.1, HS.out.2.1, HS.out.2.2⟩⟩
          case measure => simp [intOf]; omega
      · obtain rfl : k = n := by omega
        go_wp2
        go_end0
        obtain ⟨_, _, _, h1, h2⟩ := hg.out
        exact ⟨rfl, fun i hi => h1 i (fun e => hi (by rw [e]; rfl)), h2⟩
/-- What was made later than a list that is written into stays. -/
theorem Own.later {lo hi : Nat} {w0 w w' : World} {v u : Value} {rs qs : List Bd.R} (hu : Own hi w u qs) (hv : Own lo w0 v rs) (hs : w0.heap.size ≤ hi) (h : ∀ k, v.ownBlock ≠ some k → w'.heap[k]? = w.heap[k]?) : Own hi w' u qs := by
  obtain ⟨h0, h1 | ⟨g, cap, cur, h1, h2, h3, h4⟩⟩ := hu
  · exact ⟨h0, .inl h1⟩
  · refine ⟨h0, .inr ⟨g, cap, cur, h1, h2, ?_, h4⟩⟩
    rw [h g fun e => by have := (World.ownsRow.lt hv g e).2; omega]; exact h3
theorem Bd.joinR_length {a b : List Bd.R} (h : a.length + b.length ≤ 1000) : (Bd.joinR a b).length ≤ 1000 := by
  unfold Bd.joinR; split
  · unfold Bd.toldR; split
    · simp
    · exact Nat.le_trans (Bd.norm_length _) (by simp; omega)
  · simp
theorem Bd.revR_length {a : List Bd.R} (h : a.length ≤ 1000) : (Bd.revR a).length ≤ 1000 := by
  unfold Bd.revR; split
  · rw [List.length_reverse]; exact Nat.le_trans (Bd.norm_length _) h
  · simp

set_option maxRecDepth 20000 in
set_option maxHeartbeats 2000000 in
theorem joins_walk (v u : Value) (rs qs : List Bd.R) (w : World) (hv : Runs w v rs) (hu : Runs w u qs) :
    Calls Try.prog 7 #[v, u] w fun e w' => e = .returned (.bool true) ∧ Below w.heap.size w w' := by
  by_cases hl : 100 < rs.length
  · have L := Lib.hid (long_true v rs w hv hl)
    clear hv hl hu
    go_enter Try.func7, Try.ntmps7
    go_wp2_with fail
    refine L.out.mono ?_
    rintro e w1 ⟨rfl, hb1⟩
    go_wp2_with fail
    refine (known_any _).mono ?_
    rintro e w2 ⟨rfl, hb2⟩
    go_wp2
    go_ret
    exact ⟨rfl, below_step hb1 hb2⟩
  by_cases hl2 : 100 < qs.length
  · have L := Lib.hid (long_false v rs w hv (by omega))
    have L2 := Lib.hid (fun W (hW : Below w.heap.size w W) => long_true u qs W (hu.all hW) hl2)
    clear hv hl hu hl2
    go_enter Try.func7, Try.ntmps7
    go_wp2_with fail
    refine L.out.mono ?_
    rintro e w1 ⟨rfl, hb1⟩
    go_wp2_with fail
    refine (L2.out _ hb1).mono ?_
    rintro e w2 ⟨rfl, hb2⟩
    have hb2 := below_step hb1 hb2
    go_wp2_with fail
    refine (known_any _).mono ?_
    rintro e w3 ⟨rfl, hb3⟩
    go_wp2
    go_ret
    exact ⟨rfl, below_step hb2 hb3⟩
  have hv_0 := hv
  have hu_0 := hu
  have l1 : rs.length ≤ 100 := by omega
  have l2 : rs.length ≤ 1000 := by omega
  have m1 : qs.length ≤ 100 := by omega
  have m2 : qs.length ≤ 1000 := by omega
  have k1 : (Bd.joinR rs qs).length ≤ 1000 := Bd.joinR_length (by omega)
  have k2 : (Bd.revR rs).length ≤ 1000 := Bd.revR_length l2
  have l5 : rs.length ≤ 500 := by omega
  have m5 : qs.length ≤ 500 := by omega
  clear hl hl2 hv hu
  go_enter Try.func7, Try.ntmps7
  go_wp2_with fail
  refine (long_false v rs _ hv_0 l1).mono ?_
  rintro e w1 ⟨rfl, hb1⟩
  have hc0_1 := hb1
  have hu_1 := hu_0.all hb1
  have hv_1 := hv_0.all hb1
  go_wp2_with fail
  refine (long_false u qs _ hu_1 m1).mono ?_
  rintro e w2 ⟨rfl, hb2⟩
  have hc0_2 := below_step hc0_1 hb2
  have hu_2 := hu_1.all hb2
  have hv_2 := hv_1.all hb2
  go_wp2_with fail
  refine (copied_any v rs _ hv_2 l2).mono ?_
  rintro e w3 ⟨one, rfl, ho_3, hb3⟩
  have hc0_3 := below_step hc0_2 hb3
  have hu_3 := hu_2.all hb3
  have hv_3 := hv_2.all hb3
  go_wp2_with fail
  refine (copied_any u qs _ hu_3 m2).mono ?_
  rintro e w4 ⟨two, rfl, ht_4, hb4⟩
  have hc0_4 := below_step hc0_3 hb4
  have ho_4 := ho_3.all hb4
  have hu_4 := hu_3.all hb4
  have hv_4 := hv_3.all hb4
  have hc0_4s := hc0_4.size
  go_wp2_with fail
  refine (num_join_any one two rs qs _ ho_4.runs ht_4.runs l5 m5).mono ?_
  rintro e w5 ⟨x, rfl, hx_5, hb5⟩
  have hc0_5 := below_step hc0_4 hb5
  have hc4_5 := hb5
  have ho_5 := ho_4.all hb5
  have ht_5 := ht_4.all hb5
  have hu_5 := hu_4.all hb5
  have hv_5 := hv_4.all hb5
  go_wp2_with fail
  refine (ref_join2_any v u rs qs _ hv_5 hu_5 l5 m5).mono ?_
  rintro e w6 ⟨y, rfl, hy_6, hb6⟩
  have hc0_6 := below_step hc0_5 hb6
  have hc4_6 := below_step hc4_5 hb6
  have ho_6 := ho_5.all hb6
  have ht_6 := ht_5.all hb6
  have hu_6 := hu_5.all hb6
  have hv_6 := hv_5.all hb6
  have hx_6 := hx_5.all hb6
  have hc0_6s := hc0_6.size
  have hc4_6s := hc4_6.size
  go_wp2_with fail
  refine (num_reverse_any one rs _ ho_6.runs l2).mono ?_
  rintro e w7 ⟨s, rfl, hs_7, hb7⟩
  have hc0_7 := below_step hc0_6 hb7
  have hc4_7 := below_step hc4_6 hb7
  have hc6_7 := hb7
  have ho_7 := ho_6.all hb7
  have ht_7 := ht_6.all hb7
  have hu_7 := hu_6.all hb7
  have hv_7 := hv_6.all hb7
  have hx_7 := hx_6.all hb7
  have hy_7 := hy_6.all hb7
  go_wp2_with fail
  refine (ref_reverse_any v rs _ hv_7 l2).mono ?_
  rintro e w8 ⟨t, rfl, ht2_8, hb8⟩
  have hc0_8 := below_step hc0_7 hb8
  have hc4_8 := below_step hc4_7 hb8
  have hc6_8 := below_step hc6_7 hb8
  have ho_8 := ho_7.all hb8
  have hs_8 := hs_7.all hb8
  have ht_8 := ht_7.all hb8
  have hu_8 := hu_7.all hb8
  have hv_8 := hv_7.all hb8
  have hx_8 := hx_7.all hb8
  have hy_8 := hy_7.all hb8
  go_wp2_with fail
  refine (same_runs_true x y _ _ hx_8.runs hy_8.runs k1).mono ?_
  rintro e w9 ⟨rfl, hb9⟩
  have hc0_9 := below_step hc0_8 hb9
  have hc4_9 := below_step hc4_8 hb9
  have hc6_9 := below_step hc6_8 hb9
  have ho_9 := ho_8.all hb9
  have hs_9 := hs_8.all hb9
  have ht_9 := ht_8.all hb9
  have ht2_9 := ht2_8.all hb9
  have hu_9 := hu_8.all hb9
  have hv_9 := hv_8.all hb9
  have hx_9 := hx_8.all hb9
  have hy_9 := hy_8.all hb9
  go_wp2_with fail
  refine (same_runs_true s t _ _ hs_9.runs ht2_9.runs k2).mono ?_
  rintro e w10 ⟨rfl, hb10⟩
  have hc0_10 := below_step hc0_9 hb10
  have hc4_10 := below_step hc4_9 hb10
  have hc6_10 := below_step hc6_9 hb10
  have ho_10 := ho_9.all hb10
  have hs_10 := hs_9.all hb10
  have ht_10 := ht_9.all hb10
  have ht2_10 := ht2_9.all hb10
  have hu_10 := hu_9.all hb10
  have hv_10 := hv_9.all hb10
  have hx_10 := hx_9.all hb10
  have hy_10 := hy_9.all hb10
  go_wp2_with fail
  refine (spoil_one w4.heap.size x _ _ hx_10 k1).mono ?_
  rintro e w11 ⟨rfl, ho11, hb11⟩
  have hs_11 := hs_10.later hx_5 hb6.size ho11
  have hc4_11 := hc4_10.trans hb11
  have hc0_11 := hc0_10.trans (hb11.mono hc0_4s)
  have ho_11 := ho_4.all hc4_11
  have ht_11 := ht_4.all hc4_11
  have hu_11 := hu_4.all hc4_11
  have hv_11 := hv_4.all hc4_11
  go_wp2_with fail
  refine (spoil_one w4.heap.size s _ _ (hs_11.mono hc4_6s) k2).mono ?_
  rintro e w12 ⟨rfl, _, hb12⟩
  have hc4_12 := hc4_11.trans hb12
  have hc0_12 := hc0_11.trans (hb12.mono hc0_4s)
  have ho_12 := ho_4.all hc4_12
  have ht_12 := ht_4.all hc4_12
  have hu_12 := hu_4.all hc4_12
  have hv_12 := hv_4.all hc4_12
  go_wp2_with fail
  refine (same_runs_true one v _ _ ho_12.runs hv_12 l2).mono ?_
  rintro e w13 ⟨rfl, hb13⟩
  have hc0_13 := below_step hc0_12 hb13
  have hc4_13 := below_step hc4_12 hb13
  have ho_13 := ho_12.all hb13
  have ht_13 := ht_12.all hb13
  have hu_13 := hu_12.all hb13
  have hv_13 := hv_12.all hb13
  go_wp2_with fail
  refine (same_runs_true two u _ _ ht_13.runs hu_13 m2).mono ?_
  rintro e w14 ⟨rfl, hb14⟩
  have hc0_14 := below_step hc0_13 hb14
  have hc4_14 := below_step hc4_13 hb14
  have ho_14 := ho_13.all hb14
  have ht_14 := ht_13.all hb14
  have hu_14 := hu_13.all hb14
  have hv_14 := hv_13.all hb14
  go_wp2_with fail
  refine (known_any _).mono ?_
  rintro e w15 ⟨rfl, hb15⟩
  have hc0_15 := below_step hc0_14 hb15
  have hc4_15 := below_step hc4_14 hb15
  have ho_15 := ho_14.all hb15
  have ht_15 := ht_14.all hb15
  have hu_15 := hu_14.all hb15
  have hv_15 := hv_14.all hb15
  go_wp2
  go_ret
  exact ⟨rfl, hc0_15⟩
end Go.Proofs.Ytimpdmpfpbeflaa
