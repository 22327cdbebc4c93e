/- Join and Reverse, of the program and of the reference. -/
import Derived.Test.YtimpdmpfpbeflaaBand14
namespace Go.Proofs.Ytimpdmpfpbeflaa
open Go.RowKit

theorem concat2_any (v u : Value) (rs qs : List Bd.R) (w : World) (hv : Runs w v rs) (hu : Runs w u qs) (hl : rs.length + qs.length ≤ 1000) :
    Calls Try.prog 76 #[.slice (some ⟨w.heap.size, 0, none⟩) 2 2] (w.alloc (.cells #[v, u] 22)) fun e w' => ∃ x, e = .returned x ∧ Own w.heap.size w' x (rs ++ qs) ∧ Below w.heap.size w w' := by
  have hb := (Below.refl w.heap.size w).alloc (Nat.le_refl _) (.cells #[v, u] 22)
  have h := concat_any [(v, rs), (u, qs)] w.heap.size 2 (w.alloc (.cells #[v, u] 22)) (by simp) (by simp) (by simp)
    (fun k hk => by
      match k, hk with
      | 0, _ => simp
      | 1, _ => simp)
    (fun k hk => by
      match k, hk with
      | 0, _ => exact hv.all hb
      | 1, _ => exact hu.all hb)
    (by simp [catR]; omega)
  have e : catR [(v, rs), (u, qs)] = rs ++ qs := by simp [catR]
  rw [e] at h
  exact h.mono fun e w' ⟨x, h1, h2, h3⟩ => ⟨x, h1, h2.mono (by simp), hb.trans (h3.mono (by simp))⟩
theorem concat3_any (v u t : Value) (rs qs ts : List Bd.R) (w : World) (hv : Runs w v rs) (hu : Runs w u qs) (ht : Runs w t ts) (hl : rs.length + qs.length + ts.length ≤ 1000) :
    Calls Try.prog 76 #[.slice (some ⟨w.heap.size, 0, none⟩) 3 3] (w.alloc (.cells #[v, u, t] 22)) fun e w' => ∃ x, e = .returned x ∧ Own w.heap.size w' x (rs ++ (qs ++ ts)) ∧ Below w.heap.size w w' := by
  have hb := (Below.refl w.heap.size w).alloc (Nat.le_refl _) (.cells #[v, u, t] 22)
  have h := concat_any [(v, rs), (u, qs), (t, ts)] w.heap.size 3 (w.alloc (.cells #[v, u, t] 22)) (by simp) (by simp) (by simp)
    (fun k hk => by
      match k, hk with
      | 0, _ => simp
      | 1, _ => simp
      | 2, _ => simp)
    (fun k hk => by
      match k, hk with
      | 0, _ => exact hv.all hb
      | 1, _ => exact hu.all hb
      | 2, _ => exact ht.all hb)
    (by simp [catR]; omega)
  have e : catR [(v, rs), (u, qs), (t, ts)] = rs ++ (qs ++ ts) := by simp [catR]
  rw [e] at h
  exact h.mono fun e w' ⟨x, h1, h2, h3⟩ => ⟨x, h1, h2.mono (by simp), hb.trans (h3.mono (by simp))⟩

set_option maxRecDepth 20000 in
theorem num_join_any (v u : Value) (rs qs : List Bd.R) (w : World) (hv : Runs w v rs) (hu : Runs w u qs) (hl : rs.length ≤ 500) (hl2 : qs.length ≤ 500) :
    Calls Try.prog 36 #[v, u] w fun e w' => ∃ x, e = .returned (.tuple #[x, .int .i64 (Bd.joinE rs qs)]) ∧ Own w.heap.size w' x (Bd.joinR rs qs) ∧ Below w.heap.size w w' := by
  have V := Lib.hid (validate_both_any v u rs qs w hv hu (by omega) (by omega))
  have N := Lib.hid (fun W (hW : Below w.heap.size w W) => concat2_any v u rs qs W (hv.all hW) (hu.all hW) (by omega))
  obtain ⟨a, c, rfl⟩ := hv.form
  obtain ⟨a2, c2, rfl⟩ := hu.form
  clear hv hu
  unfold Bd.joinE Bd.joinR
  by_cases h : Bd.bothE rs qs = 0
  · rw [if_pos h, if_pos h]
    have hf := Bd.fine_both h
    rw [h] at V
    clear h
    go_enter Try.func36, Try.ntmps36
    go_wp2_with fail
    refine V.out.mono ?_
    rintro e w1 ⟨rfl, hb1⟩
    go_wp2_with fail
    refine (N.out _ hb1).mono ?_
    rintro e w2 ⟨x, rfl, hx, hb2⟩
    have hb2' := below_step hb1 hb2
    go_wp2_with fail
    refine (checked_any x _ _ hx.runs hf).mono ?_
    rintro e w3 ⟨y, rfl, hy, hb3⟩
    have hb3' := below_step hb2' hb3
    go_wp2
    go_ret2
    exact ⟨_, rfl, hy.mono hb2'.size, hb3'⟩
  · rw [if_neg h, if_neg h]
    generalize Bd.bothE rs qs = z at *
    clear N
    have hz : (z == 0) = false := by simp [h]
    clear h
    go_enter Try.func36, Try.ntmps36
    go_wp2_with fail
    refine V.out.mono ?_
    rintro e w1 ⟨rfl, hb1⟩
    go_wp2
    go_ret2
    exact ⟨_, rfl, Own.nil _ _, hb1⟩

set_option maxRecDepth 20000 in
theorem ref_join2_any (v u : Value) (rs qs : List Bd.R) (w : World) (hv : Runs w v rs) (hu : Runs w u qs) (hl : rs.length ≤ 500) (hl2 : qs.length ≤ 500) :
    Calls Try.prog 37 #[v, u] w fun e w' => ∃ x, e = .returned (.tuple #[x, .int .i64 (Bd.joinE rs qs)]) ∧ Own w.heap.size w' x (Bd.joinR rs qs) ∧ Below w.heap.size w w' := by
  have V := Lib.hid (ref_both_any v u rs qs w hv hu (by omega) (by omega))
  have N := Lib.hid (fun W (hW : Below w.heap.size w W) => both_any v u rs qs W (hv.all hW) (hu.all hW) (by omega) (by omega))
  obtain ⟨a, c, rfl⟩ := hv.form
  obtain ⟨a2, c2, rfl⟩ := hu.form
  clear hv hu
  unfold Bd.joinE Bd.joinR
  by_cases h : Bd.bothE rs qs = 0
  · rw [if_pos h, if_pos h]
    have hf := Bd.fine_both h
    rw [h] at V
    clear h
    go_enter Try.func37, Try.ntmps37
    go_wp2_with fail
    refine V.out.mono ?_
    rintro e w1 ⟨rfl, hb1⟩
    go_wp2_with fail
    refine (N.out _ hb1).mono ?_
    rintro e w2 ⟨x, rfl, hx, hb2⟩
    have hb2' := below_step hb1 hb2
    go_wp2_with fail
    refine (told_any x _ _ hx.runs hf).mono ?_
    rintro e w3 ⟨y, rfl, hy, hb3⟩
    have hb3' := below_step hb2' hb3
    go_wp2
    go_ret2
    exact ⟨_, rfl, hy.mono hb2'.size, hb3'⟩
  · rw [if_neg h, if_neg h]
    generalize Bd.bothE rs qs = z at *
    clear N
    have hz : (z == 0) = false := by simp [h]
    clear h
    go_enter Try.func37, Try.ntmps37
    go_wp2_with fail
    refine V.out.mono ?_
    rintro e w1 ⟨rfl, hb1⟩
    go_wp2
    go_ret2
    exact ⟨_, rfl, Own.nil _ _, hb1⟩

set_option maxRecDepth 20000 in
theorem num_reverse_any (v : Value) (rs : List Bd.R) (w : World) (hv : Runs w v rs) (hl : rs.length ≤ 1000) :
    Calls Try.prog 38 #[v] w fun e w' => ∃ x, e = .returned (.tuple #[x, .int .i64 (Bd.valE rs)]) ∧ Own w.heap.size w' x (Bd.revR rs) ∧ Below w.heap.size w w' := by
  have V := Lib.hid (validate_any v rs w hv hl)
  have N := Lib.hid (fun W (hW : Below w.heap.size w W) h => normal_any v rs W (hv.all hW) h)
  obtain ⟨a, c, rfl⟩ := hv.form
  clear hv
  unfold Bd.revR
  by_cases h : Bd.valE rs = 0
  · rw [if_pos h]
    have hf := Bd.fine_of_valid h
    have hl2 := Nat.le_trans (Bd.norm_length rs) hl
    rw [h] at V ⊢
    clear h
    go_enter Try.func38, Try.ntmps38
    go_wp2_with fail
    refine V.out.mono ?_
    rintro e w1 ⟨rfl, hb1⟩
    go_wp2_with fail
    refine (N.out _ hb1 hf).mono ?_
    rintro e w2 ⟨x, rfl, hx, hb2⟩
    have hb2' := below_step hb1 hb2
    go_wp2_with fail
    refine (reverse_any _ x _ _ hx hl2).mono ?_
    rintro e w3 ⟨rfl, hy, hb3⟩
    have hb3' := hb2'.trans (hb3.mono hb1.size)
    obtain ⟨xa, xc, rfl⟩ := hx.runs.form
    go_wp2
    go_ret2
    exact ⟨_, rfl, hy.mono hb1.size, hb3'⟩
  · rw [if_neg h]
    generalize Bd.valE rs = z at *
    clear N
    have hz : (z == 0) = false := by simp [h]
    clear h
    go_enter Try.func38, Try.ntmps38
    go_wp2_with fail
    refine V.out.mono ?_
    rintro e w1 ⟨rfl, hb1⟩
    go_wp2
    go_ret2
    exact ⟨_, rfl, Own.nil _ _, hb1⟩

set_option maxRecDepth 20000 in
set_option maxHeartbeats 1000000 in
theorem ref_reverse_any (v : Value) (rs : List Bd.R) (w : World) (hv : Runs w v rs) (hl : rs.length ≤ 1000) :
    Calls Try.prog 39 #[v] w fun e w' => ∃ x, e = .returned (.tuple #[x, .int .i64 (Bd.valE rs)]) ∧ Own w.heap.size w' x (Bd.revR rs) ∧ Below w.heap.size w w' := by
  have V := Lib.hid (ref_validate_any v rs w hv hl)
  obtain ⟨i0, hi, hz0, hz1, hz2⟩ := info_parts infoRun
  obtain ⟨a, c, rfl, hlook⟩ := hv.look
  have HV := Lib.hid hv
  have HK := Lib.hid hlook
  clear hv hlook
  unfold Bd.revR
  by_cases h : Bd.valE rs = 0
  · rw [if_pos h]
    obtain ⟨t1, t2⟩ := Bd.told_reverse h
    have hf := Bd.fine_reverse h
    rw [h] at V ⊢
    have TE := Lib.hid (And.intro t1 t2)
    clear h t1 t2
    go_enter Try.func39, Try.ntmps39
    go_wp2_with fail
    refine V.out.mono ?_
    rintro e w1 ⟨rfl, hb1⟩
    go_wp2
    have HW := Lib.hid hb1
    clear hb1 V
    go_loopw [5, 6] (fun s t wr => ∃ k : Nat, k ≤ rs.length ∧ t = .int .i64 ((rs.length : Int) - 1 - k) ∧ Hid (Own w.heap.size wr s (rs.reverse.take k) ∧ Below w.heap.size w wr)) (fun _ t _ => (intOf t + 1).toNat)
    case atStart => exact ⟨0, Nat.zero_le _, by simp, Lib.hid ⟨Own.nil _ _, HW.out⟩⟩
    case round =>
      obtain ⟨k, hk, rfl, hg⟩ := hrel
      clear HW
      by_cases hlt : k < rs.length
      · obtain ⟨hown, hw⟩ := hg.out
        obtain ⟨j, hj⟩ : ∃ j : Nat, (j : Int) = (rs.length : Int) - 1 - k := ⟨rs.length - 1 - k, by omega⟩
        have hjl : j < rs.length := by omega
        obtain ⟨b, off, rfl, hb, hr⟩ := HK.out j hjl
        obtain ⟨c0, c1, c2, c3⟩ := hr.below hw hb
        have HT := Lib.hid (show rs.reverse.take (k + 1) = rs.reverse.take k ++ [rs[j]'hjl] by
          rw [List.take_succ_eq_append_getElem (by simp; omega), List.getElem_reverse]
          congr 3; omega)
        have hlk : (rs.reverse.take k).length = k := by simp; omega
        have hro : _ := hown
        rw [← hj]
        have hjn : (j : Int) < rs.length := by omega
        have hj0 : (0 : Int) ≤ (j : Int) := by omega
        have HJ := Lib.hid hj
        unfold Own at hro
        rw [hlk] at hro
        have HLK := Lib.hid hlk
        clear hg hj hr hlk
        generalize rs[j]'hjl = r at *
        generalize rs.reverse.take k = qs at *
        go_wp2_with (at_builtin; refine wpList_append_own _ rfl _ _ 22 rfl w.heap.size 68 i0 (.agg #[.int .i64 0, .int .i64 0, .int .i64 0, .int .i64 0]) 4 32 Try.underlying22 hi hz0 hz1 hz2 rfl (by decide) _ _ _ rfl (hro.alloc _) ⟨_, 0, none⟩ 1 1 (runC r) rfl rfl (runC_at _ r _) (runC_one r) (by unfold maxLen; omega) (by omega) (by have := hw.size; simp; omega) ?_)
        intro v' w2 hown1 hgrow _
        have hw2 := (hw.alloc hw.size (runObj r)).grown hgrow (by have := hw.size; simp; omega) (fun j e => (World.ownsRow.lt hown j e).1)
        have hx2 : Own w.heap.size w2 v' (qs ++ [r]) := Own.pushed (a := qs) (by rw [HLK.out]; exact hown1)
        clear hown1 hgrow hown hw hro c0 c1 c2 c3
        go_wp2
        go_roundw
        case rel => exact ⟨k + 1, by omega, by (have := HJ.out); go_num, Lib.hid ⟨by rw [HT.out]; exact hx2, hw2⟩⟩
        case measure => simp [intOf]; try omega
      · obtain rfl : k = rs.length := by omega
        obtain ⟨hown, hw⟩ := hg.out
        rw [List.take_of_length_le (by simp)] at hown
        clear hg
        have hr := hown.runs
        obtain ⟨xa, xc, hx⟩ := hr.form
        rw [List.length_reverse] at hx
        subst hx
        have T := Lib.hid (told_any _ _ _ hr hf)
        rw [TE.out.1, TE.out.2] at T
        clear hown hr
        have hneg : ¬ (0 : Int) ≤ (rs.length : Int) - 1 - rs.length := by omega
        go_wp2_with fail
        refine T.out.mono ?_
        rintro e w3 ⟨y, rfl, hy, hb3⟩
        go_wp2
        go_ret2
        exact ⟨_, rfl, hy.mono hw.size, below_step hw hb3⟩
  · rw [if_neg h]
    generalize Bd.valE rs = z at *
    clear HV HK
    have hz : (z == 0) = false := by simp [h]
    clear h
    go_enter Try.func39, Try.ntmps39
    go_wp2_with fail
    refine V.out.mono ?_
    rintro e w1 ⟨rfl, hb1⟩
    go_wp2
    go_ret2
    exact ⟨_, rfl, Own.nil _ _, hb1⟩
end Go.Proofs.Ytimpdmpfpbeflaa
