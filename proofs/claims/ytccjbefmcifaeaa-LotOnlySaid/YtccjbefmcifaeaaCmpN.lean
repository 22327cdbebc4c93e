/- How two naturals of the program compare. -/
import Derived.Test.YtccjbefmcifaeaaSets3
import Derived.Test.YtccjbefmcifaeaaKnowns
namespace Go.Proofs.Ytccjbefmcifaeaa
open Go.RowKit

def cmpN (a b : Nat) : Int := if a < b then -1 else if a = b then 0 else 1

theorem isNaN_any (a : Int) (w : World) : Calls Try.prog 124 #[.int .u64 a] w fun e w' => e = .returned (.bool false) ∧ w' = w := by
  have hq : (a != a) = false := by simp
  go_enter Try.func124, Try.ntmps124
  go_wp2
  go_ret
  exact ⟨rfl, rfl⟩
theorem cmp_any (a b : Int) (hne : a ≠ b) (w : World) : Calls Try.prog 120 #[.int .u64 a, .int .u64 b] w fun e w' => e = .returned (.int .i64 (if a < b then -1 else 1)) ∧ w' = w := by
  by_cases h : a < b
  · rw [if_pos h]
    go_enter Try.func120, Try.ntmps120
    go_wp2_with fail
    refine (isNaN_any a _).mono ?_
    rintro e w1 ⟨rfl, rfl⟩
    go_wp2_with fail
    refine (isNaN_any b _).mono ?_
    rintro e w1 ⟨rfl, rfl⟩
    go_wp2
    go_ret
    exact ⟨rfl, rfl⟩
  · rw [if_neg h]
    have h2 : b < a := by omega
    go_enter Try.func120, Try.ntmps120
    go_wp2_with fail
    refine (isNaN_any a _).mono ?_
    rintro e w1 ⟨rfl, rfl⟩
    go_wp2_with fail
    refine (isNaN_any b _).mono ?_
    rintro e w1 ⟨rfl, rfl⟩
    go_wp2
    go_ret
    exact ⟨rfl, rfl⟩

set_option maxRecDepth 20000 in
set_option maxHeartbeats 1000000 in
theorem natCmp_any (n m : Nat) (w : World) (hn : n < Wd.B ^ 8) (hm : m < Wd.B ^ 8) :
    Calls Try.prog 107 #[natV n, natV m] w fun e w' => e = .returned (.int .i64 (cmpN n m)) ∧ Below w.heap.size w w' := by
  have bN := (BlockAt.new w #[wV n 0, wV n 1, wV n 2, wV n 3, wV n 4, wV n 5, wV n 6, wV n 7] 85).alloc (.cells #[wV m 0, wV m 1, wV m 2, wV m 3, wV m 4, wV m 5, wV m 6, wV m 7] 85)
  have bM := BlockAt.new (w.alloc (.cells #[wV n 0, wV n 1, wV n 2, wV n 3, wV n 4, wV n 5, wV n 6, wV n 7] 85)) #[wV m 0, wV m 1, wV m 2, wV m 3, wV m 4, wV m 5, wV m 6, wV m 7] 85
  have hw0 := below_alloc (below_alloc (Below.refl w.heap.size w) (.cells #[wV n 0, wV n 1, wV n 2, wV n 3, wV n 4, wV n 5, wV n 6, wV n 7] 85)) (.cells #[wV m 0, wV m 1, wV m 2, wV m 3, wV m 4, wV m 5, wV m 6, wV m 7] 85)
  simp only [World.size_alloc] at bN bM
  have HT := Lib.hid (Wd.top_eq hn hm)
  have H0 := Lib.hid (And.intro bN (And.intro bM hw0))
  clear bN bM hw0 hn hm
  go_enter Try.func107, Try.ntmps107
  go_wp2
  go_loopw [5] (fun t wr => ∃ k : Nat, k ≤ 8 ∧ t = .int .i64 (7 - (k : Int)) ∧ Hid (n / Wd.B ^ (8 - k) = m / Wd.B ^ (8 - k) ∧ BlockAt wr w.heap.size #[wV n 0, wV n 1, wV n 2, wV n 3, wV n 4, wV n 5, wV n 6, wV n 7] 85 ∧ BlockAt wr (w.heap.size + 1) #[wV m 0, wV m 1, wV m 2, wV m 3, wV m 4, wV m 5, wV m 6, wV m 7] 85 ∧ Below w.heap.size w wr)) (fun t _ => (intOf t + 1).toNat)
  case atStart => exact ⟨0, by omega, rfl, Lib.hid ⟨HT.out, H0.out⟩⟩
  case round =>
    obtain ⟨k, hk, rfl, hg⟩ := hrel
    clear H0 HT
    by_cases hlt : k < 8
    · obtain ⟨hq, b0, b1, hw⟩ := hg.out
      obtain ⟨j, hj, hj8⟩ : ∃ j : Nat, (j : Int) = 7 - (k : Int) ∧ j < 8 := ⟨7 - k, by omega, by omega⟩
      rw [show 8 - k = j + 1 by omega] at hq
      have c0 := (b0.cell j).trans (words_at n j hj8)
      have c1 := (b1.cell j).trans (words_at m j hj8)
      have HJ := Lib.hid hj
      have hj0 : (0 : Int) ≤ (j : Int) := by omega
      have hj7 : (j : Int) < 8 := by omega
      rw [← hj]
      have hA := Wd.wd_lt n j
      have hA2 := Wd.wd_lt m j
      clear hj hg
      unfold wV at c0 c1
      by_cases he : Wd.wd n j = Wd.wd m j
      · have HE := Lib.hid (Wd.div_eq_step hq he)
        have HG := Lib.hid (And.intro b0 (And.intro b1 hw))
        have hne : ((Wd.wd n j : Int) != (Wd.wd m j : Int)) = false := by rw [he]; simp
        clear he hq b0 b1 hw
        generalize Wd.wd n j = x at *
        generalize Wd.wd m j = y at *
        clear hA hA2
        go_wp2_with fail
        go_region
        go_wp2
        go_roundw
        case rel => exact ⟨k + 1, by omega, by (have := HJ.out); go_num, Lib.hid ⟨by rw [show 8 - (k + 1) = j by have := HJ.out; omega]; exact HE.out, HG.out.1.drew, HG.out.2.1.drew, HG.out.2.2.drew⟩⟩
        case measure => simp [intOf]; try omega
      · have hne : ((Wd.wd n j : Int) != (Wd.wd m j : Int)) = true := bne_iff_ne.2 (by omega)
        have hne2 : (Wd.wd n j : Int) ≠ (Wd.wd m j : Int) := by omega
        have HX := Lib.hid (show cmpN n m = if (Wd.wd n j : Int) < (Wd.wd m j : Int) then -1 else 1 by
          unfold cmpN
          by_cases hl : Wd.wd n j < Wd.wd m j
          · rw [if_pos (Wd.lt_of_wd hq hl), if_pos (by omega)]
          · have := Wd.lt_of_wd hq.symm (show Wd.wd m j < Wd.wd n j by omega)
            rw [if_neg (by omega), if_neg (by omega), if_neg (by omega)])
        have CC := Lib.hid (fun W => cmp_any (Wd.wd n j : Int) (Wd.wd m j : Int) hne2 W)
        have HW := Lib.hid hw
        generalize (if (Wd.wd n j : Int) < (Wd.wd m j : Int) then (-1 : Int) else 1) = z at HX CC
        generalize Wd.wd n j = x at *
        generalize Wd.wd m j = y at *
        have hS0 : wr.drew.drew.cell? ⟨w.heap.size, j, none⟩ = some (.int .u64 (x : Int)) ∧ wr.drew.drew.cell? ⟨w.heap.size + 1, j, none⟩ = some (.int .u64 (y : Int)) := ⟨c0, c1⟩
        clear he hq b0 b1 hw hA hA2 hne2
        go_wp2_with fail
        go_region
        go_wp2_with fail
        refine wp_region_seq [(0, true), (1, true), (2, true), (3, true), (4, true), (5, true), (6, false), (7, true)] (fun W => W.cell? ⟨w.heap.size, j, none⟩ = some (.int .u64 (x : Int)) ∧ W.cell? ⟨w.heap.size + 1, j, none⟩ = some (.int .u64 (y : Int)))
          (by kernel_rfl) (by kernel_rfl) (by kernel_rfl) (by kernel_rfl) (fun d _ _ _ _ h => by cases d <;> exact h) hS0 (fun hS => ?_)
        clear hS0 c0 c1
        repeat (refine SeqH.take (v := ?_) rfl (by rfl) ?_ ?_; rotate_left; (· intro w hSw; (try dsimp only at hSw); obtain ⟨q0, q1⟩ := hSw; go_simp; (try with_reducible rfl)); simp only [Act.put, List.setIfInBounds_toArray, List.set_cons_zero, List.set_cons_succ])
        refine SeqH.step rfl (by rfl) (fun K hK => ?_)
        go_simp
        refine (CC.out _).mono ?_
        rintro e w2 ⟨rfl, rfl⟩
        try dsimp only
        refine hK.out _ _ hS (fun _ => ?_)
        clear hK K hS
        try simp only [Act.put, List.setIfInBounds_toArray, List.set_cons_zero, List.set_cons_succ]
        repeat (refine SeqH.take (v := ?_) rfl (by rfl) ?_ ?_; rotate_left; (· intro w hSw; (try dsimp only at hSw); go_simp; (try with_reducible rfl)); simp only [Act.put, List.setIfInBounds_toArray, List.set_cons_zero, List.set_cons_succ])
        refine SeqH.done ?_
        go_wp2
        go_ret
        exact ⟨ret_int HX.out.symm, HW.out.drew.drew⟩
    · obtain rfl : k = 8 := by omega
      obtain ⟨hq, b0, b1, hw⟩ := hg.out
      have HX := Lib.hid (show cmpN n m = 0 by
        have := Wd.eq_of_div_zero (show n / Wd.B ^ 0 = m / Wd.B ^ 0 from hq)
        subst this; unfold cmpN; rw [if_neg (Nat.lt_irrefl _), if_pos rfl])
      clear hq b0 b1 hg
      go_wp2
      go_ret
      exact ⟨ret_int HX.out.symm, hw⟩
end Go.Proofs.Ytccjbefmcifaeaa
