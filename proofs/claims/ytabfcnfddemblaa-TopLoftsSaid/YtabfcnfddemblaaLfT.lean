/- The first heats of the fewest days are valid and have a warmth within the bounds. -/
import Derived.Test.YtabfcnfddemblaaLfR
namespace Go.Proofs.Ytabfcnfddemblaa
namespace Lf

def chn (b : Int) : List Int → Prop
  | [] => True
  | x :: xs => stp b x = true ∧ chn x xs
def lstB (b : Int) (l : List Int) : Nat → Int
  | 0 => b
  | k + 1 => l.getD k 0
theorem chn_at : ∀ (l : List Int) (b : Int), chn b l → ∀ k, k < l.length → stp (lstB b l k) (l.getD k 0) = true
  | x :: xs, b, h, 0, _ => h.1
  | x :: xs, b, h, k + 1, hk => by
    have := chn_at xs x h.2 k (by simpa using hk)
    cases k with
    | zero => simpa [lstB] using this
    | succ k => simpa [lstB] using this
def sumL (rs : List Int) : List Int → Int
  | [] => 0
  | x :: xs => rs.getD x.toNat 0 + sumL rs xs
theorem wm_cons (rs : List Int) (x : Int) (xs : List Int) : ∀ k, wm rs (x :: xs) (k + 1) = rs.getD x.toNat 0 + wm rs xs k
  | 0 => by simp [wm]
  | k + 1 => by
    rw [wm, wm_cons rs x xs k, wm]
    simp only [List.getD_cons_succ]
    omega
theorem wm_sum (rs : List Int) : ∀ l : List Int, wm rs l l.length = sumL rs l
  | [] => rfl
  | x :: xs => by rw [List.length_cons, wm_cons, wm_sum rs xs, sumL]
theorem frs_ok {rs : List Int} (hr : ∀ k, k < 5 → 0 ≤ rs.getD k 0 ∧ rs.getD k 0 ≤ 9) : ∀ (n b : Nat) (lo hi : Int), hi ≤ 60 → aft rs n b lo hi = true → chn (b : Int) (frs rs n b lo hi) ∧ lo ≤ sumL rs (frs rs n b lo hi) ∧ sumL rs (frs rs n b lo hi) ≤ hi
  | 0, b, lo, hi, _, h => by
    obtain ⟨s, _, h1, h2, h3⟩ := aft_iff.1 h
    have h4 : s = 0 := of_decide_eq_true h3
    subst h4
    exact ⟨trivial, h1, h2⟩
  | n + 1, b, lo, hi, hh, h => by
    have hc := fg_can hh h
    have ih := frs_ok hr n (fg rs n b lo hi) (lo - rt rs (fg rs n b lo hi)) (hi - rt rs (fg rs n b lo hi)) (by omega) hc.1
    rw [frs]
    generalize fg rs n b lo hi = g at *
    have h1 := nr_iff.1 hc.2.1
    have h2 := hr g hc.2.2
    have h3 : rs.getD ((g : Int)).toNat 0 = (rt rs g : Int) := by
      show rs.getD g 0 = _
      unfold rt; omega
    refine ⟨⟨stp_iff.2 (by omega), ih.1⟩, ?_, ?_⟩
    · rw [sumL, h3]; omega
    · rw [sumL, h3]; omega
theorem prg_ok {p : Int} {rs : List Int} {n m : Int} (hF : okF ⟨p, rs⟩ = true) (hm : isRp n m = true) (hd : 0 < dN rs n m) : vHt (prg rs n m) = true ∧ n ≤ wm rs (prg rs n m) (prg rs n m).length ∧ wm rs (prg rs n m) (prg rs n m).length ≤ m := by
  obtain ⟨_, ⟨_, m2⟩⟩ := isRp_iff.1 hm
  have h1 := fdd_le (c := fun d => aft rs d 0 n m) 12 1
  have h2 : aft rs (dN rs n m) 0 n m = true := by
    rcases h1 with h | ⟨_, _, h⟩
    · unfold dN at hd; omega
    · exact h
  have h3 := frs_ok (okRt_bd (okF_iff.1 hF).2.2) (dN rs n m) 0 n m m2 h2
  have h4 := prg_len rs n m
  have h5 := dN_le rs n m
  refine ⟨vHt_iff.2 ⟨⟨by omega, by omega⟩, fun k hk => ?_⟩, ?_, ?_⟩
  · have := chn_at _ _ h3.1 k hk
    unfold okHt
    cases k with
    | zero => exact this
    | succ k => exact this
  · rw [wm_sum]; exact h3.2.1
  · rw [wm_sum]; exact h3.2.2
theorem pB_ok {p : Int} {rs : List Int} {n m : Int} (h : pB ⟨p, rs⟩ n m = true) : wE ⟨p, rs⟩ (pR ⟨p, rs⟩ n m) = 0 ∧ n ≤ wR ⟨p, rs⟩ (pR ⟨p, rs⟩ n m) ∧ wR ⟨p, rs⟩ (pR ⟨p, rs⟩ n m) ≤ m := by
  unfold pB at h
  rw [Bool.and_eq_true, decide_eq_true_eq, decide_eq_true_eq] at h
  obtain ⟨h1, h2⟩ := h
  have hz : valF [(⟨p, rs⟩ : F)] = 0 ∧ isRp n m = true := by
    unfold pE at h1
    by_cases c : valF [(⟨p, rs⟩ : F)] = 0
    · rw [if_pos c] at h1
      by_cases c2 : isRp n m = true
      · exact ⟨c, c2⟩
      · rw [if_neg c2] at h1; omega
    · rw [if_neg c] at h1; omega
  have hp : pR ⟨p, rs⟩ n m = prg rs n m := by unfold pR; rw [if_pos h1]
  rw [hp]
  have h3 := prg_ok (valF_one.1 hz.1) hz.2 h2
  have hw : wE ⟨p, rs⟩ (prg rs n m) = 0 := by unfold wE; rw [if_pos hz.1, if_pos h3.1]
  refine ⟨hw, ?_, ?_⟩
  · unfold wR; rw [if_pos hw]; exact h3.2.1
  · unfold wR; rw [if_pos hw]; exact h3.2.2
theorem pR_len (f : F) (n m : Int) : (pR f n m).length ≤ 12 := by
  unfold pR
  split
  · rw [prg_len]; exact dN_le _ _ _
  · simp
end Lf
end Go.Proofs.Ytabfcnfddemblaa
