/- Where a piece occurs in a band: plain. -/
import Derived.Test.YtimpdmpfpbeflaaBand23
namespace Go.Proofs.Ytimpdmpfpbeflaa
namespace Bd
/-- The piece p lies in the band x from the place a on. -/
def occ (x p : List R) (a : Int) : Prop := 0 ≤ a ∧ a + len p ≤ len x ∧ ((exp x).take (a + len p).toNat).drop a.toNat = exp p
theorem nrm_snoc {a : List R} {r : R} : nrm (a ++ [r]) ↔ nrm a ∧ 0 < r.l ∧ ∀ q, a.getLast? = some q → q.m ≠ r.m := by
  rw [nrm_append]
  constructor
  · rintro ⟨h1, h2, h3⟩
    exact ⟨h1, h2.1, fun q hq => h3 q r hq rfl⟩
  · rintro ⟨h1, h2, h3⟩
    refine ⟨h1, ⟨h2, fun q hq => by simp at hq, trivial⟩, fun p q hp hq => ?_⟩
    simp at hq; subst hq; exact h3 p hp
/-- The last run of a cut up to the run k, if the cut goes on into the run k. -/
theorem cut_last {x : List R} (hf : fine x) {fr to : Int} : ∀ k, k ≤ x.length → cutS fr to (upto x k) ≠ [] → fr < len (x.take k)
  | 0, _, h => by simp [upto, cutS] at h
  | k + 1, hk, h => by
    have hs := len_take_succ (b := x) (k := k) (by omega)
    have hp := hf.2.1 x[k] (List.getElem_mem (by omega))
    by_cases h1 : cutS fr to (upto x k) = []
    · rw [upto_succ, cutS_snoc, h1, List.nil_append, spk_eq hf (by omega)] at h
      unfold cutSp at h
      split at h
      · rename_i h2
        dsimp only at h2
        omega
      · exact absurd rfl h
    · have := cut_last hf k (by omega) h1
      omega
theorem nrm_cut {x : List R} (hf : fine x) (hn : nrm x) {fr to : Int} : ∀ k, k ≤ x.length → nrm (cutS fr to (upto x k))
  | 0, _ => by simp [upto, cutS, nrm]
  | k + 1, hk => by
    have ih := nrm_cut hf hn (fr := fr) (to := to) k (by omega)
    rw [upto_succ, cutS_snoc, spk_eq hf (by omega)]
    unfold cutSp
    split
    · rename_i h
      dsimp only at h ⊢
      refine nrm_snoc.2 ⟨ih, h, fun q hq => ?_⟩
      cases k with
      | zero => simp [upto, cutS] at hq
      | succ j =>
        have hl := cut_last hf (fr := fr) (to := to) (j + 1) (by omega) (fun e => by rw [e] at hq; simp at hq)
        have hs := len_take_succ (b := x) (k := j) (by omega)
        have hp := hf.2.1 x[j] (List.getElem_mem (by omega))
        rw [upto_succ, cutS_snoc, spk_eq hf (by omega)] at hq
        unfold cutSp at hq
        rw [if_pos (by dsimp only; omega)] at hq
        simp at hq
        subst hq
        have hx : x = x.take (j + 1) ++ x.drop (j + 1) := (List.take_append_drop _ _).symm
        rw [hx] at hn
        refine (nrm_append.1 hn).2.2 x[j] x[j + 1] ?_ ?_
        · rw [List.take_succ_eq_append_getElem (show j < x.length by omega), List.getLast?_concat]
        · rw [List.head?_drop, List.getElem?_eq_getElem (by omega)]
    · rw [List.append_nil]; exact ih
theorem nrm_cutL {x : List R} (hf : fine x) (hn : nrm x) (fr to : Int) : nrm (cutL x fr to) := nrm_cut hf hn _ (Nat.le_refl _)
/-- What the program asks of a place is whether the piece lies there. -/
theorem cut_occ {x p : List R} (hf : fine x) (hn : nrm x) (hp : nrm p) (h0 : p ≠ []) {a : Int} (ha : 0 ≤ a) : cutL x a (a + len p) = p ↔ occ x p a := by
  have he := exp_cutL hf (fr := a) (to := a + len p) ha
  have lx := len_exp hf.2.1
  have lp := len_exp (nrm_pos hp)
  constructor
  · intro h
    rw [h] at he
    refine ⟨ha, ?_, he.symm⟩
    have h1 := congrArg List.length he
    rw [List.length_drop, List.length_take] at h1
    have h2 : 0 < len p := by
      cases p with
      | nil => exact absurd rfl h0
      | cons r b =>
        have := len_nonneg (nrm_pos hp.2.2)
        have := hp.1
        simp only [len]; omega
    omega
  · rintro ⟨_, _, h⟩
    exact nrm_unique (nrm_cutL hf hn _ _) hp (he.trans h)
/-- What the reference asks of a place is whether the piece lies there. -/
theorem norm_cut_occ {x p : List R} (hf : fine x) (hn : nrm x) (hp : nrm p) {a : Int} (ha : 0 ≤ a) (hl : a + len p ≤ len x) : norm (cutL x a (a + len p)) = p ↔ occ x p a := by
  have he := exp_cutL hf (fr := a) (to := a + len p) ha
  rw [norm_of_nrm (nrm_cutL hf hn _ _)]
  constructor
  · intro h
    rw [h] at he
    exact ⟨ha, hl, he.symm⟩
  · rintro ⟨_, _, h⟩
    exact nrm_unique (nrm_cutL hf hn _ _) hp (he.trans h)
end Bd
end Go.Proofs.Ytimpdmpfpbeflaa
