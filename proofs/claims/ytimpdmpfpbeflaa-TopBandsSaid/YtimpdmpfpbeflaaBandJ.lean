/- The reference's two loops over borders: plain. -/
import Derived.Test.YtimpdmpfpbeflaaBandH
namespace Go.Proofs.Ytimpdmpfpbeflaa
namespace Bd
/-- The place at which the border k of the piece comes to lie on the border i of the band. -/
def dif (x p : List R) (i k : Nat) : Int := len (x.take i) - len (p.take k)
def bfr (i k i' k' : Nat) : Prop := i' < i ∨ (i' = i ∧ k' < k)
/-- What the loops have found so far. -/
def FI (x p : List R) (i k : Nat) (best : Int) (found : Bool) : Prop :=
  (found = true → occ x p best ∧ ∀ i' k', i' ≤ x.length → k' ≤ p.length → bfr i k i' k' → occ x p (dif x p i' k') → best ≤ dif x p i' k') ∧
  (found = false → best = 0 ∧ ∀ i' k', i' ≤ x.length → k' ≤ p.length → bfr i k i' k' → ¬ occ x p (dif x p i' k'))
theorem FI.start (x p : List R) : FI x p 0 0 0 false :=
  ⟨fun h => (Bool.noConfusion h), fun _ => ⟨rfl, fun i' k' _ _ h => by unfold bfr at h; omega⟩⟩
theorem FI.row {x p : List R} {i : Nat} {best : Int} {found : Bool} (h : FI x p i (p.length + 1) best found) : FI x p (i + 1) 0 best found := by
  refine ⟨fun hf => ⟨(h.1 hf).1, fun i' k' h1 h2 h3 => (h.1 hf).2 i' k' h1 h2 (by unfold bfr at h3 ⊢; omega)⟩, fun hf => ⟨(h.2 hf).1, fun i' k' h1 h2 h3 => (h.2 hf).2 i' k' h1 h2 (by unfold bfr at h3 ⊢; omega)⟩⟩
theorem FI.hit {x p : List R} {i k : Nat} {best : Int} {found : Bool} (h : FI x p i k best found) (ho : occ x p (dif x p i k)) (hc : found = true → dif x p i k < best) : FI x p i (k + 1) (dif x p i k) true := by
  refine ⟨fun _ => ⟨ho, fun i' k' h1 h2 h3 h4 => ?_⟩, fun hf => (Bool.noConfusion hf)⟩
  by_cases hb : bfr i k i' k'
  · cases hf : found with
    | true =>
      have := (h.1 hf).2 i' k' h1 h2 hb h4
      have := hc hf
      omega
    | false => exact absurd h4 ((h.2 hf).2 i' k' h1 h2 hb)
  · obtain ⟨rfl, rfl⟩ : i' = i ∧ k' = k := by unfold bfr at h3 hb; omega
    exact Int.le_refl _
theorem FI.miss {x p : List R} {i k : Nat} {best : Int} {found : Bool} (h : FI x p i k best found) (hc : occ x p (dif x p i k) → found = true ∧ best ≤ dif x p i k) : FI x p i (k + 1) best found := by
  refine ⟨fun hf => ⟨(h.1 hf).1, fun i' k' h1 h2 h3 h4 => ?_⟩, fun hf => ⟨(h.2 hf).1, fun i' k' h1 h2 h3 h4 => ?_⟩⟩
  · by_cases hb : bfr i k i' k'
    · exact (h.1 hf).2 i' k' h1 h2 hb h4
    · obtain ⟨rfl, rfl⟩ : i' = i ∧ k' = k := by unfold bfr at h3 hb; omega
      exact (hc h4).2
  · by_cases hb : bfr i k i' k'
    · exact (h.2 hf).2 i' k' h1 h2 hb h4
    · obtain ⟨rfl, rfl⟩ : i' = i ∧ k' = k := by unfold bfr at h3 hb; omega
      rw [(hc h4).1] at hf
      cases hf
theorem FI.done {x p : List R} (hn : nrm x) (hq : nrm p) {best : Int} {found : Bool} (h : FI x p (x.length + 1) 0 best found) : (fnd x p).isSome = found ∧ (((fnd x p).getD 0 : Nat) : Int) = best := by
  have hp := nrm_pos hq
  cases hf : fnd x p with
  | none =>
    have hn0 := fnd_none hp hf
    cases found with
    | true => exact absurd (h.1 rfl).1 (hn0 _)
    | false => exact ⟨rfl, (h.2 rfl).1.symm⟩
  | some a =>
    obtain ⟨h1, h2⟩ := fnd_some hp hf
    obtain ⟨i, j, hi, hj, e⟩ := first_border hn hq h1 h2
    cases found with
    | false =>
      refine absurd h1 ?_
      rw [e]
      exact (h.2 rfl).2 i j hi hj (by unfold bfr; omega)
    | true =>
      have h3 := (h.1 rfl).2 i j hi hj (by unfold bfr; omega) (by unfold dif; rw [← e]; exact h1)
      have h4 := h2 _ (h.1 rfl).1
      unfold dif at h3
      refine ⟨rfl, ?_⟩
      show (a : Int) = best
      omega
end Bd
end Go.Proofs.Ytimpdmpfpbeflaa
