/- The answer of Find: plain. -/
import Derived.Test.YtimpdmpfpbeflaaBandG
import Derived.Test.YtimpdmpfpbeflaaBandA
namespace Go.Proofs.Ytimpdmpfpbeflaa
namespace Bd
instance (x p : List R) (a : Int) : Decidable (occ x p a) := inferInstanceAs (Decidable (_ ∧ _ ∧ _))
/-- The first place at which the piece p lies in the band x. -/
def fnd (x p : List R) : Option Nat := (List.range ((len x).toNat + 1)).find? fun a => decide (occ x p a)
theorem occ_range {x p : List R} (hp : pos p) {b : Int} (h : occ x p b) : b.toNat ∈ List.range ((len x).toNat + 1) ∧ ((b.toNat : Nat) : Int) = b := by
  have := len_nonneg hp
  obtain ⟨h1, h2, _⟩ := h
  exact ⟨List.mem_range.2 (by omega), by omega⟩
theorem range_find {n : Nat} {f : Nat → Bool} {a : Nat} (h : (List.range n).find? f = some a) : f a = true ∧ ∀ b, b < a → f b = false := by
  have h1 := List.find?_some h
  refine ⟨h1, fun b hb => ?_⟩
  induction n with
  | zero => simp at h
  | succ n ih =>
    rw [List.range_succ, List.find?_append] at h
    cases hf : (List.range n).find? f with
    | some c => rw [hf] at h; simp at h; subst h; exact ih hf
    | none =>
      rw [hf] at h
      simp at h
      obtain ⟨_, rfl⟩ := h
      have := List.find?_eq_none.1 hf b (List.mem_range.2 hb)
      simpa using this
theorem fnd_some {x p : List R} (hp : pos p) {a : Nat} (h : fnd x p = some a) : occ x p a ∧ ∀ b, occ x p b → (a : Int) ≤ b := by
  obtain ⟨h1, h2⟩ := range_find h
  refine ⟨of_decide_eq_true h1, fun b hb => ?_⟩
  obtain ⟨e1, e2⟩ := occ_range hp hb
  apply Decidable.byContradiction
  intro hc
  have := h2 b.toNat (by omega)
  rw [e2] at this
  exact of_decide_eq_false this hb
theorem fnd_none {x p : List R} (hp : pos p) (h : fnd x p = none) (b : Int) : ¬ occ x p b := by
  intro hb
  obtain ⟨e1, e2⟩ := occ_range hp hb
  have := List.find?_eq_none.1 h b.toNat e1
  rw [e2] at this
  exact this (by simpa using hb)
/-- Whether, and where, a piece is found; with which error. -/
def finB (rs qs : List R) : Bool := if bothE rs qs = 0 then (fnd (norm rs) (norm qs)).isSome else false
def finV (rs qs : List R) : Int := if bothE rs qs = 0 then ((fnd (norm rs) (norm qs)).getD 0 : Nat) else 0
/-- The program's loop comes to the first place, and to none if there is none. -/
theorem asked_hit {x p : List R} (hn : nrm x) (hq : nrm p) (h0 : p ≠ []) {k : Nat} (hk : k < x.length) (hb : ∀ j, j < k → ¬ (len (x.take j) ≤ plcF x p j ∧ occ x p (plcF x p j))) (ho : occ x p (plcF x p k)) : fnd x p = some (plcF x p k).toNat := by
  have hp := nrm_pos hq
  cases hf : fnd x p with
  | none => exact absurd ho (fnd_none hp hf _)
  | some a =>
    obtain ⟨h1, h2⟩ := fnd_some hp hf
    obtain ⟨j, hj, e, hle⟩ := first_asked hn hq h0 h1 h2
    have h3 := h2 _ ho
    have hjk : ¬ j < k := fun hc => hb j hc ⟨by rw [← e]; exact hle, by rw [← e]; exact h1⟩
    have h4 := plcF_mono (p := p) (nrm_pos hn) (j := k) (k := j) (by omega) hj
    congr 1
    omega
theorem asked_none {x p : List R} (hn : nrm x) (hq : nrm p) (h0 : p ≠ []) (hb : ∀ j, j < x.length → ¬ (len (x.take j) ≤ plcF x p j ∧ occ x p (plcF x p j))) : fnd x p = none := by
  cases hf : fnd x p with
  | none => rfl
  | some a =>
    obtain ⟨h1, h2⟩ := fnd_some (nrm_pos hq) hf
    obtain ⟨j, hj, e, hle⟩ := first_asked hn hq h0 h1 h2
    exact absurd ⟨by rw [← e]; exact hle, by rw [← e]; exact h1⟩ (hb j hj)
/-- An empty piece is found at the place 0. -/
theorem fnd_nil {x : List R} (hx : pos x) : fnd x [] = some 0 := by
  have ho : occ x [] 0 := (occ_iff hx pos_nil).2 ⟨Int.le_refl _, by simp only [len]; have := len_nonneg hx; omega, fun i hi => by simp only [len] at hi; omega⟩
  cases hf : fnd x [] with
  | none => exact absurd ho (fnd_none pos_nil hf _)
  | some a =>
    have := (fnd_some pos_nil hf).2 0 ho
    congr 1
    omega
/-- The first place is a difference of two borders. -/
theorem first_border {x p : List R} (hn : nrm x) (hq : nrm p) {a : Int} (ho : occ x p a) (hm : ∀ b, occ x p b → a ≤ b) : ∃ i j, i ≤ x.length ∧ j ≤ p.length ∧ a = len (x.take i) - len (p.take j) := by
  by_cases h0 : p = []
  · subst h0
    have hx := nrm_pos hn
    have h1 := hm 0 ((occ_iff hx pos_nil).2 ⟨Int.le_refl _, by simp only [len]; have := len_nonneg hx; omega, fun i hi => by simp only [len] at hi; omega⟩)
    exact ⟨0, 0, Nat.zero_le _, Nat.zero_le _, by have := ho.1; simp [len]; omega⟩
  · obtain ⟨k, hk, e, _⟩ := first_asked hn hq h0 ho hm
    unfold plcF at e
    split at e
    · exact ⟨k, 0, by omega, Nat.zero_le _, by simp [len]; omega⟩
    · rename_i h1
      refine ⟨k + 1, 1, by omega, by omega, ?_⟩
      cases p with
      | nil => exact absurd rfl h0
      | cons r b => simp only [List.getD_cons_zero] at e; rw [e]; simp [len]
end Bd
end Go.Proofs.Ytimpdmpfpbeflaa
