/- Books, plain: cutting a text at blanks and at a line feed. -/
import Derived.Test.YtcljpklgpedolaaGreatDoorBkN
namespace Go.Proofs.YtcljpklgpedolaaGreatDoor
namespace Bk
open Go.Lib

/-- Up to the first blank. -/
def bef : List UInt8 → List UInt8
  | [] => []
  | c :: r => if c = 32 then [] else c :: bef r
theorem bef_aft : ∀ {k : List UInt8}, (32 : UInt8) ∈ k → k = bef k ++ 32 :: aft k
  | [], h => by simp at h
  | c :: r, h => by
    rw [bef, aft]
    split
    · rename_i e; subst e; rfl
    · rename_i e
      rcases List.mem_cons.1 h with e2 | e2
      · exact absurd e2.symm e
      · rw [List.cons_append, ← bef_aft e2]
theorem bef_not : ∀ k : List UInt8, (32 : UInt8) ∉ bef k
  | [] => by simp [bef]
  | c :: r => by
    rw [bef]
    split
    · simp
    · rename_i h
      intro hm
      rcases List.mem_cons.1 hm with e | e
      · exact h e.symm
      · exact bef_not r e
theorem aft_lt {k : List UInt8} (h : (32 : UInt8) ∈ k) : (bef k).length + 1 + (aft k).length = k.length := by
  have := congrArg List.length (bef_aft h)
  rw [List.length_append, List.length_cons] at this
  omega
/-- The pieces at the first m blanks. -/
def pcs : Nat → List UInt8 → List (List UInt8)
  | 0, l => [l]
  | m + 1, l => if (32 : UInt8) ∈ l then bef l :: pcs m (aft l) else [l]
theorem pcs_more : ∀ (m q : Nat) (l : List UInt8), l.length ≤ m → l.length ≤ q → pcs m l = pcs q l
  | 0, 0, _, _, _ => rfl
  | 0, q + 1, l, h, _ => by
    have : l = [] := List.length_eq_zero_iff.1 (by omega)
    subst this; rfl
  | m + 1, 0, l, _, h => by
    have : l = [] := List.length_eq_zero_iff.1 (by omega)
    subst this; rfl
  | m + 1, q + 1, l, h1, h2 => by
    rw [pcs, pcs]
    split
    · rename_i h
      have := aft_lt h
      rw [pcs_more m q (aft l) (by omega) (by omega)]
    · rfl
theorem splitK_pcs : ∀ (m : Nat) (l : List UInt8), splitK [32] 0 m l = pcs m l
  | 0, _ => rfl
  | m + 1, l => by
    rw [splitK, pcs]
    by_cases h : (32 : UInt8) ∈ l
    · have e := bef_aft h
      have hi : index l [32] = ((bef l).length : Int) := by
        conv => lhs; rw [e]
        exact Tx.index_here 32 (aft l) (bef l) (bef_not l)
      rw [hi, if_pos h, if_neg (by simp)]
      have h1 : l.take ((((bef l).length : Int)).toNat + 0) = bef l := by
        rw [Int.toNat_natCast, Nat.add_zero]
        exact (congrArg (List.take (bef l).length) e).trans (List.take_left' rfl)
      have h2 : l.drop ((((bef l).length : Int)).toNat + [(32 : UInt8)].length) = aft l := by
        rw [Int.toNat_natCast]
        refine (congrArg (List.drop _) e).trans ?_
        rw [show bef l ++ 32 :: aft l = (bef l ++ [32]) ++ aft l by simp, List.drop_left' (by simp)]
      rw [h1, h2, splitK_pcs m]
    · rw [Tx.index_not 32 l h, if_neg h]; rfl
theorem splitN_pcs (l : List UInt8) (m : Nat) : splitK [32] 0 (min (m + 1) (l.length + 1) - 1) l = pcs m l := by
  rw [splitK_pcs]
  by_cases h : m ≤ l.length
  · rw [show min (m + 1) (l.length + 1) - 1 = m by omega]
  · rw [show min (m + 1) (l.length + 1) - 1 = l.length by omega]
    exact pcs_more _ _ _ (Nat.le_refl _) (by omega)
theorem pcs_len : ∀ (m : Nat) (l : List UInt8), 1 ≤ (pcs m l).length ∧ (pcs m l).length ≤ m + 1
  | 0, _ => ⟨Nat.le_refl _, Nat.le_refl _⟩
  | m + 1, l => by
    have := pcs_len m (aft l)
    rw [pcs]
    split
    · rw [List.length_cons]; omega
    · simp
theorem pcs_two (l : List UInt8) : ((pcs 2 l).length = 3 ∧ (pcs 2 l)[2]? = some (thd l)) ∨ ((pcs 2 l).length < 3 ∧ thd l = []) := by
  unfold thd
  rw [pcs]
  by_cases h : (32 : UInt8) ∈ l
  · rw [if_pos h, pcs]
    by_cases h2 : (32 : UInt8) ∈ aft l
    · rw [if_pos h2]; left; exact ⟨rfl, rfl⟩
    · rw [if_neg h2, aft_none h2]; right; exact ⟨by simp, rfl⟩
  · rw [if_neg h, aft_none h]; right; exact ⟨by simp, rfl⟩
theorem pcs_three (l : List UInt8) : (pcs 3 l = [bef l, bef (aft l), bef (thd l), aft (thd l)] ∧ (32 : UInt8) ∈ l ∧ (32 : UInt8) ∈ aft l ∧ (32 : UInt8) ∈ thd l) ∨ ((pcs 3 l).length < 4 ∧ (32 : UInt8) ∉ thd l) := by
  unfold thd
  rw [pcs]
  by_cases h : (32 : UInt8) ∈ l
  · rw [if_pos h, pcs]
    by_cases h2 : (32 : UInt8) ∈ aft l
    · rw [if_pos h2, pcs]
      by_cases h3 : (32 : UInt8) ∈ aft (aft l)
      · rw [if_pos h3]; exact .inl ⟨rfl, h, h2, h3⟩
      · rw [if_neg h3]; exact .inr ⟨by simp, h3⟩
    · rw [if_neg h2, aft_none h2]; exact .inr ⟨by simp, by simp⟩
  · rw [if_neg h, aft_none h]; exact .inr ⟨by simp, by simp [aft]⟩
/-- Cutting at the first line feed. -/
theorem cut_lin (k : List UInt8) : cut k [10] = (lin k, rst k, decide ((10 : UInt8) ∈ k)) := by
  by_cases h : (10 : UInt8) ∈ k
  · have e := lin_rst h
    have : cut k [10] = (lin k, rst k, true) := by
      conv => lhs; rw [e]
      exact Tx.cut_here 10 _ _ (lin_not k)
    rw [this]; simp [h]
  · obtain ⟨h1, h2⟩ := lin_none h
    rw [Tx.cut_not 10 k h, h1, h2]; simp [h]
end Bk
end Go.Proofs.YtcljpklgpedolaaGreatDoor
