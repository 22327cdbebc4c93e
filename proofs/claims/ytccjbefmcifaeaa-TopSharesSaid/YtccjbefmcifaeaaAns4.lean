/- The audit as plain sums, and why it balances. -/
import Derived.Test.YtccjbefmcifaeaaAns3
namespace Go.Proofs.Ytccjbefmcifaeaa
namespace Lt
def recvAll : List L → Int
  | [] => 0
  | x :: r => (if x.ps.length = 0 then x.m else 0) + recvAll r
def lostAll : List L → Int
  | [] => 0
  | x :: r => max 0 (lostI x) + lostAll r
def airAll : List L → Int
  | [] => 0
  | x :: r => max 0 (-(lostI x)) + airAll r
def mAll : List L → Int
  | [] => 0
  | x :: r => x.m + mAll r
def takeAll : List L → Int
  | [] => 0
  | x :: r => takes x.ps + takeAll r
/-- What is left of the first k lots. -/
def leftK (ls : List L) : Nat → Int
  | 0 => 0
  | k + 1 => leftK ls k + left ls k
theorem recvAll_append (a b : List L) : recvAll (a ++ b) = recvAll a + recvAll b := by
  induction a with
  | nil => simp [recvAll]
  | cons x a ih => simp [recvAll, ih]; omega
theorem lostAll_append (a b : List L) : lostAll (a ++ b) = lostAll a + lostAll b := by
  induction a with
  | nil => simp [lostAll]
  | cons x a ih => simp [lostAll, ih]; omega
theorem airAll_append (a b : List L) : airAll (a ++ b) = airAll a + airAll b := by
  induction a with
  | nil => simp [airAll]
  | cons x a ih => simp [airAll, ih]; omega
theorem recvAll_succ {xs : List L} {k : Nat} (h : k < xs.length) : recvAll (xs.take (k + 1)) = recvAll (xs.take k) + (if xs[k].ps.length = 0 then xs[k].m else 0) := by
  rw [take_L h, recvAll_append]; simp [recvAll]
theorem lostAll_succ {xs : List L} {k : Nat} (h : k < xs.length) : lostAll (xs.take (k + 1)) = lostAll (xs.take k) + max 0 (lostI xs[k]) := by
  rw [take_L h, lostAll_append]; simp [lostAll]
theorem airAll_succ {xs : List L} {k : Nat} (h : k < xs.length) : airAll (xs.take (k + 1)) = airAll (xs.take k) + max 0 (-(lostI xs[k])) := by
  rw [take_L h, airAll_append]; simp [airAll]
theorem lostI_bd {x : L} (h : fine x) : -100000 ≤ lostI x ∧ lostI x ≤ 600000 := by
  have h1 := takes_bd h.2.2
  have h2 := h.2.1
  have h3 := h.1
  unfold lostI; split <;> omega
theorem sums_bd : ∀ {xs : List L}, (∀ x ∈ xs, fine x) → (0 ≤ recvAll xs ∧ recvAll xs ≤ xs.length * 600000) ∧ (0 ≤ lostAll xs ∧ lostAll xs ≤ xs.length * 600000) ∧ (0 ≤ airAll xs ∧ airAll xs ≤ xs.length * 600000)
  | [], _ => by simp [recvAll, lostAll, airAll]
  | x :: r, h => by
    have h1 := (h x (by simp)).1
    have h2 := lostI_bd (h x (by simp))
    have ih := sums_bd (xs := r) fun y hy => h y (by simp [hy])
    simp only [recvAll, lostAll, airAll, List.length_cons]
    refine ⟨?_, ?_, ?_⟩
    · split <;> omega
    · omega
    · omega
theorem bal_one {x : L} (h : fine x) : (if x.ps.length = 0 then x.m else 0) + max 0 (-(lostI x)) - max 0 (lostI x) = x.m - takes x.ps := by
  unfold lostI
  by_cases h0 : x.ps.length = 0
  · have : x.ps = [] := List.length_eq_zero_iff.1 h0
    rw [if_pos h0, if_pos h0, this]; simp [takes]
  · rw [if_neg h0, if_neg h0]; omega
theorem bal_sum : ∀ {xs : List L}, (∀ x ∈ xs, fine x) → recvAll xs + airAll xs - lostAll xs = mAll xs - takeAll xs
  | [], _ => rfl
  | x :: r, h => by
    have h1 := bal_one (h x (by simp))
    have ih := bal_sum (xs := r) fun y hy => h y (by simp [hy])
    simp only [recvAll, lostAll, airAll, mAll, takeAll]; omega
/-- The sum over the first k lots of what is taken from each. -/
def usedK (ls : List L) : Nat → Int
  | 0 => 0
  | k + 1 => usedK ls k + used (k : Int) ls
def mK (ls : List L) : Nat → Int
  | 0 => 0
  | k + 1 => mK ls k + (ls.getD k default).m
theorem leftK_eq (ls : List L) : ∀ k, leftK ls k = mK ls k - usedK ls k
  | 0 => rfl
  | k + 1 => by
    have := leftK_eq ls k
    simp only [leftK, mK, usedK, left]; omega
theorem mK_append (a : List L) (x : L) : ∀ {k : Nat}, k ≤ a.length → mK (a ++ [x]) k = mK a k
  | 0, _ => rfl
  | k + 1, h => by
    have ih := mK_append a x (k := k) (by omega)
    simp only [mK, ih]
    congr 2
    simp [List.getElem?_append_left (show k < a.length by omega)]
theorem mK_take (ls : List L) : ∀ k, k ≤ ls.length → mK ls k = mAll (ls.take k)
  | 0, _ => by simp [mK, mAll]
  | k + 1, h => by
    have ih := mK_take ls k (by omega)
    have hm : ∀ (a b : List L), mAll (a ++ b) = mAll a + mAll b := by
      intro a b
      induction a with
      | nil => simp [mAll]
      | cons x a ih => simp [mAll, ih]; omega
    rw [take_L (show k < ls.length by omega), hm]
    simp only [mK, ih, mAll]
    rw [show ls.getD k default = ls[k] by simp [show k < ls.length by omega]]; omega
/-- What is taken from the first k lots, of one list of parts. -/
def usedPK (ps : List P) : Nat → Int
  | 0 => 0
  | k + 1 => usedPK ps k + usedP (k : Int) ps
theorem usedPK_cons (p : P) (r : List P) : ∀ k, usedPK (p :: r) k = (if 0 ≤ p.l ∧ p.l < (k : Int) then p.m else 0) + usedPK r k
  | 0 => by
    have : ¬ (0 ≤ p.l ∧ p.l < ((0 : Nat) : Int)) := by omega
    rw [if_neg this]; simp [usedPK]
  | k + 1 => by
    have ih := usedPK_cons p r k
    simp only [usedPK, usedP]
    rw [ih]
    by_cases e : p.l = (k : Int)
    · rw [if_pos e, if_neg (by omega), if_pos (by omega)]; omega
    · rw [if_neg e]
      by_cases h : 0 ≤ p.l ∧ p.l < (k : Int)
      · rw [if_pos h, if_pos (by omega)]; omega
      · rw [if_neg h, if_neg (by omega)]; omega
theorem usedPK_all {n : Nat} : ∀ {ps : List P}, (∀ p ∈ ps, 0 ≤ p.l ∧ p.l < (n : Int)) → usedPK ps n = takes ps
  | [], _ => by
    have : ∀ k, usedPK [] k = 0 := by intro k; induction k with
      | zero => rfl
      | succ k ih => simp [usedPK, usedP, ih]
    rw [this]; rfl
  | p :: r, h => by
    rw [usedPK_cons, if_pos (h p (by simp)), usedPK_all (ps := r) fun q hq => h q (by simp [hq])]; rfl
theorem usedK_cons (x : L) (r : List L) : ∀ k, usedK (x :: r) k = usedPK x.ps k + usedK r k
  | 0 => rfl
  | k + 1 => by
    have ih := usedK_cons x r k
    simp only [usedK, usedPK, used, ih]; omega
theorem usedK_all {n : Nat} : ∀ {ls : List L}, (∀ x ∈ ls, ∀ p ∈ x.ps, 0 ≤ p.l ∧ p.l < (n : Int)) → usedK ls n = takeAll ls
  | [], _ => by
    have : ∀ k, usedK [] k = 0 := by intro k; induction k with
      | zero => rfl
      | succ k ih => simp [usedK, used, ih]
    rw [this]; rfl
  | x :: r, h => by
    rw [usedK_cons, usedPK_all (h x (by simp)), usedK_all (ls := r) fun y hy => h y (by simp [hy])]; rfl
/-- Received and taken from the air is left and lost. -/
theorem balance {ls : List L} (h : ∀ j, j < ls.length → errAt ls j = 0) : recvAll ls + airAll ls = leftK ls ls.length + lostAll ls := by
  have hf : ∀ x ∈ ls, fine x := by
    intro x hx
    obtain ⟨j, hj, rfl⟩ := List.getElem_of_mem hx
    have := fine_of (h j hj)
    simpa [hj] using this
  have hp : ∀ x ∈ ls, ∀ p ∈ x.ps, 0 ≤ p.l ∧ p.l < (ls.length : Int) := by
    intro x hx p hp
    obtain ⟨j, hj, rfl⟩ := List.getElem_of_mem hx
    obtain ⟨_, _, h3, _⟩ := errAt_parts (h j hj)
    rw [show ls.getD j default = ls[j] by simp [hj]] at h3
    have := okPs_mem h3 p hp
    omega
  have h1 := bal_sum hf
  have h2 := leftK_eq ls ls.length
  have h3 := mK_take ls ls.length (Nat.le_refl _)
  rw [List.take_length] at h3
  have h4 := usedK_all hp
  omega
end Lt
end Go.Proofs.Ytccjbefmcifaeaa
