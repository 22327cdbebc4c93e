/- Shares as plain numbers: the numerator of a share over the product of what all lots up to that one divide by. -/
import Derived.Test.YtccjbefmcifaeaaLotN
namespace Go.Proofs.Ytccjbefmcifaeaa
namespace Sh
open Lt
/-- What a lot divides shares by. -/
def beI (x : L) : Int := max 1 (takes x.ps)
def be (ls : List L) (i : Nat) : Nat := (beI (ls.getD i default)).toNat
/-- The product of the divisors from a to below b. -/
def pr (f : Nat → Nat) (a : Nat) : Nat → Nat
  | 0 => 1
  | n + 1 => pr f a n * f (a + n)
def D (ls : List L) (n : Nat) : Nat := pr (be ls) 0 n
def sumS (ls : List L) (i : Nat) (S : Nat → Nat) : List P → Nat
  | [] => 0
  | p :: r => S p.l.toNat * p.m.toNat * pr (be ls) (p.l.toNat + 1) (i - (p.l.toNat + 1)) + sumS ls i S r
def SF (ls : List L) (o : Nat → Bool) : Nat → Nat → Nat
  | 0, _ => 0
  | f + 1, i => if o i then D ls (i + 1) else sumS ls i (SF ls o f) (ls.getD i default).ps
def S (ls : List L) (o : Nat → Bool) (i : Nat) : Nat := SF ls o (i + 1) i
/-- A list in which all parts are of earlier lots. -/
def early (ls : List L) : Prop := ∀ i, i < ls.length → ∀ p ∈ (ls.getD i default).ps, 0 ≤ p.l ∧ p.l < (i : Int) ∧ 1 ≤ p.m ∧ p.m ≤ 100000

theorem sumS_congr {ls : List L} {i : Nat} {S T : Nat → Nat} : ∀ {ps : List P}, (∀ p ∈ ps, S p.l.toNat = T p.l.toNat) → sumS ls i S ps = sumS ls i T ps
  | [], _ => rfl
  | p :: r, h => by simp only [sumS]; rw [h p (by simp), sumS_congr (ps := r) fun q hq => h q (by simp [hq])]
theorem SF_any {ls : List L} (h : early ls) (o : Nat → Bool) : ∀ (i : Nat), i < ls.length → ∀ f g, i < f → i < g → SF ls o f i = SF ls o g i := by
  intro i
  induction i using Nat.strongRecOn with
  | ind i ih =>
    intro hi f g hf hg
    match f, g, hf, hg with
    | f + 1, g + 1, hf, hg =>
      simp only [SF]
      split
      · rfl
      · refine sumS_congr fun p hp => ?_
        have := h i hi p hp
        exact ih p.l.toNat (by omega) (by omega) f g (by omega) (by omega)
theorem S_eq {ls : List L} (h : early ls) (o : Nat → Bool) {i : Nat} (hi : i < ls.length) : S ls o i = if o i then D ls (i + 1) else sumS ls i (S ls o) (ls.getD i default).ps := by
  show SF ls o (i + 1) i = _
  simp only [SF]
  split
  · rfl
  · refine sumS_congr fun p hp => ?_
    have := h i hi p hp
    exact SF_any h o p.l.toNat (by omega) i _ (by omega) (by omega)

theorem pr_add (f : Nat → Nat) (a : Nat) : ∀ (n m : Nat), pr f a (n + m) = pr f a n * pr f (a + n) m
  | n, 0 => by simp [pr]
  | n, m + 1 => by
    show pr f a (n + m) * f (a + (n + m)) = pr f a n * (pr f (a + n) m * f (a + n + m))
    rw [pr_add f a n m, Nat.mul_assoc, Nat.add_assoc]
theorem pr_pos {f : Nat → Nat} (h : ∀ i, 0 < f i) (a : Nat) : ∀ n, 0 < pr f a n
  | 0 => by simp [pr]
  | n + 1 => Nat.mul_pos (pr_pos h a n) (h _)
theorem pr_le {f : Nat → Nat} {c : Nat} (h : ∀ i, f i ≤ c) (a : Nat) : ∀ n, pr f a n ≤ c ^ n
  | 0 => by simp [pr]
  | n + 1 => by rw [Nat.pow_succ]; exact Nat.mul_le_mul (pr_le h a n) (h _)
theorem be_pos (ls : List L) (i : Nat) : 0 < be ls i := by unfold be beI; omega
theorem D_succ (ls : List L) (n : Nat) : D ls (n + 1) = D ls n * be ls n := by unfold D; rw [pr, Nat.zero_add]
theorem D_pos (ls : List L) (n : Nat) : 0 < D ls n := pr_pos (be_pos ls) 0 n
theorem be_le {ls : List L} (h : ∀ j, j < ls.length → fine (ls.getD j default)) (i : Nat) : be ls i ≤ 600000 := by
  unfold be beI
  by_cases hi : i < ls.length
  · have hf := h i hi
    have := takes_bd hf.2.2
    have := hf.2.1
    omega
  · rw [List.getD_eq_getElem?_getD, List.getElem?_eq_none (by omega)]
    show (max 1 (takes [])).toNat ≤ _
    decide
/-- The divisors' product fits, and more. -/
theorem D_lt {ls : List L} (h : ∀ j, j < ls.length → fine (ls.getD j default)) {n : Nat} (hn : n ≤ 24) : D ls n ≤ 600000 ^ 24 := by
  refine Nat.le_trans (pr_le (be_le h) 0 n) ?_
  exact Nat.pow_le_pow_right (by decide) hn
theorem pr_split (ls : List L) {a i : Nat} (h : a < i) : D ls i = D ls (a + 1) * pr (be ls) (a + 1) (i - (a + 1)) := by
  unfold D
  have := pr_add (be ls) 0 (a + 1) (i - (a + 1))
  rw [Nat.zero_add] at this
  rw [← this]; congr 1; omega
theorem sumS_append (ls : List L) (i : Nat) (S : Nat → Nat) (a b : List P) : sumS ls i S (a ++ b) = sumS ls i S a + sumS ls i S b := by
  induction a with
  | nil => simp [sumS]
  | cons p a ih => simp [sumS, ih]; omega
theorem sumS_succ (ls : List L) (i : Nat) (S : Nat → Nat) {ps : List P} {k : Nat} (h : k < ps.length) :
    sumS ls i S (ps.take (k + 1)) = sumS ls i S (ps.take k) + S ps[k].l.toNat * ps[k].m.toNat * pr (be ls) (ps[k].l.toNat + 1) (i - (ps[k].l.toNat + 1)) := by
  rw [take_P h, sumS_append]; simp [sumS]
/-- No share is above 1. -/
theorem sumS_le {ls : List L} {i : Nat} {T : Nat → Nat} : ∀ {ps : List P}, (∀ p ∈ ps, 0 ≤ p.l ∧ p.l < (i : Int) ∧ 1 ≤ p.m ∧ p.m ≤ 100000) → (∀ p ∈ ps, T p.l.toNat ≤ D ls (p.l.toNat + 1)) → sumS ls i T ps ≤ D ls i * (takes ps).toNat
  | [], _, _ => by simp [sumS]
  | p :: r, h, hT => by
    have h1 := h p (by simp)
    have h2 := hT p (by simp)
    have ih := sumS_le (ps := r) (fun q hq => h q (by simp [hq])) (fun q hq => hT q (by simp [hq]))
    have hb := takes_bd (ps := r) fun q hq => (h q (by simp [hq])).2.2
    have e : (takes (p :: r)).toNat = p.m.toNat + (takes r).toNat := by simp only [takes]; omega
    have hp := pr_split ls (a := p.l.toNat) (i := i) (by omega)
    simp only [sumS]
    rw [e, Nat.mul_add]
    refine Nat.add_le_add ?_ ih
    rw [hp, Nat.mul_assoc, Nat.mul_assoc, Nat.mul_comm p.m.toNat]
    exact Nat.mul_le_mul_right _ h2
theorem S_le {ls : List L} (h : early ls) (o : Nat → Bool) : ∀ i, i < ls.length → S ls o i ≤ D ls (i + 1) := by
  intro i
  induction i using Nat.strongRecOn with
  | ind i ih =>
    intro hi
    rw [S_eq h o hi]
    split
    · exact Nat.le_refl _
    · refine Nat.le_trans (sumS_le (h i hi) fun p hp => ?_) ?_
      · have := h i hi p hp
        exact ih p.l.toNat (by omega) (by omega)
      · rw [D_succ]
        refine Nat.mul_le_mul_left _ ?_
        unfold be beI; omega
end Sh
end Go.Proofs.Ytccjbefmcifaeaa
