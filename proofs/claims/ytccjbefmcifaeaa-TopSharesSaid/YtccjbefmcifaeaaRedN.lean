/- A fraction of which the denominator is a product is reduced factor by factor. -/
import Derived.Test.YtccjbefmcifaeaaNum
namespace Go.Proofs.Ytccjbefmcifaeaa
namespace Rd
def A (s : Nat) (f : Nat → Nat) : Nat → Nat
  | 0 => s
  | j + 1 => A s f j / Nat.gcd (A s f j) (f j)
def Bl (s : Nat) (f : Nat → Nat) : Nat → Nat
  | 0 => 1
  | j + 1 => Bl s f j * (f j / Nat.gcd (A s f j) (f j))
def pr0 (f : Nat → Nat) : Nat → Nat
  | 0 => 1
  | j + 1 => pr0 f j * f j
theorem A_le (s : Nat) (f : Nat → Nat) : ∀ j, A s f j ≤ s
  | 0 => Nat.le_refl _
  | j + 1 => Nat.le_trans (Nat.div_le_self _ _) (A_le s f j)
theorem g_pos {f : Nat → Nat} (h : ∀ i, 0 < f i) (a j : Nat) : 0 < Nat.gcd a (f j) := Nat.gcd_pos_of_pos_right _ (h j)
theorem Bl_pos {f : Nat → Nat} (h : ∀ i, 0 < f i) (s : Nat) : ∀ j, 0 < Bl s f j
  | 0 => Nat.one_pos
  | j + 1 => Nat.mul_pos (Bl_pos h s j) (Nat.div_pos (Nat.le_of_dvd (h j) (Nat.gcd_dvd_right _ _)) (g_pos h _ _))
theorem cross {f : Nat → Nat} (h : ∀ i, 0 < f i) (s : Nat) : ∀ j, A s f j * pr0 f j = s * Bl s f j
  | 0 => rfl
  | j + 1 => by
    have ih := cross h s j
    have h1 : A s f j / Nat.gcd (A s f j) (f j) * Nat.gcd (A s f j) (f j) = A s f j := Nat.div_mul_cancel (Nat.gcd_dvd_left _ _)
    have h2 : f j / Nat.gcd (A s f j) (f j) * Nat.gcd (A s f j) (f j) = f j := Nat.div_mul_cancel (Nat.gcd_dvd_right _ _)
    show A s f j / Nat.gcd (A s f j) (f j) * (pr0 f j * f j) = s * (Bl s f j * (f j / Nat.gcd (A s f j) (f j)))
    generalize hg : Nat.gcd (A s f j) (f j) = g at *
    generalize A s f j / g = x at *
    generalize f j / g = y at *
    rw [← h2, ← Nat.mul_assoc s, ← ih, ← h1]
    simp only [Nat.mul_assoc, Nat.mul_comm, Nat.mul_left_comm]
theorem cop {f : Nat → Nat} (h : ∀ i, 0 < f i) (s : Nat) : ∀ j, Nat.gcd (A s f j) (Bl s f j) = 1
  | 0 => Nat.gcd_one_right _
  | j + 1 => by
    have ih := cop h s j
    have hg := g_pos h (A s f j) j
    have h1 : Nat.gcd (A s f j / Nat.gcd (A s f j) (f j)) (f j / Nat.gcd (A s f j) (f j)) = 1 := Nat.gcd_div_gcd_div_gcd_of_pos_right (h j)
    have h2 : Nat.gcd (A s f j / Nat.gcd (A s f j) (f j)) (Bl s f j) = 1 := Nat.Coprime.coprime_dvd_left (Nat.div_dvd_of_dvd (Nat.gcd_dvd_left _ _)) ih
    exact Nat.Coprime.mul_right h2 h1
theorem Bl_dvd (s : Nat) (f : Nat → Nat) (j : Nat) : ∀ n, Bl s f j ∣ Bl s f (j + n)
  | 0 => Nat.dvd_refl _
  | n + 1 => Nat.dvd_trans (Bl_dvd s f j n) (Nat.dvd_mul_right _ _)
theorem Bl_mono {f : Nat → Nat} (h : ∀ i, 0 < f i) (s : Nat) {j n : Nat} (hj : j ≤ n) : Bl s f j ≤ Bl s f n := by
  obtain ⟨m, rfl⟩ : ∃ m, n = j + m := ⟨n - j, by omega⟩
  exact Nat.le_of_dvd (Bl_pos h s _) (Bl_dvd s f j m)
theorem pr0_pos {f : Nat → Nat} (h : ∀ i, 0 < f i) : ∀ j, 0 < pr0 f j
  | 0 => Nat.one_pos
  | j + 1 => Nat.mul_pos (pr0_pos h j) (h j)
/-- The reduced parts. -/
theorem parts {a b s d : Nat} (hd : 0 < d) (hb : 0 < b) (hc : Nat.gcd a b = 1) (h : a * d = s * b) : a = s / Nat.gcd s d ∧ b = d / Nat.gcd s d := by
  have hg : 0 < Nat.gcd s d := Nat.gcd_pos_of_pos_right _ hd
  obtain ⟨u, hu⟩ := Nat.gcd_dvd_left s d
  obtain ⟨v, hv⟩ := Nat.gcd_dvd_right s d
  have hcop : Nat.gcd u v = 1 := by
    have := Nat.gcd_div_gcd_div_gcd_of_pos_right (n := s) hd
    rw [Nat.div_eq_of_eq_mul_right hg hu, Nat.div_eq_of_eq_mul_right hg hv] at this
    exact this
  rw [Nat.div_eq_of_eq_mul_right hg hu, Nat.div_eq_of_eq_mul_right hg hv]
  generalize Nat.gcd s d = g at *
  have e : a * v = u * b := by
    have : g * (a * v) = g * (u * b) := by
      calc g * (a * v) = a * (g * v) := by rw [Nat.mul_left_comm]
        _ = a * d := by rw [← hv]
        _ = s * b := h
        _ = g * u * b := by rw [← hu]
        _ = g * (u * b) := by rw [Nat.mul_assoc]
    exact Nat.eq_of_mul_eq_mul_left hg this
  have d1 : a ∣ u := Nat.Coprime.dvd_of_dvd_mul_right hc ⟨v, e.symm⟩
  have d2 : u ∣ a := Nat.Coprime.dvd_of_dvd_mul_right hcop ⟨b, e⟩
  have d3 : b ∣ v := Nat.Coprime.dvd_of_dvd_mul_left (k := b) (m := a) ((Nat.gcd_comm b a).trans hc) ⟨u, by rw [e, Nat.mul_comm]⟩
  have d4 : v ∣ b := Nat.Coprime.dvd_of_dvd_mul_left (k := v) (m := u) ((Nat.gcd_comm v u).trans hcop) ⟨a, by rw [← e, Nat.mul_comm]⟩
  exact ⟨Nat.dvd_antisymm d1 d2, Nat.dvd_antisymm d3 d4⟩
/-- The answer of the program and of the reference. -/
def rN (s d : Nat) : Int := if d / Nat.gcd s d ≤ 1048576 then (s / Nat.gcd s d : Nat) else 0
def rD (s d : Nat) : Int := if d / Nat.gcd s d ≤ 1048576 then (d / Nat.gcd s d : Nat) else 0
def rE (s d : Nat) : Int := if d / Nat.gcd s d ≤ 1048576 then 0 else 4
theorem fin {f : Nat → Nat} (h : ∀ i, 0 < f i) (s n : Nat) : A s f n = s / Nat.gcd s (pr0 f n) ∧ Bl s f n = pr0 f n / Nat.gcd s (pr0 f n) :=
  parts (pr0_pos h n) (Bl_pos h s n) (cop h s n) (cross h s n)
theorem large {f : Nat → Nat} (h : ∀ i, 0 < f i) {s n j : Nat} (hj : j ≤ n) (hb : 1048576 < Bl s f j) : rN s (pr0 f n) = 0 ∧ rD s (pr0 f n) = 0 ∧ rE s (pr0 f n) = 4 := by
  have h1 := Bl_mono h s hj
  have h2 := (fin h s n).2
  have h3 : ¬ pr0 f n / Nat.gcd s (pr0 f n) ≤ 1048576 := by omega
  unfold rN rD rE
  rw [if_neg h3, if_neg h3, if_neg h3]; exact ⟨rfl, rfl, rfl⟩
theorem fits {f : Nat → Nat} (h : ∀ i, 0 < f i) {s n : Nat} (hb : Bl s f n ≤ 1048576) : rN s (pr0 f n) = A s f n ∧ rD s (pr0 f n) = Bl s f n ∧ rE s (pr0 f n) = 0 := by
  obtain ⟨h1, h2⟩ := fin h s n
  rw [h2] at hb
  unfold rN rD rE
  rw [if_pos hb, if_pos hb, if_pos hb, h1, h2]; exact ⟨rfl, rfl, rfl⟩
/-- What is made of parts without a common divisor. -/
theorem made {a b : Nat} (hc : Nat.gcd a b = 1) (h0 : 0 < b) (ha : a ≤ 1099511627776) (hb : b ≤ 1048576) : Fr.nu a b = a ∧ Fr.de a b = b ∧ Fr.er a b = 0 := by
  have hd : (b : Int) ≠ 0 := by omega
  have e1 : Fr.up a b = a := by simp [Fr.up, hc]
  have e2 : Fr.dn a b = b := by simp [Fr.dn, hc]
  have e0 : Fr.er a b = 0 := by unfold Fr.er; rw [if_neg hd, if_pos ⟨by rw [e1]; exact ha, by rw [e2]; exact hb⟩]
  refine ⟨?_, ?_, e0⟩
  · rw [Fr.nu_ok e0]; unfold Fr.sg; rw [e1, if_pos]; omega
  · rw [Fr.de_ok e0, e2]
/-- The denominator of a remainder over a factor. -/
theorem de_rest {a f : Nat} (h0 : 0 < f) (hf : f ≤ 1048576) : Fr.de ((a % f : Nat) : Int) f = (f / Nat.gcd a f : Nat) := by
  have hd : (f : Int) ≠ 0 := by omega
  have hm := Nat.mod_lt a h0
  have e2 : Fr.dn ((a % f : Nat) : Int) f = f / Nat.gcd a f := by
    simp only [Fr.dn, Int.natAbs_natCast]
    rw [← Nat.gcd_rec f a, Nat.gcd_comm f a]
  have h1 : Fr.up ((a % f : Nat) : Int) f ≤ a % f := by simp only [Fr.up, Int.natAbs_natCast]; exact Nat.div_le_self _ _
  have h2 : f / Nat.gcd a f ≤ f := Nat.div_le_self _ _
  have e0 : Fr.er ((a % f : Nat) : Int) f = 0 := by unfold Fr.er; rw [if_neg hd, if_pos ⟨by omega, by rw [e2]; omega⟩]
  rw [Fr.de_ok e0, e2]
end Rd
end Go.Proofs.Ytccjbefmcifaeaa
