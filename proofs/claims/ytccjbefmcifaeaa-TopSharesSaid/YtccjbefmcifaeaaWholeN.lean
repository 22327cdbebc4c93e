/- Whole numbers as lists of digits: the plain part. -/
namespace Go.Proofs.Ytccjbefmcifaeaa
namespace Wh
def B : Nat := 16777216
theorem B_pos : 0 < B := by decide
theorem Bp (i : Nat) : 0 < B ^ i := Nat.pow_pos B_pos
/-- The digit at a place. -/
def dig (m i : Nat) : Nat := m / B ^ i % B
theorem dig_lt (m i : Nat) : dig m i < B := Nat.mod_lt _ B_pos
def dgs (m i : Nat) : List Nat := (List.range i).map (dig m)
theorem dgs_len (m i : Nat) : (dgs m i).length = i := by simp [dgs]
theorem dgs_at {m i k : Nat} (h : k < i) : (dgs m i).getD k 0 = dig m k := by simp [dgs, h]
theorem dgs_succ (m i : Nat) : dgs m (i + 1) = dgs m i ++ [dig m i] := by simp [dgs, List.range_succ]
theorem dgs_take {m i k : Nat} (h : k ≤ i) : (dgs m i).take k = dgs m k := by
  unfold dgs
  rw [← List.map_take, List.take_range, Nat.min_eq_left h]
/-- How many digits a number has. -/
def nd (m : Nat) : Nat := if m = 0 then 0 else Nat.log2 m / 24 + 1
theorem pow24 (i : Nat) : B ^ i = 2 ^ (24 * i) := by rw [Nat.pow_mul]; rfl
theorem nd_of {m i : Nat} (h : m < B ^ i) (h0 : i = 0 ∨ B ^ (i - 1) ≤ m) : nd m = i := by
  unfold nd
  by_cases hm : m = 0
  · rw [if_pos hm]
    rcases h0 with h0 | h0
    · exact h0.symm
    · have := Bp (i - 1); omega
  · rw [if_neg hm]
    rw [pow24] at h
    have h1 := (Nat.log2_lt hm).2 h
    rcases h0 with rfl | h0
    · omega
    · rw [pow24] at h0
      have h2 := (Nat.le_log2 hm).2 h0
      have : i ≠ 0 := by intro e; subst e; simp at h; omega
      omega
theorem nd_lt (m : Nat) : m < B ^ nd m := by
  unfold nd
  by_cases hm : m = 0
  · rw [if_pos hm, hm]; decide
  · rw [if_neg hm, pow24]
    exact (Nat.log2_lt hm).1 (by omega)
theorem nd_ge {m : Nat} (h : 0 < nd m) : B ^ (nd m - 1) ≤ m := by
  unfold nd at *
  by_cases hm : m = 0
  · rw [if_pos hm] at h; omega
  · rw [if_neg hm, pow24]
    exact (Nat.le_log2 hm).1 (by omega)
theorem nd_zero {m : Nat} : nd m = 0 ↔ m = 0 := by
  unfold nd; split <;> simp_all
theorem pow_le {i j : Nat} (h : i ≤ j) : B ^ i ≤ B ^ j := Nat.pow_le_pow_right B_pos h
theorem nd_le {m i : Nat} (h : m < B ^ i) : nd m ≤ i := by
  rcases Nat.lt_or_ge i (nd m) with h1 | h1
  · have := nd_ge (m := m) (by omega)
    have := pow_le (i := i) (j := nd m - 1) (by omega)
    omega
  · exact h1
theorem nd_mono {a b : Nat} (h : a ≤ b) : nd a ≤ nd b := nd_le (Nat.lt_of_le_of_lt h (nd_lt b))
theorem log_lt {x n : Nat} (h0 : x ≠ 0) (h : x < B ^ n) : Nat.log2 x < 24 * n := by
  rw [pow24] at h
  exact (Nat.log2_lt h0).2 h
def dg (m : Nat) : List Nat := dgs m (nd m)
theorem dg_len (m : Nat) : (dg m).length = nd m := dgs_len _ _
theorem dg_at {m k : Nat} (h : k < nd m) : (dg m).getD k 0 = dig m k := dgs_at h
theorem dg_of {m i : Nat} (h : m < B ^ i) (h0 : i = 0 ∨ B ^ (i - 1) ≤ m) : dgs m i = dg m := by unfold dg; rw [nd_of h h0]
theorem dig_high {m i : Nat} (h : nd m ≤ i) : dig m i = 0 := by
  unfold dig; rw [Nat.div_eq_of_lt (Nat.lt_of_lt_of_le (nd_lt m) (pow_le h)), Nat.zero_mod]
theorem mod_high {m i : Nat} (h : nd m ≤ i) : m % B ^ i = m := Nat.mod_eq_of_lt (Nat.lt_of_lt_of_le (nd_lt m) (pow_le h))
/-- One step of a sum from below. -/
theorem step {m p q x i : Nat} (hq : q = p + x * B ^ i) (hm : m % B ^ (i + 1) = q % B ^ (i + 1)) : (p / B ^ i + x) % B = dig m i ∧ q / B ^ (i + 1) = (p / B ^ i + x) / B := by
  have e : q / B ^ i = p / B ^ i + x := by rw [hq, Nat.add_mul_div_right _ _ (Bp i)]
  constructor
  · unfold dig
    rw [← Nat.mod_mul_right_div_self, ← Nat.pow_succ, hm, Nat.pow_succ, Nat.mod_mul_right_div_self, e]
  · rw [Nat.pow_succ, ← Nat.div_div_eq_div_mul, e]
theorem mod_succ (n i : Nat) : n % B ^ (i + 1) = n % B ^ i + dig n i * B ^ i := by rw [Nat.mod_pow_succ, Nat.mul_comm]; rfl
/-- What a product carries. -/
def cT (n k i : Nat) : Nat := n % B ^ i * k / B ^ i
theorem cT_zero (n k : Nat) : cT n k 0 = 0 := by simp [cT, Nat.mod_one]
theorem cT_step (n k i : Nat) : (cT n k i + dig n i * k) % B = dig (n * k) i ∧ cT n k (i + 1) = (cT n k i + dig n i * k) / B := by
  unfold cT
  refine step ?_ ?_
  · rw [mod_succ, Nat.add_mul]; congr 1; rw [Nat.mul_assoc, Nat.mul_comm (B ^ i), ← Nat.mul_assoc]
  · rw [Nat.mod_mul_mod]
theorem cT_le (n k i : Nat) : cT n k i ≤ k := by
  unfold cT
  refine Nat.div_le_of_le_mul ?_
  rw [Nat.mul_comm]
  rw [Nat.mul_comm (B ^ i)]
  exact Nat.mul_le_mul_left _ (Nat.le_of_lt (Nat.mod_lt _ (Bp i)))
theorem cT_high {n k i : Nat} (h : nd n ≤ i) : cT n k i = n * k / B ^ i := by unfold cT; rw [mod_high h]
/-- What a sum carries. -/
def cP (a b i : Nat) : Nat := (a % B ^ i + b % B ^ i) / B ^ i
theorem cP_zero (a b : Nat) : cP a b 0 = 0 := by simp [cP, Nat.mod_one]
theorem cP_step (a b i : Nat) : (cP a b i + (dig a i + dig b i)) % B = dig (a + b) i ∧ cP a b (i + 1) = (cP a b i + (dig a i + dig b i)) / B := by
  unfold cP
  refine step ?_ ?_
  · rw [mod_succ a, mod_succ b, Nat.add_mul]; omega
  · rw [Nat.add_mod]
theorem cP_le (a b i : Nat) : cP a b i ≤ 1 := by
  unfold cP
  have h1 := Nat.mod_lt a (Bp i)
  have h2 := Nat.mod_lt b (Bp i)
  have : (a % B ^ i + b % B ^ i) / B ^ i < 2 := Nat.div_lt_of_lt_mul (by omega)
  omega
theorem cP_high {a b i : Nat} (ha : nd a ≤ i) (hb : nd b ≤ i) : cP a b i = (a + b) / B ^ i := by unfold cP; rw [mod_high ha, mod_high hb]
theorem lt_of_div {m i : Nat} (h : m / B ^ i = 0) : m < B ^ i := by
  rcases Nat.div_eq_zero_iff.1 h with h | h
  · have := Bp i; omega
  · exact h
theorem ge_of_cT {n k i : Nat} (h : 0 < cT n k i) : B ^ i ≤ n * k := by
  unfold cT at h
  have h1 : B ^ i ≤ n % B ^ i * k := by
    rcases Nat.lt_or_ge (n % B ^ i * k) (B ^ i) with h1 | h1
    · rw [Nat.div_eq_of_lt h1] at h; omega
    · exact h1
  exact Nat.le_trans h1 (Nat.mul_le_mul_right _ (Nat.mod_le _ _))
theorem ge_of_cP {a b i : Nat} (h : 0 < cP a b i) : B ^ i ≤ a + b := by
  unfold cP at h
  have h1 : B ^ i ≤ a % B ^ i + b % B ^ i := by
    rcases Nat.lt_or_ge (a % B ^ i + b % B ^ i) (B ^ i) with h1 | h1
    · rw [Nat.div_eq_of_lt h1] at h; omega
    · exact h1
  exact Nat.le_trans h1 (Nat.add_le_add (Nat.mod_le _ _) (Nat.mod_le _ _))
theorem ge_of_nd {m i : Nat} (h : i < nd m) : B ^ i ≤ m := Nat.le_trans (pow_le (by omega)) (nd_ge (by omega))
theorem nd_of_ge {m i : Nat} (h : B ^ i ≤ m) : i < nd m := by
  rcases Nat.lt_or_ge i (nd m) with h1 | h1
  · exact h1
  · have := nd_lt m
    have := pow_le h1
    omega
/-- Quotients from above. -/
def rE (n k i : Nat) : Nat := n / B ^ i % k
theorem div_succ (n i : Nat) : n / B ^ i = B * (n / B ^ (i + 1)) + dig n i := by
  unfold dig
  rw [Nat.pow_succ, ← Nat.div_div_eq_div_mul, Nat.div_add_mod]
theorem quo_step {n k i : Nat} (hk : 0 < k) : (rE n k (i + 1) * B + dig n i) / k = dig (n / k) i ∧ (rE n k (i + 1) * B + dig n i) % k = rE n k i := by
  have e := div_succ n i
  have hm := Nat.div_add_mod (n / B ^ (i + 1)) k
  have hr := Nat.mod_lt (n / B ^ (i + 1)) hk
  have hd := dig_lt n i
  unfold rE
  have e2 : n / B ^ i = k * (B * (n / B ^ (i + 1) / k)) + (n / B ^ (i + 1) % k * B + dig n i) := by
    rw [e, ← Nat.mul_assoc, Nat.mul_comm k, Nat.mul_assoc, ← Nat.add_assoc, Nat.mul_comm _ B, ← Nat.mul_add, hm]
  constructor
  · show _ = n / k / B ^ i % B
    rw [Nat.div_div_eq_div_mul, Nat.mul_comm k (B ^ i), ← Nat.div_div_eq_div_mul, e2, Nat.mul_add_div hk, Nat.mul_add_mod]
    refine (Nat.mod_eq_of_lt (Nat.div_lt_of_lt_mul ?_)).symm
    have : (n / B ^ (i + 1) % k + 1) * B ≤ k * B := Nat.mul_le_mul_right _ hr
    rw [Nat.add_mul] at this
    omega
  · rw [e2, Nat.mul_add_mod]
theorem rE_top {n k i : Nat} (h : nd n ≤ i) : rE n k i = 0 := by
  unfold rE; rw [Nat.div_eq_of_lt (Nat.lt_of_lt_of_le (nd_lt n) (pow_le h)), Nat.zero_mod]
theorem rE_zero (n k : Nat) : rE n k 0 = n % k := by simp [rE]
/-- The last digit of a number is not 0, unless the list is too long. -/
theorem strip {m i : Nat} (h : m < B ^ (i + 1)) (h0 : dig m i = 0) : m < B ^ i := by
  have := div_succ m i
  rw [Nat.div_eq_of_lt h, h0] at this
  exact lt_of_div (by omega)
theorem strip_not {m i : Nat} (h0 : dig m i ≠ 0) : B ^ i ≤ m := by
  rcases Nat.lt_or_ge m (B ^ i) with h | h
  · exfalso; apply h0; unfold dig; rw [Nat.div_eq_of_lt h, Nat.zero_mod]
  · exact h
/-- Comparison from above. -/
theorem dig_eq {a b i : Nat} (h : a / B ^ (i + 1) = b / B ^ (i + 1)) (hd : dig a i = dig b i) : a / B ^ i = b / B ^ i := by rw [div_succ a, div_succ b, h, hd]
theorem dig_less {a b i : Nat} (h : a / B ^ (i + 1) = b / B ^ (i + 1)) (hd : dig a i < dig b i) : a < b := by
  have : a / B ^ i < b / B ^ i := by rw [div_succ a, div_succ b, h]; omega
  rcases Nat.lt_or_ge a b with h1 | h1
  · exact h1
  · have := Nat.div_le_div_right (c := B ^ i) h1; omega
theorem nd_less {a b : Nat} (h : nd a < nd b) : a < b := by
  rcases Nat.lt_or_ge a b with h1 | h1
  · exact h1
  · have := nd_mono h1; omega
/-- A difference: with D + b = a. -/
theorem sub_step {a b D : Nat} (h : D + b = a) (i : Nat) : (dig a i : Int) - dig b i - cP D b i = (dig D i : Int) - B * cP D b (i + 1) := by
  obtain ⟨h1, h2⟩ := cP_step D b i
  rw [h] at h1
  have h3 := Nat.div_add_mod (cP D b i + (dig D i + dig b i)) B
  rw [h1, ← h2] at h3
  have : (B : Int) * (cP D b (i + 1) : Int) = ((B * cP D b (i + 1) : Nat) : Int) := by simp
  rw [this]; omega
theorem even_dig {m : Nat} (h : 0 < nd m) : dig m 0 % 2 = m % 2 := by
  unfold dig
  rw [Nat.pow_zero, Nat.div_one]
  unfold B; omega
/-- Sign of a comparison. -/
def cmpN (a b : Nat) : Int := if a < b then -1 else if b < a then 1 else 0
/-- Halving. -/
theorem gcd_half {a b : Nat} (ha : a % 2 = 0) (hb : b % 2 = 1) : Nat.gcd (a / 2) b = Nat.gcd a b := by
  have e : a = 2 * (a / 2) := by omega
  have hc : Nat.Coprime 2 b := by
    unfold Nat.Coprime
    rw [Nat.gcd_rec, hb]; decide
  conv => rhs; rw [e]
  exact (Nat.Coprime.gcd_mul_left_cancel _ hc).symm
theorem gcd_both {a b : Nat} (ha : a % 2 = 0) (hb : b % 2 = 0) : Nat.gcd a b = 2 * Nat.gcd (a / 2) (b / 2) := by
  have ea : a = 2 * (a / 2) := by omega
  have eb : b = 2 * (b / 2) := by omega
  conv => lhs; rw [ea, eb]
  exact Nat.gcd_mul_left _ _ _
theorem gcd_less {a b : Nat} (h : b ≤ a) : Nat.gcd (a - b) b = Nat.gcd a b := by
  rw [Nat.gcd_sub_self_left h]
end Wh
end Go.Proofs.Ytccjbefmcifaeaa
