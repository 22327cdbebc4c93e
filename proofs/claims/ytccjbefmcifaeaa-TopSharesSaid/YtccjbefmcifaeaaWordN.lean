/- Numbers as words of 64 bits: sums, multiples and quotients word by word. -/
namespace Go.Proofs.Ytccjbefmcifaeaa
namespace Wd
def B : Nat := 18446744073709551616
def wd (n i : Nat) : Nat := n / B ^ i % B
theorem B_pos : 0 < B := by decide
theorem pw_pos (i : Nat) : 0 < B ^ i := Nat.pow_pos B_pos
theorem wd_lt (n i : Nat) : wd n i < B := Nat.mod_lt _ B_pos
theorem div_succ (a i : Nat) : a / B ^ (i + 1) = a / B ^ i / B := by rw [Nat.pow_succ, Nat.div_div_eq_div_mul]
theorem div_split (a i : Nat) : a / B ^ i = a / B ^ (i + 1) * B + wd a i := by
  rw [div_succ]; unfold wd
  have := Nat.div_add_mod (a / B ^ i) B
  rw [Nat.mul_comm] at this; exact this.symm
theorem mod_split (a i : Nat) : a % B ^ (i + 1) = a % B ^ i + B ^ i * wd a i := by
  unfold wd; rw [Nat.pow_succ, Nat.mod_mul]

/-- The carry of a sum. -/
def ca (a b i : Nat) : Nat := (a % B ^ i + b % B ^ i) / B ^ i
theorem ca_zero (a b : Nat) : ca a b 0 = 0 := by simp [ca, Nat.mod_one]
theorem ca_le (a b i : Nat) : ca a b i ≤ 1 := by
  have h1 := Nat.mod_lt a (pw_pos i)
  have h2 := Nat.mod_lt b (pw_pos i)
  unfold ca
  have : (a % B ^ i + b % B ^ i) / B ^ i < 2 := Nat.div_lt_of_lt_mul (by omega)
  omega
theorem add_div (a b i : Nat) : (a + b) / B ^ i = a / B ^ i + b / B ^ i + ca a b i := by
  have hp := pw_pos i
  have h1 := Nat.div_add_mod a (B ^ i)
  have h2 := Nat.div_add_mod b (B ^ i)
  have : a + b = (a % B ^ i + b % B ^ i) + B ^ i * (a / B ^ i + b / B ^ i) := by rw [Nat.mul_add]; omega
  rw [this, Nat.add_mul_div_left _ _ hp]
  unfold ca; omega
theorem mod3 (a b c m : Nat) : (a + b + c) % m = (a % m + b % m + c) % m := by
  rw [Nat.add_mod (a + b), Nat.add_mod (a % m + b % m), Nat.add_mod a b]
theorem wd_add (a b i : Nat) : wd (a + b) i = (wd a i + wd b i + ca a b i) % B := by
  unfold wd; rw [add_div]; exact mod3 _ _ _ _
theorem ca_succ (a b i : Nat) : ca a b (i + 1) = (wd a i + wd b i + ca a b i) / B := by
  have hp := pw_pos i
  have e : ca a b (i + 1) = (a % B ^ i + b % B ^ i + B ^ i * (wd a i + wd b i)) / B ^ i / B := by
    unfold ca
    rw [mod_split, mod_split, Nat.pow_succ, ← Nat.div_div_eq_div_mul]
    congr 2
    rw [Nat.mul_add]; omega
  rw [e, Nat.add_mul_div_left _ _ hp]
  show (ca a b i + (wd a i + wd b i)) / B = _
  congr 1; omega

/-- The carry of a multiple. -/
def cm (a f i : Nat) : Nat := a % B ^ i * f / B ^ i
theorem cm_zero (a f : Nat) : cm a f 0 = 0 := by simp [cm, Nat.mod_one]
theorem cm_le (a f i : Nat) : cm a f i ≤ f := by
  have hp := pw_pos i
  have h1 := Nat.mod_lt a hp
  unfold cm
  refine Nat.div_le_of_le_mul ?_
  exact Nat.mul_le_mul_right _ (by omega)
theorem mul_div (a f i : Nat) : a * f / B ^ i = a / B ^ i * f + cm a f i := by
  have hp := pw_pos i
  have h1 := Nat.div_add_mod a (B ^ i)
  have : a * f = a % B ^ i * f + B ^ i * (a / B ^ i * f) := by
    rw [← Nat.mul_assoc, ← Nat.add_mul]
    congr 1; omega
  rw [this, Nat.add_mul_div_left _ _ hp]
  unfold cm; omega
theorem wd_mul (a f i : Nat) : wd (a * f) i = (wd a i * f + cm a f i) % B := by
  unfold wd; rw [mul_div, Nat.add_mod, Nat.mul_mod, Nat.add_mod (a / B ^ i % B * f), Nat.mul_mod (a / B ^ i % B) f, Nat.mod_mod]
theorem cm_succ (a f i : Nat) : cm a f (i + 1) = (wd a i * f + cm a f i) / B := by
  have hp := pw_pos i
  have e : cm a f (i + 1) = (a % B ^ i * f + B ^ i * (wd a i * f)) / B ^ i / B := by
    unfold cm
    rw [mod_split, Nat.pow_succ, ← Nat.div_div_eq_div_mul, Nat.add_mul, Nat.mul_assoc]
  rw [e, Nat.add_mul_div_left _ _ hp]
  show (cm a f i + wd a i * f) / B = _
  congr 1; omega
/-- The carry in two steps: the upper half of the product, and whether the lower half overflows. -/
theorem cm_two (x c : Nat) : (x + c) / B = x / B + (x % B + c) / B := by
  have h1 := Nat.div_add_mod x B
  have : x + c = (x % B + c) + B * (x / B) := by omega
  rw [this, Nat.add_mul_div_left _ _ B_pos]; 
  omega
theorem wm_two (x c : Nat) : (x + c) % B = (x % B + c) % B := by
  rw [Nat.add_mod x c, Nat.add_mod (x % B) c, Nat.mod_mod]
theorem cm_lt (a f i : Nat) (h : f < B) : cm a f i < B := Nat.lt_of_le_of_lt (cm_le a f i) h

/-- What is left above a word in a division. -/
def re (a d i : Nat) : Nat := a / B ^ i % d
theorem re_lt (a i : Nat) {d : Nat} (h : 0 < d) : re a d i < d := Nat.mod_lt _ h
theorem re_step (a d i : Nat) : re a d i = (re a d (i + 1) * B + wd a i) % d := by
  unfold re; rw [div_split a i, Nat.add_mod, Nat.mul_mod, Nat.add_mod (a / B ^ (i + 1) % d * B), Nat.mul_mod (a / B ^ (i + 1) % d) B, Nat.mod_mod]
theorem wd_div (a i : Nat) {d : Nat} (h : 0 < d) : wd (a / d) i = (re a d (i + 1) * B + wd a i) / d := by
  have hl : (re a d (i + 1) * B + wd a i) / d < B := by
    have h1 := re_lt a (i + 1) h
    have h2 := wd_lt a i
    refine Nat.div_lt_of_lt_mul ?_
    have : (re a d (i + 1) + 1) * B ≤ d * B := Nat.mul_le_mul_right _ h1
    rw [Nat.add_mul] at this
    omega
  have e : a / d / B ^ i = (re a d (i + 1) * B + wd a i) / d + a / B ^ (i + 1) / d * B := by
    rw [Nat.div_div_eq_div_mul, Nat.mul_comm d, ← Nat.div_div_eq_div_mul, div_split a i]
    unfold re
    have h1 := Nat.div_add_mod (a / B ^ (i + 1)) d
    generalize a / B ^ (i + 1) = A at *
    have : A * B + wd a i = (A % d * B + wd a i) + d * (A / d * B) := by
      have : A * B = (d * (A / d) + A % d) * B := by rw [h1]
      rw [this, Nat.add_mul, ← Nat.mul_assoc]; omega
    rw [this, Nat.add_mul_div_left _ _ h]
  unfold wd
  rw [e, Nat.add_mul_mod_self_right, Nat.mod_eq_of_lt]
  · rfl
  · exact hl
theorem re_top {a d n : Nat} (h : a < B ^ n) : re a d n = 0 := by unfold re; rw [Nat.div_eq_of_lt h, Nat.zero_mod]
theorem re_zero (a d : Nat) : re a d 0 = a % d := by unfold re; simp

theorem eq_of_div_zero {a b : Nat} (h : a / B ^ 0 = b / B ^ 0) : a = b := by simpa using h
theorem div_eq_step {a b i : Nat} (h : a / B ^ (i + 1) = b / B ^ (i + 1)) (hw : wd a i = wd b i) : a / B ^ i = b / B ^ i := by rw [div_split a, div_split b, h, hw]
theorem lt_of_wd {a b i : Nat} (h : a / B ^ (i + 1) = b / B ^ (i + 1)) (hw : wd a i < wd b i) : a < b := by
  have : a / B ^ i < b / B ^ i := by rw [div_split a, div_split b, h]; omega
  exact Nat.lt_of_not_le fun hle => by have := Nat.div_le_div_right (c := B ^ i) hle; omega
theorem top_eq {a b n : Nat} (ha : a < B ^ n) (hb : b < B ^ n) : a / B ^ n = b / B ^ n := by rw [Nat.div_eq_of_lt ha, Nat.div_eq_of_lt hb]
theorem wd_zero_of_lt {a : Nat} (h : a < B) : wd a 0 = a := by unfold wd; simp [Nat.mod_eq_of_lt h]
theorem wd_high {a i : Nat} (h : a < B ^ i) : wd a i = 0 := by unfold wd; rw [Nat.div_eq_of_lt h]; rfl

/-- A row of words of which the first k are those of one number, the others those of another one. -/
def row (a b k : Nat) : List Nat := (List.range 8).map fun i => if i < k then wd a i else wd b i
def ws (a : Nat) : List Nat := (List.range 8).map (wd a)
theorem ws_length (a : Nat) : (ws a).length = 8 := by simp [ws]
theorem row_zero (a b : Nat) : row a b 0 = ws b := by simp [row, ws]
theorem row_all (a b : Nat) : row a b 8 = ws a := by
  unfold row ws; refine List.map_congr_left fun i hi => ?_
  rw [if_pos (by simpa using hi)]
theorem row_at (a b k i : Nat) (h : i < 8) : (row a b k)[i]? = some (if i < k then wd a i else wd b i) := by simp [row, h]
theorem row_succ (a b k : Nat) : (row a b k).set k (wd a k) = row a b (k + 1) := by
  refine List.ext_getElem? fun i => ?_
  by_cases hi : i < 8
  · rw [row_at _ _ _ _ hi, List.getElem?_set]
    by_cases e : k = i
    · subst e; rw [if_pos rfl, if_pos (by simp [row]; omega), if_pos (by omega)]
    · rw [if_neg e, row_at _ _ _ _ hi]
      by_cases h1 : i < k
      · rw [if_pos h1, if_pos (by omega)]
      · rw [if_neg h1, if_neg (by omega)]
  · rw [List.getElem?_eq_none (by simp [row]; omega), List.getElem?_eq_none (by simp [row]; omega)]
end Wd
end Go.Proofs.Ytccjbefmcifaeaa
