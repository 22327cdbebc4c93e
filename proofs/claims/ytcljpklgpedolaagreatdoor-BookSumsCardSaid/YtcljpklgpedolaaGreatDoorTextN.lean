/- Texts of numbers, fractions and money: plain. -/
import Derived.Lib.ItoaNum
import Derived.Lib.AtoiAll
import Derived.Lib.SplitLaws
import Derived.Lib.IndexMore
import Derived.Lib.Strings
import Derived.Lib.Join
namespace Go.Proofs.YtcljpklgpedolaaGreatDoor
namespace Tx
open Go.Lib

theorem dig_byte {u : Nat} (h : u < 10) : (UInt8.ofNat (48 + u)).toNat = 48 + u := by
  simp [UInt8.toNat_ofNat']; omega
theorem dec_small {u : Nat} (h : u < 10) : decDigits u = [UInt8.ofNat (48 + u)] := by rw [decDigits, dif_pos h]
theorem dec_big {u : Nat} (h : ¬ u < 10) : decDigits u = decDigits (u / 10) ++ [UInt8.ofNat (48 + u % 10)] := by rw [decDigits, dif_neg h]
/-- A byte is a digit. -/
def isDig (c : UInt8) : Bool := decide (48 ≤ c.toNat) && decide (c.toNat ≤ 57)
theorem isDig_of {u : Nat} (h : u < 10) : isDig (UInt8.ofNat (48 + u)) = true := by
  unfold isDig; rw [dig_byte h]; simp; omega
theorem dec_all (u : Nat) : (decDigits u).all isDig = true := by
  induction u using Nat.strongRecOn with
  | ind u ih =>
    by_cases h : u < 10
    · rw [dec_small h, List.all_cons, isDig_of h]; rfl
    · rw [dec_big h, List.all_append, ih _ (by omega), List.all_cons, isDig_of (show u % 10 < 10 by omega)]; rfl
theorem dec_ne (u : Nat) : decDigits u ≠ [] := by
  by_cases h : u < 10
  · rw [dec_small h]; simp
  · rw [dec_big h]; simp
theorem dec_mem {u : Nat} {c : UInt8} (h : c ∈ decDigits u) : 48 ≤ c.toNat ∧ c.toNat ≤ 57 := by
  have := List.all_eq_true.1 (dec_all u) c h
  unfold isDig at this
  simpa using this
theorem dec_not {u : Nat} {c : UInt8} (h : c.toNat < 48) : c ∉ decDigits u := fun hc => by have := dec_mem hc; omega
theorem dec_not' {u : Nat} {c : UInt8} (h : 57 < c.toNat) : c ∉ decDigits u := fun hc => by have := dec_mem hc; omega

theorem parse_snoc (c : UInt8) : ∀ (l : List UInt8) (acc x : Nat), parseUint10 acc l = .ok x → parseUint10 acc (l ++ [c]) = parseUint10 x [c]
  | [], acc, x, h => by
    simp only [parseUint10] at h
    injection h with h
    subst h; rfl
  | b :: l, acc, x, h => by
    simp only [parseUint10] at h
    rw [List.cons_append, parseUint10]
    split at h
    · rename_i h1
      rw [if_pos h1]
      split at h
      · cases h
      · rename_i h2
        rw [if_neg h2]
        split at h
        · cases h
        · rename_i h3
          rw [if_neg h3]
          exact parse_snoc c l _ x h
    · cases h
theorem parse_one (acc : Nat) {u : Nat} (h : u < 10) (ha : acc * 10 + u < 18446744073709551616) : parseUint10 acc [UInt8.ofNat (48 + u)] = .ok (acc * 10 + u) := by
  have hb := dig_byte h
  simp only [parseUint10]
  rw [hb, if_pos (by omega), if_neg (by omega), if_neg (by omega)]
  congr 1
  omega
theorem parse_dec (u : Nat) (hu : u < 18446744073709551616) : parseUint10 0 (decDigits u) = .ok u := by
  induction u using Nat.strongRecOn with
  | ind u ih =>
    by_cases h : u < 10
    · rw [dec_small h, parse_one 0 h (by omega)]; simp
    · rw [dec_big h, parse_snoc _ _ _ _ (ih (u / 10) (by omega) (by omega)), parse_one _ (by omega) (by omega)]
      congr 1
      omega
theorem atoi_itoa {n : Int} (h1 : -9223372036854775808 ≤ n) (h2 : n ≤ 9223372036854775807) : atoiAll (itoa n) = .ok n := by
  unfold itoa
  split
  · rename_i h
    have hm : parseMag (decDigits n.natAbs) = .ok n.natAbs := by
      unfold parseMag; rw [if_neg (dec_ne _), parse_dec _ (by omega)]
    simp only [atoiAll]
    rw [if_pos (.inr (by decide)), hm]
    simp only
    rw [if_neg (by simp), if_neg (by omega), if_pos (by decide)]
    congr 1
    omega
  · rename_i h
    have hm : parseMag (decDigits n.toNat) = .ok n.toNat := by
      unfold parseMag; rw [if_neg (dec_ne _), parse_dec _ (by omega)]
    cases hd : decDigits n.toNat with
    | nil => exact absurd hd (dec_ne _)
    | cons c r =>
      have hc := dec_mem (u := n.toNat) (c := c) (by rw [hd]; simp)
      simp only [atoiAll]
      rw [if_neg (by omega), ← hd, hm]
      simp only
      rw [if_neg (by omega), if_neg (by omega), if_neg (by omega)]
      congr 1
      omega
theorem itoa_inj {n m : Int} (h1 : -9223372036854775808 ≤ n) (h2 : n ≤ 9223372036854775807) (h3 : -9223372036854775808 ≤ m) (h4 : m ≤ 9223372036854775807) (h : itoa n = itoa m) : n = m := by
  have := atoi_itoa h1 h2
  rw [h, atoi_itoa h3 h4] at this
  injection this with this
  exact this.symm
theorem itoa_nat (u : Nat) : itoa (u : Int) = decDigits u := by unfold itoa; rw [if_neg (by omega)]; congr 1
theorem itoa_neg {n : Int} (h : n < 0) : itoa n = 45 :: itoa (-n) := by
  unfold itoa; rw [if_pos h, if_neg (by omega)]; congr 2; omega
theorem itoa_not {n : Int} {c : UInt8} (h : c.toNat < 45) : c ∉ itoa n := by
  unfold itoa
  split
  · intro hc
    rcases List.mem_cons.1 hc with e | hc
    · subst e; exact absurd h (by decide)
    · exact dec_not (by omega) hc
  · exact dec_not (by omega)
theorem itoa_not47 (n : Int) : (47 : UInt8) ∉ itoa n := by
  unfold itoa
  split
  · intro hc
    rcases List.mem_cons.1 hc with e | hc
    · exact absurd e (by decide)
    · exact dec_not (by decide) hc
  · exact dec_not (by decide)
theorem itoa_ne (n : Int) : itoa n ≠ [] := by
  unfold itoa
  split
  · simp
  · exact dec_ne _

/-- The number that digits spell. -/
def numN (l : List UInt8) : Nat := l.foldl (fun a c => a * 10 + (c.toNat - 48)) 0
theorem numN_snoc (l : List UInt8) (c : UInt8) : numN (l ++ [c]) = numN l * 10 + (c.toNat - 48) := by
  unfold numN; rw [List.foldl_append]; rfl
theorem numN_dec (u : Nat) : numN (decDigits u) = u := by
  induction u using Nat.strongRecOn with
  | ind u ih =>
    by_cases h : u < 10
    · rw [dec_small h]; show 0 * 10 + ((UInt8.ofNat (48 + u)).toNat - 48) = u; rw [dig_byte h]; omega
    · rw [dec_big h, numN_snoc, ih _ (by omega), dig_byte (by omega)]; omega
theorem dec_len : ∀ (k u : Nat), u < 10 ^ (k + 1) → (decDigits u).length ≤ k + 1
  | 0, u, h => by rw [dec_small (by simpa using h)]; simp
  | k + 1, u, h => by
    by_cases hs : u < 10
    · rw [dec_small hs]; simp
    · have := dec_len k (u / 10) (by rw [Nat.pow_succ] at h; omega)
      rw [dec_big hs]; simp; omega
theorem numN_lt : ∀ (k : Nat) (l : List UInt8), l.all isDig = true → l.length = k → numN l < 10 ^ k
  | 0, l, _, h => by
    have : l = [] := List.length_eq_zero_iff.1 h
    subst this; decide
  | k + 1, l, ha, h => by
    rcases List.eq_nil_or_concat l with e | ⟨t, c, e⟩
    · subst e; simp at h
    · subst e
      rw [List.concat_eq_append] at ha h ⊢
      rw [List.all_append, Bool.and_eq_true] at ha
      have ht := numN_lt k t ha.1 (by simpa using h)
      have hc : isDig c = true := by simpa using ha.2
      unfold isDig at hc
      simp only [Bool.and_eq_true, decide_eq_true_eq] at hc
      rw [numN_snoc, Nat.pow_succ]
      omega

/-! Cutting at one byte. -/
theorem index_here (c : UInt8) (b : List UInt8) : ∀ a : List UInt8, c ∉ a → index (a ++ c :: b) [c] = a.length
  | [], _ => by rw [List.nil_append, index]; simp [List.isPrefixOf]
  | x :: a, h => by
    have hx : x ≠ c := fun e => h (by simp [e])
    have hp : ([c] : List UInt8).isPrefixOf (x :: (a ++ c :: b)) = false := by simp [List.isPrefixOf, Ne.symm hx]
    rw [List.cons_append, index, hp, index_here c b a (fun e => h (by simp [e]))]
    have : ((a.length : Int) == -1) = false := by simp
    rw [this]; simp
theorem index_not (c : UInt8) : ∀ a : List UInt8, c ∉ a → index a [c] = -1
  | [], _ => rfl
  | x :: a, h => by
    have hx : x ≠ c := fun e => h (by simp [e])
    have hp : ([c] : List UInt8).isPrefixOf (x :: a) = false := by simp [List.isPrefixOf, Ne.symm hx]
    rw [index, hp, index_not c a (fun e => h (by simp [e]))]; rfl
theorem cut_here (c : UInt8) (a b : List UInt8) (h : c ∉ a) : cut (a ++ c :: b) [c] = (a, b, true) := by
  unfold cut
  rw [index_here c b a h, if_pos (by omega)]
  simp
theorem cut_not (c : UInt8) (a : List UInt8) (h : c ∉ a) : cut a [c] = (a, [], false) := by
  unfold cut
  rw [index_not c a h, if_neg (by decide)]
/-- The pieces between the bytes c. -/
def spl (c : UInt8) : List UInt8 → List (List UInt8)
  | [] => [[]]
  | b :: r => if b = c then [] :: spl c r else match spl c r with
    | [] => [[b]]
    | x :: t => (b :: x) :: t
theorem spl_ne (c : UInt8) (s : List UInt8) : spl c s ≠ [] := by
  cases s with
  | nil => simp [spl]
  | cons b r =>
    rw [spl]
    split
    · simp
    · split <;> simp
theorem spl_here (c : UInt8) (b : List UInt8) : ∀ a : List UInt8, c ∉ a → spl c (a ++ c :: b) = a :: spl c b
  | [], _ => by rw [List.nil_append, spl, if_pos rfl]
  | x :: a, h => by
    rw [List.cons_append, spl, if_neg (fun e => h (by simp [e])), spl_here c b a (fun e => h (by simp [e]))]
theorem spl_not (c : UInt8) : ∀ a : List UInt8, c ∉ a → spl c a = [a]
  | [], _ => rfl
  | x :: a, h => by
    rw [spl, if_neg (fun e => h (by simp [e])), spl_not c a (fun e => h (by simp [e]))]
theorem spl_cases (c : UInt8) (s : List UInt8) : c ∉ s ∨ ∃ a b, s = a ++ c :: b ∧ c ∉ a := by
  induction s with
  | nil => exact .inl (by simp)
  | cons x s ih =>
    by_cases e : x = c
    · subst e; exact .inr ⟨[], s, rfl, by simp⟩
    · rcases ih with h | ⟨a, b, rfl, h⟩
      · exact .inl fun hc => by
          rcases List.mem_cons.1 hc with h1 | h1
          · exact e h1.symm
          · exact h h1
      · exact .inr ⟨x :: a, b, rfl, fun hc => by
          rcases List.mem_cons.1 hc with h1 | h1
          · exact e h1.symm
          · exact h h1⟩
theorem split_spl (c : UInt8) : ∀ (k : Nat) (s : List UInt8), s.length ≤ k → split s [c] = spl c s := by
  intro k
  induction k with
  | zero =>
    intro s h
    have : s = [] := List.length_eq_zero_iff.1 (by omega)
    subst this
    unfold split
    rw [count_one]; rfl
  | succ k ih =>
    intro s h
    rcases spl_cases c s with hn | ⟨a, b, rfl, ha⟩
    · unfold split
      rw [count_one, List.count_eq_zero_of_not_mem hn, spl_not c s hn]; rfl
    · have hb := ih b (by simp at h; omega)
      unfold split at hb ⊢
      rw [count_one] at hb ⊢
      rw [spl_here c b a ha, List.count_append, List.count_eq_zero_of_not_mem ha, List.count_cons_self, Nat.zero_add, splitK, index_here c b a ha, if_neg (by simp), ← hb]
      simp

/-! Fractions. -/
/-- The text of a fraction. -/
def fmtR (n d : Int) : List UInt8 := itoa n ++ if d = 1 then [] else 47 :: itoa d
theorem fmtR_cut (n d : Int) : cut (fmtR n d) [47] = (itoa n, if d = 1 then ([], false) else (itoa d, true)) := by
  unfold fmtR
  split
  · rw [List.append_nil, cut_not 47 _ (itoa_not47 n)]
  · rw [cut_here 47 _ _ (itoa_not47 n)]
theorem fmtR_spl (n d : Int) : spl 47 (fmtR n d) = if d = 1 then [itoa n] else [itoa n, itoa d] := by
  unfold fmtR
  split
  · rw [List.append_nil, spl_not 47 _ (itoa_not47 n)]
  · rw [spl_here 47 _ _ (itoa_not47 n), spl_not 47 _ (itoa_not47 d)]
theorem fmtR_inj {n d m e : Int} (h1 : -9223372036854775808 ≤ n) (h2 : n ≤ 9223372036854775807) (h3 : -9223372036854775808 ≤ m) (h4 : m ≤ 9223372036854775807)
    (h5 : -9223372036854775808 ≤ d) (h6 : d ≤ 9223372036854775807) (h7 : -9223372036854775808 ≤ e) (h8 : e ≤ 9223372036854775807) (h : fmtR n d = fmtR m e) : n = m ∧ d = e := by
  have hs := fmtR_spl n d
  rw [h, fmtR_spl m e] at hs
  by_cases a : d = 1 <;> by_cases b : e = 1 <;> simp only [a, b, if_true, if_false, List.cons.injEq, List.cons_ne_nil, and_true, and_false, List.nil_eq] at hs
  · exact ⟨(itoa_inj h3 h4 h1 h2 hs).symm, by omega⟩
  · exact ⟨(itoa_inj h3 h4 h1 h2 hs.1).symm, (itoa_inj h7 h8 h5 h6 hs.2).symm⟩

/-! Money. -/
def unit (a : Nat) (c : UInt8) : List (List UInt8) := if a = 0 then [] else [decDigits a ++ [c]]
/-- The words of a sum. -/
def mW (n : Nat) : List (List UInt8) := unit (n / 240) 108 ++ unit (n / 12 % 20) 115 ++ unit (n % 12) 100
def fmtM (p : Int) : List UInt8 := if p = 0 then [48, 100] else (if p < 0 then [45] else []) ++ join (mW p.natAbs) [32]
theorem mW_ne {n : Nat} (h : 0 < n) : mW n ≠ [] := by
  unfold mW unit
  by_cases h1 : n / 240 = 0
  · by_cases h2 : n / 12 % 20 = 0
    · have h3 : ¬ n % 12 = 0 := by omega
      simp [h1, h2, h3]
    · simp [h1, h2]
  · simp [h1]
theorem word_not {a : Nat} {c x : UInt8} (hx : x.toNat < 48) (hc : 57 < c.toNat) : x ∉ decDigits a ++ [c] := by
  intro h
  rcases List.mem_append.1 h with h | h
  · exact dec_not hx h
  · have : x = c := by simpa using h
    subst this; omega
theorem unit_mem {a : Nat} {c : UInt8} {w : List UInt8} (h : w ∈ unit a c) : a ≠ 0 ∧ w = decDigits a ++ [c] := by
  unfold unit at h
  split at h
  · simp at h
  · rename_i h0; exact ⟨h0, by simpa using h⟩
theorem mW_mem {n : Nat} {w : List UInt8} (h : w ∈ mW n) : ∃ a c, 57 < c.toNat ∧ w = decDigits a ++ [c] := by
  unfold mW at h
  rcases List.mem_append.1 h with h | h
  · rcases List.mem_append.1 h with h | h
    · exact ⟨_, _, by decide, (unit_mem h).2⟩
    · exact ⟨_, _, by decide, (unit_mem h).2⟩
  · exact ⟨_, _, by decide, (unit_mem h).2⟩
theorem spl_join (c : UInt8) : ∀ (ws : List (List UInt8)), ws ≠ [] → (∀ w ∈ ws, c ∉ w) → spl c (join ws [c]) = ws
  | [w], _, h => by rw [join_one]; exact spl_not c w (h w (by simp))
  | w :: x :: r, _, h => by
    have e : join (w :: x :: r) [c] = w ++ c :: join (x :: r) [c] := by
      unfold join List.intercalate; simp
    rw [e, spl_here c _ w (h w (by simp)), spl_join c (x :: r) (by simp) fun y hy => h y (List.mem_cons_of_mem _ hy)]
  | [], h, _ => absurd rfl h

/-! What the program reads. -/
def unitV (c : UInt8) : Option Int := if c = 108 then some 240 else if c = 115 then some 12 else if c = 100 then some 1 else none
def lastB (w : List UInt8) : UInt8 := w.getD (w.length - 1) 0
def headW (w : List UInt8) : List UInt8 := w.take (w.length - 1)
theorem lastB_snoc (l : List UInt8) (c : UInt8) : lastB (l ++ [c]) = c := by
  unfold lastB; simp [List.getD_eq_getElem?_getD]
theorem headW_snoc (l : List UInt8) (c : UInt8) : headW (l ++ [c]) = l := by
  unfold headW; simp
/-- The pence of a word; W is what becomes of a product. -/
def pV (W : Int → Int) (w : List UInt8) : Option Int := if w = [] then none else match atoiAll (headW w) with
  | .ok v => (unitV (lastB w)).map fun k => W (v * k)
  | _ => none
def pSum (W : Int → Int) : Int → List (List UInt8) → Option Int
  | acc, [] => some acc
  | acc, w :: r => match pV W w with
    | none => none
    | some v => pSum W (W (acc + v)) r
/-- W leaves alone what fits. -/
def Fits (W : Int → Int) : Prop := ∀ x, -9223372036854775808 ≤ x → x ≤ 9223372036854775807 → W x = x
theorem pV_word {W : Int → Int} (hW : Fits W) {a : Nat} {c : UInt8} {k : Int} (hk : unitV c = some k) (hk1 : 0 ≤ k) (hk2 : k ≤ 240) (ha : a ≤ 1099511627776) : pV W (decDigits a ++ [c]) = some (a * k) := by
  have h0 : (0 : Int) ≤ a := by omega
  have h1 := Int.mul_nonneg h0 hk1
  have h2 : (a : Int) * k ≤ 1099511627776 * 240 := Int.mul_le_mul (by omega) hk2 hk1 (by omega)
  have h3 := atoi_itoa (n := (a : Int)) (by omega) (by omega)
  rw [itoa_nat] at h3
  unfold pV
  rw [if_neg (by simp), headW_snoc, lastB_snoc, h3, hk]
  show some (W (a * k)) = some ((a : Int) * k)
  rw [hW _ (by omega) (by omega)]
theorem pSum_unit {W : Int → Int} (hW : Fits W) {a : Nat} {c : UInt8} {k : Int} (hk : unitV c = some k) (hk1 : 0 ≤ k) (hk2 : k ≤ 240) (ha : a ≤ 1099511627776) (acc : Int) (h0 : 0 ≤ acc) (h1 : acc ≤ 1099511627776000) (r : List (List UInt8)) :
    pSum W acc (unit a c ++ r) = pSum W (acc + a * k) r := by
  have hn : (0 : Int) ≤ a := by omega
  have g1 := Int.mul_nonneg hn hk1
  have g2 : (a : Int) * k ≤ 1099511627776 * 240 := Int.mul_le_mul (by omega) hk2 hk1 (by omega)
  unfold unit
  split
  · rename_i h; subst h; simp
  · rw [List.singleton_append, pSum, pV_word hW hk hk1 hk2 ha]
    show pSum W (W (acc + a * k)) r = _
    rw [hW _ (by omega) (by omega)]
theorem pSum_mW {W : Int → Int} (hW : Fits W) {n : Nat} (h : n ≤ 1099511627776) : pSum W 0 (mW n) = some n := by
  have e : mW n = unit (n / 240) 108 ++ (unit (n / 12 % 20) 115 ++ (unit (n % 12) 100 ++ [])) := by unfold mW; simp
  rw [e, pSum_unit hW (k := 240) rfl (by omega) (by omega) (by omega) _ (by omega) (by omega), pSum_unit hW (k := 12) rfl (by omega) (by omega) (by omega) _ (by omega) (by omega),
    pSum_unit hW (k := 1) rfl (by omega) (by omega) (by omega) _ (by omega) (by omega), pSum]
  congr 1
  omega
theorem zeroW : ([48, 100] : List UInt8) = decDigits 0 ++ [100] := by rw [dec_small (by decide)]; rfl
/-- The text behind its sign, and whether there is one. -/
def amount (s : List UInt8) : List UInt8 := trimPrefix s [45]
def isNeg (s : List UInt8) : Bool := hasPrefix s [45]
theorem sign_yes (s : List UInt8) : amount (45 :: s) = s ∧ isNeg (45 :: s) = true := by
  have h : isNeg (45 :: s) = true := by simp [isNeg, hasPrefix, List.isPrefixOf]
  refine ⟨?_, h⟩
  unfold amount trimPrefix; exact (if_pos (show hasPrefix (45 :: s) [45] = true from h)).trans rfl
theorem sign_no {s : List UInt8} (h : s.head? ≠ some 45) : amount s = s ∧ isNeg s = false := by
  have h : isNeg s = false := by
    cases s with
    | nil => rfl
    | cons x r =>
      have : x ≠ 45 := fun e => h (by rw [e]; rfl)
      simp [isNeg, hasPrefix, List.isPrefixOf, Ne.symm this]
  refine ⟨?_, h⟩
  unfold amount trimPrefix; rw [if_neg (by show ¬ isNeg s = true; rw [h]; simp)]
theorem join_head {n : Nat} (h : 0 < n) : (join (mW n) [32]).head? ≠ some 45 := by
  cases hm : mW n with
  | nil => exact absurd hm (mW_ne h)
  | cons w r =>
    obtain ⟨a, c, _, rfl⟩ := mW_mem (n := n) (w := w) (by rw [hm]; simp)
    have : (join ((decDigits a ++ [c]) :: r) [32]).head? = (decDigits a).head? := by
      cases hd : decDigits a with
      | nil => exact absurd hd (dec_ne a)
      | cons x t =>
        cases r with
        | nil => rw [join_one]; rfl
        | cons y z => unfold join List.intercalate; simp
    rw [this]
    cases hd : decDigits a with
    | nil => exact absurd hd (dec_ne a)
    | cons x t =>
      have hx := dec_mem (u := a) (c := x) (by rw [hd]; simp)
      intro e
      simp only [List.head?_cons, Option.some.injEq] at e
      subst e
      exact absurd hx.1 (by decide)
theorem mW_spl {n : Nat} (h : 0 < n) : spl 32 (join (mW n) [32]) = mW n :=
  spl_join 32 _ (mW_ne h) fun w hw => by
    obtain ⟨a, c, hc, rfl⟩ := mW_mem hw
    exact word_not (by decide) hc
/-- The pieces of what is written, and its sign. -/
theorem fmtM_parts (p : Int) : isNeg (fmtM p) = decide (p < 0) ∧ spl 32 (amount (fmtM p)) = if p = 0 then [decDigits 0 ++ [100]] else mW p.natAbs := by
  unfold fmtM
  by_cases h : p = 0
  · subst h
    rw [if_pos rfl, if_pos rfl, zeroW]
    exact ⟨(sign_no (s := decDigits 0 ++ [100]) (by rw [dec_small (by decide)]; decide)).2, by
      have e := (sign_no (s := decDigits 0 ++ [100]) (by rw [dec_small (by decide)]; decide)).1
      rw [e, spl_not _ _ (word_not (by decide) (by decide))]⟩
  · rw [if_neg h, if_neg h]
    have hn : 0 < p.natAbs := by omega
    by_cases hs : p < 0
    · rw [if_pos hs, List.singleton_append, (sign_yes _).1, (sign_yes _).2, mW_spl hn]
      exact ⟨by simp [hs], rfl⟩
    · rw [if_neg hs, List.nil_append, (sign_no (join_head hn)).1, (sign_no (join_head hn)).2, mW_spl hn]
      exact ⟨by simp [hs], rfl⟩
/-- What the program reads of a text. -/
def pT (W : Int → Int) (s : List UInt8) : Option Int := (pSum W 0 (spl 32 (amount s))).map fun v => if isNeg s = true then W (-v) else v
theorem pT_fmt {W : Int → Int} (hW : Fits W) {p : Int} (h1 : -1099511627776 ≤ p) (h2 : p ≤ 1099511627776) : pT W (fmtM p) = some p := by
  unfold pT
  rw [(fmtM_parts p).1, (fmtM_parts p).2]
  have hs : pSum W 0 (if p = 0 then [decDigits 0 ++ [100]] else mW p.natAbs) = some (p.natAbs : Int) := by
    split
    · rename_i h; subst h
      rw [pSum, pV_word hW (k := 1) rfl (by omega) (by omega) (by omega)]
      show pSum W (W (0 + ((0 : Nat) : Int) * 1)) [] = _
      rw [pSum, hW _ (by omega) (by omega)]; rfl
    · exact pSum_mW hW (by omega)
  rw [hs]
  show some (if decide (p < 0) = true then W (-(p.natAbs : Int)) else (p.natAbs : Int)) = some p
  congr 1
  by_cases h : p < 0
  · rw [if_pos (by simpa using h), hW _ (by omega) (by omega)]; omega
  · rw [if_neg (by simpa using h)]; omega
/-- The answer: only what is written so counts. -/
def inM (p : Int) : Bool := decide (-1099511627776 ≤ p) && decide (p ≤ 1099511627776)
def okM (s : List UInt8) (p : Int) : Bool := inM p && decide (fmtM p = s)
def ansM (s : List UInt8) : Option Int → Int × Int
  | none => (0, 3)
  | some p => if okM s p = true then (p, 0) else (0, 3)
theorem ans_same {f g : List UInt8 → Option Int} (hf : ∀ p, inM p = true → f (fmtM p) = some p) (hg : ∀ p, inM p = true → g (fmtM p) = some p) (s : List UInt8) : ansM s (f s) = ansM s (g s) := by
  by_cases h : ∃ p, okM s p = true
  · obtain ⟨p, hp⟩ := h
    unfold okM at hp
    simp only [Bool.and_eq_true, decide_eq_true_eq] at hp
    obtain ⟨h1, rfl⟩ := hp
    rw [hf p h1, hg p h1]
  · have hn : ∀ x : Option Int, ansM s x = (0, 3) := by
      intro x
      cases x with
      | none => rfl
      | some p => show (if okM s p = true then (p, 0) else (0, 3)) = _; rw [if_neg fun e => h ⟨p, e⟩]
    rw [hn, hn]
theorem ans_back {f : List UInt8 → Option Int} (hf : ∀ p, inM p = true → f (fmtM p) = some p) {p : Int} (hp : inM p = true) : ansM (fmtM p) (f (fmtM p)) = (p, 0) := by
  rw [hf p hp]
  show (if okM (fmtM p) p = true then (p, (0 : Int)) else (0, 3)) = _
  rw [if_pos (by unfold okM; rw [hp]; simp)]
theorem inM_of {p : Int} (h : inM p = true) : -1099511627776 ≤ p ∧ p ≤ 1099511627776 := by unfold inM at h; simpa using h

/-! What the reference reads. -/
def sgn (s : List UInt8) : Int := if s.head? = some 45 then -1 else 1
def digs (s : List UInt8) : List UInt8 := if s.head? = some 45 then s.drop 1 else s
/-- Whether the length and the bytes are those of a number. -/
def numOk (s : List UInt8) : Bool := decide (1 ≤ (digs s).length) && decide ((digs s).length ≤ 15) && (digs s).all isDig
def numR (s : List UInt8) : Int × Bool := if numOk s = true then (sgn s * numN (digs s), decide (itoa (sgn s * numN (digs s)) = s)) else (0, false)
theorem itoa_digs (n : Int) : digs (itoa n) = decDigits n.natAbs ∧ sgn (itoa n) * n.natAbs = n := by
  unfold digs sgn
  by_cases h : n < 0
  · have e : itoa n = 45 :: decDigits n.natAbs := by unfold itoa; rw [if_pos h]
    rw [e]
    simp only [List.head?_cons, if_true, List.drop_one, List.tail_cons, true_and]
    omega
  · have e : itoa n = decDigits n.natAbs := by unfold itoa; rw [if_neg h]; congr 1; omega
    rw [e]
    have hh : ¬ (decDigits n.natAbs).head? = some 45 := by
      cases hd : decDigits n.natAbs with
      | nil => simp
      | cons x t =>
        have hx := dec_mem (u := n.natAbs) (c := x) (by rw [hd]; simp)
        intro e
        simp only [List.head?_cons, Option.some.injEq] at e
        subst e
        exact absurd hx.1 (by decide)
    rw [if_neg hh, if_neg hh]
    exact ⟨rfl, by omega⟩
theorem numR_itoa {n : Int} (h1 : -1000000000000000 < n) (h2 : n < 1000000000000000) : numR (itoa n) = (n, true) := by
  obtain ⟨d, s⟩ := itoa_digs n
  have hl := dec_len 14 n.natAbs (by omega)
  have hp : 1 ≤ (decDigits n.natAbs).length := by have := dec_ne n.natAbs; cases hd : decDigits n.natAbs with
    | nil => exact absurd hd this
    | cons _ _ => simp
  have ho : numOk (itoa n) = true := by
    unfold numOk; rw [d, dec_all]; simp; omega
  unfold numR
  rw [if_pos ho, d, numN_dec, s]
  simp
theorem numR_bd (s : List UInt8) : -1000000000000000 < (numR s).1 ∧ (numR s).1 < 1000000000000000 := by
  unfold numR
  split
  · rename_i h
    unfold numOk at h
    simp only [Bool.and_eq_true, decide_eq_true_eq] at h
    have := numN_lt _ _ h.2 rfl
    have h3 : 10 ^ (digs s).length ≤ 10 ^ 15 := Nat.pow_le_pow_right (by decide) h.1.2
    have h4 : (10 : Nat) ^ 15 = 1000000000000000 := by decide
    show _ < sgn s * _ ∧ sgn s * _ < _
    unfold sgn
    split <;> omega
  · simp
theorem numR_ok {s : List UInt8} (h : (numR s).2 = true) : itoa (numR s).1 = s := by
  unfold numR at h ⊢
  split at h
  · rename_i ho; rw [if_pos ho]; simpa using h
  · simp at h
def rV (w : List UInt8) : Option Int := if w.length < 2 then none else
  if (numR (headW w)).2 = false ∨ (numR (headW w)).1 < 0 ∨ 1099511627776 < (numR (headW w)).1 then none else (unitV (lastB w)).map fun k => k * (numR (headW w)).1
def rSum : Int → List (List UInt8) → Option Int
  | acc, [] => some acc
  | acc, w :: r => match rV w with
    | none => none
    | some v => rSum (acc + v) r
theorem rV_word {a : Nat} {c : UInt8} {k : Int} (hk : unitV c = some k) (ha : a ≤ 1099511627776) : rV (decDigits a ++ [c]) = some (k * a) := by
  have h3 := numR_itoa (n := (a : Int)) (by omega) (by omega)
  rw [itoa_nat] at h3
  unfold rV
  rw [if_neg (by have := dec_ne a; cases hd : decDigits a with
    | nil => exact absurd hd this
    | cons _ _ => simp), headW_snoc, lastB_snoc, h3, if_neg (by simp; omega), hk]
  rfl
theorem rSum_unit {a : Nat} {c : UInt8} {k : Int} (hk : unitV c = some k) (ha : a ≤ 1099511627776) (acc : Int) (r : List (List UInt8)) :
    rSum acc (unit a c ++ r) = rSum (acc + k * a) r := by
  unfold unit
  split
  · rename_i h; subst h; simp
  · rw [List.singleton_append, rSum, rV_word hk ha]
theorem rSum_mW {n : Nat} (h : n ≤ 1099511627776) : rSum 0 (mW n) = some n := by
  have e : mW n = unit (n / 240) 108 ++ (unit (n / 12 % 20) 115 ++ (unit (n % 12) 100 ++ [])) := by unfold mW; simp
  rw [e, rSum_unit (k := 240) rfl (by omega), rSum_unit (k := 12) rfl (by omega), rSum_unit (k := 1) rfl (by omega), rSum]
  congr 1
  omega
theorem mW_len (n : Nat) : (mW n).length ≤ 3 := by
  unfold mW unit
  simp only [List.length_append]
  split <;> split <;> split <;> simp
def rT (s : List UInt8) : Option Int := (rSum 0 ((spl 32 (digs s)).take 4)).map fun v => sgn s * v
theorem digs_amount (s : List UInt8) : digs s = amount s ∧ sgn s = if isNeg s = true then -1 else 1 := by
  unfold digs sgn
  by_cases h : s.head? = some 45
  · cases s with
    | nil => simp at h
    | cons x r =>
      have : x = 45 := by simpa using h
      subst this
      rw [(sign_yes r).1, (sign_yes r).2]
      simp
  · rw [(sign_no h).1, (sign_no h).2, if_neg h, if_neg h]
    simp
theorem rT_fmt {p : Int} (h1 : -1099511627776 ≤ p) (h2 : p ≤ 1099511627776) : rT (fmtM p) = some p := by
  unfold rT
  rw [(digs_amount _).1, (digs_amount _).2, (fmtM_parts p).1, (fmtM_parts p).2]
  have hs : rSum 0 (List.take 4 (if p = 0 then [decDigits 0 ++ [100]] else mW p.natAbs)) = some (p.natAbs : Int) := by
    split
    · rename_i h; subst h
      show rSum 0 [decDigits 0 ++ [100]] = _
      rw [rSum, rV_word (k := 1) rfl (by omega)]; rfl
    · rw [List.take_of_length_le (by have := mW_len p.natAbs; omega)]; exact rSum_mW (by omega)
  rw [hs]
  show some ((if decide (p < 0) = true then -1 else 1) * (p.natAbs : Int)) = some p
  congr 1
  by_cases h : p < 0
  · rw [if_pos (by simpa using h)]; omega
  · rw [if_neg (by simpa using h)]; omega
theorem money_same {W : Int → Int} (hW : Fits W) (s : List UInt8) : ansM s (pT W s) = ansM s (rT s) :=
  ans_same (fun p hp => pT_fmt hW (inM_of hp).1 (inM_of hp).2) (fun p hp => rT_fmt (inM_of hp).1 (inM_of hp).2) s
theorem money_back {W : Int → Int} (hW : Fits W) {p : Int} (hp : inM p = true) : ansM (fmtM p) (pT W (fmtM p)) = (p, 0) :=
  ans_back (f := pT W) (fun p hp => pT_fmt hW (inM_of hp).1 (inM_of hp).2) hp

/-! Fractions that are read. -/
def okR (V : Int → Int → Bool) (s : List UInt8) (r : Int × Int) : Bool := V r.1 r.2 && decide (fmtR r.1 r.2 = s)
def ansR (V : Int → Int → Bool) (s : List UInt8) : Option (Int × Int) → (Int × Int) × Int
  | none => ((0, 0), 3)
  | some r => if okR V s r = true then (r, 0) else ((0, 0), 3)
/-- Only numbers that fit are valid. -/
def Near (V : Int → Int → Bool) : Prop := ∀ n d, V n d = true → -1099511627776 ≤ n ∧ n ≤ 1099511627776 ∧ 1 ≤ d ∧ d ≤ 1048576
def pR (s : List UInt8) : Option (Int × Int) := match atoiAll (cut s [47]).1, atoiAll (if (cut s [47]).2.2 = true then (cut s [47]).2.1 else [49]) with
  | .ok n, .ok d => some (n, d)
  | _, _ => none
theorem one_itoa : ([49] : List UInt8) = itoa 1 := by unfold itoa; rw [if_neg (by decide), show ((1 : Int).toNat) = 1 from rfl, dec_small (by decide)]; rfl
theorem pR_fmt {V : Int → Int → Bool} (hV : Near V) {n d : Int} (h : V n d = true) : pR (fmtR n d) = some (n, d) := by
  obtain ⟨h1, h2, h3, h4⟩ := hV n d h
  unfold pR
  rw [fmtR_cut]
  by_cases e : d = 1
  · subst e
    simp only [if_true]
    rw [atoi_itoa (by omega) (by omega)]
    simp only [Bool.false_eq_true, if_false]
    rw [one_itoa, atoi_itoa (by omega) (by omega)]
  · simp only [e, if_false]
    rw [atoi_itoa (by omega) (by omega)]
    simp only [if_true]
    rw [atoi_itoa (by omega) (by omega)]
/-- The reference's: the first piece, and the second where there are two. -/
def rR (s : List UInt8) : Option (Int × Int) := match spl 47 s with
  | [] => none
  | a :: t => match t with
    | [b] => if (numR a).2 = true ∧ (numR b).2 = true then some ((numR a).1, (numR b).1) else none
    | _ => if (numR a).2 = true then some ((numR a).1, 1) else none
theorem rR_fmt {V : Int → Int → Bool} (hV : Near V) {n d : Int} (h : V n d = true) : rR (fmtR n d) = some (n, d) := by
  obtain ⟨h1, h2, h3, h4⟩ := hV n d h
  unfold rR
  rw [fmtR_spl]
  by_cases e : d = 1
  · subst e
    simp only [if_true]
    rw [numR_itoa (by omega) (by omega)]
    rfl
  · simp only [e, if_false]
    rw [numR_itoa (by omega) (by omega), numR_itoa (by omega) (by omega)]
    simp
theorem ansR_same {V : Int → Int → Bool} (hV : Near V) (s : List UInt8) : ansR V s (pR s) = ansR V s (rR s) := by
  by_cases h : ∃ r, okR V s r = true
  · obtain ⟨⟨n, d⟩, hp⟩ := h
    unfold okR at hp
    simp only [Bool.and_eq_true, decide_eq_true_eq] at hp
    obtain ⟨h1, rfl⟩ := hp
    rw [pR_fmt hV h1, rR_fmt hV h1]
  · have hn : ∀ x : Option (Int × Int), ansR V s x = ((0, 0), 3) := by
      intro x
      cases x with
      | none => rfl
      | some p => show (if okR V s p = true then (p, (0 : Int)) else ((0, 0), 3)) = _; rw [if_neg fun e => h ⟨p, e⟩]
    rw [hn, hn]
theorem ansR_back {V : Int → Int → Bool} (hV : Near V) {n d : Int} (h : V n d = true) : ansR V (fmtR n d) (pR (fmtR n d)) = ((n, d), 0) := by
  rw [pR_fmt hV h]
  show (if okR V (fmtR n d) (n, d) = true then ((n, d), (0 : Int)) else _) = _
  rw [if_pos (by unfold okR; rw [h]; simp)]
end Tx
end Go.Proofs.YtcljpklgpedolaaGreatDoor
