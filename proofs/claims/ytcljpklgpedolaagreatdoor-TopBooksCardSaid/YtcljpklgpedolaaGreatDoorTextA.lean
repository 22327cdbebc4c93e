/- Texts of numbers, fractions and money: plain. Texts of numbers and fractions: the program's. Texts of numbers and fractions: the reference's. The reference's reading of a number. The reference's pieces of a text. -/
import Derived.Lib.ItoaNum
import Derived.Lib.AtoiAll
import Derived.Lib.SplitLaws
import Derived.Lib.IndexMore
import Derived.Lib.Strings
import Derived.Lib.Join
import Derived.Test.YtcljpklgpedolaaGreatDoorSeqA
import Derived.Lib.SmallJoins
import Derived.Laws.IdiomStrings
namespace Go.Proofs.YtcljpklgpedolaaGreatDoor
namespace Tx
open Go.Lib

theorem dig_byte {u : Nat} (h : u < 10) : (UInt8.ofNat (48 + u)).toNat = 48 + u := by
  simp [UInt8.toNat_ofNat']; omega
theorem dec_small {u : Nat} (h : u < 10) : decDigits u = [UInt8.ofNat (48 + u)] := by rw [decDigits, dif_pos h]
theorem dec_big {u : Nat} (h : ¬ u < 10) : decDigits u = decDigits (u / 10) ++ [UInt8.ofNat (48 + u % 10)] := by rw [decDigits, dif_neg h]
/-- A byte is a digit. -/
def isDig (c : UInt8) : Bool := decide (48 ≤ c.toNat) && decide (c.toNat ≤ 57)
theorem isDig_of {u : Nat} (h : u < 10) : isDig (UInt8.ofNat (48 + u)) = true := by
  unfold isDig; rw [dig_byte h]; simp; omega
theorem dec_all (u : Nat) : (decDigits u).all isDig = true := by
  induction u using Nat.strongRecOn with
  | ind u ih =>
    by_cases h : u < 10
    · rw [dec_small h, List.all_cons, isDig_of h]; rfl
    · rw [dec_big h, List.all_append, ih _ (by omega), List.all_cons, isDig_of (show u % 10 < 10 by omega)]; rfl
theorem dec_ne (u : Nat) : decDigits u ≠ [] := by
  by_cases h : u < 10
  · rw [dec_small h]; simp
  · rw [dec_big h]; simp
theorem dec_mem {u : Nat} {c : UInt8} (h : c ∈ decDigits u) : 48 ≤ c.toNat ∧ c.toNat ≤ 57 := by
  have := List.all_eq_true.1 (dec_all u) c h
  unfold isDig at this
  simpa using this
theorem dec_not {u : Nat} {c : UInt8} (h : c.toNat < 48) : c ∉ decDigits u := fun hc => by have := dec_mem hc; omega
theorem dec_not' {u : Nat} {c : UInt8} (h : 57 < c.toNat) : c ∉ decDigits u := fun hc => by have := dec_mem hc; omega

theorem parse_snoc (c : UInt8) : ∀ (l : List UInt8) (acc x : Nat), parseUint10 acc l = .ok x → parseUint10 acc (l ++ [c]) = parseUint10 x [c]
  | [], acc, x, h => by
    simp only [parseUint10] at h
    injection h with h
    subst h; rfl
  | b :: l, acc, x, h => by
    simp only [parseUint10] at h
    rw [List.cons_append, parseUint10]
    split at h
    · rename_i h1
      rw [if_pos h1]
      split at h
      · cases h
      · rename_i h2
        rw [if_neg h2]
        split at h
        · cases h
        · rename_i h3
          rw [if_neg h3]
          exact parse_snoc c l _ x h
    · cases h
theorem parse_one (acc : Nat) {u : Nat} (h : u < 10) (ha : acc * 10 + u < 18446744073709551616) : parseUint10 acc [UInt8.ofNat (48 + u)] = .ok (acc * 10 + u) := by
  have hb := dig_byte h
  simp only [parseUint10]
  rw [hb, if_pos (by omega), if_neg (by omega), if_neg (by omega)]
  congr 1
  omega
theorem parse_dec (u : Nat) (hu : u < 18446744073709551616) : parseUint10 0 (decDigits u) = .ok u := by
  induction u using Nat.strongRecOn with
  | ind u ih =>
    by_cases h : u < 10
    · rw [dec_small h, parse_one 0 h (by omega)]; simp
    · rw [dec_big h, parse_snoc _ _ _ _ (ih (u / 10) (by omega) (by omega)), parse_one _ (by omega) (by omega)]
      congr 1
      omega
theorem atoi_itoa {n : Int} (h1 : -9223372036854775808 ≤ n) (h2 : n ≤ 9223372036854775807) : atoiAll (itoa n) = .ok n := by
  unfold itoa
  split
  · rename_i h
    have hm : parseMag (decDigits n.natAbs) = .ok n.natAbs := by
      unfold parseMag; rw [if_neg (dec_ne _), parse_dec _ (by omega)]
    simp only [atoiAll]
    rw [if_pos (.inr (by decide)), hm]
    simp only
    rw [if_neg (by simp), if_neg (by omega), if_pos (by decide)]
    congr 1
    omega
  · rename_i h
    have hm : parseMag (decDigits n.toNat) = .ok n.toNat := by
      unfold parseMag; rw [if_neg (dec_ne _), parse_dec _ (by omega)]
    cases hd : decDigits n.toNat with
    | nil => exact absurd hd (dec_ne _)
    | cons c r =>
      have hc := dec_mem (u := n.toNat) (c := c) (by rw [hd]; simp)
      simp only [atoiAll]
      rw [if_neg (by omega), ← hd, hm]
      simp only
      rw [if_neg (by omega), if_neg (by omega), if_neg (by omega)]
      congr 1
      omega
theorem itoa_inj {n m : Int} (h1 : -9223372036854775808 ≤ n) (h2 : n ≤ 9223372036854775807) (h3 : -9223372036854775808 ≤ m) (h4 : m ≤ 9223372036854775807) (h : itoa n = itoa m) : n = m := by
  have := atoi_itoa h1 h2
  rw [h, atoi_itoa h3 h4] at this
  injection this with this
  exact this.symm
theorem itoa_nat (u : Nat) : itoa (u : Int) = decDigits u := by unfold itoa; rw [if_neg (by omega)]; congr 1
theorem itoa_neg {n : Int} (h : n < 0) : itoa n = 45 :: itoa (-n) := by
  unfold itoa; rw [if_pos h, if_neg (by omega)]; congr 2; omega
theorem itoa_not {n : Int} {c : UInt8} (h : c.toNat < 45) : c ∉ itoa n := by
  unfold itoa
  split
  · intro hc
    rcases List.mem_cons.1 hc with e | hc
    · subst e; exact absurd h (by decide)
    · exact dec_not (by omega) hc
  · exact dec_not (by omega)
theorem itoa_not47 (n : Int) : (47 : UInt8) ∉ itoa n := by
  unfold itoa
  split
  · intro hc
    rcases List.mem_cons.1 hc with e | hc
    · exact absurd e (by decide)
    · exact dec_not (by decide) hc
  · exact dec_not (by decide)
theorem itoa_ne (n : Int) : itoa n ≠ [] := by
  unfold itoa
  split
  · simp
  · exact dec_ne _

/-- The number that digits spell. -/
def numN (l : List UInt8) : Nat := l.foldl (fun a c => a * 10 + (c.toNat - 48)) 0
theorem numN_snoc (l : List UInt8) (c : UInt8) : numN (l ++ [c]) = numN l * 10 + (c.toNat - 48) := by
  unfold numN; rw [List.foldl_append]; rfl
theorem numN_dec (u : Nat) : numN (decDigits u) = u := by
  induction u using Nat.strongRecOn with
  | ind u ih =>
    by_cases h : u < 10
    · rw [dec_small h]; show 0 * 10 + ((UInt8.ofNat (48 + u)).toNat - 48) = u; rw [dig_byte h]; omega
    · rw [dec_big h, numN_snoc, ih _ (by omega), dig_byte (by omega)]; omega
theorem dec_len : ∀ (k u : Nat), u < 10 ^ (k + 1) → (decDigits u).length ≤ k + 1
  | 0, u, h => by rw [dec_small (by simpa using h)]; simp
  | k + 1, u, h => by
    by_cases hs : u < 10
    · rw [dec_small hs]; simp
    · have := dec_len k (u / 10) (by rw [Nat.pow_succ] at h; omega)
      rw [dec_big hs]; simp; omega
theorem numN_lt : ∀ (k : Nat) (l : List UInt8), l.all isDig = true → l.length = k → numN l < 10 ^ k
  | 0, l, _, h => by
    have : l = [] := List.length_eq_zero_iff.1 h
    subst this; decide
  | k + 1, l, ha, h => by
    rcases List.eq_nil_or_concat l with e | ⟨t, c, e⟩
    · subst e; simp at h
    · subst e
      rw [List.concat_eq_append] at ha h ⊢
      rw [List.all_append, Bool.and_eq_true] at ha
      have ht := numN_lt k t ha.1 (by simpa using h)
      have hc : isDig c = true := by simpa using ha.2
      unfold isDig at hc
      simp only [Bool.and_eq_true, decide_eq_true_eq] at hc
      rw [numN_snoc, Nat.pow_succ]
      omega

/-! Cutting at one byte. -/
theorem index_here (c : UInt8) (b : List UInt8) : ∀ a : List UInt8, c ∉ a → index (a ++ c :: b) [c] = a.length
  | [], _ => by rw [List.nil_append, index]; simp [List.isPrefixOf]
  | x :: a, h => by
    have hx : x ≠ c := fun e => h (by simp [e])
    have hp : ([c] : List UInt8).isPrefixOf (x :: (a ++ c :: b)) = false := by simp [List.isPrefixOf, Ne.symm hx]
    rw [List.cons_append, index, hp, index_here c b a (fun e => h (by simp [e]))]
    have : ((a.length : Int) == -1) = false := by simp
    rw [this]; simp
theorem index_not (c : UInt8) : ∀ a : List UInt8, c ∉ a → index a [c] = -1
  | [], _ => rfl
  | x :: a, h => by
    have hx : x ≠ c := fun e => h (by simp [e])
    have hp : ([c] : List UInt8).isPrefixOf (x :: a) = false := by simp [List.isPrefixOf, Ne.symm hx]
    rw [index, hp, index_not c a (fun e => h (by simp [e]))]; rfl
theorem cut_here (c : UInt8) (a b : List UInt8) (h : c ∉ a) : cut (a ++ c :: b) [c] = (a, b, true) := by
  unfold cut
  rw [index_here c b a h, if_pos (by omega)]
  simp
theorem cut_not (c : UInt8) (a : List UInt8) (h : c ∉ a) : cut a [c] = (a, [], false) := by
  unfold cut
  rw [index_not c a h, if_neg (by decide)]
/-- The pieces between the bytes c. -/
def spl (c : UInt8) : List UInt8 → List (List UInt8)
  | [] => [[]]
  | b :: r => if b = c then [] :: spl c r else match spl c r with
    | [] => [[b]]
    | x :: t => (b :: x) :: t
theorem spl_ne (c : UInt8) (s : List UInt8) : spl c s ≠ [] := by
  cases s with
  | nil => simp [spl]
  | cons b r =>
    rw [spl]
    split
    · simp
    · split <;> simp
theorem spl_here (c : UInt8) (b : List UInt8) : ∀ a : List UInt8, c ∉ a → spl c (a ++ c :: b) = a :: spl c b
  | [], _ => by rw [List.nil_append, spl, if_pos rfl]
  | x :: a, h => by
    rw [List.cons_append, spl, if_neg (fun e => h (by simp [e])), spl_here c b a (fun e => h (by simp [e]))]
theorem spl_not (c : UInt8) : ∀ a : List UInt8, c ∉ a → spl c a = [a]
  | [], _ => rfl
  | x :: a, h => by
    rw [spl, if_neg (fun e => h (by simp [e])), spl_not c a (fun e => h (by simp [e]))]
theorem spl_cases (c : UInt8) (s : List UInt8) : c ∉ s ∨ ∃ a b, s = a ++ c :: b ∧ c ∉ a := by
  induction s with
  | nil => exact .inl (by simp)
  | cons x s ih =>
    by_cases e : x = c
    · subst e; exact .inr ⟨[], s, rfl, by simp⟩
    · rcases ih with h | ⟨a, b, rfl, h⟩
      · exact .inl fun hc => by
          rcases List.mem_cons.1 hc with h1 | h1
          · exact e h1.symm
          · exact h h1
      · exact .inr ⟨x :: a, b, rfl, fun hc => by
          rcases List.mem_cons.1 hc with h1 | h1
          · exact e h1.symm
          · exact h h1⟩
theorem split_spl (c : UInt8) : ∀ (k : Nat) (s : List UInt8), s.length ≤ k → split s [c] = spl c s := by
  intro k
  induction k with
  | zero =>
    intro s h
    have : s = [] := List.length_eq_zero_iff.1 (by omega)
    subst this
    unfold split
    rw [count_one]; rfl
  | succ k ih =>
    intro s h
    rcases spl_cases c s with hn | ⟨a, b, rfl, ha⟩
    · unfold split
      rw [count_one, List.count_eq_zero_of_not_mem hn, spl_not c s hn]; rfl
    · have hb := ih b (by simp at h; omega)
      unfold split at hb ⊢
      rw [count_one] at hb ⊢
      rw [spl_here c b a ha, List.count_append, List.count_eq_zero_of_not_mem ha, List.count_cons_self, Nat.zero_add, splitK, index_here c b a ha, if_neg (by simp), ← hb]
      simp

/-! Fractions. -/
/-- The text of a fraction. -/
def fmtR (n d : Int) : List UInt8 := itoa n ++ if d = 1 then [] else 47 :: itoa d
theorem fmtR_cut (n d : Int) : cut (fmtR n d) [47] = (itoa n, if d = 1 then ([], false) else (itoa d, true)) := by
  unfold fmtR
  split
  · rw [List.append_nil, cut_not 47 _ (itoa_not47 n)]
  · rw [cut_here 47 _ _ (itoa_not47 n)]
theorem fmtR_spl (n d : Int) : spl 47 (fmtR n d) = if d = 1 then [itoa n] else [itoa n, itoa d] := by
  unfold fmtR
  split
  · rw [List.append_nil, spl_not 47 _ (itoa_not47 n)]
  · rw [spl_here 47 _ _ (itoa_not47 n), spl_not 47 _ (itoa_not47 d)]
theorem fmtR_inj {n d m e : Int} (h1 : -9223372036854775808 ≤ n) (h2 : n ≤ 9223372036854775807) (h3 : -9223372036854775808 ≤ m) (h4 : m ≤ 9223372036854775807)
    (h5 : -9223372036854775808 ≤ d) (h6 : d ≤ 9223372036854775807) (h7 : -9223372036854775808 ≤ e) (h8 : e ≤ 9223372036854775807) (h : fmtR n d = fmtR m e) : n = m ∧ d = e := by
  have hs := fmtR_spl n d
  rw [h, fmtR_spl m e] at hs
  by_cases a : d = 1 <;> by_cases b : e = 1 <;> simp only [a, b, if_true, if_false, List.cons.injEq, List.cons_ne_nil, and_true, and_false, List.nil_eq] at hs
  · exact ⟨(itoa_inj h3 h4 h1 h2 hs).symm, by omega⟩
  · exact ⟨(itoa_inj h3 h4 h1 h2 hs.1).symm, (itoa_inj h7 h8 h5 h6 hs.2).symm⟩

/-! Money. -/
def unit (a : Nat) (c : UInt8) : List (List UInt8) := if a = 0 then [] else [decDigits a ++ [c]]
/-- The words of a sum. -/
def mW (n : Nat) : List (List UInt8) := unit (n / 240) 108 ++ unit (n / 12 % 20) 115 ++ unit (n % 12) 100
def fmtM (p : Int) : List UInt8 := if p = 0 then [48, 100] else (if p < 0 then [45] else []) ++ join (mW p.natAbs) [32]
theorem mW_ne {n : Nat} (h : 0 < n) : mW n ≠ [] := by
  unfold mW unit
  by_cases h1 : n / 240 = 0
  · by_cases h2 : n / 12 % 20 = 0
    · have h3 : ¬ n % 12 = 0 := by omega
      simp [h1, h2, h3]
    · simp [h1, h2]
  · simp [h1]
theorem word_not {a : Nat} {c x : UInt8} (hx : x.toNat < 48) (hc : 57 < c.toNat) : x ∉ decDigits a ++ [c] := by
  intro h
  rcases List.mem_append.1 h with h | h
  · exact dec_not hx h
  · have : x = c := by simpa using h
    subst this; omega
theorem unit_mem {a : Nat} {c : UInt8} {w : List UInt8} (h : w ∈ unit a c) : a ≠ 0 ∧ w = decDigits a ++ [c] := by
  unfold unit at h
  split at h
  · simp at h
  · rename_i h0; exact ⟨h0, by simpa using h⟩
theorem mW_mem {n : Nat} {w : List UInt8} (h : w ∈ mW n) : ∃ a c, 57 < c.toNat ∧ w = decDigits a ++ [c] := by
  unfold mW at h
  rcases List.mem_append.1 h with h | h
  · rcases List.mem_append.1 h with h | h
    · exact ⟨_, _, by decide, (unit_mem h).2⟩
    · exact ⟨_, _, by decide, (unit_mem h).2⟩
  · exact ⟨_, _, by decide, (unit_mem h).2⟩
theorem spl_join (c : UInt8) : ∀ (ws : List (List UInt8)), ws ≠ [] → (∀ w ∈ ws, c ∉ w) → spl c (join ws [c]) = ws
  | [w], _, h => by rw [join_one]; exact spl_not c w (h w (by simp))
  | w :: x :: r, _, h => by
    have e : join (w :: x :: r) [c] = w ++ c :: join (x :: r) [c] := by
      unfold join List.intercalate; simp
    rw [e, spl_here c _ w (h w (by simp)), spl_join c (x :: r) (by simp) fun y hy => h y (List.mem_cons_of_mem _ hy)]
  | [], h, _ => absurd rfl h

/-! What the program reads. -/
def unitV (c : UInt8) : Option Int := if c = 108 then some 240 else if c = 115 then some 12 else if c = 100 then some 1 else none
def lastB (w : List UInt8) : UInt8 := w.getD (w.length - 1) 0
def headW (w : List UInt8) : List UInt8 := w.take (w.length - 1)
theorem lastB_snoc (l : List UInt8) (c : UInt8) : lastB (l ++ [c]) = c := by
  unfold lastB; simp [List.getD_eq_getElem?_getD]
theorem headW_snoc (l : List UInt8) (c : UInt8) : headW (l ++ [c]) = l := by
  unfold headW; simp
/-- The pence of a word; W is what becomes of a product. -/
def pV (W : Int → Int) (w : List UInt8) : Option Int := if w = [] then none else match atoiAll (headW w) with
  | .ok v => (unitV (lastB w)).map fun k => W (v * k)
  | _ => none
def pSum (W : Int → Int) : Int → List (List UInt8) → Option Int
  | acc, [] => some acc
  | acc, w :: r => match pV W w with
    | none => none
    | some v => pSum W (W (acc + v)) r
/-- W leaves alone what fits. -/
def Fits (W : Int → Int) : Prop := ∀ x, -9223372036854775808 ≤ x → x ≤ 9223372036854775807 → W x = x
theorem pV_word {W : Int → Int} (hW : Fits W) {a : Nat} {c : UInt8} {k : Int} (hk : unitV c = some k) (hk1 : 0 ≤ k) (hk2 : k ≤ 240) (ha : a ≤ 1099511627776) : pV W (decDigits a ++ [c]) = some (a * k) := by
  have h0 : (0 : Int) ≤ a := by omega
  have h1 := Int.mul_nonneg h0 hk1
  have h2 : (a : Int) * k ≤ 1099511627776 * 240 := Int.mul_le_mul (by omega) hk2 hk1 (by omega)
  have h3 := atoi_itoa (n := (a : Int)) (by omega) (by omega)
  rw [itoa_nat] at h3
  unfold pV
  rw [if_neg (by simp), headW_snoc, lastB_snoc, h3, hk]
  show some (W (a * k)) = some ((a : Int) * k)
  rw [hW _ (by omega) (by omega)]
theorem pSum_unit {W : Int → Int} (hW : Fits W) {a : Nat} {c : UInt8} {k : Int} (hk : unitV c = some k) (hk1 : 0 ≤ k) (hk2 : k ≤ 240) (ha : a ≤ 1099511627776) (acc : Int) (h0 : 0 ≤ acc) (h1 : acc ≤ 1099511627776000) (r : List (List UInt8)) :
    pSum W acc (unit a c ++ r) = pSum W (acc + a * k) r := by
  have hn : (0 : Int) ≤ a := by omega
  have g1 := Int.mul_nonneg hn hk1
  have g2 : (a : Int) * k ≤ 1099511627776 * 240 := Int.mul_le_mul (by omega) hk2 hk1 (by omega)
  unfold unit
  split
  · rename_i h; subst h; simp
  · rw [List.singleton_append, pSum, pV_word hW hk hk1 hk2 ha]
    show pSum W (W (acc + a * k)) r = _
    rw [hW _ (by omega) (by omega)]
theorem pSum_mW {W : Int → Int} (hW : Fits W) {n : Nat} (h : n ≤ 1099511627776) : pSum W 0 (mW n) = some n := by
  have e : mW n = unit (n / 240) 108 ++ (unit (n / 12 % 20) 115 ++ (unit (n % 12) 100 ++ [])) := by unfold mW; simp
  rw [e, pSum_unit hW (k := 240) rfl (by omega) (by omega) (by omega) _ (by omega) (by omega), pSum_unit hW (k := 12) rfl (by omega) (by omega) (by omega) _ (by omega) (by omega),
    pSum_unit hW (k := 1) rfl (by omega) (by omega) (by omega) _ (by omega) (by omega), pSum]
  congr 1
  omega
theorem zeroW : ([48, 100] : List UInt8) = decDigits 0 ++ [100] := by rw [dec_small (by decide)]; rfl
/-- The text behind its sign, and whether there is one. -/
def amount (s : List UInt8) : List UInt8 := trimPrefix s [45]
def isNeg (s : List UInt8) : Bool := hasPrefix s [45]
theorem sign_yes (s : List UInt8) : amount (45 :: s) = s ∧ isNeg (45 :: s) = true := by
  have h : isNeg (45 :: s) = true := by simp [isNeg, hasPrefix, List.isPrefixOf]
  refine ⟨?_, h⟩
  unfold amount trimPrefix; exact (if_pos (show hasPrefix (45 :: s) [45] = true from h)).trans rfl
theorem sign_no {s : List UInt8} (h : s.head? ≠ some 45) : amount s = s ∧ isNeg s = false := by
  have h : isNeg s = false := by
    cases s with
    | nil => rfl
    | cons x r =>
      have : x ≠ 45 := fun e => h (by rw [e]; rfl)
      simp [isNeg, hasPrefix, List.isPrefixOf, Ne.symm this]
  refine ⟨?_, h⟩
  unfold amount trimPrefix; rw [if_neg (by show ¬ isNeg s = true; rw [h]; simp)]
theorem join_head {n : Nat} (h : 0 < n) : (join (mW n) [32]).head? ≠ some 45 := by
  cases hm : mW n with
  | nil => exact absurd hm (mW_ne h)
  | cons w r =>
    obtain ⟨a, c, _, rfl⟩ := mW_mem (n := n) (w := w) (by rw [hm]; simp)
    have : (join ((decDigits a ++ [c]) :: r) [32]).head? = (decDigits a).head? := by
      cases hd : decDigits a with
      | nil => exact absurd hd (dec_ne a)
      | cons x t =>
        cases r with
        | nil => rw [join_one]; rfl
        | cons y z => unfold join List.intercalate; simp
    rw [this]
    cases hd : decDigits a with
    | nil => exact absurd hd (dec_ne a)
    | cons x t =>
      have hx := dec_mem (u := a) (c := x) (by rw [hd]; simp)
      intro e
      simp only [List.head?_cons, Option.some.injEq] at e
      subst e
      exact absurd hx.1 (by decide)
theorem mW_spl {n : Nat} (h : 0 < n) : spl 32 (join (mW n) [32]) = mW n :=
  spl_join 32 _ (mW_ne h) fun w hw => by
    obtain ⟨a, c, hc, rfl⟩ := mW_mem hw
    exact word_not (by decide) hc
/-- The pieces of what is written, and its sign. -/
theorem fmtM_parts (p : Int) : isNeg (fmtM p) = decide (p < 0) ∧ spl 32 (amount (fmtM p)) = if p = 0 then [decDigits 0 ++ [100]] else mW p.natAbs := by
  unfold fmtM
  by_cases h : p = 0
  · subst h
    rw [if_pos rfl, if_pos rfl, zeroW]
    exact ⟨(sign_no (s := decDigits 0 ++ [100]) (by rw [dec_small (by decide)]; decide)).2, by
      have e := (sign_no (s := decDigits 0 ++ [100]) (by rw [dec_small (by decide)]; decide)).1
      rw [e, spl_not _ _ (word_not (by decide) (by decide))]⟩
  · rw [if_neg h, if_neg h]
    have hn : 0 < p.natAbs := by omega
    by_cases hs : p < 0
    · rw [if_pos hs, List.singleton_append, (sign_yes _).1, (sign_yes _).2, mW_spl hn]
      exact ⟨by simp [hs], rfl⟩
    · rw [if_neg hs, List.nil_append, (sign_no (join_head hn)).1, (sign_no (join_head hn)).2, mW_spl hn]
      exact ⟨by simp [hs], rfl⟩
/-- What the program reads of a text. -/
def pT (W : Int → Int) (s : List UInt8) : Option Int := (pSum W 0 (spl 32 (amount s))).map fun v => if isNeg s = true then W (-v) else v
theorem pT_fmt {W : Int → Int} (hW : Fits W) {p : Int} (h1 : -1099511627776 ≤ p) (h2 : p ≤ 1099511627776) : pT W (fmtM p) = some p := by
  unfold pT
  rw [(fmtM_parts p).1, (fmtM_parts p).2]
  have hs : pSum W 0 (if p = 0 then [decDigits 0 ++ [100]] else mW p.natAbs) = some (p.natAbs : Int) := by
    split
    · rename_i h; subst h
      rw [pSum, pV_word hW (k := 1) rfl (by omega) (by omega) (by omega)]
      show pSum W (W (0 + ((0 : Nat) : Int) * 1)) [] = _
      rw [pSum, hW _ (by omega) (by omega)]; rfl
    · exact pSum_mW hW (by omega)
  rw [hs]
  show some (if decide (p < 0) = true then W (-(p.natAbs : Int)) else (p.natAbs : Int)) = some p
  congr 1
  by_cases h : p < 0
  · rw [if_pos (by simpa using h), hW _ (by omega) (by omega)]; omega
  · rw [if_neg (by simpa using h)]; omega
/-- The answer: only what is written so counts. -/
def inM (p : Int) : Bool := decide (-1099511627776 ≤ p) && decide (p ≤ 1099511627776)
def okM (s : List UInt8) (p : Int) : Bool := inM p && decide (fmtM p = s)
def ansM (s : List UInt8) : Option Int → Int × Int
  | none => (0, 3)
  | some p => if okM s p = true then (p, 0) else (0, 3)
theorem ans_same {f g : List UInt8 → Option Int} (hf : ∀ p, inM p = true → f (fmtM p) = some p) (hg : ∀ p, inM p = true → g (fmtM p) = some p) (s : List UInt8) : ansM s (f s) = ansM s (g s) := by
  by_cases h : ∃ p, okM s p = true
  · obtain ⟨p, hp⟩ := h
    unfold okM at hp
    simp only [Bool.and_eq_true, decide_eq_true_eq] at hp
    obtain ⟨h1, rfl⟩ := hp
    rw [hf p h1, hg p h1]
  · have hn : ∀ x : Option Int, ansM s x = (0, 3) := by
      intro x
      cases x with
      | none => rfl
      | some p => show (if okM s p = true then (p, 0) else (0, 3)) = _; rw [if_neg fun e => h ⟨p, e⟩]
    rw [hn, hn]
theorem ans_back {f : List UInt8 → Option Int} (hf : ∀ p, inM p = true → f (fmtM p) = some p) {p : Int} (hp : inM p = true) : ansM (fmtM p) (f (fmtM p)) = (p, 0) := by
  rw [hf p hp]
  show (if okM (fmtM p) p = true then (p, (0 : Int)) else (0, 3)) = _
  rw [if_pos (by unfold okM; rw [hp]; simp)]
theorem inM_of {p : Int} (h : inM p = true) : -1099511627776 ≤ p ∧ p ≤ 1099511627776 := by unfold inM at h; simpa using h

/-! What the reference reads. -/
def sgn (s : List UInt8) : Int := if s.head? = some 45 then -1 else 1
def digs (s : List UInt8) : List UInt8 := if s.head? = some 45 then s.drop 1 else s
/-- Whether the length and the bytes are those of a number. -/
def numOk (s : List UInt8) : Bool := decide (1 ≤ (digs s).length) && decide ((digs s).length ≤ 15) && (digs s).all isDig
def numR (s : List UInt8) : Int × Bool := if numOk s = true then (sgn s * numN (digs s), decide (itoa (sgn s * numN (digs s)) = s)) else (0, false)
theorem itoa_digs (n : Int) : digs (itoa n) = decDigits n.natAbs ∧ sgn (itoa n) * n.natAbs = n := by
  unfold digs sgn
  by_cases h : n < 0
  · have e : itoa n = 45 :: decDigits n.natAbs := by unfold itoa; rw [if_pos h]
    rw [e]
    simp only [List.head?_cons, if_true, List.drop_one, List.tail_cons, true_and]
    omega
  · have e : itoa n = decDigits n.natAbs := by unfold itoa; rw [if_neg h]; congr 1; omega
    rw [e]
    have hh : ¬ (decDigits n.natAbs).head? = some 45 := by
      cases hd : decDigits n.natAbs with
      | nil => simp
      | cons x t =>
        have hx := dec_mem (u := n.natAbs) (c := x) (by rw [hd]; simp)
        intro e
        simp only [List.head?_cons, Option.some.injEq] at e
        subst e
        exact absurd hx.1 (by decide)
    rw [if_neg hh, if_neg hh]
    exact ⟨rfl, by omega⟩
theorem numR_itoa {n : Int} (h1 : -1000000000000000 < n) (h2 : n < 1000000000000000) : numR (itoa n) = (n, true) := by
  obtain ⟨d, s⟩ := itoa_digs n
  have hl := dec_len 14 n.natAbs (by omega)
  have hp : 1 ≤ (decDigits n.natAbs).length := by have := dec_ne n.natAbs; cases hd : decDigits n.natAbs with
    | nil => exact absurd hd this
    | cons _ _ => simp
  have ho : numOk (itoa n) = true := by
    unfold numOk; rw [d, dec_all]; simp; omega
  unfold numR
  rw [if_pos ho, d, numN_dec, s]
  simp
theorem numR_bd (s : List UInt8) : -1000000000000000 < (numR s).1 ∧ (numR s).1 < 1000000000000000 := by
  unfold numR
  split
  · rename_i h
    unfold numOk at h
    simp only [Bool.and_eq_true, decide_eq_true_eq] at h
    have := numN_lt _ _ h.2 rfl
    have h3 : 10 ^ (digs s).length ≤ 10 ^ 15 := Nat.pow_le_pow_right (by decide) h.1.2
    have h4 : (10 : Nat) ^ 15 = 1000000000000000 := by decide
    show _ < sgn s * _ ∧ sgn s * _ < _
    unfold sgn
    split <;> omega
  · simp
theorem numR_ok {s : List UInt8} (h : (numR s).2 = true) : itoa (numR s).1 = s := by
  unfold numR at h ⊢
  split at h
  · rename_i ho; rw [if_pos ho]; simpa using h
  · simp at h
def rV (w : List UInt8) : Option Int := if w.length < 2 then none else
  if (numR (headW w)).2 = false ∨ (numR (headW w)).1 < 0 ∨ 1099511627776 < (numR (headW w)).1 then none else (unitV (lastB w)).map fun k => k * (numR (headW w)).1
def rSum : Int → List (List UInt8) → Option Int
  | acc, [] => some acc
  | acc, w :: r => match rV w with
    | none => none
    | some v => rSum (acc + v) r
theorem rV_word {a : Nat} {c : UInt8} {k : Int} (hk : unitV c = some k) (ha : a ≤ 1099511627776) : rV (decDigits a ++ [c]) = some (k * a) := by
  have h3 := numR_itoa (n := (a : Int)) (by omega) (by omega)
  rw [itoa_nat] at h3
  unfold rV
  rw [if_neg (by have := dec_ne a; cases hd : decDigits a with
    | nil => exact absurd hd this
    | cons _ _ => simp), headW_snoc, lastB_snoc, h3, if_neg (by simp; omega), hk]
  rfl
theorem rSum_unit {a : Nat} {c : UInt8} {k : Int} (hk : unitV c = some k) (ha : a ≤ 1099511627776) (acc : Int) (r : List (List UInt8)) :
    rSum acc (unit a c ++ r) = rSum (acc + k * a) r := by
  unfold unit
  split
  · rename_i h; subst h; simp
  · rw [List.singleton_append, rSum, rV_word hk ha]
theorem rSum_mW {n : Nat} (h : n ≤ 1099511627776) : rSum 0 (mW n) = some n := by
  have e : mW n = unit (n / 240) 108 ++ (unit (n / 12 % 20) 115 ++ (unit (n % 12) 100 ++ [])) := by unfold mW; simp
  rw [e, rSum_unit (k := 240) rfl (by omega), rSum_unit (k := 12) rfl (by omega), rSum_unit (k := 1) rfl (by omega), rSum]
  congr 1
  omega
theorem mW_len (n : Nat) : (mW n).length ≤ 3 := by
  unfold mW unit
  simp only [List.length_append]
  split <;> split <;> split <;> simp
def rT (s : List UInt8) : Option Int := (rSum 0 ((spl 32 (digs s)).take 4)).map fun v => sgn s * v
theorem digs_amount (s : List UInt8) : digs s = amount s ∧ sgn s = if isNeg s = true then -1 else 1 := by
  unfold digs sgn
  by_cases h : s.head? = some 45
  · cases s with
    | nil => simp at h
    | cons x r =>
      have : x = 45 := by simpa using h
      subst this
      rw [(sign_yes r).1, (sign_yes r).2]
      simp
  · rw [(sign_no h).1, (sign_no h).2, if_neg h, if_neg h]
    simp
theorem rT_fmt {p : Int} (h1 : -1099511627776 ≤ p) (h2 : p ≤ 1099511627776) : rT (fmtM p) = some p := by
  unfold rT
  rw [(digs_amount _).1, (digs_amount _).2, (fmtM_parts p).1, (fmtM_parts p).2]
  have hs : rSum 0 (List.take 4 (if p = 0 then [decDigits 0 ++ [100]] else mW p.natAbs)) = some (p.natAbs : Int) := by
    split
    · rename_i h; subst h
      show rSum 0 [decDigits 0 ++ [100]] = _
      rw [rSum, rV_word (k := 1) rfl (by omega)]; rfl
    · rw [List.take_of_length_le (by have := mW_len p.natAbs; omega)]; exact rSum_mW (by omega)
  rw [hs]
  show some ((if decide (p < 0) = true then -1 else 1) * (p.natAbs : Int)) = some p
  congr 1
  by_cases h : p < 0
  · rw [if_pos (by simpa using h)]; omega
  · rw [if_neg (by simpa using h)]; omega
theorem money_same {W : Int → Int} (hW : Fits W) (s : List UInt8) : ansM s (pT W s) = ansM s (rT s) :=
  ans_same (fun _p hp => pT_fmt hW (inM_of hp).1 (inM_of hp).2) (fun _p hp => rT_fmt (inM_of hp).1 (inM_of hp).2) s
theorem money_back {W : Int → Int} (hW : Fits W) {p : Int} (hp : inM p = true) : ansM (fmtM p) (pT W (fmtM p)) = (p, 0) :=
  ans_back (f := pT W) (fun _p hp => pT_fmt hW (inM_of hp).1 (inM_of hp).2) hp

/-! Fractions that are read. -/
def okR (V : Int → Int → Bool) (s : List UInt8) (r : Int × Int) : Bool := V r.1 r.2 && decide (fmtR r.1 r.2 = s)
def ansR (V : Int → Int → Bool) (s : List UInt8) : Option (Int × Int) → (Int × Int) × Int
  | none => ((0, 0), 3)
  | some r => if okR V s r = true then (r, 0) else ((0, 0), 3)
/-- Only numbers that fit are valid. -/
def Near (V : Int → Int → Bool) : Prop := ∀ n d, V n d = true → -1099511627776 ≤ n ∧ n ≤ 1099511627776 ∧ 1 ≤ d ∧ d ≤ 1048576
def pR (s : List UInt8) : Option (Int × Int) := match atoiAll (cut s [47]).1, atoiAll (if (cut s [47]).2.2 = true then (cut s [47]).2.1 else [49]) with
  | .ok n, .ok d => some (n, d)
  | _, _ => none
theorem one_itoa : ([49] : List UInt8) = itoa 1 := by unfold itoa; rw [if_neg (by decide), show ((1 : Int).toNat) = 1 from rfl, dec_small (by decide)]; rfl
theorem pR_fmt {V : Int → Int → Bool} (hV : Near V) {n d : Int} (h : V n d = true) : pR (fmtR n d) = some (n, d) := by
  obtain ⟨h1, h2, h3, h4⟩ := hV n d h
  unfold pR
  rw [fmtR_cut]
  by_cases e : d = 1
  · subst e
    simp only [if_true]
    rw [atoi_itoa (by omega) (by omega)]
    simp only [Bool.false_eq_true, if_false]
    rw [one_itoa, atoi_itoa (by omega) (by omega)]
  · simp only [e, if_false]
    rw [atoi_itoa (by omega) (by omega)]
    simp only [if_true]
    rw [atoi_itoa (by omega) (by omega)]
/-- The reference's: the first piece, and the second where there are two. -/
def rR (s : List UInt8) : Option (Int × Int) := match spl 47 s with
  | [] => none
  | a :: t => match t with
    | [b] => if (numR a).2 = true ∧ (numR b).2 = true then some ((numR a).1, (numR b).1) else none
    | _ => if (numR a).2 = true then some ((numR a).1, 1) else none
theorem rR_fmt {V : Int → Int → Bool} (hV : Near V) {n d : Int} (h : V n d = true) : rR (fmtR n d) = some (n, d) := by
  obtain ⟨h1, h2, h3, h4⟩ := hV n d h
  unfold rR
  rw [fmtR_spl]
  by_cases e : d = 1
  · subst e
    simp only [if_true]
    rw [numR_itoa (by omega) (by omega)]
    rfl
  · simp only [e, if_false]
    rw [numR_itoa (by omega) (by omega), numR_itoa (by omega) (by omega)]
    simp
theorem ansR_same {V : Int → Int → Bool} (hV : Near V) (s : List UInt8) : ansR V s (pR s) = ansR V s (rR s) := by
  by_cases h : ∃ r, okR V s r = true
  · obtain ⟨⟨n, d⟩, hp⟩ := h
    unfold okR at hp
    simp only [Bool.and_eq_true, decide_eq_true_eq] at hp
    obtain ⟨h1, rfl⟩ := hp
    rw [pR_fmt hV h1, rR_fmt hV h1]
  · have hn : ∀ x : Option (Int × Int), ansR V s x = ((0, 0), 3) := by
      intro x
      cases x with
      | none => rfl
      | some p => show (if okR V s p = true then (p, (0 : Int)) else ((0, 0), 3)) = _; rw [if_neg fun e => h ⟨p, e⟩]
    rw [hn, hn]
theorem ansR_back {V : Int → Int → Bool} (hV : Near V) {n d : Int} (h : V n d = true) : ansR V (fmtR n d) (pR (fmtR n d)) = ((n, d), 0) := by
  rw [pR_fmt hV h]
  show (if okR V (fmtR n d) (n, d) = true then ((n, d), (0 : Int)) else _) = _
  rw [if_pos (by unfold okR; rw [h]; simp)]
end Tx
end Go.Proofs.YtcljpklgpedolaaGreatDoor
namespace Go.Proofs.YtcljpklgpedolaaGreatDoor
open Go.RowKit Go.Sort

/-- What the library's texts of numbers look at: a table, and three variables. -/
def Env (w : World) : Prop :=
  Lib.TabIs Tryz.prog w "internal/strconv.uint64pow10" .u64 Lib.pow10Tab ∧ (∃ m, w.cell? ⟨2, 0, none⟩ = some (.int .i64 m)) ∧ (∃ t p, w.cell? ⟨4, 0, none⟩ = some (.iface t p)) ∧ (∃ t p, w.cell? ⟨5, 0, none⟩ = some (.iface t p))
theorem cell_lt {w : World} {b o : Nat} {v : Value} (h : w.cell? ⟨b, o, none⟩ = some v) : b < w.heap.size := by
  unfold World.cell? at h
  split at h
  · rename_i e
    exact (Array.getElem?_eq_some_iff.1 e).1
  · simp at h
theorem Env.all {w w' : World} (h : Env w) (hb : Below w.heap.size w w') : Env w' := by
  obtain ⟨h1, ⟨m, h2⟩, ⟨t, p, h3⟩, ⟨u, q, h4⟩⟩ := h
  exact ⟨Joins.tab_stays (g := 3) (by kernel_rfl) h1 hb (Nat.le_refl _), ⟨m, (hb.cell (p := ⟨2, 0, none⟩) (cell_lt h2)).trans h2⟩, ⟨t, p, (hb.cell (p := ⟨4, 0, none⟩) (cell_lt h3)).trans h3⟩,
    ⟨u, q, (hb.cell (p := ⟨5, 0, none⟩) (cell_lt h4)).trans h4⟩⟩
theorem below_grow (w : World) (k : Nat) (os : Array Obj) : Below w.heap.size w (grow (w.drewN k) os) :=
  ⟨rfl, rfl, rfl, by show w.heap.size ≤ (w.heap ++ os).size; simp, fun i hi => by show (w.heap ++ os)[i]? = _; rw [Array.getElem?_append_left hi]⟩
theorem itoa_any (n : Int) (w : World) (h : Env w) (h0 : -9223372036854775808 ≤ n) (h1 : n ≤ 9223372036854775807) :
    Calls Tryz.prog 60 #[.int .i64 n] w fun e w' => e = .returned (.string ⟨(Lib.itoa n).toArray⟩) ∧ Below w.heap.size w w' :=
  (Tryz.strconv_Itoa n h0 h1 w h.1).mono fun e w' ⟨he, k, os, hw⟩ => ⟨he, by rw [hw]; exact below_grow _ _ _⟩
theorem bytesWorld_below (w : World) (e : TypeId) (s : ByteArray) : Below w.heap.size w (Lib.bytesWorld w e s) := by
  have h : Below w.heap.size w (w.drew.alloc (Obj.cells (Lib.bytesCells w e s) e)) := (Below.refl _ w).drew.alloc (Nat.le_refl _) _
  refine ⟨h.os, h.tape, h.output, ?_, fun k hk => ?_⟩
  · show w.heap.size ≤ (Array.modify _ _ _).size
    rw [Array.size_modify]; exact h.size
  · show (Array.modify _ _ _)[k]? = _
    rw [Array.getElem?_modify, if_neg (by show ¬ w.heap.size = k; omega)]
    exact h.block k hk
theorem atoi_ok (s : ByteArray) (w : World) (hs : s.size ≤ 100000) {v : Int} (hv : Lib.atoiAll s.data.toList = .ok v) :
    Calls Tryz.prog 138 #[.string s] w fun e w' => e = .returned (.tuple #[.int .i64 v, .nilIface]) ∧ Below w.heap.size w w' :=
  (Tryz.strconv_Atoi_ok s (by omega) v hv w).mono fun e w' ⟨he, hw⟩ => ⟨he, by
    rcases hw with rfl | ⟨t, rfl⟩
    · exact Below.refl _ _
    · exact bytesWorld_below w _ t⟩
/-- What is told of a text that is no number. -/
def NoNum (w : World) (e : Ending) (w' : World) : Prop := ∃ (v : Int) (t : TypeId) (p : Value), e = .returned (.tuple #[.int .i64 v, .iface t p]) ∧ (-9223372036854775808 ≤ v ∧ v ≤ 9223372036854775807) ∧ Below w.heap.size w w'
theorem atoi_bad (s : ByteArray) (w : World) (h : Env w) (hs : s.size ≤ 100000) (hv : ∀ v, Lib.atoiAll s.data.toList ≠ .ok v) :
    Calls Tryz.prog 138 #[.string s] w (NoNum w) := by
  obtain ⟨_, _, ⟨t, p, h3⟩, ⟨u, q, h4⟩⟩ := h
  cases ha : Lib.atoiAll s.data.toList with
  | ok v => exact absurd ha (hv v)
  | «syntax» =>
    exact (Tryz.strconv_Atoi_syntax s (by omega) ha _ w h3 (.inr ⟨t, p, rfl⟩)).mono fun e w' ⟨N, he, _, _, hb⟩ => ⟨_, _, _, he, by omega, hb⟩
  | range =>
    exact (Tryz.strconv_Atoi_range s (by omega) ha _ w h4 (.inr ⟨u, q, rfl⟩)).mono fun e w' ⟨N, he, _, _, hb⟩ => ⟨_, _, _, he, by unfold Lib.atoiSat; split <;> omega, hb⟩
theorem bytes_append (a b : List UInt8) : (⟨a.toArray⟩ : ByteArray) ++ ⟨b.toArray⟩ = ⟨(a ++ b).toArray⟩ := by
  apply ByteArray.ext
  simp

theorem itoa_len {n : Int} (h0 : -9223372036854775808 ≤ n) (h1 : n ≤ 9223372036854775807) : (Lib.itoa n).length ≤ 20 := by
  unfold Lib.itoa
  split
  · have := Tx.dec_len 18 n.natAbs (by have : (10 : Nat) ^ (18 + 1) = 10000000000000000000 := by decide
                                       omega)
    rw [List.length_cons]; omega
  · have := Tx.dec_len 18 n.toNat (by have : (10 : Nat) ^ (18 + 1) = 10000000000000000000 := by decide
                                      omega)
    omega

end Go.Proofs.YtcljpklgpedolaaGreatDoor
namespace Go.Proofs.YtcljpklgpedolaaGreatDoor
open Go.RowKit Go.Sort

/-- The byte of a digit. -/
def dgB (u : Nat) : UInt8 := UInt8.ofNat (48 + u)
/-- One byte as a text. -/
theorem one_back (w : World) (u : Nat) (hu : u < 10) (x : Int) (hx : x = 48 + (u : Int)) :
    (convert 88 9 (.slice (some ⟨w.heap.size, 0, none⟩) 1 1)).run Tryz.prog (w.alloc (.cells #[.int .u8 x] 5)) = .ok (.string ⟨[dgB u].toArray⟩) (w.alloc (.cells #[.int .u8 x] 5)) :=
  run_convert_bytes_back _ _ _ _ ⟨w.heap.size, 0, none⟩ 1 [dgB u] Tryz.underlying88 Tryz.underlying5 Tryz.underlying9 fun j hj => by
    obtain rfl : j = 0 := by simpa using hj
    have e := Tx.dig_byte hu
    show _ = some (Value.int .u8 ((UInt8.ofNat (48 + u)).toNat : Int))
    rw [e, hx]
    simp [Addr.add]

set_option maxRecDepth 20000 in
theorem digits_nat (n : Nat) (w : World) (hn : n ≤ 1000000000000000000) :
    Calls Tryz.prog 104 #[.int .i64 (n : Int)] w fun e w' => e = .returned (.string ⟨(Lib.decDigits n).toArray⟩) ∧ Below w.heap.size w w' := by
  have h0 : (0 : Int) ≤ (n : Int) := by omega
  have h1 : (n : Int) ≤ 1000000000000000000 := by omega
  have hlen := Tx.dec_len 18 n (by have : (10 : Nat) ^ (18 + 1) = 10000000000000000000 := by decide
                                   omega)
  go_enter Tryz.func104, Tryz.ntmps104
  go_wp2
  go_loopw [0, 3] (fun m s wr => ∃ (k : Nat) (t : List UInt8), k ≤ n ∧ m = .int .i64 (k : Int) ∧ s = .string ⟨t.toArray⟩ ∧ t.length ≤ 20 ∧ Hid (Lib.decDigits n = Lib.decDigits k ++ t ∧ Below w.heap.size w wr)) (fun m _ _ => (intOf m).toNat)
  case atStart => exact ⟨n, [], Nat.le_refl _, rfl, rfl, by simp, Lib.hid ⟨by simp, Below.refl _ _⟩⟩
  case round =>
    obtain ⟨k, t, hk, rfl, rfl, ht, hg⟩ := hrel
    by_cases hb : 9 < k
    · have e := Tx.dec_big (u := k) (by omega)
      have HD := Lib.hid (hg.out.1.trans (by rw [e, List.append_assoc]))
      have hu : k % 10 < 10 := by omega
      have hL : t.length + 1 ≤ 19 := by
        have := congrArg List.length HD.out
        simp at this
        have := Tx.dec_ne (k / 10)
        omega
      have B := fun W => one_back W (k % 10) hu (48 + (k : Int) % 10) (by omega)
      have HB := Lib.hid (bytes_append [dgB (k % 10)] t)
      have hmod : ((k : Int) % 10) = ((k % 10 : Nat) : Int) := by omega
      have hdiv : ((k : Int) / 10) = ((k / 10 : Nat) : Int) := by omega
      have hkk : (k : Int) ≤ 1000000000000000000 := by omega
      have HM := Lib.hid hmod
      have HV := Lib.hid hdiv
      clear hmod hdiv
      go_wp2
      go_roundw
      case rel => exact ⟨k / 10, [dgB (k % 10)] ++ t, by omega, by rw [← HV.out], by rw [HB.out], by simp; omega, Lib.hid ⟨HD.out, (hg.out.2.alloc hg.out.2.size _)⟩⟩
      case measure => simp [intOf]; omega
    · have hu : k < 10 := by omega
      have e := Tx.dec_small hu
      have HD := Lib.hid (hg.out.1.trans (by rw [e]))
      have hL : t.length + 1 ≤ 19 := by
        have := congrArg List.length HD.out
        simp at this
        omega
      have B := fun W => one_back W k hu (48 + (k : Int)) rfl
      have HB := Lib.hid (bytes_append [dgB k] t)
      go_wp2
      go_ret
      refine ⟨?_, hg.out.2.alloc hg.out.2.size _⟩
      rw [HD.out]
      show Ending.returned (.string ((⟨[dgB k].toArray⟩ : ByteArray) ++ ⟨t.toArray⟩)) = Ending.returned (.string ⟨([dgB k] ++ t).toArray⟩)
      rw [HB.out]

theorem digits_any (n : Int) (w : World) (h0 : -1000000000000000000 ≤ n) (h1 : n ≤ 1000000000000000000) :
    Calls Tryz.prog 104 #[.int .i64 n] w fun e w' => e = .returned (.string ⟨(Lib.itoa n).toArray⟩) ∧ Below w.heap.size w w' := by
  by_cases hn : n < 0
  · have HI := Lib.hid (Tx.itoa_neg hn)
    have D := Lib.hid (fun W => digits_nat n.natAbs W (by omega))
    have e : ((n.natAbs : Nat) : Int) = -n := by omega
    rw [e] at D
    have HE : Hid (Lib.itoa (-n) = Lib.decDigits n.natAbs) := Lib.hid (by rw [← e]; exact Tx.itoa_nat _)
    have HL := Tx.dec_len 18 n.natAbs (by have : (10 : Nat) ^ (18 + 1) = 10000000000000000000 := by decide
                                          omega)
    clear e
    go_enter Tryz.func104, Tryz.ntmps104
    go_wp2_with fail
    refine (D.out _).mono ?_
    rintro e w1 ⟨rfl, hb1⟩
    go_wp2
    go_ret
    refine ⟨?_, hb1⟩
    rw [HI.out, HE.out]
    exact congrArg (fun x => Ending.returned (Value.string x)) (bytes_append [45] _)
  · have D := digits_nat n.toNat w (by omega)
    rw [show ((n.toNat : Nat) : Int) = n by omega] at D
    refine D.mono fun e w' ⟨he, hb⟩ => ⟨?_, hb⟩
    rw [he, show Lib.itoa n = Lib.decDigits n.toNat by unfold Lib.itoa; rw [if_neg hn]]

theorem refValid_any (n d : Int) (w : World) (n1 : -9223372036854775808 ≤ n) (n2 : n ≤ 9223372036854775807) (d1 : -9223372036854775808 ≤ d) (d2 : d ≤ 9223372036854775807) :
    Calls Tryz.prog 88 #[rat n d] w fun e w' => e = .returned (.bool (Fr.ok n d)) ∧ Below w.heap.size w w' := ref_valid_any n d w n1 n2 d1 d2
end Go.Proofs.YtcljpklgpedolaaGreatDoor
namespace Go.Proofs.YtcljpklgpedolaaGreatDoor
open Go.RowKit Go.Sort

theorem toList_loop (s : ByteArray) : ∀ (k i : Nat) (r : List UInt8), s.size - i = k → ByteArray.toList.loop s i r = r.reverse ++ s.data.toList.drop i
  | 0, i, r, h => by
    rw [ByteArray.toList.loop, if_neg (by omega), List.drop_of_length_le (by show s.data.toList.length ≤ i; rw [Array.length_toList]; show s.size ≤ i; omega), List.append_nil]
  | k + 1, i, r, h => by
    have hi : i < s.size := by omega
    have hd : i < s.data.toList.length := by rw [Array.length_toList]; exact hi
    rw [ByteArray.toList.loop, if_pos hi, toList_loop s k (i + 1) _ (by omega), List.reverse_cons, List.append_assoc, List.drop_eq_getElem_cons hd]
    congr 2
    show [s.get! i] ++ _ = _
    rw [List.singleton_append]
    congr 1
    show s.data[i]! = _
    rw [getElem!_pos s.data i hi]
    simp
theorem toList_data (s : ByteArray) : s.toList = s.data.toList := by
  unfold ByteArray.toList
  rw [toList_loop s _ 0 [] rfl]; simp
theorem beq_dec (a b : List UInt8) : (a == b) = decide (a = b) := by rw [Bool.eq_iff_iff]; simp
theorem take_one (t : List UInt8) (j : Nat) (h : j < t.length) : t.take (j + 1) = t.take j ++ [t[j]] := by
  rw [List.take_succ_eq_append_getElem h]
theorem pow_le15 {j : Nat} (h : j ≤ 15) : 10 ^ j ≤ 1000000000000000 := by
  have := Nat.pow_le_pow_right (show 0 < 10 by decide) h
  have e : (10 : Nat) ^ 15 = 1000000000000000 := by decide
  omega
theorem all_no {t : List UInt8} {j : Nat} (h : j < t.length) (hc : Tx.isDig t[j] = false) : t.all Tx.isDig = false := by
  apply Bool.eq_false_iff.2
  intro ha
  have := List.all_eq_true.1 ha t[j] (List.getElem_mem h)
  rw [hc] at this
  exact absurd this (by decide)
def NumSays (l : List UInt8) (w : World) (e : Ending) (w' : World) : Prop := e = .returned (.tuple #[.int .i64 (Tx.numR l).1, .bool (Tx.numR l).2]) ∧ Below w.heap.size w w'
theorem numR_no {l : List UInt8} (h : Tx.numOk l = false) : Tx.numR l = (0, false) := by unfold Tx.numR; rw [if_neg (by rw [h]; simp)]

set_option maxRecDepth 200000 in
set_option maxHeartbeats 1000000 in
theorem number_plus (s : ByteArray) (w : World) (hs : s.size ≤ 100000) (hpos : 0 < s.size) (h45 : ((s[0].toNat : Int) == 45) = false) (hdg : Tx.digs s.data.toList = s.data.toList) (hsg : Tx.sgn s.data.toList = 1) :
    Calls Tryz.prog 110 #[.string s] w (NumSays s.data.toList w) := by
  obtain ⟨t, ht⟩ : ∃ t, t = s.data.toList := ⟨_, rfl⟩
  have hsz : s.size = t.length := by
    rw [ht]; show s.data.size = _; simp
  have hz1 : s.size ≤ t.length := by omega
  have hz2 : t.length ≤ s.size := by omega
  clear hsz
  have hat : ∀ j (h : j < t.length), t[j] = s[j]'(by omega) := by
    subst ht; intro j h; rfl
  have hok : Tx.numOk s.data.toList = (decide (1 ≤ t.length) && decide (t.length ≤ 15) && t.all Tx.isDig) := by unfold Tx.numOk; rw [hdg, ← ht]
  have hR : Tx.numOk s.data.toList = true → Tx.numR s.data.toList = (1 * (Tx.numN t : Int), decide (Lib.itoa (1 * (Tx.numN t : Int)) = s.data.toList)) := fun h => by
    unfold Tx.numR; rw [if_pos h, hdg, hsg, ← ht]
  have HAT := Lib.hid hat
  have HR := Lib.hid hR
  have HOK := Lib.hid hok
  have HP := Lib.hid hpos
  clear hat hR hok hdg hsg ht
  by_cases hl : 1 ≤ t.length ∧ t.length ≤ 15
  case neg =>
    have HF : Hid (Tx.numR s.data.toList = (0, false)) := Lib.hid (numR_no (by rw [HOK.out]; simp; omega))
    have hl' : ((s.size : Int) - 0 < 1) ∨ (15 < (s.size : Int) - 0) := by omega
    clear hl HAT HR HOK
    go_enter Tryz.func110, Tryz.ntmps110
    go_wp2_with fail
    refine (within_f _ _ _ _ (by omega)).mono ?_
    rintro e w' ⟨rfl, rfl⟩
    go_wp2
    go_ret2
    refine ⟨?_, Below.refl _ _⟩
    rw [HF.out]
    rfl
  obtain ⟨hl1, hl2⟩ := hl
  go_enter Tryz.func110, Tryz.ntmps110
  go_wp2_with fail
  refine (within_t _ _ _ _ (by omega) (by omega)).mono ?_
  rintro e w' ⟨rfl, rfl⟩
  clear h45
  go_wp2
  go_loop [5, 6] (fun i n => ∃ j : Nat, j ≤ t.length ∧ i = .int .i64 (j : Int) ∧ n = .int .i64 (Tx.numN (t.take j)) ∧ Hid ((t.take j).all Tx.isDig = true)) (fun i _ => t.length + 1 - (intOf i).toNat)
  case atStart => exact ⟨0, Nat.zero_le _, rfl, rfl, Lib.hid rfl⟩
  case round =>
    obtain ⟨j, hj, rfl, rfl, hg⟩ := hrel
    have hp := pow_le15 (j := j) (by omega)
    have hn := Tx.numN_lt j (t.take j) hg.out (by simp; omega)
    have hn1 : (0 : Int) ≤ (Tx.numN (t.take j) : Int) := by omega
    have hn2 : (Tx.numN (t.take j) : Int) < 1000000000000000 := by omega
    clear hp hn
    by_cases hlt : j < t.length
    · have hi : j < s.size := by omega
      have hc := HAT.out j hlt
      have HS : Hid (t.take (j + 1) = t.take j ++ [s[j]'hi]) := Lib.hid (by rw [take_one t j hlt, hc])
      have HD := Lib.hid (fun (h : Tx.isDig (s[j]'hi) = false) => all_no hlt (by rw [hc]; exact h))
      clear hc HAT
      by_cases hd : 48 ≤ (s[j]'hi).toNat ∧ (s[j]'hi).toNat ≤ 57
      · obtain ⟨d1, d2⟩ := hd
        have HN : Hid (((Tx.numN (t.take (j + 1)) : Nat) : Int) = 10 * (Tx.numN (t.take j) : Int) + (((s[j]'hi).toNat : Int) - 48)) := Lib.hid (by rw [HS.out, Tx.numN_snoc]; omega)
        have HA : Hid ((t.take (j + 1)).all Tx.isDig = true) := Lib.hid (by rw [HS.out, List.all_append, hg.out]; simp [Tx.isDig, d1, d2])
        have d3 : (48 : Int) ≤ ((s[j]'hi).toNat : Int) := by omega
        have d4 : ((s[j]'hi).toNat : Int) ≤ 57 := by omega
        clear HS HD hg HR HOK
        generalize ((Tx.numN (t.take j) : Nat) : Int) = n at *
        go_wp2
        go_round
        case rel => exact ⟨j + 1, by omega, by go_num, by rw [HN.out], HA⟩
        case measure => simp [intOf]; omega
      · have HF : Hid (Tx.numR s.data.toList = (0, false)) := Lib.hid (numR_no (by
          rw [HOK.out, HD.out (by simp only [Tx.isDig, Bool.and_eq_false_iff, decide_eq_false_iff_not]; omega)]; simp))
        clear HS HD hg HR HOK
        generalize ((Tx.numN (t.take j) : Nat) : Int) = n at *
        by_cases hd1 : ((s[j]'hi).toNat : Int) < 48
        · clear hd
          go_wp2
          go_ret2
          refine ⟨?_, Below.refl _ _⟩
          rw [HF.out]
          rfl
        · have hd2 : (57 : Int) < ((s[j]'hi).toNat : Int) := by omega
          clear hd
          go_wp2
          go_ret2
          refine ⟨?_, Below.refl _ _⟩
          rw [HF.out]
          rfl
    · obtain rfl : j = t.length := by omega
      rw [List.take_length] at hn1 hn2 hg ⊢
      have HF := Lib.hid (HR.out (by rw [HOK.out, hg.out]; simp; omega))
      clear HR HOK HAT hg hlt hj
      generalize ((Tx.numN t : Nat) : Int) = n at *
      go_wp2_with fail
      refine (digits_any _ _ (by omega) (by omega)).mono ?_
      rintro e w1 ⟨rfl, hb1⟩
      go_wp2
      go_ret2
      refine ⟨?_, hb1⟩
      rw [HF.out]
      show Ending.returned (.tuple #[.int .i64 n, .bool (Lib.itoa n == s.toList)]) = _
      rw [toList_data, Int.one_mul, beq_dec]

set_option maxRecDepth 200000 in
set_option maxHeartbeats 1000000 in
theorem number_minus (s : ByteArray) (w : World) (hs : s.size ≤ 100000) (hpos : 0 < s.size) (h45 : ((s[0].toNat : Int) == 45) = true) (hdg : Tx.digs s.data.toList = s.data.toList.drop 1) (hsg : Tx.sgn s.data.toList = -1) :
    Calls Tryz.prog 110 #[.string s] w (NumSays s.data.toList w) := by
  obtain ⟨t, ht⟩ : ∃ t, t = s.data.toList.drop 1 := ⟨_, rfl⟩
  have hsz : s.size = t.length + 1 := by
    have h1 : 0 < s.data.size := hpos; rw [ht, List.length_drop]; show s.data.size = s.data.toList.length - 1 + 1; rw [Array.length_toList]; omega
  have hz1 : s.size ≤ t.length + 1 := by omega
  have hz2 : t.length + 1 ≤ s.size := by omega
  clear hsz
  have hat : ∀ j (h : j < t.length), t[j] = s[j + 1]'(by omega) := by
    subst ht; intro j h; rw [List.getElem_drop]; show _ = s.data[j + 1]'(by show j + 1 < s.size; omega); simp [Nat.add_comm]
  have hok : Tx.numOk s.data.toList = (decide (1 ≤ t.length) && decide (t.length ≤ 15) && t.all Tx.isDig) := by unfold Tx.numOk; rw [hdg, ← ht]
  have hR : Tx.numOk s.data.toList = true → Tx.numR s.data.toList = (-1 * (Tx.numN t : Int), decide (Lib.itoa (-1 * (Tx.numN t : Int)) = s.data.toList)) := fun h => by
    unfold Tx.numR; rw [if_pos h, hdg, hsg, ← ht]
  have HAT := Lib.hid hat
  have HR := Lib.hid hR
  have HOK := Lib.hid hok
  have HP := Lib.hid hpos
  clear hat hR hok hdg hsg ht
  by_cases hl : 1 ≤ t.length ∧ t.length ≤ 15
  case neg =>
    have HF : Hid (Tx.numR s.data.toList = (0, false)) := Lib.hid (numR_no (by rw [HOK.out]; simp; omega))
    have hl' : ((s.size : Int) - 1 < 1) ∨ (15 < (s.size : Int) - 1) := by omega
    clear hl HAT HR HOK
    go_enter Tryz.func110, Tryz.ntmps110
    go_wp2_with fail
    refine (within_f _ _ _ _ (by omega)).mono ?_
    rintro e w' ⟨rfl, rfl⟩
    go_wp2
    go_ret2
    refine ⟨?_, Below.refl _ _⟩
    rw [HF.out]
    rfl
  obtain ⟨hl1, hl2⟩ := hl
  go_enter Tryz.func110, Tryz.ntmps110
  go_wp2_with fail
  refine (within_t _ _ _ _ (by omega) (by omega)).mono ?_
  rintro e w' ⟨rfl, rfl⟩
  clear h45
  go_wp2
  go_loop [5, 6] (fun i n => ∃ j : Nat, j ≤ t.length ∧ i = .int .i64 ((j : Int) + 1) ∧ n = .int .i64 (Tx.numN (t.take j)) ∧ Hid ((t.take j).all Tx.isDig = true)) (fun i _ => t.length + 1 - (intOf i).toNat)
  case atStart => exact ⟨0, Nat.zero_le _, rfl, rfl, Lib.hid rfl⟩
  case round =>
    obtain ⟨j, hj, rfl, rfl, hg⟩ := hrel
    have hp := pow_le15 (j := j) (by omega)
    have hn := Tx.numN_lt j (t.take j) hg.out (by simp; omega)
    have hn1 : (0 : Int) ≤ (Tx.numN (t.take j) : Int) := by omega
    have hn2 : (Tx.numN (t.take j) : Int) < 1000000000000000 := by omega
    clear hp hn
    by_cases hlt : j < t.length
    · have hi : j + 1 < s.size := by omega
      have hc := HAT.out j hlt
      have HS : Hid (t.take (j + 1) = t.take j ++ [s[j + 1]'hi]) := Lib.hid (by rw [take_one t j hlt, hc])
      have HD := Lib.hid (fun (h : Tx.isDig (s[j + 1]'hi) = false) => all_no hlt (by rw [hc]; exact h))
      clear hc HAT
      by_cases hd : 48 ≤ (s[j + 1]'hi).toNat ∧ (s[j + 1]'hi).toNat ≤ 57
      · obtain ⟨d1, d2⟩ := hd
        have HN : Hid (((Tx.numN (t.take (j + 1)) : Nat) : Int) = 10 * (Tx.numN (t.take j) : Int) + (((s[j + 1]'hi).toNat : Int) - 48)) := Lib.hid (by rw [HS.out, Tx.numN_snoc]; omega)
        have HA : Hid ((t.take (j + 1)).all Tx.isDig = true) := Lib.hid (by rw [HS.out, List.all_append, hg.out]; simp [Tx.isDig, d1, d2])
        have d3 : (48 : Int) ≤ ((s[j + 1]'hi).toNat : Int) := by omega
        have d4 : ((s[j + 1]'hi).toNat : Int) ≤ 57 := by omega
        clear HS HD hg HR HOK
        generalize ((Tx.numN (t.take j) : Nat) : Int) = n at *
        go_wp2
        go_round
        case rel => exact ⟨j + 1, by omega, by go_num, by rw [HN.out], HA⟩
        case measure => simp [intOf]; omega
      · have HF : Hid (Tx.numR s.data.toList = (0, false)) := Lib.hid (numR_no (by
          rw [HOK.out, HD.out (by simp only [Tx.isDig, Bool.and_eq_false_iff, decide_eq_false_iff_not]; omega)]; simp))
        clear HS HD hg HR HOK
        generalize ((Tx.numN (t.take j) : Nat) : Int) = n at *
        by_cases hd1 : ((s[j + 1]'hi).toNat : Int) < 48
        · clear hd
          go_wp2
          go_ret2
          refine ⟨?_, Below.refl _ _⟩
          rw [HF.out]
          rfl
        · have hd2 : (57 : Int) < ((s[j + 1]'hi).toNat : Int) := by omega
          clear hd
          go_wp2
          go_ret2
          refine ⟨?_, Below.refl _ _⟩
          rw [HF.out]
          rfl
    · obtain rfl : j = t.length := by omega
      rw [List.take_length] at hn1 hn2 hg ⊢
      have HF := Lib.hid (HR.out (by rw [HOK.out, hg.out]; simp; omega))
      clear HR HOK HAT hg hlt hj
      generalize ((Tx.numN t : Nat) : Int) = n at *
      go_wp2_with fail
      refine (digits_any _ _ (by omega) (by omega)).mono ?_
      rintro e w1 ⟨rfl, hb1⟩
      go_wp2
      go_ret2
      refine ⟨?_, hb1⟩
      rw [HF.out]
      show Ending.returned (.tuple #[.int .i64 (-n), .bool (Lib.itoa (-n) == s.toList)]) = _
      rw [toList_data, Int.neg_mul, Int.one_mul, beq_dec]

theorem number_any (s : ByteArray) (w : World) (hs : s.size ≤ 100000) :
    Calls Tryz.prog 110 #[.string s] w (NumSays s.data.toList w) := by
  by_cases hpos : 0 < s.size
  · have hdl : 0 < s.data.toList.length := by rw [Array.length_toList]; exact hpos
    have hhd : s.data.toList.head? = some (s[0]'hpos) := by
      rw [List.head?_eq_getElem?, List.getElem?_eq_getElem hdl]; rfl
    by_cases h : s[0]'hpos = 45
    · have hh : s.data.toList.head? = some 45 := by rw [hhd, h]
      exact number_minus s w hs hpos (by rw [h]; rfl) (by unfold Tx.digs; rw [if_pos hh]) (by unfold Tx.sgn; rw [if_pos hh])
    · have hh : ¬ s.data.toList.head? = some 45 := by rw [hhd]; simpa using h
      refine number_plus s w hs hpos (beq_eq_false_iff_ne.2 fun e => h ?_) (by unfold Tx.digs; rw [if_neg hh]) (by unfold Tx.sgn; rw [if_neg hh])
      have : (s[0]'hpos).toNat = 45 := by omega
      exact UInt8.toNat_inj.1 this
  · have hz : s.data.toList = [] := by
      apply List.length_eq_zero_iff.1; rw [Array.length_toList]; show s.size = 0; omega
    have HF : Hid (Tx.numR s.data.toList = (0, false)) := Lib.hid (by rw [hz]; rfl)
    have h0 : s.size < 1 := by omega
    clear hz hpos
    go_enter Tryz.func110, Tryz.ntmps110
    go_wp2_with fail
    refine (within_f _ _ _ _ (by omega)).mono ?_
    rintro e w' ⟨rfl, rfl⟩
    go_wp2
    go_ret2
    refine ⟨?_, Below.refl _ _⟩
    rw [HF.out]
    rfl
end Go.Proofs.YtcljpklgpedolaaGreatDoor
namespace Go.Proofs.YtcljpklgpedolaaGreatDoor
open Go.RowKit Go.Sort

def strL (l : List UInt8) : List Value := [.string ⟨l.toArray⟩]
def strsL (ss : List (List UInt8)) : List Value := ss.map fun l => .string ⟨l.toArray⟩
/-- A list of texts that the call has made. -/
def OwnS (base : Nat) (w : World) (v : Value) (ss : List (List UInt8)) : Prop := w.ownsRow base 9 1 v ss.length (strsL ss)
theorem OwnS.nil (base : Nat) (w : World) : OwnS base w (.slice none 0 0) [] := World.ownsRow_nil _ _ _ _
theorem OwnS.pushed {base : Nat} {w : World} {v : Value} {a : List (List UInt8)} {x : List UInt8} (h : w.ownsRow base 9 1 v (a.length + 1) (strsL a ++ strL x)) : OwnS base w v (a ++ [x]) := by
  unfold OwnS strsL
  rw [List.map_append, show (a ++ [x]).length = a.length + 1 by simp]
  exact h
theorem OwnS.form {base : Nat} {w : World} {v : Value} {ss : List (List UInt8)} (h : OwnS base w v ss) (h0 : 0 < ss.length) : ∃ g cap, v = .slice (some ⟨g, 0, none⟩) ss.length cap ∧ ss.length ≤ cap ∧ base ≤ g ∧ g < w.heap.size ∧ ∀ k (hk : k < ss.length), w.cell? ⟨g, k, none⟩ = some (.string ⟨ss[k].toArray⟩) := by
  rcases id h with ⟨_, ⟨_, h2⟩ | ⟨g, cap, cur, h1, h2, h3, h4, _⟩⟩
  · omega
  · subst h1
    refine ⟨g, cap, rfl, h4, h2, (Array.getElem?_eq_some_iff.1 h3).1, fun k hk => ?_⟩
    refine (World.ownsRow.cellAt h k (by omega)).trans ?_
    unfold strsL
    simp [hk]
theorem OwnS.drew {base : Nat} {w : World} {v : Value} {ss : List (List UInt8)} (h : OwnS base w v ss) : OwnS base w.drew v ss := h
theorem strL_at (w : World) (x : List UInt8) (t : TypeId) : ∀ (j : Nat) (u : Value), (strL x)[j]? = some u → (w.alloc (.cells #[.string ⟨x.toArray⟩] t)).cell? ((⟨w.heap.size, 0, none⟩ : Addr).add j) = some u := by
  intro j u h
  match j, h with
  | 0, h => simp [strL] at h; subst h; simp [Addr.add]
  | j + 1, h => simp [strL] at h
theorem strL_one (x : List UInt8) : ∀ u ∈ strL x, u.oneCell' = true := by
  intro u h
  simp [strL] at h; subst h; rfl
theorem extract_is (s : ByteArray) (a b : Nat) : s.extract a b = ⟨((s.data.toList.take b).drop a).toArray⟩ := by
  apply ByteArray.ext
  apply Array.ext'
  rw [Lib.extract_data]
  try simp [List.drop_take]
theorem infoStr : (Tryz.prog.info? 9).map (fun i => (i.zero, i.size, i.bytes)) = some (some (.string ⟨#[]⟩), 1, 16) := by kernel_rfl
namespace Tx
theorem spl_len (c : UInt8) : ∀ s : List UInt8, (spl c s).length ≤ s.length + 1
  | [] => by simp [spl]
  | b :: r => by
    have := spl_len c r
    rw [spl]
    split
    · simp; omega
    · split
      · simp
      · rename_i x t h; rw [h] at this; simp at this ⊢; omega
end Tx
theorem spl_bd (c : UInt8) : ∀ (l : List UInt8), ∀ x ∈ Tx.spl c l, x.length ≤ l.length
  | [], x, h => by
    have : x = [] := by simpa [Tx.spl] using h
    subst this; simp
  | b :: r, x, h => by
    have ih := spl_bd c r
    rw [Tx.spl] at h
    split at h
    · rcases List.mem_cons.1 h with rfl | h
      · simp
      · have := ih x h; rw [List.length_cons]; omega
    · split at h
      · rename_i e
        exact absurd e (Tx.spl_ne c r)
      · rename_i y t e
        rw [e] at ih
        rcases List.mem_cons.1 h with rfl | h
        · have := ih y (by simp); rw [List.length_cons, List.length_cons]; omega
        · have := ih x (by simp [h]); rw [List.length_cons]; omega

def SplSays (l : List UInt8) (c : UInt8) (w : World) (e : Ending) (w' : World) : Prop := ∃ v, e = .returned v ∧ OwnS w.heap.size w' v (Tx.spl c l) ∧ Below w.heap.size w w'

set_option maxRecDepth 20000 in
set_option maxHeartbeats 1000000 in
theorem split_any (s : ByteArray) (c : UInt8) (w : World) (hs : s.size ≤ 100000) :
    Calls Tryz.prog 109 #[.string s, .int .u8 (c.toNat : Int)] w (SplSays s.data.toList c w) := by
  obtain ⟨i0, hi, hz0, hz1, hz2⟩ := info_parts infoStr
  have hsz : s.data.toList.length = s.size := by rw [Array.length_toList]; rfl
  have HSZ := Lib.hid hsz
  clear hsz
  go_enter Tryz.func109, Tryz.ntmps109
  go_wp2
  go_loopw [5, 6, 7] (fun l f t wr => ∃ (q a k : Nat) (ds : List (List UInt8)), a ≤ k ∧ k ≤ s.size ∧ q = ds.length ∧ q ≤ k ∧ f = .int .i64 (a : Int) ∧ t = .int .i64 (k : Int) ∧ Hid (Tx.spl c s.data.toList = ds ++ Tx.spl c (s.data.toList.drop a) ∧ c ∉ (s.data.toList.take k).drop a ∧ OwnS w.heap.size wr l ds ∧ Below w.heap.size w wr)) (fun _ _ t _ => s.size - (intOf t).toNat)
  case atStart => exact ⟨0, 0, 0, [], by omega, by omega, rfl, by omega, rfl, rfl, Lib.hid ⟨rfl, by simp, OwnS.nil _ _, Below.refl _ _⟩⟩
  case round =>
    obtain ⟨q, a, k, ds, hak, hk, hq, hqk, rfl, rfl, hg⟩ := hrel
    subst hq
    obtain ⟨h1, h2, hown, hw⟩ := hg.out
    have H1 := Lib.hid h1
    have H2 := Lib.hid h2
    by_cases hlt : k < s.size
    · have hkl : k < s.data.toList.length := by rw [HSZ.out]; exact hlt
      have hck : s.data.toList[k] = s[k]'hlt := rfl
      have htk : s.data.toList.take (k + 1) = s.data.toList.take k ++ [s[k]'hlt] := by rw [List.take_succ_eq_append_getElem hkl, hck]
      by_cases hc : s[k]'hlt = c
      · have hce : (((s[k]'hlt).toNat : Int) == (c.toNat : Int)) = true := by rw [hc]; simp
        have hsp : Tx.spl c (s.data.toList.drop a) = (s.data.toList.take k).drop a :: Tx.spl c (s.data.toList.drop (k + 1)) := by
          have e : s.data.toList.drop a = (s.data.toList.take k).drop a ++ c :: s.data.toList.drop (k + 1) := by
            rw [← hc, ← hck, ← List.drop_eq_getElem_cons hkl]
            have : s.data.toList.drop k = (s.data.toList.drop a).drop (k - a) := by rw [List.drop_drop]; congr 1; omega
            rw [this, List.drop_take]
            exact (List.take_append_drop (k - a) _).symm
          rw [e, Tx.spl_here c _ _ h2]
        have HSP := Lib.hid hsp
        have HX := Lib.hid (extract_is s a k)
        clear h1 h2 hsp hkl hck htk hc hg
        generalize (s.data.toList.take k).drop a = x at *
        go_wp2_with (at_builtin; refine wpList_append_own _ rfl _ _ 44 rfl w.heap.size 9 i0 (.string ⟨#[]⟩) 1 16 Tryz.underlying44 hi hz0 hz1 hz2 rfl (by decide) _ _ _ rfl (hown.alloc _) ⟨_, 0, none⟩ 1 1 (strL x) rfl rfl (by rw [HX.out]; exact strL_at _ _ _) (strL_one _) (by unfold maxLen; omega) (by omega) (by have := hw.size; simp; omega) ?_)
        intro v' w1 hown1 hgrow _
        have hx1 := OwnS.pushed hown1
        have hw1 := (hw.alloc hw.size (.cells #[.string (s.extract a k)] 9)).grown hgrow (by have := hw.size; simp; omega) (fun j e => (World.ownsRow.lt hown j e).1)
        clear hown1 hgrow hown hw
        go_wp2
        go_roundw
        case rel => exact ⟨_, k + 1, k + 1, ds ++ [x], by omega, by omega, rfl, by simp; omega, by go_num, by go_num, Lib.hid ⟨by rw [H1.out, HSP.out]; simp, by rw [List.drop_of_length_le (by simp; omega)]; simp, hx1, hw1⟩⟩
        case measure => simp [intOf]; omega
      · have hce : (((s[k]'hlt).toNat : Int) == (c.toNat : Int)) = false := beq_eq_false_iff_ne.2 fun e => hc (UInt8.toNat_inj.1 (by omega))
        have HN : Hid (c ∉ (s.data.toList.take (k + 1)).drop a) := Lib.hid (by
          rw [htk, List.drop_append_of_le_length (by simp; omega)]
          intro h
          rcases List.mem_append.1 h with h | h
          · exact h2 h
          · exact hc (List.mem_singleton.1 h).symm)
        have HO := Lib.hid (And.intro hown hw)
        clear h1 h2 hkl hck htk hc hg hown hw
        go_wp2
        go_roundw
        case rel => exact ⟨_, a, k + 1, ds, by omega, by omega, rfl, by omega, rfl, by go_num, Lib.hid ⟨H1.out, HN.out, HO.out.1, HO.out.2⟩⟩
        case measure => simp [intOf]; omega
    · obtain rfl : k = s.size := by omega
      have HSP : Hid (Tx.spl c s.data.toList = ds ++ [(s.data.toList.take s.size).drop a]) := Lib.hid (by
        rw [← HSZ.out, List.take_length] at h2 ⊢
        rw [h1, Tx.spl_not c _ h2])
      have HX := Lib.hid (extract_is s a s.size)
      clear h1 h2 hg
      generalize (s.data.toList.take s.size).drop a = x at *
      go_wp2_with (at_builtin; refine wpList_append_own _ rfl _ _ 44 rfl w.heap.size 9 i0 (.string ⟨#[]⟩) 1 16 Tryz.underlying44 hi hz0 hz1 hz2 rfl (by decide) _ _ _ rfl (hown.alloc _) ⟨_, 0, none⟩ 1 1 (strL x) rfl rfl (by rw [HX.out]; exact strL_at _ _ _) (strL_one _) (by unfold maxLen; omega) (by omega) (by have := hw.size; simp; omega) ?_)
      intro v' w1 hown1 hgrow _
      have hx1 := OwnS.pushed hown1
      have hw1 := (hw.alloc hw.size (.cells #[.string (s.extract a s.size)] 9)).grown hgrow (by have := hw.size; simp; omega) (fun j e => (World.ownsRow.lt hown j e).1)
      clear hown1 hgrow hown hw
      go_wp2
      go_ret
      exact ⟨_, rfl, by rw [HSP.out]; exact hx1, hw1⟩
end Go.Proofs.YtcljpklgpedolaaGreatDoor
