/- Programs of heats in plain words: the sums that days can have, as bits, and the first heats of the fewest days. -/
import Derived.Test.YtabfcnfddemblaaLfN
namespace Go.Proofs.Ytabfcnfddemblaa
namespace Lf

/-- The rate of a heat. -/
def rt (rs : List Int) (g : Nat) : Nat := (rs.getD g 0).toNat
def nr (b g : Nat) : Bool := decide (b ≤ g + 1) && decide (g ≤ b + 1)
theorem nr_iff {b g : Nat} : nr b g = true ↔ b ≤ g + 1 ∧ g ≤ b + 1 := by simp [nr]
/-- Some heats of so many days behind a day of a heat have just this warmth. -/
def sm (rs : List Int) : Nat → Nat → Nat → Bool
  | 0, _, s => decide (s = 0)
  | n + 1, b, s => (List.range 5).any fun g => nr b g && (decide (rt rs g ≤ s) && sm rs n g (s - rt rs g))
/-- .. of so many days and one more that begin with a heat. -/
def cn (rs : List Int) (n g s : Nat) : Bool := decide (rt rs g ≤ s) && sm rs n g (s - rt rs g)
theorem sm_succ {rs : List Int} {n b s : Nat} : sm rs (n + 1) b s = true ↔ ∃ g, g < 5 ∧ nr b g = true ∧ cn rs n g s = true := by
  rw [sm, List.any_eq_true]
  constructor
  · rintro ⟨g, hg, h⟩
    rw [Bool.and_eq_true] at h
    exact ⟨g, List.mem_range.1 hg, h.1, h.2⟩
  · rintro ⟨g, hg, h1, h2⟩
    exact ⟨g, List.mem_range.2 hg, by rw [Bool.and_eq_true]; exact ⟨h1, h2⟩⟩
/-- .. have a warmth within bounds. -/
def aft (rs : List Int) (n b : Nat) (lo hi : Int) : Bool := (List.range 61).any fun (s : Nat) => decide (lo ≤ (s : Int)) && (decide ((s : Int) ≤ hi) && sm rs n b s)
theorem aft_iff {rs : List Int} {n b : Nat} {lo hi : Int} : aft rs n b lo hi = true ↔ ∃ s : Nat, s ≤ 60 ∧ lo ≤ s ∧ (s : Int) ≤ hi ∧ sm rs n b s = true := by
  rw [aft, List.any_eq_true]
  constructor
  · rintro ⟨s, hs, h⟩
    simp only [Bool.and_eq_true, decide_eq_true_eq] at h
    exact ⟨s, by have := List.mem_range.1 hs; omega, h.1, h.2.1, h.2.2⟩
  · rintro ⟨s, hs, h1, h2, h3⟩
    exact ⟨s, List.mem_range.2 (by omega), by simp only [Bool.and_eq_true, decide_eq_true_eq]; exact ⟨h1, h2, h3⟩⟩
/-- Whether heats of so many days and one more that begin with a heat have a warmth within bounds. -/
def can (rs : List Int) (n g : Nat) (lo hi : Int) : Bool := aft rs n g (lo - rt rs g) (hi - rt rs g)
theorem can_iff {rs : List Int} {n g : Nat} {lo hi : Int} (hh : hi ≤ 60) : can rs n g lo hi = true ↔ ∃ s : Nat, lo ≤ s ∧ (s : Int) ≤ hi ∧ cn rs n g s = true := by
  unfold can
  rw [aft_iff]
  constructor
  · rintro ⟨s, _, h1, h2, h3⟩
    refine ⟨s + rt rs g, by omega, by omega, ?_⟩
    unfold cn
    rw [Bool.and_eq_true, decide_eq_true_eq]
    exact ⟨by omega, by rw [Nat.add_sub_cancel]; exact h3⟩
  · rintro ⟨s, h1, h2, h3⟩
    unfold cn at h3
    rw [Bool.and_eq_true, decide_eq_true_eq] at h3
    exact ⟨s - rt rs g, by omega, by omega, by omega, h3.2⟩
theorem aft_succ {rs : List Int} {n b : Nat} {lo hi : Int} (hh : hi ≤ 60) : aft rs (n + 1) b lo hi = true ↔ ∃ g, g < 5 ∧ nr b g = true ∧ can rs n g lo hi = true := by
  rw [aft_iff]
  constructor
  · rintro ⟨s, _, h1, h2, h3⟩
    obtain ⟨g, hg, h4, h5⟩ := sm_succ.1 h3
    exact ⟨g, hg, h4, (can_iff hh).2 ⟨s, h1, h2, h5⟩⟩
  · rintro ⟨g, hg, h4, h5⟩
    obtain ⟨s, h1, h2, h3⟩ := (can_iff hh).1 h5
    exact ⟨s, by omega, h1, h2, sm_succ.2 ⟨g, hg, h4, h3⟩⟩

/-- The bits of some heats in turn. -/
def afN (m : Nat → Nat) (lo : Nat) : Nat → Nat
  | 0 => 0
  | k + 1 => afN m lo k ||| m (lo + k)
theorem afN_bit {m : Nat → Nat} {lo s : Nat} : ∀ k, (afN m lo k).testBit s = true ↔ ∃ j, j < k ∧ (m (lo + j)).testBit s = true
  | 0 => by simp [afN]
  | k + 1 => by
    rw [afN, Nat.testBit_or, Bool.or_eq_true, afN_bit k]
    constructor
    · rintro (⟨j, hj, h⟩ | h)
      · exact ⟨j, by omega, h⟩
      · exact ⟨k, by omega, h⟩
    · rintro ⟨j, hj, h⟩
      by_cases e : j = k
      · subst e; exact .inr h
      · exact .inl ⟨j, by omega, h⟩
theorem afN_lt {m : Nat → Nat} {lo N : Nat} (h : ∀ g, m g < 2 ^ N) : ∀ k, afN m lo k < 2 ^ N
  | 0 => Nat.two_pow_pos N
  | k + 1 => Nat.or_lt_two_pow (afN_lt h k) (h _)
/-- The heats near one: how many. -/
def nN (b : Nat) : Nat := min 4 (b + 1) + 1 - (b - 1)
def af (m : Nat → Nat) (b : Nat) : Nat := afN m (b - 1) (nN b)
theorem af_bit {m : Nat → Nat} {b s : Nat} : (af m b).testBit s = true ↔ ∃ g, g < 5 ∧ nr b g = true ∧ (m g).testBit s = true := by
  unfold af
  rw [afN_bit]
  constructor
  · rintro ⟨j, hj, h⟩
    unfold nN at hj
    exact ⟨b - 1 + j, by omega, nr_iff.2 (by omega), h⟩
  · rintro ⟨g, hg, h1, h2⟩
    have := nr_iff.1 h1
    exact ⟨g - (b - 1), by unfold nN; omega, by rw [show b - 1 + (g - (b - 1)) = g by omega]; exact h2⟩
/-- The sums of days that begin with a heat, as bits. -/
def mk (rs : List Int) : Nat → Nat → Nat
  | 0, g => 2 ^ rt rs g % 2 ^ 64
  | n + 1, g => (af (mk rs n) g * 2 ^ rt rs g) % 2 ^ 64
theorem mk_lt (rs : List Int) : ∀ n g, mk rs n g < 2 ^ 64
  | 0, _ => Nat.mod_lt _ (Nat.two_pow_pos _)
  | _ + 1, _ => Nat.mod_lt _ (Nat.two_pow_pos _)
theorem mk_bit {rs : List Int} : ∀ n g s, (mk rs n g).testBit s = (decide (s < 64) && cn rs n g s)
  | 0, g, s => by
    rw [mk, Nat.testBit_mod_two_pow, Nat.testBit_two_pow]
    congr 1
    unfold cn
    rw [sm, Bool.eq_iff_iff]
    simp only [Bool.and_eq_true, decide_eq_true_eq]
    omega
  | n + 1, g, s => by
    rw [mk, Nat.testBit_mod_two_pow, Nat.testBit_mul_two_pow]
    by_cases h64 : s < 64
    · rw [decide_eq_true h64, Bool.true_and, Bool.true_and]
      unfold cn
      by_cases hr : rt rs g ≤ s
      · rw [decide_eq_true hr, Bool.true_and, Bool.true_and, Bool.eq_iff_iff, af_bit, sm_succ]
        constructor
        · rintro ⟨g', h1, h2, h3⟩
          rw [mk_bit n g' _, Bool.and_eq_true] at h3
          exact ⟨g', h1, h2, h3.2⟩
        · rintro ⟨g', h1, h2, h3⟩
          exact ⟨g', h1, h2, by rw [mk_bit n g' _, h3, Bool.and_true]; exact decide_eq_true (by omega)⟩
      · rw [decide_eq_false hr]; rfl
    · rw [decide_eq_false h64]; rfl
/-- Bits that tell the numbers within bounds. -/
def Wn (W : Nat) (lo hi : Int) : Prop := W < 2 ^ 64 ∧ ∀ s, s < 64 → W.testBit s = (decide (lo ≤ (s : Int)) && decide ((s : Int) ≤ hi))
theorem and_pos {a b : Nat} : (a &&& b ≠ 0) ↔ ∃ s, a.testBit s = true ∧ b.testBit s = true := by
  constructor
  · intro h
    obtain ⟨s, hs⟩ := Nat.exists_testBit_of_ne_zero h
    rw [Nat.testBit_and, Bool.and_eq_true] at hs
    exact ⟨s, hs⟩
  · rintro ⟨s, h1, h2⟩ e
    have : (a &&& b).testBit s = true := by rw [Nat.testBit_and, h1, h2]; rfl
    rw [e, Nat.zero_testBit] at this; cases this
theorem bit_lt {W s : Nat} (h : W < 2 ^ 64) (hs : W.testBit s = true) : s < 64 := by
  apply Decidable.byContradiction
  intro hc
  rw [Nat.testBit_lt_two_pow (Nat.lt_of_lt_of_le h (Nat.pow_le_pow_right (by decide) (by omega)))] at hs
  cases hs
theorem hit {rs : List Int} {n g W : Nat} {lo hi : Int} (hW : Wn W lo hi) (hh : hi ≤ 60) : (mk rs n g &&& W ≠ 0) ↔ can rs n g lo hi = true := by
  rw [and_pos, can_iff hh]
  constructor
  · rintro ⟨s, h1, h2⟩
    have hs := bit_lt hW.1 h2
    rw [mk_bit, Bool.and_eq_true] at h1
    rw [hW.2 s hs, Bool.and_eq_true, decide_eq_true_eq, decide_eq_true_eq] at h2
    exact ⟨s, h2.1, h2.2, h1.2⟩
  · rintro ⟨s, h1, h2, h3⟩
    have hs : s < 64 := by omega
    exact ⟨s, by rw [mk_bit, h3, decide_eq_true hs]; rfl, by rw [hW.2 s hs, decide_eq_true h1, decide_eq_true h2]; rfl⟩
theorem hits {rs : List Int} {n b W : Nat} {lo hi : Int} (hW : Wn W lo hi) (hh : hi ≤ 60) : (af (mk rs n) b &&& W ≠ 0) ↔ aft rs (n + 1) b lo hi = true := by
  rw [and_pos, aft_succ hh]
  constructor
  · rintro ⟨s, h1, h2⟩
    obtain ⟨g, hg, h3, h4⟩ := af_bit.1 h1
    exact ⟨g, hg, h3, (hit hW hh).1 (and_pos.2 ⟨s, h4, h2⟩)⟩
  · rintro ⟨g, hg, h3, h4⟩
    obtain ⟨s, h1, h2⟩ := and_pos.1 ((hit hW hh).2 h4)
    exact ⟨s, af_bit.2 ⟨g, hg, h3, h1⟩, h2⟩
theorem Wn_shift {W : Nat} {lo hi : Int} (h : Wn W lo hi) (hh : hi ≤ 60) (r : Nat) : Wn (W / 2 ^ r) (lo - r) (hi - r) := by
  refine ⟨Nat.lt_of_le_of_lt (Nat.div_le_self _ _) h.1, fun s hs => ?_⟩
  rw [Nat.testBit_div_two_pow]
  by_cases h64 : s + r < 64
  · rw [h.2 _ h64]
    congr 1 <;> (apply decide_eq_decide.2; omega)
  · rw [show decide ((s : Int) ≤ hi - r) = false from decide_eq_false (by omega), Bool.and_false]
    exact Nat.testBit_lt_two_pow (Nat.lt_of_lt_of_le h.1 (Nat.pow_le_pow_right (by decide) (by omega)))
/-- The bits from need to most. -/
theorem Wn_make {a b : Nat} (hab : a ≤ b) (hb : b ≤ 60) : Wn (2 ^ (b + 1) - 2 ^ a) a b := by
  have hle : 2 ^ a ≤ 2 ^ (b + 1) := Nat.pow_le_pow_right (by decide) (by omega)
  refine ⟨Nat.lt_of_le_of_lt (Nat.sub_le _ _) (Nat.pow_lt_pow_right (by decide) (by omega)), fun s _ => ?_⟩
  have e : 2 ^ (b + 1) - 2 ^ a = (2 ^ (b + 1 - a) - 1) * 2 ^ a := by
    rw [Nat.sub_mul, ← Nat.pow_add, Nat.one_mul, show b + 1 - a + a = b + 1 by omega]
  rw [e, Nat.testBit_mul_two_pow, Nat.testBit_two_pow_sub_one, Bool.eq_iff_iff]
  simp only [Bool.and_eq_true, decide_eq_true_eq]
  omega

/-- The first heat, near one, with which days begin that have a warmth within bounds. -/
def fg (rs : List Int) (n b : Nat) (lo hi : Int) : Nat := if can rs n (b - 1) lo hi = true then b - 1 else if can rs n b lo hi = true then b else b + 1
theorem fg_first {rs : List Int} {n b g : Nat} {lo hi : Int} (h0 : b - 1 ≤ g) (h1 : g ≤ b + 1) (hno : ∀ j, b - 1 ≤ j → j < g → can rs n j lo hi = false) (hg : can rs n g lo hi = true) : g = fg rs n b lo hi := by
  unfold fg
  by_cases c1 : can rs n (b - 1) lo hi = true
  · rw [if_pos c1]
    by_cases e : g = b - 1
    · exact e
    · rw [hno (b - 1) (Nat.le_refl _) (by omega)] at c1; cases c1
  · rw [if_neg c1]
    have h2 : g ≠ b - 1 := fun e => c1 (e ▸ hg)
    by_cases c2 : can rs n b lo hi = true
    · rw [if_pos c2]
      by_cases e : g = b
      · exact e
      · rw [hno b (by omega) (by omega)] at c2; cases c2
    · rw [if_neg c2]
      have h3 : g ≠ b := fun e => c2 (e ▸ hg)
      omega
theorem fg_can {rs : List Int} {n b : Nat} {lo hi : Int} (hh : hi ≤ 60) (h : aft rs (n + 1) b lo hi = true) : can rs n (fg rs n b lo hi) lo hi = true ∧ nr b (fg rs n b lo hi) = true ∧ fg rs n b lo hi < 5 := by
  obtain ⟨g, hg, h1, h2⟩ := (aft_succ hh).1 h
  have h3 := nr_iff.1 h1
  unfold fg
  by_cases c1 : can rs n (b - 1) lo hi = true
  · rw [if_pos c1]; exact ⟨c1, nr_iff.2 (by omega), by omega⟩
  · rw [if_neg c1]
    have e1 : g ≠ b - 1 := fun e => c1 (e ▸ h2)
    by_cases c2 : can rs n b lo hi = true
    · rw [if_pos c2]; exact ⟨c2, nr_iff.2 (by omega), by omega⟩
    · rw [if_neg c2]
      have e2 : g ≠ b := fun e => c2 (e ▸ h2)
      obtain rfl : g = b + 1 := by omega
      exact ⟨h2, h1, hg⟩
/-- The first heats of so many days behind a day of a heat that have a warmth within bounds. -/
def frs (rs : List Int) : Nat → Nat → Int → Int → List Int
  | 0, _, _, _ => []
  | n + 1, b, lo, hi => ((fg rs n b lo hi : Nat) : Int) :: frs rs n (fg rs n b lo hi) (lo - rt rs (fg rs n b lo hi)) (hi - rt rs (fg rs n b lo hi))
theorem frs_len (rs : List Int) : ∀ n b lo hi, (frs rs n b lo hi).length = n
  | 0, _, _, _ => rfl
  | n + 1, b, lo, hi => by rw [frs, List.length_cons, frs_len rs n]
/-- The first of some numbers that meets a test, or 0. -/
def fdd (c : Nat → Bool) : Nat → Nat → Nat
  | 0, _ => 0
  | n + 1, d => if c d = true then d else fdd c n (d + 1)
/-- The fewest days that have a warmth within bounds, or 0. -/
def dN (rs : List Int) (need most : Int) : Nat := fdd (fun d => aft rs d 0 need most) 12 1
def prg (rs : List Int) (need most : Int) : List Int := frs rs (dN rs need most) 0 need most
theorem fdd_le {c : Nat → Bool} : ∀ n d, fdd c n d = 0 ∨ (d ≤ fdd c n d ∧ fdd c n d < d + n ∧ c (fdd c n d) = true)
  | 0, _ => .inl rfl
  | n + 1, d => by
    rw [fdd]
    by_cases h : c d = true
    · rw [if_pos h]; exact .inr ⟨Nat.le_refl _, by omega, h⟩
    · rw [if_neg h]
      rcases fdd_le (c := c) n (d + 1) with e | ⟨h1, h2, h3⟩
      · exact .inl e
      · exact .inr ⟨by omega, by omega, h3⟩
theorem dN_le (rs : List Int) (need most : Int) : dN rs need most ≤ 12 := by
  have := fdd_le (c := fun d => aft rs d 0 need most) 12 1
  unfold dN; omega
theorem prg_len (rs : List Int) (need most : Int) : (prg rs need most).length = dN rs need most := frs_len _ _ _ _ _
def isRp (n m : Int) : Bool := rng 1 60 n && rng n 60 m
theorem isRp_iff {n m : Int} : isRp n m = true ↔ (1 ≤ n ∧ n ≤ 60) ∧ (n ≤ m ∧ m ≤ 60) := by unfold isRp; rw [Bool.and_eq_true, rng_iff, rng_iff]
def pE (f : F) (need most : Int) : Int := if valF [f] = 0 then (if isRp need most = true then 0 else 1) else 1
def pR (f : F) (need most : Int) : List Int := if pE f need most = 0 then prg f.rs need most else []
def pB (f : F) (need most : Int) : Bool := decide (pE f need most = 0) && decide (0 < dN f.rs need most)
/-- The chapter's example. -/
theorem ex_prg : prg [0, 1, 2, 4, 8] 7 10 = [1, 2, 3] := by decide +kernel
theorem ex_dN : dN [0, 1, 2, 4, 8] 7 10 = 3 := by decide +kernel
theorem ex_polL : polL ⟨10, 5, 0, 0, 0⟩ 50 = [5, 25, 45] := by decide +kernel
theorem ex_polE : polE ⟨10, 5, 0, 0, 0⟩ 50 = 0 := by decide +kernel
end Lf
end Go.Proofs.Ytabfcnfddemblaa
