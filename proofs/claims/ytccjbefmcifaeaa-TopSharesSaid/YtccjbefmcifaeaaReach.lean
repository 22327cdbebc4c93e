/- A path leads from one lot to another: as a count, and as a relation. Plain. -/
import Derived.Test.YtccjbefmcifaeaaPathN
namespace Go.Proofs.Ytccjbefmcifaeaa
open Go.RowKit

/-- No count of paths is too large: at most 6 parts a lot, at most 24 lots. -/
def smallF (m : Nat) (f : Nat → Int) : Prop := ∀ j, j < m → 0 ≤ f j ∧ f j ≤ (6 : Int) ^ j
theorem pow6_le {a b : Nat} (h : a ≤ b) : (6 : Int) ^ a ≤ (6 : Int) ^ b := by
  have := Nat.pow_le_pow_right (n := 6) (by decide) h
  exact_mod_cast this
theorem pow6_pos (a : Nat) : (0 : Int) < (6 : Int) ^ a := by
  have := Nat.pow_pos (a := 6) (n := a) (by decide)
  exact_mod_cast this
theorem ad_small {a b : Int} (ha : 0 ≤ a) (hb : 0 ≤ b) (h : a + b < 9223372036854775808) : ad a b = a + b := IntWalk.i64_in _ (by omega)
/-- The sum over some parts, without a bound. -/
def sumP (f : Nat → Int) : List Lt.P → Int
  | [] => 0
  | p :: r => f p.l.toNat + sumP f r
theorem foldP_sum {f : Nat → Int} {i n : Nat} (hn : i < 24) : ∀ (ps : List Lt.P) (t : Nat) (g : Nat → Int), (∀ j, j ≠ i → g j = f j) → (∀ p ∈ ps, p.l.toNat < i ∧ 0 ≤ f p.l.toNat ∧ f p.l.toNat ≤ (6 : Int) ^ (i - 1)) → 0 ≤ g i → g i ≤ t * (6 : Int) ^ (i - 1) → t + ps.length ≤ 6 →
    ps.foldl (stepP ad i) g i = g i + sumP f ps ∧ 0 ≤ sumP f ps ∧ g i + sumP f ps ≤ (t + ps.length : Nat) * (6 : Int) ^ (i - 1)
  | [], t, g, _, _, _, h, _ => by simp [sumP]; exact h
  | p :: r, t, g, hg, hp, h0, h1, h6 => by
    obtain ⟨a, b, c⟩ := hp p (by simp)
    have hpw := pow6_le (show i - 1 ≤ 22 by omega)
    have hq := pow6_pos (i - 1)
    have e22 : (6 : Int) ^ 22 = 131621703842267136 := by decide
    rw [e22] at hpw
    simp only [List.length_cons] at h6
    have hgp : g p.l.toNat = f p.l.toNat := hg _ (by omega)
    have ht : (t : Int) * (6 : Int) ^ (i - 1) ≤ 6 * (6 : Int) ^ (i - 1) := Int.mul_le_mul_of_nonneg_right (by omega) (by omega)
    have had : ad (g i) (g p.l.toNat) = g i + f p.l.toNat := by rw [hgp]; exact ad_small h0 b (by omega)
    have hst : stepP ad i g p = upd g i (g i + f p.l.toNat) := by unfold stepP; rw [had]
    have hx : (t + 1 : Nat) * (6 : Int) ^ (i - 1) = t * (6 : Int) ^ (i - 1) + (6 : Int) ^ (i - 1) := by push_cast; rw [Int.add_mul, Int.one_mul]
    have := foldP_sum (f := f) (n := n) hn r (t + 1) (upd g i (g i + f p.l.toNat)) (fun j hj => by unfold upd; rw [if_neg hj]; exact hg j hj) (fun q hq => hp q (by simp [hq])) (by unfold upd; rw [if_pos rfl]; omega) (by unfold upd; rw [if_pos rfl]; omega) (by omega)
    rw [show upd g i (g i + f p.l.toNat) i = g i + f p.l.toNat by unfold upd; rw [if_pos rfl]] at this
    obtain ⟨k1, k2, k3⟩ := this
    refine ⟨?_, ?_, ?_⟩
    · rw [List.foldl_cons, hst, k1]; simp only [sumP]; omega
    · simp only [sumP]; omega
    · simp only [sumP, List.length_cons]; rw [show t + (r.length + 1) = t + 1 + r.length by omega]; omega
theorem sumP_pos {f : Nat → Int} : ∀ {ps : List Lt.P}, (∀ p ∈ ps, 0 ≤ f p.l.toNat) → (0 < sumP f ps ↔ ∃ p ∈ ps, 0 < f p.l.toNat) ∧ 0 ≤ sumP f ps
  | [], _ => by simp [sumP]
  | p :: r, h => by
    obtain ⟨i1, i2⟩ := sumP_pos (ps := r) fun q hq => h q (by simp [hq])
    have h0 := h p (by simp)
    simp only [sumP]
    refine ⟨⟨fun hs => ?_, fun ⟨q, hq, hf⟩ => ?_⟩, by omega⟩
    · by_cases hp : 0 < f p.l.toNat
      · exact ⟨p, by simp, hp⟩
      · obtain ⟨q, hq, hf⟩ := i1.1 (by omega)
        exact ⟨q, by simp [hq], hf⟩
    · rcases List.mem_cons.1 hq with rfl | hq
      · omega
      · have := i1.2 ⟨q, hq, hf⟩; omega

/-- A path leads from i to j. -/
inductive Reach (ls : List Lt.L) (i : Nat) : Nat → Prop
  | refl : Reach ls i i
  | part {j : Nat} {p : Lt.P} (hp : p ∈ (ls.getD j default).ps) (h : Reach ls i p.l.toNat) : Reach ls i j
theorem part_in {ls : List Lt.L} {j : Nat} (h : Lt.errAt ls j = 0) {p : Lt.P} (hp : p ∈ (ls.getD j default).ps) : 0 ≤ p.l ∧ p.l.toNat < j := by
  obtain ⟨_, _, h3, _⟩ := Lt.errAt_parts h
  obtain ⟨a, b, _⟩ := Lt.okPs_mem h3 _ hp
  omega
theorem getD_out {ls : List Lt.L} {j : Nat} (h : ls.length ≤ j) : (ls.getD j default).ps = [] := by
  rw [List.getD_eq_getElem?_getD, List.getElem?_eq_none h]; rfl
theorem reach_le {ls : List Lt.L} (herr : ∀ j, j < ls.length → Lt.errAt ls j = 0) {i j : Nat} (h : Reach ls i j) : i ≤ j := by
  induction h with
  | refl => exact Nat.le_refl _
  | @part j p hp h ih =>
    by_cases hj : j < ls.length
    · have := part_in (herr j hj) hp; omega
    · rw [getD_out (by omega)] at hp; cases hp
theorem reach_iff {ls : List Lt.L} {i j : Nat} : Reach ls i j ↔ i = j ∨ ∃ p ∈ (ls.getD j default).ps, Reach ls i p.l.toNat := by
  constructor
  · intro h
    cases h with
    | refl => exact .inl rfl
    | part hp h => exact .inr ⟨_, hp, h⟩
  · rintro (rfl | ⟨p, hp, h⟩)
    · exact .refl
    · exact .part hp h
theorem reach_trans {ls : List Lt.L} {i j k : Nat} (h1 : Reach ls i j) (h2 : Reach ls j k) : Reach ls i k := by
  induction h2 with
  | refl => exact h1
  | part hp _ ih => exact .part hp ih
/-- The same, from the other end. -/
theorem reach_first {ls : List Lt.L} {i j : Nat} : Reach ls i j ↔ i = j ∨ ∃ c, (∃ p ∈ (ls.getD c default).ps, p.l.toNat = i) ∧ Reach ls c j := by
  constructor
  · intro h
    induction h with
    | refl => exact .inl rfl
    | @part j p hp h ih =>
      rcases ih with e | ⟨c, hc, hr⟩
      · exact .inr ⟨j, ⟨p, hp, e.symm⟩, .refl⟩
      · exact .inr ⟨c, hc, .part hp hr⟩
  · rintro (rfl | ⟨c, ⟨p, hp, e⟩, hr⟩)
    · exact .refl
    · exact reach_trans (.part hp (by rw [e]; exact .refl)) hr
theorem runP_pos {ls : List Lt.L} (hl : ls.length ≤ 24) (herr : ∀ j, j < ls.length → Lt.errAt ls j = 0) {i : Nat} (hi : i < ls.length) : ∀ k, i + 1 + k ≤ ls.length →
    (∀ j, j < i + 1 + k → (0 ≤ runL ad ls (upd (fun _ => 0) i 1) (i + 1) k j ∧ runL ad ls (upd (fun _ => 0) i 1) (i + 1) k j ≤ (6 : Int) ^ j) ∧ (0 < runL ad ls (upd (fun _ => 0) i 1) (i + 1) k j ↔ Reach ls i j)) ∧
    ∀ j, i + 1 + k ≤ j → runL ad ls (upd (fun _ => 0) i 1) (i + 1) k j = 0
  | 0, _ => by
    refine ⟨fun j hj => ?_, fun j hj => ?_⟩
    · show (0 ≤ upd (fun _ => 0) i 1 j ∧ upd (fun _ => 0) i 1 j ≤ (6 : Int) ^ j) ∧ (0 < upd (fun _ => 0) i 1 j ↔ Reach ls i j)
      have := pow6_pos j
      unfold upd
      by_cases e : j = i
      · subst e
        rw [if_pos rfl]
        exact ⟨by omega, fun _ => .refl, fun _ => by omega⟩
      · rw [if_neg e]
        dsimp only
        exact ⟨by omega, fun h => absurd h (by omega), fun h => by have := reach_le herr h; omega⟩
    · show upd (fun _ => 0) i 1 j = 0
      unfold upd; rw [if_neg (by omega)]
  | k + 1, hk => by
    obtain ⟨ih1, ih2⟩ := runP_pos hl herr hi k (by omega)
    have hR : runL ad ls (upd (fun _ => 0) i 1) (i + 1) (k + 1) = (ls.getD (i + 1 + k) default).ps.foldl (stepP ad (i + 1 + k)) (runL ad ls (upd (fun _ => 0) i 1) (i + 1) k) := rfl
    rw [hR]
    generalize runL ad ls (upd (fun _ => 0) i 1) (i + 1) k = f at *
    have hm : i + 1 + k < ls.length := by omega
    have h6 := (Lt.errAt_parts (herr _ hm)).2.1
    have hp : ∀ p ∈ (ls.getD (i + 1 + k) default).ps, p.l.toNat < i + 1 + k ∧ 0 ≤ f p.l.toNat ∧ f p.l.toNat ≤ (6 : Int) ^ (i + 1 + k - 1) := by
      intro p hp
      obtain ⟨_, h2⟩ := part_in (herr _ hm) hp
      obtain ⟨⟨a, b⟩, _⟩ := ih1 _ h2
      have := pow6_le (show p.l.toNat ≤ i + 1 + k - 1 by omega)
      exact ⟨h2, a, by omega⟩
    have h0 := ih2 (i + 1 + k) (Nat.le_refl _)
    obtain ⟨s1, s2, s3⟩ := foldP_sum (f := f) (i := i + 1 + k) (n := 0) (by omega) (ls.getD (i + 1 + k) default).ps 0 f (fun _ _ => rfl) hp (by omega) (by rw [h0]; simp) (by omega)
    refine ⟨fun j hj => ?_, fun j hj => ?_⟩
    · by_cases e : j = i + 1 + k
      · subst e
        rw [s1, h0, Int.zero_add]
        rw [h0, Int.zero_add] at s3
        have hpw := pow6_pos (i + 1 + k - 1)
        have h6m : ((0 + (ls.getD (i + 1 + k) default).ps.length : Nat) : Int) * (6 : Int) ^ (i + 1 + k - 1) ≤ 6 * (6 : Int) ^ (i + 1 + k - 1) := Int.mul_le_mul_of_nonneg_right (by omega) (by omega)
        have hs : (6 : Int) ^ (i + 1 + k) = 6 * (6 : Int) ^ (i + 1 + k - 1) := by
          have : i + 1 + k = (i + 1 + k - 1) + 1 := by omega
          rw [this, Int.pow_succ, Int.mul_comm]; simp
        refine ⟨⟨s2, by omega⟩, ?_⟩
        rw [(sumP_pos fun p h => (hp p h).2.1).1, reach_iff]
        constructor
        · rintro ⟨p, h1, h2⟩
          exact .inr ⟨p, h1, ((ih1 _ (hp p h1).1).2).1 h2⟩
        · rintro (e | ⟨p, h1, h2⟩)
          · omega
          · exact ⟨p, h1, ((ih1 _ (hp p h1).1).2).2 h2⟩
      · rw [foldP_ne ad e]
        exact ih1 j (by omega)
    · rw [foldP_ne ad (by omega)]
      exact ih2 j (by omega)
theorem paths_pos {ls : List Lt.L} (hl : ls.length ≤ 24) (herr : ∀ j, j < ls.length → Lt.errAt ls j = 0) {i j : Nat} (hi : i < ls.length) (hj : j < ls.length) : 0 < pathsF ls i j ↔ Reach ls i j := by
  have := (runP_pos hl herr hi (ls.length - (i + 1)) (by omega)).1 j (by omega)
  exact this.2
end Go.Proofs.Ytccjbefmcifaeaa
