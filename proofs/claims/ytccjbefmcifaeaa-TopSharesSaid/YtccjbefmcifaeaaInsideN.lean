/- What is marked at the end: what leads to a marked lot. Plain. -/
import Derived.Test.YtccjbefmcifaeaaInside
namespace Go.Proofs.Ytccjbefmcifaeaa
open Go.RowKit

def isPart (ls : List Lt.L) (x c : Nat) : Prop := ∃ p ∈ (ls.getD c default).ps, p.l.toNat = x
def Full (ls : List Lt.L) (M : Nat → Bool) (x : Nat) : Prop := ∃ m, M m = true ∧ Reach ls x m
theorem full_iff {ls : List Lt.L} {M : Nat → Bool} {x : Nat} : Full ls M x ↔ M x = true ∨ ∃ c, isPart ls x c ∧ Full ls M c := by
  constructor
  · rintro ⟨m, hm, hr⟩
    rcases reach_first.1 hr with rfl | ⟨c, hc, hr⟩
    · exact .inl hm
    · exact .inr ⟨c, hc, m, hm, hr⟩
  · rintro (h | ⟨c, hc, m, hm, hr⟩)
    · exact ⟨x, h, .refl⟩
    · exact ⟨m, hm, reach_first.2 (.inr ⟨c, hc, hr⟩)⟩
theorem isPart_lt {ls : List Lt.L} (herr : ∀ j, j < ls.length → Lt.errAt ls j = 0) {x c : Nat} (h : isPart ls x c) : x < c ∧ c < ls.length := by
  obtain ⟨p, hp, rfl⟩ := h
  by_cases hc : c < ls.length
  · exact ⟨(part_in (herr c hc) hp).2, hc⟩
  · rw [getD_out (by omega)] at hp; cases hp
theorem foldB (ps : List Lt.P) : ∀ (f : Nat → Bool) (x : Nat), ps.foldl (fun g p => updB g p.l.toNat) f x = true ↔ f x = true ∨ ∃ p ∈ ps, p.l.toNat = x := by
  induction ps with
  | nil => intro f x; simp
  | cons p r ih =>
    intro f x
    rw [List.foldl_cons, ih]
    unfold updB
    by_cases e : x = p.l.toNat
    · rw [if_pos e]; simp [e]
    · rw [if_neg e]; simp only [List.mem_cons, exists_eq_or_imp]
      constructor
      · rintro (h | h)
        · exact .inl h
        · exact .inr (.inr h)
      · rintro (h | h | h)
        · exact .inl h
        · exact absurd h.symm e
        · exact .inr h
theorem insK_iff {ls : List Lt.L} (herr : ∀ j, j < ls.length → Lt.errAt ls j = 0) (M : Nat → Bool) : ∀ k, k ≤ ls.length → ∀ x, insK ls M k x = true ↔ (M x = true ∨ ∃ c, ls.length - k ≤ c ∧ isPart ls x c ∧ Full ls M c)
  | 0, _, x => by
    constructor
    · intro h; exact .inl h
    · rintro (h | ⟨c, h1, h2, _⟩)
      · exact h
      · have := isPart_lt herr h2; omega
  | k + 1, hk, x => by
    have ih := insK_iff herr M k (by omega)
    have hm : insK ls M k (ls.length - 1 - k) = true ↔ Full ls M (ls.length - 1 - k) := by
      rw [ih, full_iff]
      constructor
      · rintro (h | ⟨c, _, h2, h3⟩)
        · exact .inl h
        · exact .inr ⟨c, h2, h3⟩
      · rintro (h | ⟨c, h2, h3⟩)
        · exact .inl h
        · exact .inr ⟨c, by have := isPart_lt herr h2; omega, h2, h3⟩
    show insL ls (insK ls M k) (ls.length - 1 - k) x = true ↔ _
    unfold insL
    by_cases hf : insK ls M k (ls.length - 1 - k) = true
    · rw [if_pos hf, foldB, ih]
      constructor
      · rintro ((h | ⟨c, h1, h2, h3⟩) | h)
        · exact .inl h
        · exact .inr ⟨c, by omega, h2, h3⟩
        · exact .inr ⟨ls.length - 1 - k, by omega, h, hm.1 hf⟩
      · rintro (h | ⟨c, h1, h2, h3⟩)
        · exact .inl (.inl h)
        · by_cases e : c = ls.length - 1 - k
          · subst e; exact .inr h2
          · exact .inl (.inr ⟨c, by omega, h2, h3⟩)
    · rw [if_neg hf, ih]
      constructor
      · rintro (h | ⟨c, h1, h2, h3⟩)
        · exact .inl h
        · exact .inr ⟨c, by omega, h2, h3⟩
      · rintro (h | ⟨c, h1, h2, h3⟩)
        · exact .inl h
        · by_cases e : c = ls.length - 1 - k
          · subst e; exact absurd (hm.2 h3) hf
          · exact .inr ⟨c, by omega, h2, h3⟩
/-- What the reference's marks say at the end. -/
theorem ins_full {ls : List Lt.L} (herr : ∀ j, j < ls.length → Lt.errAt ls j = 0) (M : Nat → Bool) (x : Nat) : insK ls M ls.length x = true ↔ Full ls M x := by
  rw [insK_iff herr M _ (Nat.le_refl _), full_iff]
  constructor
  · rintro (h | ⟨c, _, h2, h3⟩)
    · exact .inl h
    · exact .inr ⟨c, h2, h3⟩
  · rintro (h | ⟨c, h2, h3⟩)
    · exact .inl h
    · exact .inr ⟨c, by omega, h2, h3⟩
theorem full_one {ls : List Lt.L} {i x : Nat} : Full ls (updB (fun _ => false) i) x ↔ Reach ls x i := by
  constructor
  · rintro ⟨m, hm, hr⟩
    unfold updB at hm
    by_cases e : m = i
    · subst e; exact hr
    · rw [if_neg e] at hm; cases hm
  · intro h
    exact ⟨i, by unfold updB; rw [if_pos rfl], h⟩
/-- The reference's marks of one lot's origins, and the program's counts. -/
theorem ins_paths {ls : List Lt.L} (hl : ls.length ≤ 24) (herr : ∀ j, j < ls.length → Lt.errAt ls j = 0) {i x : Nat} (hi : i < ls.length) (hx : x < ls.length) : insK ls (updB (fun _ => false) i) ls.length x = decide (0 < pathsF ls x i) := by
  have h1 := (ins_full herr (updB (fun _ => false) i) x).trans full_one
  have h2 := paths_pos hl herr hx hi
  cases h : insK ls (updB (fun _ => false) i) ls.length x with
  | true => exact (decide_eq_true (h2.2 (h1.1 h))).symm
  | false => exact (decide_eq_false (fun hp => by have := h1.2 (h2.1 hp); rw [h] at this; cases this)).symm
end Go.Proofs.Ytccjbefmcifaeaa
