/- The sums of rates as the reference finds them, in plain words. -/
import Derived.Test.YtabfcnfddemblaaLfX
namespace Go.Proofs.Ytabfcnfddemblaa
namespace Lf

def pr (rs : List Int) (n h G s : Nat) : Bool := (List.range G).any fun g => decide (h ≤ g + 1) && cn rs n g s
theorem pr_iff {rs : List Int} {n h G s : Nat} : pr rs n h G s = true ↔ ∃ g, g < G ∧ h ≤ g + 1 ∧ cn rs n g s = true := by
  unfold pr
  rw [List.any_eq_true]
  constructor
  · rintro ⟨g, hg, h⟩
    rw [Bool.and_eq_true, decide_eq_true_eq] at h
    exact ⟨g, List.mem_range.1 hg, h⟩
  · rintro ⟨g, hg, h⟩
    exact ⟨g, List.mem_range.2 hg, by rw [Bool.and_eq_true, decide_eq_true_eq]; exact h⟩
theorem pr_start (rs : List Int) (n h s : Nat) : pr rs n h (h - 1) s = false := by
  apply Bool.eq_false_iff.2
  intro hc
  obtain ⟨g, h1, h2, _⟩ := pr_iff.1 hc
  omega
theorem pr_succ {rs : List Int} {n h G s : Nat} (hG : h ≤ G + 1) : pr rs n h (G + 1) s = (pr rs n h G s || cn rs n G s) := by
  unfold pr
  rw [List.range_succ, List.any_append]
  simp [hG]
theorem pr_end (rs : List Int) (n h s : Nat) (_h4 : h ≤ 4) : pr rs n h (min 4 (h + 1) + 1) s = sm rs (n + 1) h s := by
  rw [Bool.eq_iff_iff, pr_iff, sm_succ]
  constructor
  · rintro ⟨g, h1, h2, h3⟩
    exact ⟨g, by omega, nr_iff.2 (by omega), h3⟩
  · rintro ⟨g, h1, h2, h3⟩
    have := nr_iff.1 h2
    exact ⟨g, by omega, by omega, h3⟩
def pq (rs : List Int) (n h G t s : Nat) : Bool := pr rs n h G s || (cn rs n G s && decide (s < t + rt rs G))
theorem pq_zero (rs : List Int) (n h G s : Nat) : pq rs n h G 0 s = pr rs n h G s := by
  unfold pq cn
  by_cases c : rt rs G ≤ s
  · rw [decide_eq_false (show ¬ s < 0 + rt rs G by omega), Bool.and_false, Bool.or_false]
  · rw [decide_eq_false c, Bool.false_and, Bool.false_and, Bool.or_false]
theorem pq_at (rs : List Int) (n h G t : Nat) : pq rs n h G (t + 1) (t + rt rs G) = (pq rs n h G t (t + rt rs G) || sm rs n G t) := by
  unfold pq cn
  rw [decide_eq_true (show t + rt rs G < t + 1 + rt rs G by omega), decide_eq_false (show ¬ t + rt rs G < t + rt rs G by omega), decide_eq_true (show rt rs G ≤ t + rt rs G by omega), Nat.add_sub_cancel, Bool.and_true, Bool.and_false, Bool.or_false, Bool.true_and]
theorem pq_other {rs : List Int} {n h G t s : Nat} (hs : s ≠ t + rt rs G) : pq rs n h G (t + 1) s = pq rs n h G t s := by
  unfold pq
  rw [show decide (s < t + 1 + rt rs G) = decide (s < t + rt rs G) from decide_eq_decide.2 (by omega)]
theorem pq_end {rs : List Int} {n h G t s : Nat} (hG : h ≤ G + 1) (ht : 109 ≤ t + rt rs G) (hs : s < 109) : pq rs n h G t s = pr rs n h (G + 1) s := by
  rw [pr_succ hG]
  unfold pq
  rw [decide_eq_true (show s < t + rt rs G by omega), Bool.and_true]
/-- A row for so many days behind a heat, up to a heat. -/
def pF (rs : List Int) (d h G s : Nat) : Bool := if d = 0 then decide (s = 0) else pr rs (d - 1) h G s
theorem pF_zero (rs : List Int) (h G s : Nat) : pF rs 0 h G s = sm rs 0 h s := by unfold pF; rw [if_pos rfl, sm]
theorem pF_succ (rs : List Int) (n h G s : Nat) : pF rs (n + 1) h G s = pr rs n h G s := by unfold pF; rw [if_neg (by omega), Nat.add_sub_cancel]
end Lf
end Go.Proofs.Ytabfcnfddemblaa
