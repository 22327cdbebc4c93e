/- Counts of places that meet a query, of the program and of the reference. -/
import Derived.Test.YtbmjjmpdlmbehaaBand45
namespace Go.Proofs.Ytbmjjmpdlmbehaa
open Go.RowKit

namespace Bd
def cnt : List S → Int
  | [] => 0
  | s :: b => s.t - s.f + cnt b
theorem cnt_append (a b : List S) : cnt (a ++ b) = cnt a + cnt b := by
  induction a with
  | nil => simp [cnt]
  | cons r a ih => simp only [List.cons_append, cnt, ih]; omega
theorem cnt_take_succ {b : List S} {k : Nat} (h : k < b.length) : cnt (b.take (k + 1)) = cnt (b.take k) + (b[k].t - b[k].f) := by
  rw [List.take_succ_eq_append_getElem h, cnt_append]; simp [cnt]
def okS (s : S) : Prop := 0 ≤ s.f ∧ s.f ≤ 2000000000 ∧ 0 ≤ s.t ∧ s.t ≤ 2000000000
theorem cnt_bound {b : List S} (h : ∀ s ∈ b, okS s) : ∀ k, k ≤ b.length → -(k * 2000000000) ≤ cnt (b.take k) ∧ cnt (b.take k) ≤ k * 2000000000
  | 0, _ => by simp [cnt]
  | k + 1, hk => by
    have ih := cnt_bound h k (by omega)
    have hm := h b[k] (List.getElem_mem (by omega))
    unfold okS at hm
    rw [cnt_take_succ (by omega)]
    omega
theorem pushS_ok {out : List S} {s : S} (h : ∀ x ∈ out, okS x) (hs : okS s) : ∀ x ∈ pushS out s, okS x := by
  rcases snocS_cases out with rfl | ⟨a, q, rfl⟩
  · intro x hx; rw [pushS_nil] at hx; rw [List.mem_singleton.1 hx]; exact hs
  · have hq := h q (by simp)
    rw [pushS_snoc]
    split
    · intro x hx
      rcases List.mem_append.1 hx with hx | hx
      · exact h x (by simp [hx])
      · rw [List.mem_singleton.1 hx]; exact ⟨hq.1, hq.2.1, hs.2.2.1, hs.2.2.2⟩
    · intro x hx
      rcases List.mem_append.1 hx with hx | hx
      · exact h x hx
      · rw [List.mem_singleton.1 hx]; exact hs
theorem foldS_ok : ∀ (l out : List S), (∀ x ∈ out, okS x) → (∀ x ∈ l, okS x) → ∀ x ∈ l.foldl pushS out, okS x
  | [], out, h, _ => h
  | s :: l, out, h, hl => foldS_ok l (pushS out s) (pushS_ok h (hl s (by simp))) (fun x hx => hl x (by simp [hx]))
theorem spa_ok (la mo sh fl : Int) (rs : List R) : ∀ x ∈ spa la mo sh fl rs, okS x := by
  refine foldS_ok _ _ (fun x hx => by cases hx) ?_
  intro s hs
  obtain ⟨x, _, hx⟩ := List.mem_flatMap.1 hs
  unfold whSp at hx
  split at hx
  · rw [List.mem_singleton.1 hx]; exact x.2
  · cases hx
theorem whR_ok (la mo sh fl : Int) (rs : List R) : ∀ x ∈ whR la mo sh fl rs, okS x := by
  unfold whR; split
  · exact spa_ok _ _ _ _ _
  · intro x hx; cases hx
theorem whR_length (la mo sh fl : Int) (rs : List R) : (whR la mo sh fl rs).length ≤ rs.length := by
  unfold whR; split
  · exact spa_length _ _ _ _ _
  · simp
end Bd

end Go.Proofs.Ytbmjjmpdlmbehaa
