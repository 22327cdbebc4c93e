/- A band that is written into; what is known of the program. -/
import Derived.Test.YtbmjjmpdlmbehaaBand6
namespace Go.Proofs.Ytbmjjmpdlmbehaa
open Go.RowKit

theorem cellsR_setK : ∀ (rs : List Bd.R) (k : Nat) (x : Int), k < rs.length → (cellsR rs).set (k * 4) (.int .i64 x) = cellsR (rs.set k ⟨x, (rs.getD k default).m⟩)
  | [], k, x, h => by simp at h
  | r :: b, 0, x, _ => rfl
  | r :: b, k + 1, x, h => by
    have ih := cellsR_setK b k x (by simpa using h)
    show (runC r ++ cellsR b).set ((k + 1) * 4) _ = runC r ++ cellsR (b.set k _)
    simp only [List.getD_cons_succ] at ih ⊢
    rw [← ih, List.set_append_right _ _ (by simp [runC]; omega)]
    congr 2
    simp [runC]; omega
theorem Own.setK {base : Nat} {w : World} {g cap : Nat} {rs : List Bd.R} (h : Own base w (.slice (some ⟨g, 0, none⟩) rs.length cap) rs) (k : Nat) (x : Int) (hk : k < rs.length) :
    Own base (w.setCell ⟨g, k * 4, none⟩ (.int .i64 x)) (.slice (some ⟨g, 0, none⟩) rs.length cap) (rs.set k ⟨x, (rs.getD k default).m⟩) := by
  have h1 := (World.ownsRow.stored h (k * 4) (.int .i64 x)).1
  rw [cellsR_setK rs k x hk] at h1
  unfold Own
  rw [List.length_set]
  exact h1

abbrev knownObj : Obj := .cells #[.int .i64 100, .int .i64 20, .int .i64 0, .int .i64 0, .int .i64 50, .int .i64 20, .int .i64 0, .int .i64 0, .int .i64 30, .int .i64 25, .int .i64 0, .int .i64 0] 52
def knownRuns : List Bd.R := [⟨100, ⟨20, 0, 0⟩⟩, ⟨50, ⟨20, 0, 0⟩⟩, ⟨30, ⟨25, 0, 0⟩⟩]
theorem known_runs (w : World) : Runs (w.alloc knownObj) (.slice (some ⟨w.heap.size, 0, none⟩) 3 3) knownRuns := by
  refine .inr ⟨w.heap.size, 0, 3, rfl, by decide, by simp, fun k hk => ?_⟩
  have hk' : k = 0 ∨ k = 1 ∨ k = 2 := by simp [knownRuns] at hk; omega
  rcases hk' with rfl | rfl | rfl <;> exact ⟨by simp [knownRuns], by simp [knownRuns], by simp [knownRuns], by simp [knownRuns]⟩
theorem known_valE : Bd.valE knownRuns = 0 := by decide
theorem known_norR : Bd.norR knownRuns = [⟨150, ⟨20, 0, 0⟩⟩] ++ [⟨30, ⟨25, 0, 0⟩⟩] := by decide
end Go.Proofs.Ytbmjjmpdlmbehaa
