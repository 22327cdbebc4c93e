/- The reference's At. -/
import Derived.Test.YtbmjjmpdlmbehaaBand31
namespace Go.Proofs.Ytbmjjmpdlmbehaa
open Go.RowKit

theorem Bd.at_none_of {rs : List Bd.R} {p : Int} (h : Bd.valE rs = 0) (hp : p < 0 ∨ Bd.len rs ≤ p) : Bd.atE rs p = 5 ∧ Bd.atM rs p = ⟨0, 0, 0⟩ := by
  have hn : ¬ (0 ≤ p ∧ p < Bd.len rs) := by omega
  unfold Bd.atE Bd.atM
  rw [if_pos h, if_neg hn, if_neg (fun e => hn e.2)]
  exact ⟨rfl, rfl⟩
theorem Bd.at_in {rs : List Bd.R} {p : Int} (h : Bd.valE rs = 0) (h1 : 0 ≤ p) (h2 : p < Bd.len rs) : Bd.atE rs p = 0 := by
  unfold Bd.atE
  rw [if_pos h, if_pos ⟨h1, h2⟩]

end Go.Proofs.Ytbmjjmpdlmbehaa
