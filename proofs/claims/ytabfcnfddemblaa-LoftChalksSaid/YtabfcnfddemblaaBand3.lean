/- The reference's normal forms. -/
import Derived.Test.YtabfcnfddemblaaBand2
import Derived.StillTailTactics
namespace Go.Proofs.Ytabfcnfddemblaa
open Go.RowKit

namespace Bd
/-- What a result is told as. -/
def toldE (b : List R) : Int := if 40 < (norm b).length ∨ 1000000 < len b then 4 else 0
def toldR (b : List R) : List R := if 40 < (norm b).length ∨ 1000000 < len b then [] else norm b
theorem told_large {b : List R} (h : 40 < (norm b).length ∨ 1000000 < len b) : toldE b = 4 ∧ toldR b = [] := by unfold toldE toldR; rw [if_pos h, if_pos h]; exact ⟨rfl, rfl⟩
theorem told_fits {b : List R} (h : ¬ (40 < (norm b).length ∨ 1000000 < len b)) : toldE b = 0 ∧ toldR b = norm b := by unfold toldE toldR; rw [if_neg h, if_neg h]; exact ⟨rfl, rfl⟩
end Bd

end Go.Proofs.Ytabfcnfddemblaa
