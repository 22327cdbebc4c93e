/- Any number of lists of runs one behind the other, in new memory. -/
import Derived.Test.YtbmjjmpdlmbehaaBand12
namespace Go.Proofs.Ytbmjjmpdlmbehaa
open Go.RowKit

def catR (vs : List (Value × List Bd.R)) : List Bd.R := (vs.map (·.2)).flatten
theorem catR_take_succ {vs : List (Value × List Bd.R)} {k : Nat} (h : k < vs.length) : catR (vs.take (k + 1)) = catR (vs.take k) ++ vs[k].2 := by
  unfold catR; rw [List.take_succ_eq_append_getElem h, List.map_append, List.flatten_append, List.map_cons, List.map_nil, List.flatten_cons, List.flatten_nil, List.append_nil]
theorem catR_take_le (vs : List (Value × List Bd.R)) (k : Nat) : (catR (vs.take k)).length ≤ (catR vs).length := by
  have : catR vs = catR (vs.take k) ++ catR (vs.drop k) := by
    unfold catR; rw [← List.flatten_append, ← List.map_append, List.take_append_drop]
  rw [this]; simp
theorem catR_all (vs : List (Value × List Bd.R)) : catR (vs.take vs.length) = catR vs := by rw [List.take_length]

end Go.Proofs.Ytbmjjmpdlmbehaa
