/-
  No cell of these rows narrows 'for every input' (looked for: loops, veiled, ifaces, maps, wideKeys, modest, calm, conditions, laid).
  DERIVED. THE GIVEN ROWS OF THIS SEAT. 4 by the template 'for every input the law returns true; each argument reads behind the call as it read before'; 0 by the template 'total and deterministic' (their statements: YtbmjjmpdlmbehaaTotals.lean).
  GIVEN WITH THE SEED: the statements are not yours to turn. If you find one false, say at which input.
  Laid BY PROGRAM, IN A SANDBOX (cutbox-rows.mjs): the forced cells as the released guide's own fill.sh prints them over the translation 241007c4447c1c2b… (all of the seat's roots in one cut). By AI agents, Wed Nov 11 2026. No macro, syntax, notation, axiom, sorry.
-/
import Derived.Test.YtbmjjmpdlmbehaaChecked
import GoSem.Claim
import GoSem.ClaimJoined
import GoSem.ClaimMapViews
import Derived.JoinedTies
import Derived.KernelRfl
namespace Go.Proofs.Ytbmjjmpdlmbehaa
/- THE CELL 'sum', in the pinned program and in every row, IS THE sha256 OF THE DUMP (.gsa) THAT YtbmjjmpdlmbehaaProg.lean LOADS. Nothing in Lean hashes anything: it is a label: what it is worth is what the hold of that sum in a sandbox is worth. -/
noncomputable def Try.pinned : Pinned := { name := "ytbmjjmpdlmbehaa", sum := "241007c4447c1c2beadab3d1aec2232b9c143944d14cd96c275eb4f55f6593d8", checked := Try.checked }
namespace Rows
def none {H : Type} : Left H := { results := [], args := [] }

/-- 'linoleumlaw07.RollGreedy': WHATEVER THE INPUT: true; the input reads as it did. -/
def rollGreedySpec : ChangeSpec := { name := "rollGreedy", fn := fun _ => fun
  | [d1, d2] => { results := [.lit (.bool true)], args := [d1, d2] }
  | _ => none }
def rollGreedyRow : OpenClaim := { program := "ytbmjjmpdlmbehaa", sum := "241007c4447c1c2beadab3d1aec2232b9c143944d14cd96c275eb4f55f6593d8", func := "linoleum/linoleumlaw07.RollGreedy", spec := "rollGreedy", unfollowed := true, recurses := true, apart := false }
def RollGreedySaid : Prop := rollGreedyRow.holds Try.pinned (OpenSpec.ofChange rollGreedySpec)

/-- ITS FALSE NEIGHBOUR: 'it returns false'. Refute it at one input. -/
def rollGreedyWrong : ChangeSpec := { name := "rollGreedy", fn := fun _ => fun
  | [d1, d2] => { results := [.lit (.bool false)], args := [d1, d2] }
  | _ => none }
def RollGreedyWrongFalsely : Prop := rollGreedyRow.holds Try.pinned (OpenSpec.ofChange rollGreedyWrong)

/-- 'linoleumlaw07.RollRecords': WHATEVER THE INPUT: true; the input reads as it did. -/
def rollRecordsSpec : ChangeSpec := { name := "rollRecords", fn := fun _ => fun
  | [d1, d2, d3] => { results := [.lit (.bool true)], args := [d1, d2, d3] }
  | _ => none }
def rollRecordsRow : OpenClaim := { program := "ytbmjjmpdlmbehaa", sum := "241007c4447c1c2beadab3d1aec2232b9c143944d14cd96c275eb4f55f6593d8", func := "linoleum/linoleumlaw07.RollRecords", spec := "rollRecords", unfollowed := true, recurses := true, apart := false }
def RollRecordsSaid : Prop := rollRecordsRow.holds Try.pinned (OpenSpec.ofChange rollRecordsSpec)

/-- ITS FALSE NEIGHBOUR: 'it returns false'. Refute it at one input. -/
def rollRecordsWrong : ChangeSpec := { name := "rollRecords", fn := fun _ => fun
  | [d1, d2, d3] => { results := [.lit (.bool false)], args := [d1, d2, d3] }
  | _ => none }
def RollRecordsWrongFalsely : Prop := rollRecordsRow.holds Try.pinned (OpenSpec.ofChange rollRecordsWrong)

/-- 'linoleumlaw07.RollGrades': WHATEVER THE INPUT: true; the input reads as it did. -/
def rollGradesSpec : ChangeSpec := { name := "rollGrades", fn := fun _ => fun
  | [d1, d2] => { results := [.lit (.bool true)], args := [d1, d2] }
  | _ => none }
def rollGradesRow : OpenClaim := { program := "ytbmjjmpdlmbehaa", sum := "241007c4447c1c2beadab3d1aec2232b9c143944d14cd96c275eb4f55f6593d8", func := "linoleum/linoleumlaw07.RollGrades", spec := "rollGrades", unfollowed := true, recurses := true, apart := false }
def RollGradesSaid : Prop := rollGradesRow.holds Try.pinned (OpenSpec.ofChange rollGradesSpec)

/-- ITS FALSE NEIGHBOUR: 'it returns false'. Refute it at one input. -/
def rollGradesWrong : ChangeSpec := { name := "rollGrades", fn := fun _ => fun
  | [d1, d2] => { results := [.lit (.bool false)], args := [d1, d2] }
  | _ => none }
def RollGradesWrongFalsely : Prop := rollGradesRow.holds Try.pinned (OpenSpec.ofChange rollGradesWrong)

/-- 'linoleumtop.TopRolls': WHATEVER THE INPUT: true; the input reads as it did. -/
def topRollsSpec : ChangeSpec := { name := "topRolls", fn := fun _ => fun
  | [d1, d2, d3] => { results := [.lit (.bool true)], args := [d1, d2, d3] }
  | _ => none }
def topRollsRow : OpenClaim := { program := "ytbmjjmpdlmbehaa", sum := "241007c4447c1c2beadab3d1aec2232b9c143944d14cd96c275eb4f55f6593d8", func := "linoleum/linoleumtop.TopRolls", spec := "topRolls", unfollowed := true, recurses := true, apart := false }
def TopRollsSaid : Prop := topRollsRow.holds Try.pinned (OpenSpec.ofChange topRollsSpec)

/-- ITS FALSE NEIGHBOUR: 'it returns false'. Refute it at one input. -/
def topRollsWrong : ChangeSpec := { name := "topRolls", fn := fun _ => fun
  | [d1, d2, d3] => { results := [.lit (.bool false)], args := [d1, d2, d3] }
  | _ => none }
def TopRollsWrongFalsely : Prop := topRollsRow.holds Try.pinned (OpenSpec.ofChange topRollsWrong)

/- THE SECOND FORM. 'bulk': how many values and letters a reading holds, each counted each time it is reached (what is shared counts as often as it is met; a slice's spare places count too). A statement '..UptoSaid' is the law's where the arguments, and the package variables that the reading takes, are together of bulk at most 1048576: NARROWER than '..Said'. Prove '..Said' where nothing that the law and all that it calls make is longer than what came in: it says more and counts as full. Else prove '..UptoSaid'. A law counts once. -/
mutual
def uptoBulk {H : Type} : DataW H → Nat
  | .lit (.string bytes) => bytes.length + 1
  | .lit _ => 1
  | .nil => 1
  | .ptr d => uptoBulk d + 1
  | .slice elems spare => uptoBulkAll elems + uptoBulkAll spare + 1
  | .agg parts => uptoBulkAll parts + 1
  | .iface _ d => uptoBulk d + 1
  | .map entries => uptoBulkEntries entries + 1
  | .held _ => 1
def uptoBulkAll {H : Type} : List (DataW H) → Nat
  | [] => 0
  | d :: r => uptoBulk d + uptoBulkAll r
def uptoBulkEntries {H : Type} : List (Lit × DataW H) → Nat
  | [] => 0
  | x :: r => uptoBulkEntry x + uptoBulkEntries r
def uptoBulkEntry {H : Type} : Lit × DataW H → Nat
  | (.string bytes, d) => bytes.length + uptoBulk d + 1
  | (_, d) => uptoBulk d + 1
 end
def uptoSmall : (H : Type) → List (DataW H) → Bool := fun _ ds => decide (uptoBulkAll ds ≤ 1048576)
def OpenSpec.upto (s : _root_.Go.ChangeSpec) : _root_.Go.OpenSpec := { _root_.Go.OpenSpec.ofChange s with cond := some uptoSmall }

/-- 'linoleumlaw07.RollGreedy', WHERE WHAT IT READS IS OF BULK AT MOST 1048576: true; the input reads as it did. -/
def rollGreedyUptoRow : OpenClaim := { program := "ytbmjjmpdlmbehaa", sum := "241007c4447c1c2beadab3d1aec2232b9c143944d14cd96c275eb4f55f6593d8", func := "linoleum/linoleumlaw07.RollGreedy", spec := "rollGreedy", unfollowed := true, recurses := true, apart := false, narrowed := true }
def RollGreedyUptoSaid : Prop := rollGreedyUptoRow.holds Try.pinned (OpenSpec.upto rollGreedySpec)

/-- 'linoleumlaw07.RollRecords', WHERE WHAT IT READS IS OF BULK AT MOST 1048576: true; the input reads as it did. -/
def rollRecordsUptoRow : OpenClaim := { program := "ytbmjjmpdlmbehaa", sum := "241007c4447c1c2beadab3d1aec2232b9c143944d14cd96c275eb4f55f6593d8", func := "linoleum/linoleumlaw07.RollRecords", spec := "rollRecords", unfollowed := true, recurses := true, apart := false, narrowed := true }
def RollRecordsUptoSaid : Prop := rollRecordsUptoRow.holds Try.pinned (OpenSpec.upto rollRecordsSpec)

/-- 'linoleumlaw07.RollGrades', WHERE WHAT IT READS IS OF BULK AT MOST 1048576: true; the input reads as it did. -/
def rollGradesUptoRow : OpenClaim := { program := "ytbmjjmpdlmbehaa", sum := "241007c4447c1c2beadab3d1aec2232b9c143944d14cd96c275eb4f55f6593d8", func := "linoleum/linoleumlaw07.RollGrades", spec := "rollGrades", unfollowed := true, recurses := true, apart := false, narrowed := true }
def RollGradesUptoSaid : Prop := rollGradesUptoRow.holds Try.pinned (OpenSpec.upto rollGradesSpec)

/-- 'linoleumtop.TopRolls', WHERE WHAT IT READS IS OF BULK AT MOST 1048576: true; the input reads as it did. -/
def topRollsUptoRow : OpenClaim := { program := "ytbmjjmpdlmbehaa", sum := "241007c4447c1c2beadab3d1aec2232b9c143944d14cd96c275eb4f55f6593d8", func := "linoleum/linoleumtop.TopRolls", spec := "topRolls", unfollowed := true, recurses := true, apart := false, narrowed := true }
def TopRollsUptoSaid : Prop := topRollsUptoRow.holds Try.pinned (OpenSpec.upto topRollsSpec)

end Rows
end Go.Proofs.Ytbmjjmpdlmbehaa
