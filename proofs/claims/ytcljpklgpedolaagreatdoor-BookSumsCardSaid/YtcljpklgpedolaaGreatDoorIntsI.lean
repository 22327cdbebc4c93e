/- A list of ints that came in. -/
import Derived.Test.YtcljpklgpedolaaGreatDoorCalN
import Derived.Test.YtcljpklgpedolaaGreatDoorValid
namespace Go.Proofs.YtcljpklgpedolaaGreatDoor
open Go.RowKit

/-- A list of ints that can be read: nil, or a row of cells. -/
def Ints (w : World) (v : Value) (xs : List Int) : Prop :=
  (∃ a c, v = .slice a 0 c ∧ xs = []) ∨ ∃ b off cap, v = .slice (some ⟨b, off, none⟩) xs.length cap ∧ xs.length ≤ cap ∧ b < w.heap.size ∧ ∀ k, k < xs.length → w.cell? ⟨b, off + k, none⟩ = some (.int .i64 (xs.getD k 0))
theorem Ints.all {w w2 : World} {v : Value} {xs : List Int} (h : Ints w v xs) (hb : Below w.heap.size w w2) : Ints w2 v xs := by
  rcases h with h | ⟨b, off, cap, h1, h2, h3, h4⟩
  · exact .inl h
  · exact .inr ⟨b, off, cap, h1, h2, Nat.lt_of_lt_of_le h3 hb.size, fun k hk => (hb.cell (p := ⟨b, off + k, none⟩) h3).trans (h4 k hk)⟩
theorem getD_at {xs : List Int} {k : Nat} (h : k < xs.length) : xs.getD k 0 = xs[k] := by simp [h]
end Go.Proofs.YtcljpklgpedolaaGreatDoor
