/- BandNormals returns true, whatever the list of runs. -/
import Derived.Test.YtbmjjmpdlmbehaaBand7
namespace Go.Proofs.Ytbmjjmpdlmbehaa
open Go.RowKit

theorem same_runs_true (v u : Value) (rs : List Bd.R) (w : World) (hv : Runs w v rs) (hu : Runs w u rs) (hlen : rs.length ≤ 1000) :
    Calls Try.prog 15 #[v, u] w fun e w' => e = .returned (.bool true) ∧ Below w.heap.size w w' :=
  (same_runs_any v u rs rs w hv hu hlen hlen).mono fun e w' ⟨h1, h2⟩ => ⟨by rw [h1]; simp, h2⟩
theorem Bd.norR_length (b : List Bd.R) : (Bd.norR b).length ≤ b.length := by
  unfold Bd.norR; split
  · exact Bd.norm_length b
  · simp

end Go.Proofs.Ytbmjjmpdlmbehaa
