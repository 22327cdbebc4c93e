/- Whether a number lies within bounds. -/
import Derived.Test.YtcljpklgpedolaaGreatDoorBase
namespace Go.Proofs.YtcljpklgpedolaaGreatDoor
open Go.RowKit

theorem within_t (n lo hi : Int) (w : World) (h1 : lo ≤ n) (h2 : n ≤ hi) :
    Calls Tryz.prog 103 #[.int .i64 n, .int .i64 lo, .int .i64 hi] w fun e w' => e = .returned (.bool true) ∧ w = w' :=
  (within_any n lo hi w).mono fun e w' ⟨h, k⟩ => ⟨by rw [h]; simp [h1, h2], k⟩
theorem within_f (n lo hi : Int) (w : World) (h : n < lo ∨ hi < n) :
    Calls Tryz.prog 103 #[.int .i64 n, .int .i64 lo, .int .i64 hi] w fun e w' => e = .returned (.bool false) ∧ w = w' :=
  (within_any n lo hi w).mono fun e w' ⟨h1, k⟩ => ⟨by rw [h1]; congr 2; simp; omega, k⟩

end Go.Proofs.YtcljpklgpedolaaGreatDoor
