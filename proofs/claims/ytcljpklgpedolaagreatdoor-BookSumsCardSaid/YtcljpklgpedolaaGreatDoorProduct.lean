/- What the reference answers for the product of two fractions that are given by their magnitudes. -/
import Derived.Test.YtcljpklgpedolaaGreatDoorProdN
import Derived.Test.YtcljpklgpedolaaGreatDoorSum
namespace Go.Proofs.YtcljpklgpedolaaGreatDoor
open Go.RowKit

theorem u64_div (a g u : Nat) (ha : a < 18446744073709551616) (h : a / g = u) : IntKind.u64.wrap ((a : Int) / (g : Int)) = u := (u64_quo a g u ha h).1

theorem le_div {k u v : Nat} (hu : 0 < u) : (k / u < v) ↔ ¬ (u * v ≤ k) := by
  rw [Nat.div_lt_iff_lt_mul hu, Nat.mul_comm]; omega

end Go.Proofs.YtcljpklgpedolaaGreatDoor
