/- Days on which the works is open: the program's and the reference's answers. -/
import Derived.Test.YtmmmlcnclehilaaDoorCal4
namespace Go.Proofs.YtmmmlcnclehilaaDoor
open Go.RowKit

namespace Cal
/-- Whether the works is open on a day. -/
def openB (rs hs : List Int) (d : Int) : Bool := !hasB hs d && !hasB rs (d % 7)
/-- The error of a calendar and a day. -/
def valD (s e : Int) (rs hs : List Int) (d : Int) : Int := if valE s e rs hs = 0 then (if 0 ≤ d ∧ d ≤ 1999 then 0 else 1) else valE s e rs hs
theorem open_hit {rs hs : List Int} {d : Int} (h : hasB rs (d % 7) = true) : openB rs hs d = false := by simp [openB, h]
theorem open_miss {rs hs : List Int} {d : Int} (h : hasB rs (d % 7) = false) : openB rs hs d = !hasB hs d := by simp [openB, h]
theorem open_eq {rs hs : List Int} {d : Int} (h : 0 ≤ d) : (!hasB hs d && !hasB rs (((d % 7).toNat : Nat) : Int)) = openB rs hs d := by
  rw [show (((d % 7).toNat : Nat) : Int) = d % 7 by omega]; rfl
end Cal
theorem below_step {w wa w1 : World} (h : Below w.heap.size w wa) (hb : Below wa.heap.size wa w1) : Below w.heap.size w w1 := h.trans (hb.mono h.size)

end Go.Proofs.YtmmmlcnclehilaaDoor
