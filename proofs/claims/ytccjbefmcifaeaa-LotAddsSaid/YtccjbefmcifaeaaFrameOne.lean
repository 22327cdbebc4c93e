/- How a lot among the arguments is opened. -/
import Derived.Test.YtccjbefmcifaeaaFrameLot
import Derived.Lib.SmallJoins
namespace Go.Proofs.Ytccjbefmcifaeaa
open Go.ChangeShapes Go.WideShapes Go.ChangeAt Go.RowKit Go.Deep
section
variable {H : Type} {enc : TypeId × Value → H}
set_option maxRecDepth 100000 in
theorem open_lot {W : World} {base : Nat} {v : Value} {d : DataW H} {p : List MemPlace} (hv : Value.okWide Try.prog W .any base 25 v)
    (h : DataW.Trod enc Try.prog W 0 (fun _ => true) true 25 v d p) : ∃ (x : Lt.L) (vx : Value), v = lotV x vx ∧ Parts W vx x.ps := by
  obtain ⟨cs, rfl, hsz⟩ := okWide_struct Try.underlying25 hv
  have hsz : cs.size = 3 := hsz.trans (by kernel_rfl)
  obtain ⟨fuel, hf⟩ := h
  obtain ⟨x, vx, e, hp⟩ := lot_of (cs := cs.toList) hf
  refine ⟨x, vx, ?_, hp⟩
  rw [show cs = #[.int .i64 x.k, .int .i64 x.m, vx] from Array.ext' e]
end
end Go.Proofs.Ytccjbefmcifaeaa
