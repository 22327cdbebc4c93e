/- How a cutting with a phase and a repeat among the arguments is opened. -/
import Derived.Test.YtbmjjmpdlmbehaaRmF
import Derived.Lib.SmallJoins
namespace Go.Proofs.Ytbmjjmpdlmbehaa
open Go.ChangeShapes Go.WideShapes Go.ChangeAt Go.RowKit Go.Deep
section
variable {H : Type} {enc : TypeId × Value → H}
set_option maxRecDepth 100000 in
theorem open_recorded {W : World} {base : Nat} {v : Value} {d : DataW H} {p : List MemPlace} (hv : Value.okWide Try.prog W .any base 38 v)
    (h : DataW.Trod enc Try.prog W 0 (fun _ => true) true 38 v d p) : ∃ (v1 : Value) (ph rep : Int) (xs : List Ro.X), v = .agg #[v1, .int .i64 ph, .int .i64 rep] ∧ Pcs W v1 xs := by
  obtain ⟨c0, c1, c2, y0, y1, y2, k, rfl, rfl, rfl, h0, h1, h2⟩ := Joins.open_agg3 Try.underlying38 (by kernel_rfl) (by kernel_rfl) hv h
  obtain ⟨xs, hxs⟩ := pcs_of h0
  obtain ⟨a1, e1, _, _⟩ := DataW.trod_int Try.underlying3 h1
  obtain ⟨a2, e2, _, _⟩ := DataW.trod_int Try.underlying3 h2
  simp at e1 e2
  subst e1 e2
  exact ⟨c0, a1, a2, xs, rfl, hxs⟩
end
end Go.Proofs.Ytbmjjmpdlmbehaa
