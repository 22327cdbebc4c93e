/- Lofts that a call has made itself. -/
import Derived.Test.YtabfcnfddemblaaLfProofsW
import Derived.Test.YtabfcnfddemblaaLfY
namespace Go.Proofs.Ytabfcnfddemblaa.Lo
open Go.RowKit

theorem infoLoft : (Try.prog.info? 63).map (fun i => (i.zero, i.size, i.bytes)) = some (some (.agg #[.int .i64 0, .slice none 0 0]), 2, 32) := by kernel_rfl
/-- A loft, and the value in which its rates lie. -/
abbrev FV := Lf.F × Value
def fvC (x : FV) : List Value := [.int .i64 x.1.p, x.2]
theorem fvC_len (x : FV) : (fvC x).length = 2 := rfl
abbrev OwnFV (base : Nat) (w : World) (v : Value) (xs : List FV) : Prop := OwnG 63 2 fvC base w v xs
theorem fv_lofts {base : Nat} {w : World} {v : Value} {xs : List FV} (h : OwnFV base w v xs) (hr : ∀ k (hk : k < xs.length), Ints w (xs[k]'hk).2 (xs[k]'hk).1.rs) : Lofts w v (xs.map Prod.fst) := by
  obtain ⟨a, cap, e1, e2, e3⟩ := OwnG.rows fvC_len h
  refine ⟨a, cap, by rw [e1, List.length_map], by rw [List.length_map]; exact e2, fun k hk => ?_⟩
  have hk2 : k < xs.length := by rwa [List.length_map] at hk
  obtain ⟨b, off, h1, h2, h3⟩ := e3 k hk2
  refine ⟨b, off, h1, h2, (xs[k]'hk2).2, ⟨?_, ?_⟩, ?_⟩
  · have := h3 0 _ rfl
    simpa using this
  · exact h3 1 _ rfl
  · have := hr k hk2
    simpa using this
end Go.Proofs.Ytabfcnfddemblaa.Lo
