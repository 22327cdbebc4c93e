/- How a list of numbers among the arguments is opened. -/
import Derived.Test.YtccjbefmcifaeaaFrameLot
import Derived.Test.YtccjbefmcifaeaaOwnI
namespace Go.Proofs.Ytccjbefmcifaeaa
open Go.ChangeShapes Go.WideShapes Go.ChangeAt Go.RowKit Go.Deep
section
variable {H : Type} {enc : TypeId × Value → H}
set_option maxRecDepth 100000 in
theorem ints_of {W : World} {fuel : Nat} {v : Value} {y : DataW H × List MemPlace}
    (h : DataW.trod enc Try.prog W 0 (fun _ => true) true fuel 54 [v] = some y) : ∃ ks, Ints W v ks := by
  have key := rows_of (α := Int) (c := 1) Try.underlying54 (by kernel_rfl) (by decide) (fun b off x => W.cell? ⟨b, off, none⟩ = some (.int .i64 x)) ?_ ?_ h
  · obtain ⟨xs, ⟨a, k, h1, h2, _⟩ | ⟨b, off, cap, h1, h2, h3, h4⟩⟩ := key
    · exact ⟨xs, .inl ⟨a, k, h1, h2⟩⟩
    · refine ⟨xs, .inr ⟨b, off, cap, h1, h2, h3, fun k hk => ?_⟩⟩
      have := h4 k hk
      rw [Nat.mul_one] at this
      rw [show xs.getD k 0 = xs.getD k default from rfl]
      exact this
  · intro n cs y h
    obtain ⟨x, q, _, _⟩ := DataW.trod_int Try.underlying3 h
    subst q
    exact ⟨x, fun b off hc => by have := hc 0 (by decide); simpa using this⟩
  · intro n cs y h
    obtain ⟨x, q, _, _⟩ := DataW.trod_int Try.underlying3 h
    subst q
    rfl
set_option maxRecDepth 100000 in
theorem open_ints {W : World} {base : Nat} {v : Value} {d : DataW H} {p : List MemPlace} (hv : Value.okWide Try.prog W .any base 54 v)
    (h : DataW.Trod enc Try.prog W 0 (fun _ => true) true 54 v d p) : ∃ ks, Ints W v ks := by
  obtain ⟨a, l, c, rfl⟩ := okWide_slice Try.underlying54 hv
  obtain ⟨fuel, hf⟩ := h
  exact ints_of hf
end
end Go.Proofs.Ytccjbefmcifaeaa
