/- How a list of numbers among the arguments is opened. -/
import Derived.Test.YtmmmlcnclehilaaDoorFrameN
import Derived.Test.YtmmmlcnclehilaaDoorIntsI
import Derived.ChangeSlices
namespace Go.Proofs.YtmmmlcnclehilaaDoor
open Go.ChangeShapes Go.WideShapes Go.ChangeAt Go.RowKit Go.Deep

theorem spot_none {w : World} {a : Addr} {v : Value} (h : w.cell? a = some v) : a.spot = none ∧ a.block < w.heap.size := by
  unfold World.cell? at h
  split at h
  · rename_i c e f hb
    have hlt := (Array.getElem?_eq_some_iff.1 hb).1
    cases hs : a.spot with
    | none => exact ⟨rfl, hlt⟩
    | some x => rw [hs] at h; simp at h
  · simp at h

section
variable {H : Type} {enc : TypeId × Value → H} {P : Program}

/-- A list of ints that came in. -/
theorem ints_of {W : World} {t e : TypeId} {fuel : Nat} {v : Value} {y : DataW H × List MemPlace} (ht : P.underlying t = some (.slice e)) (he : P.underlying e = some (.int .i64)) (hc : P.cellsOf e = 1)
    (h : DataW.trod enc P W 0 (fun _ => true) true fuel t [v] = some y) : ∃ xs, Ints W v xs := by
  rcases open_ints ht he hc h with ⟨hcs, _⟩ | ⟨a, len, cap, zs, hcs, _, hl, _, hz, _, hcell, _⟩
  · simp only [List.cons.injEq, and_true] at hcs
    subst hcs
    exact ⟨[], .inl ⟨none, 0, rfl, rfl⟩⟩
  · simp only [List.cons.injEq, and_true] at hcs
    subst hcs
    simp only [if_true] at hz
    rcases Nat.eq_zero_or_pos len with rfl | hpos
    · exact ⟨[], .inl ⟨some a, cap, rfl, rfl⟩⟩
    · obtain ⟨b, off, spot⟩ := a
      have h0 := hcell 0 (by omega)
      rw [show (Addr.mk b off spot).add 0 = ⟨b, off, spot⟩ by simp [Addr.add]] at h0
      obtain ⟨hsp, hb⟩ := spot_none h0
      simp only at hsp hb
      subst hsp
      have hlen : (zs.take len).length = len := by simp; omega
      refine ⟨zs.take len, .inr ⟨b, off, cap, by rw [hlen], by omega, hb, fun k hk => ?_⟩⟩
      have hk' : k < len := by omega
      have := hcell k (by omega)
      rw [show (zs.take len).getD k 0 = zs.getD k 0 by simp [List.getD, List.getElem?_take, hk'], ← this]
      congr 1
      unfold Addr.add
      split
      · subst_vars; rfl
      · rfl

theorem open_intsV {W : World} {base : Nat} {t e : TypeId} {v : Value} {d : DataW H} {p : List MemPlace} (ht : P.underlying t = some (.slice e)) (he : P.underlying e = some (.int .i64)) (hc : P.cellsOf e = 1)
    (hv : Value.okWide P W .any base t v) (h : DataW.Trod enc P W 0 (fun _ => true) true t v d p) : ∃ ks, Ints W v ks := by
  obtain ⟨a, l, c, rfl⟩ := okWide_slice ht hv
  obtain ⟨fuel, hf⟩ := h
  exact ints_of ht he hc hf
end
end Go.Proofs.YtmmmlcnclehilaaDoor
