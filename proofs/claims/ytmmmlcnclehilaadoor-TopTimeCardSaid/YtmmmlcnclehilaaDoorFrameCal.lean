/- How a list of numbers and a calendar among the arguments are opened. -/
import Derived.Test.YtmmmlcnclehilaaDoorFrameN
import Derived.Test.YtmmmlcnclehilaaDoorCal3
import Derived.ChangeSlices
namespace Go.Proofs.YtmmmlcnclehilaaDoor
open Go.ChangeShapes Go.WideShapes Go.ChangeAt Go.RowKit Go.Deep

theorem spot_none {w : World} {a : Addr} {v : Value} (h : w.cell? a = some v) : a.spot = none ∧ a.block < w.heap.size := by
  unfold World.cell? at h
  split at h
  · rename_i c e f hb
    have hlt := (Array.getElem?_eq_some_iff.1 hb).1
    cases hs : a.spot with
    | none => exact ⟨rfl, hlt⟩
    | some x => rw [hs] at h; simp at h
  · simp at h

section
variable {H : Type} {enc : TypeId × Value → H} {P : Program}

/-- A list of ints that came in. -/
theorem ints_of {W : World} {t e : TypeId} {fuel : Nat} {v : Value} {y : DataW H × List MemPlace} (ht : P.underlying t = some (.slice e)) (he : P.underlying e = some (.int .i64)) (hc : P.cellsOf e = 1)
    (h : DataW.trod enc P W 0 (fun _ => true) true fuel t [v] = some y) : ∃ xs, Ints W v xs := by
  rcases open_ints ht he hc h with ⟨hcs, _⟩ | ⟨a, len, cap, zs, hcs, _, hl, _, hz, _, hcell, _⟩
  · simp only [List.cons.injEq, and_true] at hcs
    subst hcs
    exact ⟨[], .inl ⟨none, 0, rfl, rfl⟩⟩
  · simp only [List.cons.injEq, and_true] at hcs
    subst hcs
    simp only [if_true] at hz
    rcases Nat.eq_zero_or_pos len with rfl | hpos
    · exact ⟨[], .inl ⟨some a, cap, rfl, rfl⟩⟩
    · obtain ⟨b, off, spot⟩ := a
      have h0 := hcell 0 (by omega)
      rw [show (Addr.mk b off spot).add 0 = ⟨b, off, spot⟩ by simp [Addr.add]] at h0
      obtain ⟨hsp, hb⟩ := spot_none h0
      simp only at hsp hb
      subst hsp
      have hlen : (zs.take len).length = len := by simp; omega
      refine ⟨zs.take len, .inr ⟨b, off, cap, by rw [hlen], by omega, hb, fun k hk => ?_⟩⟩
      have hk' : k < len := by omega
      have := hcell k (by omega)
      rw [show (zs.take len).getD k 0 = zs.getD k 0 by simp [List.getD, List.getElem?_take, hk'], ← this]
      congr 1
      unfold Addr.add
      split
      · subst_vars; rfl
      · rfl

/-- A calendar that came in. -/
theorem open_cal {W : World} {base : Nat} {t e : TypeId} {f0 f1 f2 f3 : Field} {v : Value} {d : DataW H} {p : List MemPlace} (hs : P.underlying t = some (.struct #[f0, f1, f2, f3])) (hone : oneCellFields P #[f0, f1, f2, f3] = true) (hC : P.cellsOf t = 4)
    (i0 : P.underlying f0.type = some (.int .i64)) (i1 : P.underlying f1.type = some (.int .i64)) (i2 : P.underlying f2.type = some (.slice e)) (i3 : P.underlying f3.type = some (.slice e))
    (he : P.underlying e = some (.int .i64)) (hc : P.cellsOf e = 1) (hv : Value.okWide P W .any base t v) (h : DataW.Trod enc P W 0 (fun _ => true) true t v d p) :
    ∃ (x y : Int) (vr vh : Value) (rs hs : List Int), v = cal x y vr vh ∧ Ints W vr rs ∧ Ints W vh hs ∧ (-9223372036854775808 ≤ x ∧ x ≤ 9223372036854775807) ∧ (-9223372036854775808 ≤ y ∧ y ≤ 9223372036854775807) := by
  obtain ⟨c0, c1, c2, c3, y0, y1, y2, y3, k, rfl, rfl, rfl, h0, h1, h2, h3⟩ := Joins.open_agg4 hs hone hC hv h
  obtain ⟨a, e0, _, wa⟩ := DataW.trod_int i0 h0
  obtain ⟨c, e1, _, wc⟩ := DataW.trod_int i1 h1
  simp at e0 e1
  subst e0 e1
  obtain ⟨rs, hr⟩ := ints_of i2 he hc h2
  obtain ⟨hs, hh⟩ := ints_of i3 he hc h3
  refine ⟨a, c, c2, c3, rs, hs, rfl, hr, hh, ?_, ?_⟩
  · simpa [Lit.wf, IntKind.min, IntKind.max, IntKind.signed, IntKind.bits] using wa
  · simpa [Lit.wf, IntKind.min, IntKind.max, IntKind.signed, IntKind.bits] using wc
end
end Go.Proofs.YtmmmlcnclehilaaDoor
