/- How a struct of numbers of whatever length is opened. -/
import Derived.Test.YtmmmlcnclehilaaDoorFrameCal
import Derived.Lib.SmallJoins
namespace Go.Proofs.YtmmmlcnclehilaaDoor
open Go.ChangeShapes Go.WideShapes Go.ChangeAt Go.RowKit Go.Deep Go.Joins
section
variable {H : Type} {enc : TypeId × Value → H} {P : Program}
/-- A row of values each of which is a number. -/
theorem ints_row : ∀ l : List Value, (∀ v ∈ l, ∃ x : Int, v = .int .i64 x ∧ -9223372036854775808 ≤ x ∧ x ≤ 9223372036854775807) → ∃ xs : List Int, l = xs.map (Value.int .i64) ∧ ∀ x ∈ xs, -9223372036854775808 ≤ x ∧ x ≤ 9223372036854775807
  | [], _ => ⟨[], rfl, by simp⟩
  | v :: l, h => by
    obtain ⟨x, rfl, hx⟩ := h v (by simp)
    obtain ⟨xs, rfl, hxs⟩ := ints_row l fun u hu => h u (by simp [hu])
    exact ⟨x :: xs, rfl, fun y hy => by
      rcases List.mem_cons.1 hy with rfl | hy
      · exact hx
      · exact hxs y hy⟩
theorem open_numbers {W : World} {base : Nat} {t : TypeId} {fs : Array Field} {v : Value} {d : DataW H} {p : List MemPlace} (hs : P.underlying t = some (.struct fs)) (hone : oneCellFields P fs = true) (hC : P.cellsOf t = fs.size)
    (hi : ∀ f ∈ fs.toList, P.underlying f.type = some (.int .i64)) (hv : Value.okWide P W .any base t v) (h : DataW.Trod enc P W 0 (fun _ => true) true t v d p) :
    ∃ xs : List Int, v = .agg (xs.map (Value.int .i64)).toArray ∧ xs.length = fs.size ∧ ∀ x ∈ xs, -9223372036854775808 ≤ x ∧ x ≤ 9223372036854775807 := by
  obtain ⟨cs, rfl, hsz⟩ := okWide_struct hs hv
  rw [hC] at hsz
  obtain ⟨fuel, hf⟩ := h
  obtain ⟨ys, n, _, _, _, hlen, hg⟩ := DataW.trod_struct hs hf
  obtain ⟨xs, hxs, hb⟩ := ints_row cs.toList fun u hu => by
    obtain ⟨k, hk, rfl⟩ := List.getElem_of_mem hu
    have hk' : k < fs.size := by rw [← hsz]; simpa using hk
    have e := hone_of hone k fs[k] (by simp [hk'])
    have r := hg k fs[k] (by simp [hk'])
    rw [e.1, e.2] at r
    have hc1 : List.take 1 (List.drop k (Value.agg cs).cells.toList) = [cs.toList[k]] := by
      rw [show (Value.agg cs).cells.toList = cs.toList from rfl, List.drop_eq_getElem_cons hk]; rfl
    rw [hc1] at r
    have hy : ys[k]? = some (ys[k]'(by omega)) := List.getElem?_eq_getElem _
    rw [hy] at r
    obtain ⟨a, e0, _, wa⟩ := DataW.trod_int (hi fs[k] (by simp)) r
    simp only [List.cons.injEq, and_true] at e0
    have wb : -9223372036854775808 ≤ a ∧ a ≤ 9223372036854775807 := by simpa [Lit.wf, IntKind.min, IntKind.max, IntKind.signed, IntKind.bits] using wa
    exact ⟨a, e0, wb.1, wb.2⟩
  refine ⟨xs, ?_, ?_, hb⟩
  · rw [← hxs]
  · rw [← hsz, ← Array.length_toList, hxs, List.length_map]
/-- Five numbers. -/
theorem open_hours {W : World} {base : Nat} {t : TypeId} {fs : Array Field} {v : Value} {d : DataW H} {p : List MemPlace} (hs : P.underlying t = some (.struct fs)) (h5 : fs.size = 5) (hone : oneCellFields P fs = true) (hC : P.cellsOf t = fs.size)
    {T : TypeId} (hT : P.underlying T = some (.int .i64)) (hi : (fs.toList.all fun f => f.type == T) = true) (hv : Value.okWide P W .any base t v) (h : DataW.Trod enc P W 0 (fun _ => true) true t v d p) :
    ∃ a b c m k : Int, v = .agg #[.int .i64 a, .int .i64 b, .int .i64 c, .int .i64 m, .int .i64 k] ∧ (-9223372036854775808 ≤ a ∧ a ≤ 9223372036854775807) ∧ (-9223372036854775808 ≤ b ∧ b ≤ 9223372036854775807) ∧ (-9223372036854775808 ≤ c ∧ c ≤ 9223372036854775807) ∧ (-9223372036854775808 ≤ m ∧ m ≤ 9223372036854775807) ∧ (-9223372036854775808 ≤ k ∧ k ≤ 9223372036854775807) := by
  obtain ⟨xs, rfl, hl, hb⟩ := open_numbers hs hone hC (fun f hf => by rw [show f.type = T by simpa using List.all_eq_true.1 hi f hf]; exact hT) hv h
  rw [h5] at hl
  match xs, hl with
  | [a, b, c, m, k], _ => exact ⟨a, b, c, m, k, rfl, hb a (by simp), hb b (by simp), hb c (by simp), hb m (by simp), hb k (by simp)⟩
end
end Go.Proofs.YtmmmlcnclehilaaDoor
