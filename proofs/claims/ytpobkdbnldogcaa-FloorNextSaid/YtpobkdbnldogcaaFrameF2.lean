/- How a start among the arguments is opened. -/
import Derived.Test.YtpobkdbnldogcaaFrameFl
namespace Go.Proofs.Ytpobkdbnldogcaa
open Go.ChangeShapes Go.WideShapes Go.ChangeAt Go.RowKit Go.Deep
section
variable {H : Type} {enc : TypeId × Value → H}
set_option maxRecDepth 100000 in
theorem start_of {W : World} {n : Nat} {cs : List Value} {y : DataW H × List MemPlace}
    (h : DataW.trod enc Try.prog W 0 (fun _ => true) true n 74 cs = some y) : ∃ (r : Fl.L) (m a : Int), cs = [.int .i64 r.l, .int .i64 r.p, .int .i64 r.c, .int .i64 m, .int .i64 a] ∧ (-9223372036854775808 ≤ m ∧ m ≤ 9223372036854775807) ∧ (-9223372036854775808 ≤ a ∧ a ≤ 9223372036854775807) ∧
      (-9223372036854775808 ≤ r.l ∧ r.l ≤ 9223372036854775807) ∧ (-9223372036854775808 ≤ r.p ∧ r.p ≤ 9223372036854775807) ∧ (-9223372036854775808 ≤ r.c ∧ r.c ≤ 9223372036854775807) := by
  obtain ⟨xs, n', _, _, hlen, hxl, hf⟩ := DataW.trod_struct Try.underlying74 h
  have hl : cs.length = 5 := hlen.trans (by kernel_rfl)
  match cs, hl with
  | [c0, c1, c2, c3, c4], _ =>
    have h0 := hf 0 _ rfl
    have h1 := hf 1 _ rfl
    have h2 := hf 2 _ rfl
    have k0 : Try.prog.cellsOf 3 = 1 := by kernel_rfl
    have k1 : Try.prog.cellsOf 72 = 3 := by kernel_rfl
    simp only [List.getElem_toArray, List.getElem_cons_zero, List.getElem_cons_succ] at h0 h1 h2
    rw [k1] at h0
    rw [k0] at h1 h2
    simp only [List.drop_zero, List.take_succ_cons, List.take_zero, List.drop_succ_cons] at h0 h1 h2
    have hx2 : xs.length = 3 := hxl
    have e0 : xs[0]? = some (xs[0]'(by omega)) := by simp
    have e1 : xs[1]? = some (xs[1]'(by omega)) := by simp
    have e2 : xs[2]? = some (xs[2]'(by omega)) := by simp
    obtain ⟨r, q0, b0, b1, b2⟩ := rol_of (h0.trans e0)
    obtain ⟨m, q1, _, w1⟩ := DataW.trod_int Try.underlying3 (h1.trans e1)
    obtain ⟨a, q2, _, w2⟩ := DataW.trod_int Try.underlying3 (h2.trans e2)
    simp only [rolC, List.cons.injEq, and_true] at q0 q1 q2
    obtain ⟨rfl, rfl, rfl⟩ := q0
    subst q1 q2
    exact ⟨r, m, a, rfl, wf64 w1, wf64 w2, b0, b1, b2⟩
set_option maxRecDepth 100000 in
theorem open_start {W : World} {base : Nat} {v : Value} {d : DataW H} {p : List MemPlace} (hv : Value.okWide Try.prog W .any base 74 v)
    (h : DataW.Trod enc Try.prog W 0 (fun _ => true) true 74 v d p) : ∃ (r : Fl.L) (m a : Int), v = .agg #[.int .i64 r.l, .int .i64 r.p, .int .i64 r.c, .int .i64 m, .int .i64 a] ∧ (-9223372036854775808 ≤ m ∧ m ≤ 9223372036854775807) ∧ (-9223372036854775808 ≤ a ∧ a ≤ 9223372036854775807) ∧
      (-9223372036854775808 ≤ r.l ∧ r.l ≤ 9223372036854775807) ∧ (-9223372036854775808 ≤ r.p ∧ r.p ≤ 9223372036854775807) ∧ (-9223372036854775808 ≤ r.c ∧ r.c ≤ 9223372036854775807) := by
  obtain ⟨cs, rfl, hsz⟩ := okWide_struct Try.underlying74 hv
  obtain ⟨fuel, hf⟩ := h
  obtain ⟨r, m, a, e, hb⟩ := start_of (cs := cs.toList) hf
  exact ⟨r, m, a, by rw [show cs = #[.int .i64 r.l, .int .i64 r.p, .int .i64 r.c, .int .i64 m, .int .i64 a] from Array.ext' e], hb⟩
end
end Go.Proofs.Ytpobkdbnldogcaa
