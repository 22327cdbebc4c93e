/- How rooms, lists and structs among the arguments are opened. -/
import Derived.Test.YtpobkdbnldogcaaFrameU
import Derived.Test.YtpobkdbnldogcaaFlM
import Derived.ChangeSlices
import Derived.Deep.Slices
import Derived.Lib.SmallJoins
namespace Go.Proofs.Ytpobkdbnldogcaa
open Go.ChangeShapes Go.WideShapes Go.ChangeAt Go.RowKit Go.Deep

theorem spot_none {w : World} {a : Addr} {v : Value} (h : w.cell? a = some v) : a.spot = none ∧ a.block < w.heap.size := by
  unfold World.cell? at h
  split at h
  · rename_i c e f hb
    have hlt := (Array.getElem?_eq_some_iff.1 hb).1
    cases hs : a.spot with
    | none => exact ⟨rfl, hlt⟩
    | some x => rw [hs] at h; simp at h
  · simp at h

section
variable {H : Type} {enc : TypeId × Value → H}

theorem add_plain (b off n : Nat) : (⟨b, off, none⟩ : Addr).add n = ⟨b, off + n, none⟩ := by
  unfold Addr.add
  split
  · rename_i e; subst e; rfl
  · rfl

/-- A list that came in, whatever its elements. -/
theorem rows_of {α : Type} [Inhabited α] {W : World} {fuel : Nat} {v : Value} {y : DataW H × List MemPlace} {T E : TypeId} {c : Nat} (hT : Try.prog.underlying T = some (.slice E)) (hC : Try.prog.cellsOf E = c) (hc0 : 0 < c) (At : Nat → Nat → α → Prop)
    (hone : ∀ {n : Nat} {cs : List Value} {y : DataW H × List MemPlace}, DataW.trod enc Try.prog W 0 (fun _ => true) true n E cs = some y → ∃ x : α, ∀ b off, (∀ j, j < c → W.cell? ⟨b, off + j, none⟩ = cs[j]?) → At b off x)
    (hlen : ∀ {n : Nat} {cs : List Value} {y : DataW H × List MemPlace}, DataW.trod enc Try.prog W 0 (fun _ => true) true n E cs = some y → cs.length = c)
    (h : DataW.trod enc Try.prog W 0 (fun _ => true) true fuel T [v] = some y) :
    ∃ xs : List α, (∃ a k, v = .slice a 0 k ∧ xs = [] ∧ (a = none → k = 0)) ∨ ∃ b off cap, v = .slice (some ⟨b, off, none⟩) xs.length cap ∧ xs.length ≤ cap ∧ b < W.heap.size ∧ ∀ k, k < xs.length → At b (off + k * c) (xs.getD k default) := by
  rcases open_slice hT h with ⟨hcs, _⟩ | ⟨a, len, cap, m, n, D, Pl, hcs, _, hl, _, hm, _, hi⟩
  · simp only [List.cons.injEq, and_true] at hcs
    subst hcs
    exact ⟨[], .inl ⟨none, 0, rfl, rfl, fun _ => rfl⟩⟩
  · simp only [List.cons.injEq, and_true] at hcs
    subst hcs
    simp only [if_true] at hm
    rcases Nat.eq_zero_or_pos len with rfl | hpos
    · exact ⟨[], .inl ⟨some a, cap, rfl, rfl, fun h => by cases h⟩⟩
    · have hr : ∀ i, i < len → ∃ cs : List Value, cs.length = c ∧ (∀ j, j < c → W.cell? (a.add (i * c + j)) = cs[j]?) ∧ ∃ x : α, ∀ b off, (∀ j, j < c → W.cell? ⟨b, off + j, none⟩ = cs[j]?) → At b off x := by
        intro i hil
        obtain ⟨cs', hc, ht⟩ := hi i (by omega)
        rw [hC] at hc
        obtain ⟨x, hx⟩ := hone ht
        obtain ⟨_, _, hat⟩ := World.cells?_some hc
        exact ⟨cs', hlen ht, fun j hj => by rw [← hat j hj, Go.Deep.add_add], x, hx⟩
      obtain ⟨b, off, spot⟩ := a
      obtain ⟨cs0, hl0, hr0, _⟩ := hr 0 hpos
      have h0 := hr0 0 (by omega)
      rw [show (Addr.mk b off spot).add (0 * c + 0) = ⟨b, off, spot⟩ by simp [Addr.add], List.getElem?_eq_getElem (by omega)] at h0
      obtain ⟨hsp, hb⟩ := spot_none h0
      simp only at hsp hb
      subst hsp
      have hch : ∃ f : Nat → α, ∀ i, i < len → At b (off + i * c) (f i) := by
        refine ⟨fun i => if hil : i < len then Classical.choose (Classical.choose_spec (hr i hil)).2.2 else default, fun i hil => ?_⟩
        dsimp only
        rw [dif_pos hil]
        refine Classical.choose_spec (Classical.choose_spec (hr i hil)).2.2 b (off + i * c) fun j hj => ?_
        rw [← (Classical.choose_spec (hr i hil)).2.1 j hj, add_plain, Nat.add_assoc]
      obtain ⟨f, hf⟩ := hch
      refine ⟨(List.range len).map f, .inr ⟨b, off, cap, by simp, by simp; omega, hb, fun k hk => ?_⟩⟩
      have hk' : k < len := by simpa using hk
      rw [show ((List.range len).map f).getD k default = f k by simp [List.getD, hk']]
      exact hf k hk'



theorem rowsOf_of {α : Type} [Inhabited α] {c : Nat} {cs : α → List Value} {w : World} {v : Value}
    (h : ∃ xs : List α, (∃ a k, v = .slice a 0 k ∧ xs = [] ∧ (a = none → k = 0)) ∨ ∃ b off cap, v = .slice (some ⟨b, off, none⟩) xs.length cap ∧ xs.length ≤ cap ∧ b < w.heap.size ∧ ∀ k, k < xs.length → CellsAt (cs (xs.getD k default)) w b (off + k * c)) : ∃ xs, RowsOf c cs w v xs := by
  obtain ⟨xs, ⟨a, k, h1, h2, _⟩ | ⟨b, off, cap, h1, hc, h3, h4⟩⟩ := h
  · exact ⟨[], a, k, h1, Nat.zero_le _, fun k hk => by simp at hk⟩
  · refine ⟨xs, _, cap, h1, hc, fun k hk => ⟨b, off, rfl, h3, ?_⟩⟩
    have := h4 k hk
    rwa [show xs.getD k default = xs[k] by simp [hk]] at this
theorem wf64 {a : Int} (h : Lit.wf (.int .i64 a) = true) : -9223372036854775808 ≤ a ∧ a ≤ 9223372036854775807 := by
  simpa [Lit.wf, IntKind.min, IntKind.max, IntKind.signed, IntKind.bits] using h
set_option maxRecDepth 100000 in
theorem rect_of {W : World} {n : Nat} {cs : List Value} {y : DataW H × List MemPlace}
    (h : DataW.trod enc Try.prog W 0 (fun _ => true) true n 52 cs = some y) : ∃ r : Fl.R, cs = rectC r ∧ (-9223372036854775808 ≤ r.x ∧ r.x ≤ 9223372036854775807) ∧ (-9223372036854775808 ≤ r.y ∧ r.y ≤ 9223372036854775807) ∧ (-9223372036854775808 ≤ r.w ∧ r.w ≤ 9223372036854775807) ∧ (-9223372036854775808 ≤ r.h ∧ r.h ≤ 9223372036854775807) := by
  obtain ⟨xs, n', _, _, hlen, hxl, hf⟩ := DataW.trod_struct Try.underlying52 h
  have hl : cs.length = 4 := hlen.trans (by kernel_rfl)
  match cs, hl with
  | [c0, c1, c2, c3], _ =>
    have h0 := hf 0 _ rfl
    have h1 := hf 1 _ rfl
    have h2 := hf 2 _ rfl
    have h3 := hf 3 _ rfl
    have k0 : Try.prog.cellsOf 3 = 1 := by kernel_rfl
    simp only [List.getElem_toArray, List.getElem_cons_zero, List.getElem_cons_succ] at h0 h1 h2 h3
    rw [k0] at h0 h1 h2 h3
    simp only [List.drop_zero, List.take_succ_cons, List.take_zero, List.drop_succ_cons] at h0 h1 h2 h3
    have hx2 : xs.length = 4 := hxl
    have e0 : xs[0]? = some (xs[0]'(by omega)) := by simp
    have e1 : xs[1]? = some (xs[1]'(by omega)) := by simp
    have e2 : xs[2]? = some (xs[2]'(by omega)) := by simp
    have e3 : xs[3]? = some (xs[3]'(by omega)) := by simp
    obtain ⟨l0, q0, _, w0⟩ := DataW.trod_int Try.underlying3 (h0.trans e0)
    obtain ⟨l1, q1, _, w1⟩ := DataW.trod_int Try.underlying3 (h1.trans e1)
    obtain ⟨l2, q2, _, w2⟩ := DataW.trod_int Try.underlying3 (h2.trans e2)
    obtain ⟨l3, q3, _, w3⟩ := DataW.trod_int Try.underlying3 (h3.trans e3)
    simp only [List.cons.injEq, and_true] at q0 q1 q2 q3
    subst q0 q1 q2 q3
    exact ⟨⟨l0, l1, l2, l3⟩, rfl, wf64 w0, wf64 w1, wf64 w2, wf64 w3⟩
set_option maxRecDepth 100000 in
theorem rects_of {W : World} {fuel : Nat} {v : Value} {y : DataW H × List MemPlace}
    (h : DataW.trod enc Try.prog W 0 (fun _ => true) true fuel 22 [v] = some y) : ∃ xs, Rects W v xs := by
  refine rowsOf_of (cs := rectC) (rows_of (α := Fl.R) Try.underlying22 (by kernel_rfl) (by decide) (fun b off r => CellsAt (rectC r) W b off) ?_ ?_ h)
  · intro n cs y h
    obtain ⟨p, rfl, _⟩ := rect_of h
    exact ⟨p, fun b off hc j u hj => (hc j (List.getElem?_eq_some_iff.1 hj).1).trans hj⟩
  · intro n cs y h
    obtain ⟨p, rfl, _⟩ := rect_of h
    rfl
set_option maxRecDepth 100000 in
theorem open_rects {W : World} {base : Nat} {v : Value} {d : DataW H} {p : List MemPlace} (hv : Value.okWide Try.prog W .any base 22 v)
    (h : DataW.Trod enc Try.prog W 0 (fun _ => true) true 22 v d p) : ∃ xs, Rects W v xs := by
  obtain ⟨a, l, c, rfl⟩ := okWide_slice Try.underlying22 hv
  obtain ⟨fuel, hf⟩ := h
  exact rects_of hf
set_option maxRecDepth 100000 in
theorem open_rect {W : World} {base : Nat} {v : Value} {d : DataW H} {p : List MemPlace} (hv : Value.okWide Try.prog W .any base 52 v)
    (h : DataW.Trod enc Try.prog W 0 (fun _ => true) true 52 v d p) : ∃ r : Fl.R, v = rectV r ∧ (-9223372036854775808 ≤ r.x ∧ r.x ≤ 9223372036854775807) ∧ (-9223372036854775808 ≤ r.y ∧ r.y ≤ 9223372036854775807) ∧ (-9223372036854775808 ≤ r.w ∧ r.w ≤ 9223372036854775807) ∧ (-9223372036854775808 ≤ r.h ∧ r.h ≤ 9223372036854775807) := by
  obtain ⟨cs, rfl, hsz⟩ := okWide_struct Try.underlying52 hv
  obtain ⟨fuel, hf⟩ := h
  obtain ⟨r, e, hb⟩ := rect_of (cs := cs.toList) hf
  exact ⟨r, by rw [show cs = (rectC r).toArray from Array.ext' e]; rfl, hb⟩
set_option maxRecDepth 100000 in
theorem door_of {W : World} {n : Nat} {cs : List Value} {y : DataW H × List MemPlace}
    (h : DataW.trod enc Try.prog W 0 (fun _ => true) true n 107 cs = some y) : ∃ r : Fl.D, cs = doorC r ∧ (-9223372036854775808 ≤ r.a ∧ r.a ≤ 9223372036854775807) ∧ (-9223372036854775808 ≤ r.b ∧ r.b ≤ 9223372036854775807) ∧ (-9223372036854775808 ≤ r.y ∧ r.y ≤ 9223372036854775807) := by
  obtain ⟨xs, n', _, _, hlen, hxl, hf⟩ := DataW.trod_struct Try.underlying107 h
  have hl : cs.length = 3 := hlen.trans (by kernel_rfl)
  match cs, hl with
  | [c0, c1, c2], _ =>
    have h0 := hf 0 _ rfl
    have h1 := hf 1 _ rfl
    have h2 := hf 2 _ rfl
    have k0 : Try.prog.cellsOf 3 = 1 := by kernel_rfl
    simp only [List.getElem_toArray, List.getElem_cons_zero, List.getElem_cons_succ] at h0 h1 h2
    rw [k0] at h0 h1 h2
    simp only [List.drop_zero, List.take_succ_cons, List.take_zero, List.drop_succ_cons] at h0 h1 h2
    have hx2 : xs.length = 3 := hxl
    have e0 : xs[0]? = some (xs[0]'(by omega)) := by simp
    have e1 : xs[1]? = some (xs[1]'(by omega)) := by simp
    have e2 : xs[2]? = some (xs[2]'(by omega)) := by simp
    obtain ⟨l0, q0, _, w0⟩ := DataW.trod_int Try.underlying3 (h0.trans e0)
    obtain ⟨l1, q1, _, w1⟩ := DataW.trod_int Try.underlying3 (h1.trans e1)
    obtain ⟨l2, q2, _, w2⟩ := DataW.trod_int Try.underlying3 (h2.trans e2)
    simp only [List.cons.injEq, and_true] at q0 q1 q2
    subst q0 q1 q2
    exact ⟨⟨l0, l1, l2⟩, rfl, wf64 w0, wf64 w1, wf64 w2⟩
set_option maxRecDepth 100000 in
theorem doors_of {W : World} {fuel : Nat} {v : Value} {y : DataW H × List MemPlace}
    (h : DataW.trod enc Try.prog W 0 (fun _ => true) true fuel 23 [v] = some y) : ∃ xs, Doors W v xs := by
  refine rowsOf_of (cs := doorC) (rows_of (α := Fl.D) Try.underlying23 (by kernel_rfl) (by decide) (fun b off r => CellsAt (doorC r) W b off) ?_ ?_ h)
  · intro n cs y h
    obtain ⟨p, rfl, _⟩ := door_of h
    exact ⟨p, fun b off hc j u hj => (hc j (List.getElem?_eq_some_iff.1 hj).1).trans hj⟩
  · intro n cs y h
    obtain ⟨p, rfl, _⟩ := door_of h
    rfl
set_option maxRecDepth 100000 in
theorem open_doors {W : World} {base : Nat} {v : Value} {d : DataW H} {p : List MemPlace} (hv : Value.okWide Try.prog W .any base 23 v)
    (h : DataW.Trod enc Try.prog W 0 (fun _ => true) true 23 v d p) : ∃ xs, Doors W v xs := by
  obtain ⟨a, l, c, rfl⟩ := okWide_slice Try.underlying23 hv
  obtain ⟨fuel, hf⟩ := h
  exact doors_of hf
set_option maxRecDepth 100000 in
theorem open_door {W : World} {base : Nat} {v : Value} {d : DataW H} {p : List MemPlace} (hv : Value.okWide Try.prog W .any base 107 v)
    (h : DataW.Trod enc Try.prog W 0 (fun _ => true) true 107 v d p) : ∃ r : Fl.D, v = doorV r ∧ (-9223372036854775808 ≤ r.a ∧ r.a ≤ 9223372036854775807) ∧ (-9223372036854775808 ≤ r.b ∧ r.b ≤ 9223372036854775807) ∧ (-9223372036854775808 ≤ r.y ∧ r.y ≤ 9223372036854775807) := by
  obtain ⟨cs, rfl, hsz⟩ := okWide_struct Try.underlying107 hv
  obtain ⟨fuel, hf⟩ := h
  obtain ⟨r, e, hb⟩ := door_of (cs := cs.toList) hf
  exact ⟨r, by rw [show cs = (doorC r).toArray from Array.ext' e]; rfl, hb⟩
set_option maxRecDepth 100000 in
theorem strip_of {W : World} {n : Nat} {cs : List Value} {y : DataW H × List MemPlace}
    (h : DataW.trod enc Try.prog W 0 (fun _ => true) true n 54 cs = some y) : ∃ r : Fl.S, cs = stripC r ∧ (-9223372036854775808 ≤ r.x ∧ r.x ≤ 9223372036854775807) ∧ (-9223372036854775808 ≤ r.f ∧ r.f ≤ 9223372036854775807) ∧ (-9223372036854775808 ≤ r.t ∧ r.t ≤ 9223372036854775807) := by
  obtain ⟨xs, n', _, _, hlen, hxl, hf⟩ := DataW.trod_struct Try.underlying54 h
  have hl : cs.length = 3 := hlen.trans (by kernel_rfl)
  match cs, hl with
  | [c0, c1, c2], _ =>
    have h0 := hf 0 _ rfl
    have h1 := hf 1 _ rfl
    have h2 := hf 2 _ rfl
    have k0 : Try.prog.cellsOf 3 = 1 := by kernel_rfl
    simp only [List.getElem_toArray, List.getElem_cons_zero, List.getElem_cons_succ] at h0 h1 h2
    rw [k0] at h0 h1 h2
    simp only [List.drop_zero, List.take_succ_cons, List.take_zero, List.drop_succ_cons] at h0 h1 h2
    have hx2 : xs.length = 3 := hxl
    have e0 : xs[0]? = some (xs[0]'(by omega)) := by simp
    have e1 : xs[1]? = some (xs[1]'(by omega)) := by simp
    have e2 : xs[2]? = some (xs[2]'(by omega)) := by simp
    obtain ⟨l0, q0, _, w0⟩ := DataW.trod_int Try.underlying3 (h0.trans e0)
    obtain ⟨l1, q1, _, w1⟩ := DataW.trod_int Try.underlying3 (h1.trans e1)
    obtain ⟨l2, q2, _, w2⟩ := DataW.trod_int Try.underlying3 (h2.trans e2)
    simp only [List.cons.injEq, and_true] at q0 q1 q2
    subst q0 q1 q2
    exact ⟨⟨l0, l1, l2⟩, rfl, wf64 w0, wf64 w1, wf64 w2⟩
set_option maxRecDepth 100000 in
theorem strips_of {W : World} {fuel : Nat} {v : Value} {y : DataW H × List MemPlace}
    (h : DataW.trod enc Try.prog W 0 (fun _ => true) true fuel 37 [v] = some y) : ∃ xs, Strips W v xs := by
  refine rowsOf_of (cs := stripC) (rows_of (α := Fl.S) Try.underlying37 (by kernel_rfl) (by decide) (fun b off r => CellsAt (stripC r) W b off) ?_ ?_ h)
  · intro n cs y h
    obtain ⟨p, rfl, _⟩ := strip_of h
    exact ⟨p, fun b off hc j u hj => (hc j (List.getElem?_eq_some_iff.1 hj).1).trans hj⟩
  · intro n cs y h
    obtain ⟨p, rfl, _⟩ := strip_of h
    rfl
set_option maxRecDepth 100000 in
theorem open_strips {W : World} {base : Nat} {v : Value} {d : DataW H} {p : List MemPlace} (hv : Value.okWide Try.prog W .any base 37 v)
    (h : DataW.Trod enc Try.prog W 0 (fun _ => true) true 37 v d p) : ∃ xs, Strips W v xs := by
  obtain ⟨a, l, c, rfl⟩ := okWide_slice Try.underlying37 hv
  obtain ⟨fuel, hf⟩ := h
  exact strips_of hf
set_option maxRecDepth 100000 in
theorem open_strip {W : World} {base : Nat} {v : Value} {d : DataW H} {p : List MemPlace} (hv : Value.okWide Try.prog W .any base 54 v)
    (h : DataW.Trod enc Try.prog W 0 (fun _ => true) true 54 v d p) : ∃ r : Fl.S, v = stripV r ∧ (-9223372036854775808 ≤ r.x ∧ r.x ≤ 9223372036854775807) ∧ (-9223372036854775808 ≤ r.f ∧ r.f ≤ 9223372036854775807) ∧ (-9223372036854775808 ≤ r.t ∧ r.t ≤ 9223372036854775807) := by
  obtain ⟨cs, rfl, hsz⟩ := okWide_struct Try.underlying54 hv
  obtain ⟨fuel, hf⟩ := h
  obtain ⟨r, e, hb⟩ := strip_of (cs := cs.toList) hf
  exact ⟨r, by rw [show cs = (stripC r).toArray from Array.ext' e]; rfl, hb⟩
set_option maxRecDepth 100000 in
theorem rol_of {W : World} {n : Nat} {cs : List Value} {y : DataW H × List MemPlace}
    (h : DataW.trod enc Try.prog W 0 (fun _ => true) true n 72 cs = some y) : ∃ r : Fl.L, cs = rolC r ∧ (-9223372036854775808 ≤ r.l ∧ r.l ≤ 9223372036854775807) ∧ (-9223372036854775808 ≤ r.p ∧ r.p ≤ 9223372036854775807) ∧ (-9223372036854775808 ≤ r.c ∧ r.c ≤ 9223372036854775807) := by
  obtain ⟨xs, n', _, _, hlen, hxl, hf⟩ := DataW.trod_struct Try.underlying72 h
  have hl : cs.length = 3 := hlen.trans (by kernel_rfl)
  match cs, hl with
  | [c0, c1, c2], _ =>
    have h0 := hf 0 _ rfl
    have h1 := hf 1 _ rfl
    have h2 := hf 2 _ rfl
    have k0 : Try.prog.cellsOf 3 = 1 := by kernel_rfl
    simp only [List.getElem_toArray, List.getElem_cons_zero, List.getElem_cons_succ] at h0 h1 h2
    rw [k0] at h0 h1 h2
    simp only [List.drop_zero, List.take_succ_cons, List.take_zero, List.drop_succ_cons] at h0 h1 h2
    have hx2 : xs.length = 3 := hxl
    have e0 : xs[0]? = some (xs[0]'(by omega)) := by simp
    have e1 : xs[1]? = some (xs[1]'(by omega)) := by simp
    have e2 : xs[2]? = some (xs[2]'(by omega)) := by simp
    obtain ⟨l0, q0, _, w0⟩ := DataW.trod_int Try.underlying3 (h0.trans e0)
    obtain ⟨l1, q1, _, w1⟩ := DataW.trod_int Try.underlying3 (h1.trans e1)
    obtain ⟨l2, q2, _, w2⟩ := DataW.trod_int Try.underlying3 (h2.trans e2)
    simp only [List.cons.injEq, and_true] at q0 q1 q2
    subst q0 q1 q2
    exact ⟨⟨l0, l1, l2⟩, rfl, wf64 w0, wf64 w1, wf64 w2⟩
set_option maxRecDepth 100000 in
theorem rols_of {W : World} {fuel : Nat} {v : Value} {y : DataW H × List MemPlace}
    (h : DataW.trod enc Try.prog W 0 (fun _ => true) true fuel 56 [v] = some y) : ∃ xs, Rols W v xs := by
  refine rowsOf_of (cs := rolC) (rows_of (α := Fl.L) Try.underlying56 (by kernel_rfl) (by decide) (fun b off r => CellsAt (rolC r) W b off) ?_ ?_ h)
  · intro n cs y h
    obtain ⟨p, rfl, _⟩ := rol_of h
    exact ⟨p, fun b off hc j u hj => (hc j (List.getElem?_eq_some_iff.1 hj).1).trans hj⟩
  · intro n cs y h
    obtain ⟨p, rfl, _⟩ := rol_of h
    rfl
set_option maxRecDepth 100000 in
theorem open_rols {W : World} {base : Nat} {v : Value} {d : DataW H} {p : List MemPlace} (hv : Value.okWide Try.prog W .any base 56 v)
    (h : DataW.Trod enc Try.prog W 0 (fun _ => true) true 56 v d p) : ∃ xs, Rols W v xs := by
  obtain ⟨a, l, c, rfl⟩ := okWide_slice Try.underlying56 hv
  obtain ⟨fuel, hf⟩ := h
  exact rols_of hf
set_option maxRecDepth 100000 in
theorem open_rol {W : World} {base : Nat} {v : Value} {d : DataW H} {p : List MemPlace} (hv : Value.okWide Try.prog W .any base 72 v)
    (h : DataW.Trod enc Try.prog W 0 (fun _ => true) true 72 v d p) : ∃ r : Fl.L, v = rolV r ∧ (-9223372036854775808 ≤ r.l ∧ r.l ≤ 9223372036854775807) ∧ (-9223372036854775808 ≤ r.p ∧ r.p ≤ 9223372036854775807) ∧ (-9223372036854775808 ≤ r.c ∧ r.c ≤ 9223372036854775807) := by
  obtain ⟨cs, rfl, hsz⟩ := okWide_struct Try.underlying72 hv
  obtain ⟨fuel, hf⟩ := h
  obtain ⟨r, e, hb⟩ := rol_of (cs := cs.toList) hf
  exact ⟨r, by rw [show cs = (rolC r).toArray from Array.ext' e]; rfl, hb⟩
set_option maxRecDepth 100000 in
theorem cut_of {W : World} {n : Nat} {cs : List Value} {y : DataW H × List MemPlace}
    (h : DataW.trod enc Try.prog W 0 (fun _ => true) true n 119 cs = some y) : ∃ r : Fl.C, cs = cutC r ∧ (-9223372036854775808 ≤ r.s ∧ r.s ≤ 9223372036854775807) ∧ (-9223372036854775808 ≤ r.r ∧ r.r ≤ 9223372036854775807) ∧ (-9223372036854775808 ≤ r.a ∧ r.a ≤ 9223372036854775807) := by
  obtain ⟨xs, n', _, _, hlen, hxl, hf⟩ := DataW.trod_struct Try.underlying119 h
  have hl : cs.length = 3 := hlen.trans (by kernel_rfl)
  match cs, hl with
  | [c0, c1, c2], _ =>
    have h0 := hf 0 _ rfl
    have h1 := hf 1 _ rfl
    have h2 := hf 2 _ rfl
    have k0 : Try.prog.cellsOf 3 = 1 := by kernel_rfl
    simp only [List.getElem_toArray, List.getElem_cons_zero, List.getElem_cons_succ] at h0 h1 h2
    rw [k0] at h0 h1 h2
    simp only [List.drop_zero, List.take_succ_cons, List.take_zero, List.drop_succ_cons] at h0 h1 h2
    have hx2 : xs.length = 3 := hxl
    have e0 : xs[0]? = some (xs[0]'(by omega)) := by simp
    have e1 : xs[1]? = some (xs[1]'(by omega)) := by simp
    have e2 : xs[2]? = some (xs[2]'(by omega)) := by simp
    obtain ⟨l0, q0, _, w0⟩ := DataW.trod_int Try.underlying3 (h0.trans e0)
    obtain ⟨l1, q1, _, w1⟩ := DataW.trod_int Try.underlying3 (h1.trans e1)
    obtain ⟨l2, q2, _, w2⟩ := DataW.trod_int Try.underlying3 (h2.trans e2)
    simp only [List.cons.injEq, and_true] at q0 q1 q2
    subst q0 q1 q2
    exact ⟨⟨l0, l1, l2⟩, rfl, wf64 w0, wf64 w1, wf64 w2⟩
set_option maxRecDepth 100000 in
theorem cuts_of {W : World} {fuel : Nat} {v : Value} {y : DataW H × List MemPlace}
    (h : DataW.trod enc Try.prog W 0 (fun _ => true) true fuel 59 [v] = some y) : ∃ xs, Cuts W v xs := by
  refine rowsOf_of (cs := cutC) (rows_of (α := Fl.C) Try.underlying59 (by kernel_rfl) (by decide) (fun b off r => CellsAt (cutC r) W b off) ?_ ?_ h)
  · intro n cs y h
    obtain ⟨p, rfl, _⟩ := cut_of h
    exact ⟨p, fun b off hc j u hj => (hc j (List.getElem?_eq_some_iff.1 hj).1).trans hj⟩
  · intro n cs y h
    obtain ⟨p, rfl, _⟩ := cut_of h
    rfl
set_option maxRecDepth 100000 in
theorem open_cuts {W : World} {base : Nat} {v : Value} {d : DataW H} {p : List MemPlace} (hv : Value.okWide Try.prog W .any base 59 v)
    (h : DataW.Trod enc Try.prog W 0 (fun _ => true) true 59 v d p) : ∃ xs, Cuts W v xs := by
  obtain ⟨a, l, c, rfl⟩ := okWide_slice Try.underlying59 hv
  obtain ⟨fuel, hf⟩ := h
  exact cuts_of hf
set_option maxRecDepth 100000 in
theorem open_cut {W : World} {base : Nat} {v : Value} {d : DataW H} {p : List MemPlace} (hv : Value.okWide Try.prog W .any base 119 v)
    (h : DataW.Trod enc Try.prog W 0 (fun _ => true) true 119 v d p) : ∃ r : Fl.C, v = cutV r ∧ (-9223372036854775808 ≤ r.s ∧ r.s ≤ 9223372036854775807) ∧ (-9223372036854775808 ≤ r.r ∧ r.r ≤ 9223372036854775807) ∧ (-9223372036854775808 ≤ r.a ∧ r.a ≤ 9223372036854775807) := by
  obtain ⟨cs, rfl, hsz⟩ := okWide_struct Try.underlying119 hv
  obtain ⟨fuel, hf⟩ := h
  obtain ⟨r, e, hb⟩ := cut_of (cs := cs.toList) hf
  exact ⟨r, by rw [show cs = (cutC r).toArray from Array.ext' e]; rfl, hb⟩
set_option maxRecDepth 100000 in
theorem room_of {W : World} {n : Nat} {cs : List Value} {y : DataW H × List MemPlace}
    (h : DataW.trod enc Try.prog W 0 (fun _ => true) true n 25 cs = some y) : ∃ (v0 : Value) (v1 : Value) (l0 : List Fl.R) (l1 : List Fl.D), cs = [v0, v1] ∧ Rects W v0 l0 ∧ Doors W v1 l1 := by
  obtain ⟨xs, n', _, _, hlen, hxl, hf⟩ := DataW.trod_struct Try.underlying25 h
  have hl : cs.length = 2 := hlen.trans (by kernel_rfl)
  match cs, hl with
  | [c0, c1], _ =>
    have h0 := hf 0 _ rfl
    have h1 := hf 1 _ rfl
    have k0 : Try.prog.cellsOf 22 = 1 := by kernel_rfl
    have k1 : Try.prog.cellsOf 23 = 1 := by kernel_rfl
    simp only [List.getElem_toArray, List.getElem_cons_zero, List.getElem_cons_succ] at h0 h1
    rw [k0] at h0
    rw [k1] at h1
    simp only [List.drop_zero, List.take_succ_cons, List.take_zero, List.drop_succ_cons] at h0 h1
    have hx2 : xs.length = 2 := hxl
    have e0 : xs[0]? = some (xs[0]'(by omega)) := by simp
    have e1 : xs[1]? = some (xs[1]'(by omega)) := by simp
    obtain ⟨l0, p0⟩ := rects_of (h0.trans e0)
    obtain ⟨l1, p1⟩ := doors_of (h1.trans e1)
    exact ⟨c0, c1, l0, l1, rfl, p0, p1⟩
set_option maxRecDepth 100000 in
theorem open_room {W : World} {base : Nat} {v : Value} {d : DataW H} {p : List MemPlace} (hv : Value.okWide Try.prog W .any base 25 v)
    (h : DataW.Trod enc Try.prog W 0 (fun _ => true) true 25 v d p) : ∃ (v0 : Value) (v1 : Value) (l0 : List Fl.R) (l1 : List Fl.D), v = .agg #[v0, v1] ∧ Rects W v0 l0 ∧ Doors W v1 l1 := by
  obtain ⟨cs, rfl, hsz⟩ := okWide_struct Try.underlying25 hv
  obtain ⟨fuel, hf⟩ := h
  obtain ⟨v0, v1, l0, l1, e, hb⟩ := room_of (cs := cs.toList) hf
  exact ⟨v0, v1, l0, l1, by rw [show cs = #[v0, v1] from Array.ext' e], hb⟩
set_option maxRecDepth 100000 in
theorem lines_of {W : World} {n : Nat} {cs : List Value} {y : DataW H × List MemPlace}
    (h : DataW.trod enc Try.prog W 0 (fun _ => true) true n 36 cs = some y) : ∃ (x0 : Int) (x1 : Int) , cs = [.int .i64 x0, .int .i64 x1] ∧ (-9223372036854775808 ≤ x0 ∧ x0 ≤ 9223372036854775807) ∧ (-9223372036854775808 ≤ x1 ∧ x1 ≤ 9223372036854775807) := by
  obtain ⟨xs, n', _, _, hlen, hxl, hf⟩ := DataW.trod_struct Try.underlying36 h
  have hl : cs.length = 2 := hlen.trans (by kernel_rfl)
  match cs, hl with
  | [c0, c1], _ =>
    have h0 := hf 0 _ rfl
    have h1 := hf 1 _ rfl
    have k0 : Try.prog.cellsOf 3 = 1 := by kernel_rfl
    simp only [List.getElem_toArray, List.getElem_cons_zero, List.getElem_cons_succ] at h0 h1
    rw [k0] at h0
    rw [k0] at h1
    simp only [List.drop_zero, List.take_succ_cons, List.take_zero, List.drop_succ_cons] at h0 h1
    have hx2 : xs.length = 2 := hxl
    have e0 : xs[0]? = some (xs[0]'(by omega)) := by simp
    have e1 : xs[1]? = some (xs[1]'(by omega)) := by simp
    obtain ⟨x0, q0, _, w0⟩ := DataW.trod_int Try.underlying3 (h0.trans e0)
    obtain ⟨x1, q1, _, w1⟩ := DataW.trod_int Try.underlying3 (h1.trans e1)
    simp only [List.cons.injEq, and_true] at q0 q1
    subst q0 q1
    exact ⟨x0, x1, rfl, wf64 w0, wf64 w1⟩
set_option maxRecDepth 100000 in
theorem open_lines {W : World} {base : Nat} {v : Value} {d : DataW H} {p : List MemPlace} (hv : Value.okWide Try.prog W .any base 36 v)
    (h : DataW.Trod enc Try.prog W 0 (fun _ => true) true 36 v d p) : ∃ (x0 : Int) (x1 : Int) , v = .agg #[.int .i64 x0, .int .i64 x1] ∧ (-9223372036854775808 ≤ x0 ∧ x0 ≤ 9223372036854775807) ∧ (-9223372036854775808 ≤ x1 ∧ x1 ≤ 9223372036854775807) := by
  obtain ⟨cs, rfl, hsz⟩ := okWide_struct Try.underlying36 hv
  obtain ⟨fuel, hf⟩ := h
  obtain ⟨x0, x1, e, hb⟩ := lines_of (cs := cs.toList) hf
  exact ⟨x0, x1, by rw [show cs = #[.int .i64 x0, .int .i64 x1] from Array.ext' e], hb⟩
set_option maxRecDepth 100000 in
theorem order_of {W : World} {n : Nat} {cs : List Value} {y : DataW H × List MemPlace}
    (h : DataW.trod enc Try.prog W 0 (fun _ => true) true n 58 cs = some y) : ∃ (v0 : Value) (v1 : Value) (x2 : Int) (l0 : List Fl.S) (l1 : List Fl.L), cs = [v0, v1, .int .i64 x2] ∧ Strips W v0 l0 ∧ Rols W v1 l1 ∧ (-9223372036854775808 ≤ x2 ∧ x2 ≤ 9223372036854775807) := by
  obtain ⟨xs, n', _, _, hlen, hxl, hf⟩ := DataW.trod_struct Try.underlying58 h
  have hl : cs.length = 3 := hlen.trans (by kernel_rfl)
  match cs, hl with
  | [c0, c1, c2], _ =>
    have h0 := hf 0 _ rfl
    have h1 := hf 1 _ rfl
    have h2 := hf 2 _ rfl
    have k0 : Try.prog.cellsOf 37 = 1 := by kernel_rfl
    have k1 : Try.prog.cellsOf 56 = 1 := by kernel_rfl
    have k2 : Try.prog.cellsOf 3 = 1 := by kernel_rfl
    simp only [List.getElem_toArray, List.getElem_cons_zero, List.getElem_cons_succ] at h0 h1 h2
    rw [k0] at h0
    rw [k1] at h1
    rw [k2] at h2
    simp only [List.drop_zero, List.take_succ_cons, List.take_zero, List.drop_succ_cons] at h0 h1 h2
    have hx2 : xs.length = 3 := hxl
    have e0 : xs[0]? = some (xs[0]'(by omega)) := by simp
    have e1 : xs[1]? = some (xs[1]'(by omega)) := by simp
    have e2 : xs[2]? = some (xs[2]'(by omega)) := by simp
    obtain ⟨l0, p0⟩ := strips_of (h0.trans e0)
    obtain ⟨l1, p1⟩ := rols_of (h1.trans e1)
    obtain ⟨x2, q2, _, w2⟩ := DataW.trod_int Try.underlying3 (h2.trans e2)
    simp only [List.cons.injEq, and_true] at q2
    subst q2
    exact ⟨c0, c1, x2, l0, l1, rfl, p0, p1, wf64 w2⟩
set_option maxRecDepth 100000 in
theorem open_order {W : World} {base : Nat} {v : Value} {d : DataW H} {p : List MemPlace} (hv : Value.okWide Try.prog W .any base 58 v)
    (h : DataW.Trod enc Try.prog W 0 (fun _ => true) true 58 v d p) : ∃ (v0 : Value) (v1 : Value) (x2 : Int) (l0 : List Fl.S) (l1 : List Fl.L), v = .agg #[v0, v1, .int .i64 x2] ∧ Strips W v0 l0 ∧ Rols W v1 l1 ∧ (-9223372036854775808 ≤ x2 ∧ x2 ≤ 9223372036854775807) := by
  obtain ⟨cs, rfl, hsz⟩ := okWide_struct Try.underlying58 hv
  obtain ⟨fuel, hf⟩ := h
  obtain ⟨v0, v1, x2, l0, l1, e, hb⟩ := order_of (cs := cs.toList) hf
  exact ⟨v0, v1, x2, l0, l1, by rw [show cs = #[v0, v1, .int .i64 x2] from Array.ext' e], hb⟩
end
end Go.Proofs.Ytpobkdbnldogcaa
