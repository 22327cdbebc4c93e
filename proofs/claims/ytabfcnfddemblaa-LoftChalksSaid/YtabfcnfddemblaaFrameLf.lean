/- How hangings, lofts, goods and loads among the arguments are opened. -/
import Derived.Test.YtabfcnfddemblaaFrameU
import Derived.Test.YtabfcnfddemblaaLfM
import Derived.ChangeSlices
import Derived.Deep.Slices
import Derived.Lib.SmallJoins
namespace Go.Proofs.Ytabfcnfddemblaa.Lo
open Go.ChangeShapes Go.WideShapes Go.ChangeAt Go.RowKit Go.Deep

theorem spot_none {w : World} {a : Addr} {v : Value} (h : w.cell? a = some v) : a.spot = none ∧ a.block < w.heap.size := by
  unfold World.cell? at h
  split at h
  · rename_i c e f hb
    have hlt := (Array.getElem?_eq_some_iff.1 hb).1
    cases hs : a.spot with
    | none => exact ⟨rfl, hlt⟩
    | some x => rw [hs] at h; simp at h
  · simp at h

section
variable {H : Type} {enc : TypeId × Value → H}

theorem add_plain (b off n : Nat) : (⟨b, off, none⟩ : Addr).add n = ⟨b, off + n, none⟩ := by
  unfold Addr.add
  split
  · rename_i e; subst e; rfl
  · rfl

/-- A list that came in, whatever its elements. -/
theorem rows_of {α : Type} [Inhabited α] {W : World} {fuel : Nat} {v : Value} {y : DataW H × List MemPlace} {T E : TypeId} {c : Nat} (hT : Try.prog.underlying T = some (.slice E)) (hC : Try.prog.cellsOf E = c) (hc0 : 0 < c) (At : Nat → Nat → α → Prop)
    (hone : ∀ {n : Nat} {cs : List Value} {y : DataW H × List MemPlace}, DataW.trod enc Try.prog W 0 (fun _ => true) true n E cs = some y → ∃ x : α, ∀ b off, (∀ j, j < c → W.cell? ⟨b, off + j, none⟩ = cs[j]?) → At b off x)
    (hlen : ∀ {n : Nat} {cs : List Value} {y : DataW H × List MemPlace}, DataW.trod enc Try.prog W 0 (fun _ => true) true n E cs = some y → cs.length = c)
    (h : DataW.trod enc Try.prog W 0 (fun _ => true) true fuel T [v] = some y) :
    ∃ xs : List α, (∃ a k, v = .slice a 0 k ∧ xs = [] ∧ (a = none → k = 0)) ∨ ∃ b off cap, v = .slice (some ⟨b, off, none⟩) xs.length cap ∧ xs.length ≤ cap ∧ b < W.heap.size ∧ ∀ k, k < xs.length → At b (off + k * c) (xs.getD k default) := by
  rcases open_slice hT h with ⟨hcs, _⟩ | ⟨a, len, cap, m, n, D, Pl, hcs, _, hl, _, hm, _, hi⟩
  · simp only [List.cons.injEq, and_true] at hcs
    subst hcs
    exact ⟨[], .inl ⟨none, 0, rfl, rfl, fun _ => rfl⟩⟩
  · simp only [List.cons.injEq, and_true] at hcs
    subst hcs
    simp only [if_true] at hm
    rcases Nat.eq_zero_or_pos len with rfl | hpos
    · exact ⟨[], .inl ⟨some a, cap, rfl, rfl, fun h => by cases h⟩⟩
    · have hr : ∀ i, i < len → ∃ cs : List Value, cs.length = c ∧ (∀ j, j < c → W.cell? (a.add (i * c + j)) = cs[j]?) ∧ ∃ x : α, ∀ b off, (∀ j, j < c → W.cell? ⟨b, off + j, none⟩ = cs[j]?) → At b off x := by
        intro i hil
        obtain ⟨cs', hc, ht⟩ := hi i (by omega)
        rw [hC] at hc
        obtain ⟨x, hx⟩ := hone ht
        obtain ⟨_, _, hat⟩ := World.cells?_some hc
        exact ⟨cs', hlen ht, fun j hj => by rw [← hat j hj, Go.Deep.add_add], x, hx⟩
      obtain ⟨b, off, spot⟩ := a
      obtain ⟨cs0, hl0, hr0, _⟩ := hr 0 hpos
      have h0 := hr0 0 (by omega)
      rw [show (Addr.mk b off spot).add (0 * c + 0) = ⟨b, off, spot⟩ by simp [Addr.add], List.getElem?_eq_getElem (by omega)] at h0
      obtain ⟨hsp, hb⟩ := spot_none h0
      simp only at hsp hb
      subst hsp
      have hch : ∃ f : Nat → α, ∀ i, i < len → At b (off + i * c) (f i) := by
        refine ⟨fun i => if hil : i < len then Classical.choose (Classical.choose_spec (hr i hil)).2.2 else default, fun i hil => ?_⟩
        dsimp only
        rw [dif_pos hil]
        refine Classical.choose_spec (Classical.choose_spec (hr i hil)).2.2 b (off + i * c) fun j hj => ?_
        rw [← (Classical.choose_spec (hr i hil)).2.1 j hj, add_plain, Nat.add_assoc]
      obtain ⟨f, hf⟩ := hch
      refine ⟨(List.range len).map f, .inr ⟨b, off, cap, by simp, by simp; omega, hb, fun k hk => ?_⟩⟩
      have hk' : k < len := by simpa using hk
      rw [show ((List.range len).map f).getD k default = f k by simp [List.getD, hk']]
      exact hf k hk'



theorem rowsOf_of {α : Type} [Inhabited α] {c : Nat} {cs : α → List Value} {w : World} {v : Value}
    (h : ∃ xs : List α, (∃ a k, v = .slice a 0 k ∧ xs = [] ∧ (a = none → k = 0)) ∨ ∃ b off cap, v = .slice (some ⟨b, off, none⟩) xs.length cap ∧ xs.length ≤ cap ∧ b < w.heap.size ∧ ∀ k, k < xs.length → CellsAt (cs (xs.getD k default)) w b (off + k * c)) : ∃ xs, RowsOf c cs w v xs := by
  obtain ⟨xs, ⟨a, k, h1, h2, _⟩ | ⟨b, off, cap, h1, hc, h3, h4⟩⟩ := h
  · exact ⟨[], a, k, h1, Nat.zero_le _, fun k hk => by simp at hk⟩
  · refine ⟨xs, _, cap, h1, hc, fun k hk => ⟨b, off, rfl, h3, ?_⟩⟩
    have := h4 k hk
    rwa [show xs.getD k default = xs[k] by simp [hk]] at this
theorem wf64 {a : Int} (h : Lit.wf (.int .i64 a) = true) : -9223372036854775808 ≤ a ∧ a ≤ 9223372036854775807 := by
  simpa [Lit.wf, IntKind.min, IntKind.max, IntKind.signed, IntKind.bits] using h
theorem rowsX_of {α : Type} [Inhabited α] {c : Nat} {At : World → Nat → Nat → α → Prop} {w : World} {v : Value}
    (h : ∃ xs : List α, (∃ a k, v = .slice a 0 k ∧ xs = [] ∧ (a = none → k = 0)) ∨ ∃ b off cap, v = .slice (some ⟨b, off, none⟩) xs.length cap ∧ xs.length ≤ cap ∧ b < w.heap.size ∧ ∀ k, k < xs.length → At w b (off + k * c) (xs.getD k default)) : ∃ xs, RowsX c At w v xs := by
  obtain ⟨xs, ⟨a, k, h1, h2, _⟩ | ⟨b, off, cap, h1, hc, h3, h4⟩⟩ := h
  · exact ⟨[], a, k, h1, Nat.zero_le _, fun k hk => by simp at hk⟩
  · refine ⟨xs, _, cap, h1, hc, fun k hk => ⟨b, off, rfl, h3, ?_⟩⟩
    have := h4 k hk
    rwa [show xs.getD k default = xs[k] by simp [hk]] at this
set_option maxRecDepth 100000 in
theorem int1_of {W : World} {n : Nat} {cs : List Value} {y : DataW H × List MemPlace}
    (h : DataW.trod enc Try.prog W 0 (fun _ => true) true n 3 cs = some y) : ∃ x : Int, cs = intL x := by
  obtain ⟨x, e, _, w⟩ := DataW.trod_int Try.underlying3 h
  exact ⟨x, e⟩
set_option maxRecDepth 100000 in
theorem ints_of {W : World} {fuel : Nat} {v : Value} {y : DataW H × List MemPlace}
    (h : DataW.trod enc Try.prog W 0 (fun _ => true) true fuel 24 [v] = some y) : ∃ xs, Ints W v xs := by
  refine rowsOf_of (cs := intL) (rows_of (α := Int) Try.underlying24 (by kernel_rfl) (by decide) (fun b off r => CellsAt (intL r) W b off) ?_ ?_ h)
  · intro n cs y h
    obtain ⟨p, rfl⟩ := int1_of h
    exact ⟨p, fun b off hc j u hj => (hc j (List.getElem?_eq_some_iff.1 hj).1).trans hj⟩
  · intro n cs y h
    obtain ⟨p, rfl⟩ := int1_of h
    rfl
set_option maxRecDepth 100000 in
theorem open_ints {W : World} {base : Nat} {v : Value} {d : DataW H} {p : List MemPlace} (hv : Value.okWide Try.prog W .any base 24 v)
    (h : DataW.Trod enc Try.prog W 0 (fun _ => true) true 24 v d p) : ∃ xs, Ints W v xs := by
  obtain ⟨a, l, c, rfl⟩ := okWide_slice Try.underlying24 hv
  obtain ⟨fuel, hf⟩ := h
  exact ints_of hf
set_option maxRecDepth 100000 in
theorem hang_of {W : World} {n : Nat} {cs : List Value} {y : DataW H × List MemPlace}
    (h : DataW.trod enc Try.prog W 0 (fun _ => true) true n 23 cs = some y) : ∃ r : Lf.H, cs = hangC r ∧ (-9223372036854775808 ≤ r.d ∧ r.d ≤ 9223372036854775807) ∧ (-9223372036854775808 ≤ r.s ∧ r.s ≤ 9223372036854775807) ∧ (-9223372036854775808 ≤ r.y ∧ r.y ≤ 9223372036854775807) ∧ (-9223372036854775808 ≤ r.r ∧ r.r ≤ 9223372036854775807) ∧ (-9223372036854775808 ≤ r.f ∧ r.f ≤ 9223372036854775807) := by
  obtain ⟨xs, n', _, _, hlen, hxl, hf⟩ := DataW.trod_struct Try.underlying23 h
  have hl : cs.length = 5 := hlen.trans (by kernel_rfl)
  match cs, hl with
  | [c0, c1, c2, c3, c4], _ =>
    have h0 := hf 0 _ rfl
    have h1 := hf 1 _ rfl
    have h2 := hf 2 _ rfl
    have h3 := hf 3 _ rfl
    have h4 := hf 4 _ rfl
    have k0 : Try.prog.cellsOf 3 = 1 := by kernel_rfl
    simp only [List.getElem_toArray, List.getElem_cons_zero, List.getElem_cons_succ] at h0 h1 h2 h3 h4
    rw [k0] at h0 h1 h2 h3 h4
    simp only [List.drop_zero, List.take_succ_cons, List.take_zero, List.drop_succ_cons] at h0 h1 h2 h3 h4
    have hx2 : xs.length = 5 := hxl
    have e0 : xs[0]? = some (xs[0]'(by omega)) := by simp
    have e1 : xs[1]? = some (xs[1]'(by omega)) := by simp
    have e2 : xs[2]? = some (xs[2]'(by omega)) := by simp
    have e3 : xs[3]? = some (xs[3]'(by omega)) := by simp
    have e4 : xs[4]? = some (xs[4]'(by omega)) := by simp
    obtain ⟨l0, q0, _, w0⟩ := DataW.trod_int Try.underlying3 (h0.trans e0)
    obtain ⟨l1, q1, _, w1⟩ := DataW.trod_int Try.underlying3 (h1.trans e1)
    obtain ⟨l2, q2, _, w2⟩ := DataW.trod_int Try.underlying3 (h2.trans e2)
    obtain ⟨l3, q3, _, w3⟩ := DataW.trod_int Try.underlying3 (h3.trans e3)
    obtain ⟨l4, q4, _, w4⟩ := DataW.trod_int Try.underlying3 (h4.trans e4)
    simp only [List.cons.injEq, and_true] at q0 q1 q2 q3 q4
    subst q0 q1 q2 q3 q4
    exact ⟨⟨l0, l1, l2, l3, l4⟩, rfl, wf64 w0, wf64 w1, wf64 w2, wf64 w3, wf64 w4⟩
set_option maxRecDepth 100000 in
theorem open_hang {W : World} {base : Nat} {v : Value} {d : DataW H} {p : List MemPlace} (hv : Value.okWide Try.prog W .any base 23 v)
    (h : DataW.Trod enc Try.prog W 0 (fun _ => true) true 23 v d p) : ∃ r : Lf.H, v = hangV r ∧ (-9223372036854775808 ≤ r.d ∧ r.d ≤ 9223372036854775807) ∧ (-9223372036854775808 ≤ r.s ∧ r.s ≤ 9223372036854775807) ∧ (-9223372036854775808 ≤ r.y ∧ r.y ≤ 9223372036854775807) ∧ (-9223372036854775808 ≤ r.r ∧ r.r ≤ 9223372036854775807) ∧ (-9223372036854775808 ≤ r.f ∧ r.f ≤ 9223372036854775807) := by
  obtain ⟨cs, rfl, hsz⟩ := okWide_struct Try.underlying23 hv
  obtain ⟨fuel, hf⟩ := h
  obtain ⟨r, e, hb⟩ := hang_of (cs := cs.toList) hf
  exact ⟨r, by rw [show cs = (hangC r).toArray from Array.ext' e]; rfl, hb⟩
set_option maxRecDepth 100000 in
theorem hangs_of {W : World} {fuel : Nat} {v : Value} {y : DataW H × List MemPlace}
    (h : DataW.trod enc Try.prog W 0 (fun _ => true) true fuel 41 [v] = some y) : ∃ xs, Hangs W v xs := by
  refine rowsOf_of (cs := hangC) (rows_of (α := Lf.H) Try.underlying41 (by kernel_rfl) (by decide) (fun b off r => CellsAt (hangC r) W b off) ?_ ?_ h)
  · intro n cs y h
    obtain ⟨p, rfl, _⟩ := hang_of h
    exact ⟨p, fun b off hc j u hj => (hc j (List.getElem?_eq_some_iff.1 hj).1).trans hj⟩
  · intro n cs y h
    obtain ⟨p, rfl, _⟩ := hang_of h
    rfl
set_option maxRecDepth 100000 in
theorem open_hangs {W : World} {base : Nat} {v : Value} {d : DataW H} {p : List MemPlace} (hv : Value.okWide Try.prog W .any base 41 v)
    (h : DataW.Trod enc Try.prog W 0 (fun _ => true) true 41 v d p) : ∃ xs, Hangs W v xs := by
  obtain ⟨a, l, c, rfl⟩ := okWide_slice Try.underlying41 hv
  obtain ⟨fuel, hf⟩ := h
  exact hangs_of hf
set_option maxRecDepth 100000 in
theorem good_of {W : World} {n : Nat} {cs : List Value} {y : DataW H × List MemPlace}
    (h : DataW.trod enc Try.prog W 0 (fun _ => true) true n 84 cs = some y) : ∃ r : Lf.G, cs = gdC r ∧ (-9223372036854775808 ≤ r.p ∧ r.p ≤ 9223372036854775807) ∧ (-9223372036854775808 ≤ r.n ∧ r.n ≤ 9223372036854775807) ∧ (-9223372036854775808 ≤ r.m ∧ r.m ≤ 9223372036854775807) ∧ (-9223372036854775808 ≤ r.a ∧ r.a ≤ 9223372036854775807) ∧ (-9223372036854775808 ≤ r.u ∧ r.u ≤ 9223372036854775807) := by
  obtain ⟨xs, n', _, _, hlen, hxl, hf⟩ := DataW.trod_struct Try.underlying84 h
  have hl : cs.length = 5 := hlen.trans (by kernel_rfl)
  match cs, hl with
  | [c0, c1, c2, c3, c4], _ =>
    have h0 := hf 0 _ rfl
    have h1 := hf 1 _ rfl
    have h2 := hf 2 _ rfl
    have h3 := hf 3 _ rfl
    have h4 := hf 4 _ rfl
    have k0 : Try.prog.cellsOf 3 = 1 := by kernel_rfl
    simp only [List.getElem_toArray, List.getElem_cons_zero, List.getElem_cons_succ] at h0 h1 h2 h3 h4
    rw [k0] at h0 h1 h2 h3 h4
    simp only [List.drop_zero, List.take_succ_cons, List.take_zero, List.drop_succ_cons] at h0 h1 h2 h3 h4
    have hx2 : xs.length = 5 := hxl
    have e0 : xs[0]? = some (xs[0]'(by omega)) := by simp
    have e1 : xs[1]? = some (xs[1]'(by omega)) := by simp
    have e2 : xs[2]? = some (xs[2]'(by omega)) := by simp
    have e3 : xs[3]? = some (xs[3]'(by omega)) := by simp
    have e4 : xs[4]? = some (xs[4]'(by omega)) := by simp
    obtain ⟨l0, q0, _, w0⟩ := DataW.trod_int Try.underlying3 (h0.trans e0)
    obtain ⟨l1, q1, _, w1⟩ := DataW.trod_int Try.underlying3 (h1.trans e1)
    obtain ⟨l2, q2, _, w2⟩ := DataW.trod_int Try.underlying3 (h2.trans e2)
    obtain ⟨l3, q3, _, w3⟩ := DataW.trod_int Try.underlying3 (h3.trans e3)
    obtain ⟨l4, q4, _, w4⟩ := DataW.trod_int Try.underlying3 (h4.trans e4)
    simp only [List.cons.injEq, and_true] at q0 q1 q2 q3 q4
    subst q0 q1 q2 q3 q4
    exact ⟨⟨l0, l1, l2, l3, l4⟩, rfl, wf64 w0, wf64 w1, wf64 w2, wf64 w3, wf64 w4⟩
set_option maxRecDepth 100000 in
theorem open_good {W : World} {base : Nat} {v : Value} {d : DataW H} {p : List MemPlace} (hv : Value.okWide Try.prog W .any base 84 v)
    (h : DataW.Trod enc Try.prog W 0 (fun _ => true) true 84 v d p) : ∃ r : Lf.G, v = gdV r ∧ (-9223372036854775808 ≤ r.p ∧ r.p ≤ 9223372036854775807) ∧ (-9223372036854775808 ≤ r.n ∧ r.n ≤ 9223372036854775807) ∧ (-9223372036854775808 ≤ r.m ∧ r.m ≤ 9223372036854775807) ∧ (-9223372036854775808 ≤ r.a ∧ r.a ≤ 9223372036854775807) ∧ (-9223372036854775808 ≤ r.u ∧ r.u ≤ 9223372036854775807) := by
  obtain ⟨cs, rfl, hsz⟩ := okWide_struct Try.underlying84 hv
  obtain ⟨fuel, hf⟩ := h
  obtain ⟨r, e, hb⟩ := good_of (cs := cs.toList) hf
  exact ⟨r, by rw [show cs = (gdC r).toArray from Array.ext' e]; rfl, hb⟩
set_option maxRecDepth 100000 in
theorem goods_of {W : World} {fuel : Nat} {v : Value} {y : DataW H × List MemPlace}
    (h : DataW.trod enc Try.prog W 0 (fun _ => true) true fuel 72 [v] = some y) : ∃ xs, Goods W v xs := by
  refine rowsOf_of (cs := gdC) (rows_of (α := Lf.G) Try.underlying72 (by kernel_rfl) (by decide) (fun b off r => CellsAt (gdC r) W b off) ?_ ?_ h)
  · intro n cs y h
    obtain ⟨p, rfl, _⟩ := good_of h
    exact ⟨p, fun b off hc j u hj => (hc j (List.getElem?_eq_some_iff.1 hj).1).trans hj⟩
  · intro n cs y h
    obtain ⟨p, rfl, _⟩ := good_of h
    rfl
set_option maxRecDepth 100000 in
theorem open_goods {W : World} {base : Nat} {v : Value} {d : DataW H} {p : List MemPlace} (hv : Value.okWide Try.prog W .any base 72 v)
    (h : DataW.Trod enc Try.prog W 0 (fun _ => true) true 72 v d p) : ∃ xs, Goods W v xs := by
  obtain ⟨a, l, c, rfl⟩ := okWide_slice Try.underlying72 hv
  obtain ⟨fuel, hf⟩ := h
  exact goods_of hf
set_option maxRecDepth 100000 in
theorem loft_of {W : World} {n : Nat} {cs : List Value} {y : DataW H × List MemPlace}
    (h : DataW.trod enc Try.prog W 0 (fun _ => true) true n 63 cs = some y) : ∃ (x0 : Int) (v1 : Value) (l1 : List Int), cs = [.int .i64 x0, v1] ∧ (-9223372036854775808 ≤ x0 ∧ x0 ≤ 9223372036854775807) ∧ Ints W v1 l1 := by
  obtain ⟨xs, n', _, _, hlen, hxl, hf⟩ := DataW.trod_struct Try.underlying63 h
  have hl : cs.length = 2 := hlen.trans (by kernel_rfl)
  match cs, hl with
  | [c0, c1], _ =>
    have h0 := hf 0 _ rfl
    have h1 := hf 1 _ rfl
    have k0 : Try.prog.cellsOf 3 = 1 := by kernel_rfl
    have k1 : Try.prog.cellsOf 24 = 1 := by kernel_rfl
    simp only [List.getElem_toArray, List.getElem_cons_zero, List.getElem_cons_succ] at h0 h1
    rw [k0] at h0
    rw [k1] at h1
    simp only [List.drop_zero, List.take_succ_cons, List.take_zero, List.drop_succ_cons] at h0 h1
    have hx2 : xs.length = 2 := hxl
    have e0 : xs[0]? = some (xs[0]'(by omega)) := by simp
    have e1 : xs[1]? = some (xs[1]'(by omega)) := by simp
    obtain ⟨x0, q0, _, w0⟩ := DataW.trod_int Try.underlying3 (h0.trans e0)
    obtain ⟨l1, p1⟩ := ints_of (h1.trans e1)
    simp only [List.cons.injEq, and_true] at q0
    subst q0
    exact ⟨x0, c1, l1, rfl, wf64 w0, p1⟩
set_option maxRecDepth 100000 in
theorem open_loft {W : World} {base : Nat} {v : Value} {d : DataW H} {p : List MemPlace} (hv : Value.okWide Try.prog W .any base 63 v)
    (h : DataW.Trod enc Try.prog W 0 (fun _ => true) true 63 v d p) : ∃ (x0 : Int) (v1 : Value) (l1 : List Int), v = .agg #[.int .i64 x0, v1] ∧ (-9223372036854775808 ≤ x0 ∧ x0 ≤ 9223372036854775807) ∧ Ints W v1 l1 := by
  obtain ⟨cs, rfl, hsz⟩ := okWide_struct Try.underlying63 hv
  obtain ⟨fuel, hf⟩ := h
  obtain ⟨x0, v1, l1, e, hb⟩ := loft_of (cs := cs.toList) hf
  exact ⟨x0, v1, l1, by rw [show cs = #[.int .i64 x0, v1] from Array.ext' e], hb⟩
set_option maxRecDepth 100000 in
theorem lofts_of {W : World} {fuel : Nat} {v : Value} {y : DataW H × List MemPlace}
    (h : DataW.trod enc Try.prog W 0 (fun _ => true) true fuel 64 [v] = some y) : ∃ xs, Lofts W v xs := by
  refine rowsX_of (rows_of (α := Lf.F) Try.underlying64 (by kernel_rfl) (by decide) (fun b off x => LofAt W b off x) ?_ ?_ h)
  · intro n cs y h
    obtain ⟨x, v, l, rfl, _, hl⟩ := loft_of h
    exact ⟨⟨x, l⟩, fun b off hc => ⟨v, ⟨hc 0 (by decide), hc 1 (by decide)⟩, hl⟩⟩
  · intro n cs y h
    obtain ⟨x, v, l, rfl, _⟩ := loft_of h
    rfl
set_option maxRecDepth 100000 in
theorem open_lofts {W : World} {base : Nat} {v : Value} {d : DataW H} {p : List MemPlace} (hv : Value.okWide Try.prog W .any base 64 v)
    (h : DataW.Trod enc Try.prog W 0 (fun _ => true) true 64 v d p) : ∃ xs, Lofts W v xs := by
  obtain ⟨a, l, c, rfl⟩ := okWide_slice Try.underlying64 hv
  obtain ⟨fuel, hf⟩ := h
  exact lofts_of hf
set_option maxRecDepth 100000 in
theorem load_of {W : World} {n : Nat} {cs : List Value} {y : DataW H × List MemPlace}
    (h : DataW.trod enc Try.prog W 0 (fun _ => true) true n 129 cs = some y) : ∃ (x0 : Int) (x1 : Int) (v2 : Value) (v3 : Value) (l2 : List Int) (l3 : List Int), cs = [.int .i64 x0, .int .i64 x1, v2, v3] ∧ (-9223372036854775808 ≤ x0 ∧ x0 ≤ 9223372036854775807) ∧ (-9223372036854775808 ≤ x1 ∧ x1 ≤ 9223372036854775807) ∧ Ints W v2 l2 ∧ Ints W v3 l3 := by
  obtain ⟨xs, n', _, _, hlen, hxl, hf⟩ := DataW.trod_struct Try.underlying129 h
  have hl : cs.length = 4 := hlen.trans (by kernel_rfl)
  match cs, hl with
  | [c0, c1, c2, c3], _ =>
    have h0 := hf 0 _ rfl
    have h1 := hf 1 _ rfl
    have h2 := hf 2 _ rfl
    have h3 := hf 3 _ rfl
    have k0 : Try.prog.cellsOf 3 = 1 := by kernel_rfl
    have k1 : Try.prog.cellsOf 24 = 1 := by kernel_rfl
    simp only [List.getElem_toArray, List.getElem_cons_zero, List.getElem_cons_succ] at h0 h1 h2 h3
    rw [k0] at h0
    rw [k0] at h1
    rw [k1] at h2
    rw [k1] at h3
    simp only [List.drop_zero, List.take_succ_cons, List.take_zero, List.drop_succ_cons] at h0 h1 h2 h3
    have hx2 : xs.length = 4 := hxl
    have e0 : xs[0]? = some (xs[0]'(by omega)) := by simp
    have e1 : xs[1]? = some (xs[1]'(by omega)) := by simp
    have e2 : xs[2]? = some (xs[2]'(by omega)) := by simp
    have e3 : xs[3]? = some (xs[3]'(by omega)) := by simp
    obtain ⟨x0, q0, _, w0⟩ := DataW.trod_int Try.underlying3 (h0.trans e0)
    obtain ⟨x1, q1, _, w1⟩ := DataW.trod_int Try.underlying3 (h1.trans e1)
    obtain ⟨l2, p2⟩ := ints_of (h2.trans e2)
    obtain ⟨l3, p3⟩ := ints_of (h3.trans e3)
    simp only [List.cons.injEq, and_true] at q0 q1
    subst q0 q1
    exact ⟨x0, x1, c2, c3, l2, l3, rfl, wf64 w0, wf64 w1, p2, p3⟩
set_option maxRecDepth 100000 in
theorem loads_of {W : World} {fuel : Nat} {v : Value} {y : DataW H × List MemPlace}
    (h : DataW.trod enc Try.prog W 0 (fun _ => true) true fuel 75 [v] = some y) : ∃ xs, Loads W v xs := by
  refine rowsX_of (rows_of (α := Lf.L) Try.underlying75 (by kernel_rfl) (by decide) (fun b off x => LoadAt W b off x) ?_ ?_ h)
  · intro n cs y h
    obtain ⟨x, x2, u, v, l, l2, rfl, _, _, hl, hl2⟩ := load_of h
    exact ⟨⟨x, x2, l, l2⟩, fun b off hc => ⟨u, v, ⟨hc 0 (by decide), hc 1 (by decide), hc 2 (by decide), hc 3 (by decide)⟩, hl, hl2⟩⟩
  · intro n cs y h
    obtain ⟨x, x2, u, v, l, l2, rfl, _⟩ := load_of h
    rfl
set_option maxRecDepth 100000 in
theorem open_loads {W : World} {base : Nat} {v : Value} {d : DataW H} {p : List MemPlace} (hv : Value.okWide Try.prog W .any base 75 v)
    (h : DataW.Trod enc Try.prog W 0 (fun _ => true) true 75 v d p) : ∃ xs, Loads W v xs := by
  obtain ⟨a, l, c, rfl⟩ := okWide_slice Try.underlying75 hv
  obtain ⟨fuel, hf⟩ := h
  exact loads_of hf
set_option maxRecDepth 100000 in
theorem firm_of {W : World} {n : Nat} {cs : List Value} {y : DataW H × List MemPlace}
    (h : DataW.trod enc Try.prog W 0 (fun _ => true) true n 74 cs = some y) : ∃ (v0 : Value) (v1 : Value) (l0 : List Lf.F) (l1 : List Lf.G), cs = [v0, v1] ∧ Lofts W v0 l0 ∧ Goods W v1 l1 := by
  obtain ⟨xs, n', _, _, hlen, hxl, hf⟩ := DataW.trod_struct Try.underlying74 h
  have hl : cs.length = 2 := hlen.trans (by kernel_rfl)
  match cs, hl with
  | [c0, c1], _ =>
    have h0 := hf 0 _ rfl
    have h1 := hf 1 _ rfl
    have k0 : Try.prog.cellsOf 64 = 1 := by kernel_rfl
    have k1 : Try.prog.cellsOf 72 = 1 := by kernel_rfl
    simp only [List.getElem_toArray, List.getElem_cons_zero, List.getElem_cons_succ] at h0 h1
    rw [k0] at h0
    rw [k1] at h1
    simp only [List.drop_zero, List.take_succ_cons, List.take_zero, List.drop_succ_cons] at h0 h1
    have hx2 : xs.length = 2 := hxl
    have e0 : xs[0]? = some (xs[0]'(by omega)) := by simp
    have e1 : xs[1]? = some (xs[1]'(by omega)) := by simp
    obtain ⟨l0, p0⟩ := lofts_of (h0.trans e0)
    obtain ⟨l1, p1⟩ := goods_of (h1.trans e1)
    exact ⟨c0, c1, l0, l1, rfl, p0, p1⟩
set_option maxRecDepth 100000 in
theorem open_firm {W : World} {base : Nat} {v : Value} {d : DataW H} {p : List MemPlace} (hv : Value.okWide Try.prog W .any base 74 v)
    (h : DataW.Trod enc Try.prog W 0 (fun _ => true) true 74 v d p) : ∃ (v0 : Value) (v1 : Value) (l0 : List Lf.F) (l1 : List Lf.G), v = .agg #[v0, v1] ∧ Lofts W v0 l0 ∧ Goods W v1 l1 := by
  obtain ⟨cs, rfl, hsz⟩ := okWide_struct Try.underlying74 hv
  obtain ⟨fuel, hf⟩ := h
  obtain ⟨v0, v1, l0, l1, e, hb⟩ := firm_of (cs := cs.toList) hf
  exact ⟨v0, v1, l0, l1, by rw [show cs = #[v0, v1] from Array.ext' e], hb⟩
set_option maxRecDepth 100000 in
theorem span_of {W : World} {n : Nat} {cs : List Value} {y : DataW H × List MemPlace}
    (h : DataW.trod enc Try.prog W 0 (fun _ => true) true n 89 cs = some y) : ∃ (x0 : Int) (x1 : Int) , cs = [.int .i64 x0, .int .i64 x1] ∧ (-9223372036854775808 ≤ x0 ∧ x0 ≤ 9223372036854775807) ∧ (-9223372036854775808 ≤ x1 ∧ x1 ≤ 9223372036854775807) := by
  obtain ⟨xs, n', _, _, hlen, hxl, hf⟩ := DataW.trod_struct Try.underlying89 h
  have hl : cs.length = 2 := hlen.trans (by kernel_rfl)
  match cs, hl with
  | [c0, c1], _ =>
    have h0 := hf 0 _ rfl
    have h1 := hf 1 _ rfl
    have k0 : Try.prog.cellsOf 3 = 1 := by kernel_rfl
    simp only [List.getElem_toArray, List.getElem_cons_zero, List.getElem_cons_succ] at h0 h1
    rw [k0] at h0
    rw [k0] at h1
    simp only [List.drop_zero, List.take_succ_cons, List.take_zero, List.drop_succ_cons] at h0 h1
    have hx2 : xs.length = 2 := hxl
    have e0 : xs[0]? = some (xs[0]'(by omega)) := by simp
    have e1 : xs[1]? = some (xs[1]'(by omega)) := by simp
    obtain ⟨x0, q0, _, w0⟩ := DataW.trod_int Try.underlying3 (h0.trans e0)
    obtain ⟨x1, q1, _, w1⟩ := DataW.trod_int Try.underlying3 (h1.trans e1)
    simp only [List.cons.injEq, and_true] at q0 q1
    subst q0 q1
    exact ⟨x0, x1, rfl, wf64 w0, wf64 w1⟩
set_option maxRecDepth 100000 in
theorem open_span {W : World} {base : Nat} {v : Value} {d : DataW H} {p : List MemPlace} (hv : Value.okWide Try.prog W .any base 89 v)
    (h : DataW.Trod enc Try.prog W 0 (fun _ => true) true 89 v d p) : ∃ (x0 : Int) (x1 : Int) , v = .agg #[.int .i64 x0, .int .i64 x1] ∧ (-9223372036854775808 ≤ x0 ∧ x0 ≤ 9223372036854775807) ∧ (-9223372036854775808 ≤ x1 ∧ x1 ≤ 9223372036854775807) := by
  obtain ⟨cs, rfl, hsz⟩ := okWide_struct Try.underlying89 hv
  obtain ⟨fuel, hf⟩ := h
  obtain ⟨x0, x1, e, hb⟩ := span_of (cs := cs.toList) hf
  exact ⟨x0, x1, by rw [show cs = #[.int .i64 x0, .int .i64 x1] from Array.ext' e], hb⟩
end
end Go.Proofs.Ytabfcnfddemblaa.Lo
