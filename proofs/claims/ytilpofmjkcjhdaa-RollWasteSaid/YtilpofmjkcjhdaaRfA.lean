/- The frame that all laws of the seat share: a law whose walk ends in 'true' and leaves all that was there as it was meets its row; the listed variables at the witness; how a fraction among the arguments is opened. How a list of runs among the arguments is opened. How a list of articles, of pieces, or of numbers among the arguments is opened. How structs of three and four numbers among the arguments are opened. -/
import Derived.Test.YtilpofmjkcjhdaaRows
import Derived.WalkKit
import Derived.ProofKit
import Derived.OpenShut
import Derived.Deep.DeepHandedRow
import Derived.Lib.LaidTab
import Derived.Lib.SmallJoins
import Derived.Carry
import Derived.LaidMore
import Derived.Test.YtilpofmjkcjhdaaRbA
import Derived.ChangeSlices
import Derived.Deep.Slices
import Derived.Test.YtilpofmjkcjhdaaRmA
namespace Go.Proofs.Ytilpofmjkcjhdaa
open Go.ChangeShapes Go.WideShapes Go.ChangeAt Go.RowKit Go.Deep

theorem Try.ownOk : ownKnob Try.prog.godebug = none := by kernel_rfl
theorem Try.laidOutOk : laidOutB Try.prog = true := by kernel_rfl

section
variable {H : Type} {enc : TypeId × Value → H} {P : Program}

/-- What came in reads behind the call as it did, whatever the types. -/
theorem trodAll_below (hl : laidOutB P = true) {W W' : World} (hb : Below W.heap.size W W') :
    ∀ {ts : List TypeId} {vs : List Value} {ds : List (DataW H)} {p : List MemPlace}, (ts.all fun t => P.readableRec t && decide (t < P.types.size)) = true → (∀ x ∈ p, x.block < W.heap.size) →
      DataW.TrodAll enc P W 0 (fun _ => true) true ts vs ds p → DataW.TrodAll enc P W' 0 (fun b => decide (b < W.heap.size)) true ts vs ds p
  | [], [], [], _, _, _, h => h
  | t :: ts, v :: vs, d :: ds, ps, hr, hlt, h => by
    simp only [List.all_cons, Bool.and_eq_true, decide_eq_true_eq] at hr
    obtain ⟨p, q, h1, h2, rfl⟩ := h
    exact ⟨p, q, Below.trod hl hr.1.1 hr.1.2 h1 hb (fun x hx => hlt x (List.mem_append.2 (Or.inl hx))),
      trodAll_below hl hb (by simpa using hr.2) (fun x hx => hlt x (List.mem_append.2 (Or.inr hx))) h2, rfl⟩
  | [], _ :: _, _, _, _, _, h => h.elim
  | [], [], _ :: _, _, _, _, h => h.elim
  | _ :: _, [], _, _, _, _, h => h.elim
  | _ :: _, _ :: _, [], _, _, _, h => h.elim

/-- A law's row is met by a walk that ends in 'true' and has turned nothing that was there. -/
theorem law_post (hl : laidOutB P = true) {f : Func} {s : ChangeSpec} {W W' : World} {args : Array Value} {ds gs : List (DataW H)} {before : List MemPlace} {b : TypeId}
    (hrd : (f.params.toList.all fun t => P.readableRec t && decide (t < P.types.size)) = true) (hv : s.vars = []) (hres : f.resultTypes = #[b]) (hbool : P.underlying b = some .bool)
    (hW : DataW.Whole enc P f.params.toList s.vars false W args.toList ds gs before)
    (hfn : (s.fn H (ds ++ gs)).results = [.lit (.bool true)] ∧ (s.fn H (ds ++ gs)).args = ds ∧ (s.fn H (ds ++ gs)).vars = [])
    (hb : Below W.heap.size W W') : s.post enc P f false true false false W args (.bool true) W' := by
  have hW' := hW
  obtain ⟨p, q, hA, hV, rfl, hfz, hnd⟩ := hW
  have hq : q = [] ∧ gs = [] := by
    rw [hv] at hV
    cases gs with
    | nil => exact ⟨hV, rfl⟩
    | cons _ _ => exact hV.elim
  obtain ⟨rfl, rfl⟩ := hq
  have hlt : ∀ x ∈ p, x.block < W.heap.size := fun x hx => hW'.lt x (List.mem_append.2 (Or.inl hx))
  refine ⟨ds, [], p ++ [], [], p, [], hW', ?_, ?_, ?_, hb.frame _, fun h => by cases h⟩
  · rw [hfn.1, hres]
    exact trodAll_cons_mk (shut_bool hbool _) trodAll_mk0
  · rw [hfn.2.1]
    exact trodAll_below hl hb hrd hlt hA
  · rw [hfn.2.2, hv]
    rfl

/-- A fraction that came in: two numbers. -/
theorem open_rat {W : World} {base : Nat} {t : TypeId} {f0 f1 : Field} {v : Value} {d : DataW H} {p : List MemPlace} (hs : P.underlying t = some (.struct #[f0, f1])) (hone : oneCellFields P #[f0, f1] = true) (hC : P.cellsOf t = 2)
    (i0 : P.underlying f0.type = some (.int .i64)) (i1 : P.underlying f1.type = some (.int .i64)) (hv : Value.okWide P W .any base t v) (h : DataW.Trod enc P W 0 (fun _ => true) true t v d p) :
    ∃ n m : Int, v = .agg #[.int .i64 n, .int .i64 m] ∧ (-9223372036854775808 ≤ n ∧ n ≤ 9223372036854775807) ∧ (-9223372036854775808 ≤ m ∧ m ≤ 9223372036854775807) := by
  obtain ⟨c0, c1, y0, y1, k, rfl, rfl, rfl, h0, h1⟩ := Joins.open_agg2 hs hone hC hv h
  obtain ⟨a, e0, _, wa⟩ := DataW.trod_int i0 h0
  obtain ⟨c, e1, _, wc⟩ := DataW.trod_int i1 h1
  simp at e0 e1
  subst e0 e1
  refine ⟨a, c, rfl, ?_, ?_⟩
  · simpa [Lit.wf, IntKind.min, IntKind.max, IntKind.signed, IntKind.bits] using wa
  · simpa [Lit.wf, IntKind.min, IntKind.max, IntKind.signed, IntKind.bits] using wc

/-- An int that came in. -/
theorem open_i64 {W : World} {base : Nat} {t : TypeId} {v : Value} {d : DataW H} {p : List MemPlace} (ht : P.underlying t = some (.int .i64)) (hv : Value.okWide P W .any base t v) (h : DataW.Trod enc P W 0 (fun _ => true) true t v d p) :
    ∃ n : Int, v = .int .i64 n ∧ (-9223372036854775808 ≤ n ∧ n ≤ 9223372036854775807) := by
  obtain ⟨x, rfl, _, _, wx⟩ := open_int ht hv h
  refine ⟨x, rfl, ?_⟩
  simpa [Lit.wf, IntKind.min, IntKind.max, IntKind.signed, IntKind.bits] using wx
end

/-- A world for the witness: the heap that the program's own initialisers leave. -/
noncomputable def Try.start (os : Os) : World := World.doorLaid Try.prog 4000 os
theorem Try.start_vars (os : Os) (args : Array Value) : ((Try.start os).forCall (fun _ _ => 0) ⟨#[], args, []⟩).variablesB Try.prog = true := by kernel_rfl
theorem Try.start_heap (os : Os) (args : Array Value) : (((Try.start os).forCall (fun _ _ => 0) ⟨#[], args, []⟩).heap.toList.drop Try.prog.globals.size).take ((begin Try.prog (fun _ _ => 0) default).world.heap.size - Try.prog.globals.size) =
    (begin Try.prog (fun _ _ => 0) default).world.heap.toList.drop Try.prog.globals.size := by kernel_rfl
end Go.Proofs.Ytilpofmjkcjhdaa
namespace Go.Proofs.Ytilpofmjkcjhdaa
open Go.ChangeShapes Go.WideShapes Go.ChangeAt Go.RowKit Go.Deep

theorem spot_none {w : World} {a : Addr} {v : Value} (h : w.cell? a = some v) : a.spot = none ∧ a.block < w.heap.size := by
  unfold World.cell? at h
  split at h
  · rename_i c e f hb
    have hlt := (Array.getElem?_eq_some_iff.1 hb).1
    cases hs : a.spot with
    | none => exact ⟨rfl, hlt⟩
    | some x => rw [hs] at h; simp at h
  · simp at h

section
variable {H : Type} {enc : TypeId × Value → H}

theorem add_plain (b off n : Nat) : (⟨b, off, none⟩ : Addr).add n = ⟨b, off + n, none⟩ := by
  unfold Addr.add
  split
  · rename_i e; subst e; rfl
  · rfl

set_option maxRecDepth 100000 in
/-- The four cells of a run. -/
theorem run_of {W : World} {n : Nat} {cs : List Value} {y : DataW H × List MemPlace}
    (h : DataW.trod enc Try.prog W 0 (fun _ => true) true n 73 cs = some y) : ∃ r : Bd.R, cs = runC r := by
  obtain ⟨xs, n', _, _, hlen, hxl, hf⟩ := DataW.trod_struct Try.underlying73 h
  have hl : cs.length = 4 := hlen.trans (by kernel_rfl)
  match cs, hl with
  | [c0, c1, c2, c3], _ =>
    have h0 := hf 0 _ rfl
    have h1 := hf 1 _ rfl
    have k0 : Try.prog.cellsOf 3 = 1 := by kernel_rfl
    have k1 : Try.prog.cellsOf 71 = 3 := by kernel_rfl
    simp only [List.getElem_toArray, List.getElem_cons_zero, List.getElem_cons_succ] at h0 h1
    rw [k0] at h0
    rw [k1] at h1
    simp only [List.drop_zero, List.take_succ_cons, List.take_zero, List.drop_succ_cons] at h0 h1
    have hx2 : xs.length = 2 := hxl
    have e0 : xs[0]? = some (xs[0]'(by omega)) := by simp
    have e1 : xs[1]? = some (xs[1]'(by omega)) := by simp
    have h0 := h0.trans e0
    have h1 := h1.trans e1
    obtain ⟨l, q0, _, _⟩ := DataW.trod_int Try.underlying3 h0
    obtain ⟨ms, n2, _, _, _, hml, hg⟩ := DataW.trod_struct Try.underlying71 h1
    have g0 := hg 0 _ rfl
    have g1 := hg 1 _ rfl
    have g2 := hg 2 _ rfl
    simp only [List.getElem_toArray, List.getElem_cons_zero, List.getElem_cons_succ] at g0 g1 g2
    rw [k0] at g0 g1 g2
    simp only [List.drop_zero, List.take_succ_cons, List.take_zero, List.drop_succ_cons] at g0 g1 g2
    have hm3 : ms.length = 3 := hml
    have m0 : ms[0]? = some (ms[0]'(by omega)) := by simp
    have m1 : ms[1]? = some (ms[1]'(by omega)) := by simp
    have m2 : ms[2]? = some (ms[2]'(by omega)) := by simp
    obtain ⟨t, q1, _, _⟩ := DataW.trod_int Try.underlying3 (g0.trans m0)
    obtain ⟨s, q2, _, _⟩ := DataW.trod_int Try.underlying3 (g1.trans m1)
    obtain ⟨f, q3, _, _⟩ := DataW.trod_int Try.underlying3 (g2.trans m2)
    simp only [List.cons.injEq, and_true] at q0 q1 q2 q3
    subst q0 q1 q2 q3
    exact ⟨⟨l, t, s, f⟩, rfl⟩

set_option maxRecDepth 100000 in
/-- A list of runs that came in. -/
theorem runs_of {W : World} {fuel : Nat} {v : Value} {y : DataW H × List MemPlace}
    (h : DataW.trod enc Try.prog W 0 (fun _ => true) true fuel 22 [v] = some y) : ∃ rs, Runs W v rs := by
  rcases open_slice Try.underlying22 h with ⟨hcs, _⟩ | ⟨a, len, cap, m, n, D, Pl, hcs, _, hl, _, hm, _, hi⟩
  · simp only [List.cons.injEq, and_true] at hcs
    subst hcs
    exact ⟨[], .inl ⟨none, 0, rfl, rfl, fun _ => rfl⟩⟩
  · simp only [List.cons.injEq, and_true] at hcs
    subst hcs
    simp only [if_true] at hm
    have hC : Try.prog.cellsOf 73 = 4 := by kernel_rfl
    rcases Nat.eq_zero_or_pos len with rfl | hpos
    · exact ⟨[], .inl ⟨some a, cap, rfl, rfl, fun h => by cases h⟩⟩
    · have hr : ∀ i, i < len → ∃ r : Bd.R, ∀ j, j < 4 → W.cell? (a.add (i * 4 + j)) = (runC r)[j]? := by
        intro i hil
        obtain ⟨cs', hc, ht⟩ := hi i (by omega)
        rw [hC] at hc
        obtain ⟨r, rfl⟩ := run_of ht
        obtain ⟨_, _, hat⟩ := World.cells?_some hc
        exact ⟨r, fun j hj => by rw [← hat j hj, Go.Deep.add_add]⟩
      obtain ⟨b, off, spot⟩ := a
      obtain ⟨r0, hr0⟩ := hr 0 hpos
      have h0 := hr0 0 (by omega)
      rw [show (Addr.mk b off spot).add (0 * 4 + 0) = ⟨b, off, spot⟩ by simp [Addr.add]] at h0
      obtain ⟨hsp, hb⟩ := spot_none (v := .int .i64 r0.l) (h0.trans rfl)
      simp only at hsp hb
      subst hsp
      have hch : ∃ f : Nat → Bd.R, ∀ i, i < len → ∀ j, j < 4 → W.cell? ⟨b, off + (i * 4 + j), none⟩ = (runC (f i))[j]? := by
        refine ⟨fun i => if hil : i < len then Classical.choose (hr i hil) else default, fun i hil j hj => ?_⟩
        dsimp only
        rw [dif_pos hil, ← add_plain]
        exact Classical.choose_spec (hr i hil) j hj
      obtain ⟨f, hf⟩ := hch
      refine ⟨(List.range len).map f, .inr ⟨b, off, cap, by simp, by simp; omega, hb, fun k hk => ?_⟩⟩
      have hk' : k < len := by simpa using hk
      rw [show ((List.range len).map f).getD k default = f k by simp [List.getD, hk']]
      have c0 := hf k hk' 0 (by omega)
      have c1 := hf k hk' 1 (by omega)
      have c2 := hf k hk' 2 (by omega)
      have c3 := hf k hk' 3 (by omega)
      rw [Nat.add_zero] at c0
      rw [← Nat.add_assoc] at c1 c2 c3
      exact ⟨c0, c1, c2, c3⟩

set_option maxRecDepth 100000 in
theorem open_runs {W : World} {base : Nat} {v : Value} {d : DataW H} {p : List MemPlace} (hv : Value.okWide Try.prog W .any base 22 v)
    (h : DataW.Trod enc Try.prog W 0 (fun _ => true) true 22 v d p) : ∃ rs, Runs W v rs := by
  obtain ⟨a, l, c, rfl⟩ := okWide_slice Try.underlying22 hv
  obtain ⟨fuel, hf⟩ := h
  exact runs_of hf
end
end Go.Proofs.Ytilpofmjkcjhdaa
namespace Go.Proofs.Ytilpofmjkcjhdaa
open Go.ChangeShapes Go.WideShapes Go.ChangeAt Go.RowKit Go.Deep
section
variable {H : Type} {enc : TypeId × Value → H}

/-- A list that came in, whatever its elements. -/
theorem rows_of {α : Type} [Inhabited α] {W : World} {fuel : Nat} {v : Value} {y : DataW H × List MemPlace} {T E : TypeId} {c : Nat} (hT : Try.prog.underlying T = some (.slice E)) (hC : Try.prog.cellsOf E = c) (hc0 : 0 < c) (At : Nat → Nat → α → Prop)
    (hone : ∀ {n : Nat} {cs : List Value} {y : DataW H × List MemPlace}, DataW.trod enc Try.prog W 0 (fun _ => true) true n E cs = some y → ∃ x : α, ∀ b off, (∀ j, j < c → W.cell? ⟨b, off + j, none⟩ = cs[j]?) → At b off x)
    (hlen : ∀ {n : Nat} {cs : List Value} {y : DataW H × List MemPlace}, DataW.trod enc Try.prog W 0 (fun _ => true) true n E cs = some y → cs.length = c)
    (h : DataW.trod enc Try.prog W 0 (fun _ => true) true fuel T [v] = some y) :
    ∃ xs : List α, (∃ a k, v = .slice a 0 k ∧ xs = [] ∧ (a = none → k = 0)) ∨ ∃ b off cap, v = .slice (some ⟨b, off, none⟩) xs.length cap ∧ xs.length ≤ cap ∧ b < W.heap.size ∧ ∀ k, k < xs.length → At b (off + k * c) (xs.getD k default) := by
  rcases open_slice hT h with ⟨hcs, _⟩ | ⟨a, len, cap, m, n, D, Pl, hcs, _, hl, _, hm, _, hi⟩
  · simp only [List.cons.injEq, and_true] at hcs
    subst hcs
    exact ⟨[], .inl ⟨none, 0, rfl, rfl, fun _ => rfl⟩⟩
  · simp only [List.cons.injEq, and_true] at hcs
    subst hcs
    simp only [if_true] at hm
    rcases Nat.eq_zero_or_pos len with rfl | hpos
    · exact ⟨[], .inl ⟨some a, cap, rfl, rfl, fun h => by cases h⟩⟩
    · have hr : ∀ i, i < len → ∃ cs : List Value, cs.length = c ∧ (∀ j, j < c → W.cell? (a.add (i * c + j)) = cs[j]?) ∧ ∃ x : α, ∀ b off, (∀ j, j < c → W.cell? ⟨b, off + j, none⟩ = cs[j]?) → At b off x := by
        intro i hil
        obtain ⟨cs', hc, ht⟩ := hi i (by omega)
        rw [hC] at hc
        obtain ⟨x, hx⟩ := hone ht
        obtain ⟨_, _, hat⟩ := World.cells?_some hc
        exact ⟨cs', hlen ht, fun j hj => by rw [← hat j hj, Go.Deep.add_add], x, hx⟩
      obtain ⟨b, off, spot⟩ := a
      obtain ⟨cs0, hl0, hr0, _⟩ := hr 0 hpos
      have h0 := hr0 0 (by omega)
      rw [show (Addr.mk b off spot).add (0 * c + 0) = ⟨b, off, spot⟩ by simp [Addr.add], List.getElem?_eq_getElem (by omega)] at h0
      obtain ⟨hsp, hb⟩ := spot_none h0
      simp only at hsp hb
      subst hsp
      have hch : ∃ f : Nat → α, ∀ i, i < len → At b (off + i * c) (f i) := by
        refine ⟨fun i => if hil : i < len then Classical.choose (Classical.choose_spec (hr i hil)).2.2 else default, fun i hil => ?_⟩
        dsimp only
        rw [dif_pos hil]
        refine Classical.choose_spec (Classical.choose_spec (hr i hil)).2.2 b (off + i * c) fun j hj => ?_
        rw [← (Classical.choose_spec (hr i hil)).2.1 j hj, add_plain, Nat.add_assoc]
      obtain ⟨f, hf⟩ := hch
      refine ⟨(List.range len).map f, .inr ⟨b, off, cap, by simp, by simp; omega, hb, fun k hk => ?_⟩⟩
      have hk' : k < len := by simpa using hk
      rw [show ((List.range len).map f).getD k default = f k by simp [List.getD, hk']]
      exact hf k hk'


theorem rowsOf_of {α : Type} [Inhabited α] {c : Nat} {At : World → Nat → Nat → α → Prop} {w : World} {v : Value}
    (h : ∃ xs : List α, (∃ a k, v = .slice a 0 k ∧ xs = [] ∧ (a = none → k = 0)) ∨ ∃ b off cap, v = .slice (some ⟨b, off, none⟩) xs.length cap ∧ xs.length ≤ cap ∧ b < w.heap.size ∧ ∀ k, k < xs.length → At w b (off + k * c) (xs.getD k default)) : ∃ xs, RowsOf c At w v xs := by
  obtain ⟨xs, ⟨a, k, h1, h2, _⟩ | ⟨b, off, cap, h1, _, h3, h4⟩⟩ := h
  · exact ⟨[], a, k, h1, fun k hk => by simp at hk⟩
  · refine ⟨xs, _, cap, h1, fun k hk => ⟨b, off, rfl, h3, ?_⟩⟩
    have := h4 k hk
    rwa [show xs.getD k default = xs[k] by simp [hk]] at this
set_option maxRecDepth 100000 in
theorem art_of {W : World} {n : Nat} {cs : List Value} {y : DataW H × List MemPlace}
    (h : DataW.trod enc Try.prog W 0 (fun _ => true) true n 86 cs = some y) : ∃ a : Ro.A, cs = [.int .i64 a.l, .int .i64 a.la, .int .i64 a.mo, .int .i64 a.sh, .int .i64 a.fl, .int .i64 a.p] := by
  obtain ⟨xs, n', _, _, hlen, hxl, hf⟩ := DataW.trod_struct Try.underlying86 h
  have hl : cs.length = 6 := hlen.trans (by kernel_rfl)
  match cs, hl with
  | [c0, c1, c2, c3, c4, c5], _ =>
    have h0 := hf 0 _ rfl
    have h1 := hf 1 _ rfl
    have h2 := hf 2 _ rfl
    have k0 : Try.prog.cellsOf 3 = 1 := by kernel_rfl
    have k1 : Try.prog.cellsOf 84 = 4 := by kernel_rfl
    simp only [List.getElem_toArray, List.getElem_cons_zero, List.getElem_cons_succ] at h0 h1 h2
    rw [k0] at h0 h2
    rw [k1] at h1
    simp only [List.drop_zero, List.take_succ_cons, List.take_zero, List.drop_succ_cons] at h0 h1 h2
    have hx3 : xs.length = 3 := hxl
    have e0 : xs[0]? = some (xs[0]'(by omega)) := by simp
    have e1 : xs[1]? = some (xs[1]'(by omega)) := by simp
    have e2 : xs[2]? = some (xs[2]'(by omega)) := by simp
    obtain ⟨l, q0, _, _⟩ := DataW.trod_int Try.underlying3 (h0.trans e0)
    obtain ⟨p, q5, _, _⟩ := DataW.trod_int Try.underlying3 (h2.trans e2)
    obtain ⟨ms, n2, _, _, _, hml, hg⟩ := DataW.trod_struct Try.underlying84 (h1.trans e1)
    have g0 := hg 0 _ rfl
    have g1 := hg 1 _ rfl
    have g2 := hg 2 _ rfl
    have g3 := hg 3 _ rfl
    simp only [List.getElem_toArray, List.getElem_cons_zero, List.getElem_cons_succ] at g0 g1 g2 g3
    rw [k0] at g0 g1 g2 g3
    simp only [List.drop_zero, List.take_succ_cons, List.take_zero, List.drop_succ_cons] at g0 g1 g2 g3
    have hm4 : ms.length = 4 := hml
    have m0 : ms[0]? = some (ms[0]'(by omega)) := by simp
    have m1 : ms[1]? = some (ms[1]'(by omega)) := by simp
    have m2 : ms[2]? = some (ms[2]'(by omega)) := by simp
    have m3 : ms[3]? = some (ms[3]'(by omega)) := by simp
    obtain ⟨la, q1, _, _⟩ := DataW.trod_int Try.underlying3 (g0.trans m0)
    obtain ⟨mo, q2, _, _⟩ := DataW.trod_int Try.underlying3 (g1.trans m1)
    obtain ⟨sh, q3, _, _⟩ := DataW.trod_int Try.underlying3 (g2.trans m2)
    obtain ⟨fl, q4, _, _⟩ := DataW.trod_int Try.underlying3 (g3.trans m3)
    simp only [List.cons.injEq, and_true] at q0 q1 q2 q3 q4 q5
    subst q0 q1 q2 q3 q4 q5
    exact ⟨⟨l, la, mo, sh, fl, p⟩, rfl⟩
set_option maxRecDepth 100000 in
theorem arts_of {W : World} {fuel : Nat} {v : Value} {y : DataW H × List MemPlace}
    (h : DataW.trod enc Try.prog W 0 (fun _ => true) true fuel 23 [v] = some y) : ∃ al, Arts W v al := by
  refine rowsOf_of (rows_of (α := Ro.A) Try.underlying23 (by kernel_rfl) (by decide) (ArtAt W) ?_ ?_ h)
  · intro n cs y h
    obtain ⟨p, rfl⟩ := art_of h
    exact ⟨p, fun b off hc => ⟨hc 0 (by decide), hc 1 (by decide), hc 2 (by decide), hc 3 (by decide), hc 4 (by decide), hc 5 (by decide)⟩⟩
  · intro n cs y h
    obtain ⟨p, rfl⟩ := art_of h
    rfl
set_option maxRecDepth 100000 in
theorem open_arts {W : World} {base : Nat} {v : Value} {d : DataW H} {p : List MemPlace} (hv : Value.okWide Try.prog W .any base 23 v)
    (h : DataW.Trod enc Try.prog W 0 (fun _ => true) true 23 v d p) : ∃ al, Arts W v al := by
  obtain ⟨a, l, c, rfl⟩ := okWide_slice Try.underlying23 hv
  obtain ⟨fuel, hf⟩ := h
  exact arts_of hf
set_option maxRecDepth 100000 in
theorem pc_of {W : World} {n : Nat} {cs : List Value} {y : DataW H × List MemPlace}
    (h : DataW.trod enc Try.prog W 0 (fun _ => true) true n 25 cs = some y) : ∃ x : Ro.X, cs = [.int .i64 x.f, .int .i64 x.a] := by
  obtain ⟨xs, n', _, _, hlen, hxl, hf⟩ := DataW.trod_struct Try.underlying25 h
  have hl : cs.length = 2 := hlen.trans (by kernel_rfl)
  match cs, hl with
  | [c0, c1], _ =>
    have h0 := hf 0 _ rfl
    have h1 := hf 1 _ rfl
    have k0 : Try.prog.cellsOf 3 = 1 := by kernel_rfl
    simp only [List.getElem_toArray, List.getElem_cons_zero, List.getElem_cons_succ] at h0 h1
    rw [k0] at h0 h1
    simp only [List.drop_zero, List.take_succ_cons, List.take_zero, List.drop_succ_cons] at h0 h1
    have hx2 : xs.length = 2 := hxl
    have e0 : xs[0]? = some (xs[0]'(by omega)) := by simp
    have e1 : xs[1]? = some (xs[1]'(by omega)) := by simp
    obtain ⟨l, q0, _, _⟩ := DataW.trod_int Try.underlying3 (h0.trans e0)
    obtain ⟨m, q1, _, _⟩ := DataW.trod_int Try.underlying3 (h1.trans e1)
    simp only [List.cons.injEq, and_true] at q0 q1
    subst q0 q1
    exact ⟨⟨l, m⟩, rfl⟩
set_option maxRecDepth 100000 in
theorem pcs_of {W : World} {fuel : Nat} {v : Value} {y : DataW H × List MemPlace}
    (h : DataW.trod enc Try.prog W 0 (fun _ => true) true fuel 38 [v] = some y) : ∃ xs, Pcs W v xs := by
  refine rowsOf_of (rows_of (α := Ro.X) Try.underlying38 (by kernel_rfl) (by decide) (PcAt W) ?_ ?_ h)
  · intro n cs y h
    obtain ⟨p, rfl⟩ := pc_of h
    exact ⟨p, fun b off hc => ⟨hc 0 (by decide), hc 1 (by decide)⟩⟩
  · intro n cs y h
    obtain ⟨p, rfl⟩ := pc_of h
    rfl
set_option maxRecDepth 100000 in
theorem open_pcs {W : World} {base : Nat} {v : Value} {d : DataW H} {p : List MemPlace} (hv : Value.okWide Try.prog W .any base 38 v)
    (h : DataW.Trod enc Try.prog W 0 (fun _ => true) true 38 v d p) : ∃ xs, Pcs W v xs := by
  obtain ⟨a, l, c, rfl⟩ := okWide_slice Try.underlying38 hv
  obtain ⟨fuel, hf⟩ := h
  exact pcs_of hf
set_option maxRecDepth 100000 in
theorem ints_of {W : World} {fuel : Nat} {v : Value} {y : DataW H × List MemPlace}
    (h : DataW.trod enc Try.prog W 0 (fun _ => true) true fuel 33 [v] = some y) : ∃ ks, Ints W v ks := by
  have key := rowsOf_of (At := fun w b off x => w.cell? ⟨b, off, none⟩ = some (.int .i64 x)) (rows_of (α := Int) (c := 1) Try.underlying33 (by kernel_rfl) (by decide) (fun b off x => W.cell? ⟨b, off, none⟩ = some (.int .i64 x)) ?_ ?_ h)
  · obtain ⟨xs, a, k, h1, h2⟩ := key
    refine ⟨xs, a, k, h1, fun i hi => ?_⟩
    obtain ⟨b, off, e1, e2, e3⟩ := h2 i hi
    rw [Nat.mul_one] at e3
    exact ⟨b, off, e1, e2, e3⟩
  · intro n cs y h
    obtain ⟨x, q, _, _⟩ := DataW.trod_int Try.underlying3 h
    subst q
    exact ⟨x, fun b off hc => by have := hc 0 (by decide); simpa using this⟩
  · intro n cs y h
    obtain ⟨x, q, _, _⟩ := DataW.trod_int Try.underlying3 h
    subst q
    rfl
set_option maxRecDepth 100000 in
theorem open_ints {W : World} {base : Nat} {v : Value} {d : DataW H} {p : List MemPlace} (hv : Value.okWide Try.prog W .any base 33 v)
    (h : DataW.Trod enc Try.prog W 0 (fun _ => true) true 33 v d p) : ∃ ks, Ints W v ks := by
  obtain ⟨a, l, c, rfl⟩ := okWide_slice Try.underlying33 hv
  obtain ⟨fuel, hf⟩ := h
  exact ints_of hf
end
end Go.Proofs.Ytilpofmjkcjhdaa
namespace Go.Proofs.Ytilpofmjkcjhdaa
open Go.ChangeShapes Go.WideShapes Go.ChangeAt Go.RowKit Go.Deep
section
variable {H : Type} {enc : TypeId × Value → H} {P : Program}
theorem wf64 {x : Int} (h : (Lit.int .i64 x).wf = true) : -9223372036854775808 ≤ x ∧ x ≤ 9223372036854775807 := by
  simpa [Lit.wf, IntKind.min, IntKind.max, IntKind.signed, IntKind.bits] using h
theorem open_ints3 {W : World} {base : Nat} {t : TypeId} {f0 f1 f2 : Field} {v : Value} {d : DataW H} {p : List MemPlace} (hs : P.underlying t = some (.struct #[f0, f1, f2])) (hone : oneCellFields P #[f0, f1, f2] = true) (hC : P.cellsOf t = 3)
    (i0 : P.underlying f0.type = some (.int .i64)) (i1 : P.underlying f1.type = some (.int .i64)) (i2 : P.underlying f2.type = some (.int .i64)) (hv : Value.okWide P W .any base t v) (h : DataW.Trod enc P W 0 (fun _ => true) true t v d p) :
    ∃ x0 x1 x2 : Int, v = .agg #[.int .i64 x0, .int .i64 x1, .int .i64 x2] ∧ (-9223372036854775808 ≤ x0 ∧ x0 ≤ 9223372036854775807) ∧ (-9223372036854775808 ≤ x1 ∧ x1 ≤ 9223372036854775807) ∧ (-9223372036854775808 ≤ x2 ∧ x2 ≤ 9223372036854775807) := by
  obtain ⟨c0, c1, c2, y0, y1, y2, k, rfl, rfl, rfl, h0, h1, h2⟩ := Joins.open_agg3 hs hone hC hv h
  obtain ⟨a0, e0, _, w0⟩ := DataW.trod_int i0 h0
  obtain ⟨a1, e1, _, w1⟩ := DataW.trod_int i1 h1
  obtain ⟨a2, e2, _, w2⟩ := DataW.trod_int i2 h2
  simp at e0 e1 e2
  subst e0 e1 e2
  exact ⟨a0, a1, a2, rfl, wf64 w0, wf64 w1, wf64 w2⟩
theorem open_ints4 {W : World} {base : Nat} {t : TypeId} {f0 f1 f2 f3 : Field} {v : Value} {d : DataW H} {p : List MemPlace} (hs : P.underlying t = some (.struct #[f0, f1, f2, f3])) (hone : oneCellFields P #[f0, f1, f2, f3] = true) (hC : P.cellsOf t = 4)
    (i0 : P.underlying f0.type = some (.int .i64)) (i1 : P.underlying f1.type = some (.int .i64)) (i2 : P.underlying f2.type = some (.int .i64)) (i3 : P.underlying f3.type = some (.int .i64)) (hv : Value.okWide P W .any base t v) (h : DataW.Trod enc P W 0 (fun _ => true) true t v d p) :
    ∃ x0 x1 x2 x3 : Int, v = .agg #[.int .i64 x0, .int .i64 x1, .int .i64 x2, .int .i64 x3] ∧ (-9223372036854775808 ≤ x0 ∧ x0 ≤ 9223372036854775807) ∧ (-9223372036854775808 ≤ x1 ∧ x1 ≤ 9223372036854775807) ∧ (-9223372036854775808 ≤ x2 ∧ x2 ≤ 9223372036854775807) ∧ (-9223372036854775808 ≤ x3 ∧ x3 ≤ 9223372036854775807) := by
  obtain ⟨c0, c1, c2, c3, y0, y1, y2, y3, k, rfl, rfl, rfl, h0, h1, h2, h3⟩ := Joins.open_agg4 hs hone hC hv h
  obtain ⟨a0, e0, _, w0⟩ := DataW.trod_int i0 h0
  obtain ⟨a1, e1, _, w1⟩ := DataW.trod_int i1 h1
  obtain ⟨a2, e2, _, w2⟩ := DataW.trod_int i2 h2
  obtain ⟨a3, e3, _, w3⟩ := DataW.trod_int i3 h3
  simp at e0 e1 e2 e3
  subst e0 e1 e2 e3
  exact ⟨a0, a1, a2, a3, rfl, wf64 w0, wf64 w1, wf64 w2, wf64 w3⟩
end
end Go.Proofs.Ytilpofmjkcjhdaa
