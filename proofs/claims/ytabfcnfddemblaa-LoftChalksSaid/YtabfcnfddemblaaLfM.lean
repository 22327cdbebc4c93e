/- Lists of numbers, hangings, lofts, goods and loads in memory: what can be read, and what a call has made itself. -/
import Derived.Test.YtabfcnfddemblaaLfMa
import Derived.Test.YtabfcnfddemblaaProg
import Derived.Test.YtabfcnfddemblaaLfMc
import Derived.WalkKit
import Derived.WalkSpells
import Derived.BigQuiet
import Derived.Deep.QuietTactic
import Derived.RegionTactic
import Derived.ChangeAlike
import Derived.Outline
import Derived.Lib.Hide
import Derived.Laws.OwnMore
import Derived.Maps.AppendAt
import Derived.Deep.CutRange
import Derived.StillTailTactics
import Derived.Laws.EntriesVeiled
import Derived.Below
import Derived.IntWalk
namespace Go.Proofs.Ytabfcnfddemblaa.Lo
open Go.RowKit

theorem ret_int {k : IntKind} {a b : Int} (h : a = b) : Ending.returned (.int k a) = .returned (.int k b) := by rw [h]
theorem ret_bool {a b : Bool} (h : a = b) : Ending.returned (.bool a) = .returned (.bool b) := by rw [h]
theorem below_drewN {B : Nat} {a w : World} (h : Below B a w) (n : Nat) : Below B a (w.drewN n) := ⟨h.os, h.tape, h.output, h.size, h.block⟩
theorem below_step {w w1 w2 : World} (h : Below w.heap.size w w1) (hb : Below w1.heap.size w1 w2) : Below w.heap.size w w2 := h.trans (hb.mono h.size)
theorem below_alloc2 {w w1 : World} (h : Below w.heap.size w w1) (o : Obj) : Below w.heap.size w (w1.alloc o) := h.alloc h.size o
theorem bcell {W w1 : World} (hb : Below W.heap.size W w1) : (∀ b o, b < W.heap.size → w1.cell? ⟨b, o, none⟩ = W.cell? ⟨b, o, none⟩) ∧ (∀ b o, b < W.heap.size → w1.frozen? ⟨b, o, none⟩ = W.frozen? ⟨b, o, none⟩) :=
  ⟨fun b o h => hb.cell (p := ⟨b, o, none⟩) h, fun b o h => hb.frozen (p := ⟨b, o, none⟩) h⟩

/-- A block of cells. -/
def BlockAt (W : World) (B : Nat) (cs : Array Value) (t : TypeId) : Prop := W.heap[B]? = some (.cells cs t (0, 0))
theorem BlockAt.lt {W : World} {B : Nat} {cs : Array Value} {t : TypeId} (h : BlockAt W B cs t) : B < W.heap.size := (Array.getElem?_eq_some_iff.1 h).1
theorem BlockAt.new (W : World) (cs : Array Value) (t : TypeId) : BlockAt (W.alloc (.cells cs t)) W.heap.size cs t := heap_alloc_new W _
theorem BlockAt.kept {W W' : World} {row : Option Nat} {B : Nat} {cs : Array Value} {t : TypeId} (h : BlockAt W B cs t) (hg : W.grownBy W' row) (hne : some B ≠ row) : BlockAt W' B cs t := (hg.block B h.lt hne).trans h
theorem BlockAt.alloc {W : World} {B : Nat} {cs : Array Value} {t : TypeId} (h : BlockAt W B cs t) (o : Obj) : BlockAt (W.alloc o) B cs t := (Below.heap_alloc _ _ _ h.lt).trans h
theorem BlockAt.cell {W : World} {B : Nat} {cs : Array Value} {t : TypeId} (h : BlockAt W B cs t) (i : Nat) : W.cell? ⟨B, i, none⟩ = cs[i]? := by simp [World.cell?, show W.heap[B]? = _ from h]
theorem BlockAt.frozen {W : World} {B : Nat} {cs : Array Value} {t : TypeId} (h : BlockAt W B cs t) (i : Nat) : W.frozen? ⟨B, i, none⟩ = false := by simp [World.frozen?, show W.heap[B]? = _ from h]
theorem BlockAt.set {W : World} {B : Nat} {cs : Array Value} {t : TypeId} (h : BlockAt W B cs t) (i : Nat) (v : Value) : BlockAt (W.setCell ⟨B, i, none⟩ v) B (cs.setIfInBounds i v) t := by
  obtain ⟨hlt, hk⟩ := Array.getElem?_eq_some_iff.1 h
  show (W.heap.modify B _)[B]? = _
  rw [Array.getElem?_eq_getElem (by rw [Array.size_modify]; exact hlt), Array.getElem_modify_self, hk]
  rfl
theorem BlockAt.other {W : World} {B B' i : Nat} {cs : Array Value} {t : TypeId} (h : BlockAt W B cs t) (hne : B ≠ B') (u : Value) : BlockAt (W.setCell ⟨B', i, none⟩ u) B cs t := by
  unfold BlockAt
  rw [Below.heap_setCell _ _ _ _ hne]; exact h
theorem BlockAt.below {W W2 : World} {B N : Nat} {cs : Array Value} {t : TypeId} (h : BlockAt W B cs t) (hb : Below N W W2) (hN : B < N) : BlockAt W2 B cs t := (hb.block B hN).trans h
theorem BlockAt.drew {W : World} {B : Nat} {cs : Array Value} {t : TypeId} (h : BlockAt W B cs t) : BlockAt W.drew B cs t := h
theorem BlockAt.not_row {W : World} {B : Nat} {cs : Array Value} {t e : TypeId} (h : BlockAt W B cs t) (hte : t ≠ e) {base size k : Nat} {v : Value} {xs : List Value} (hr : W.ownsRow base e size v k xs) : some B ≠ v.ownBlock := by
  rcases hr.2 with ⟨rfl, _⟩ | ⟨g, cap, cur, rfl, _, hgb, _⟩
  · simp [Value.ownBlock]
  · intro e'
    obtain rfl : B = g := by simpa [Value.ownBlock] using e'
    have := (show W.heap[B]? = _ from h).symm.trans hgb
    simp at this
    exact hte this.2
theorem ownsRow_all {base size n : Nat} {e : TypeId} {v : Value} {xs : List Value} {W w1 : World} (h : W.ownsRow base e size v n xs) (hb : Below W.heap.size W w1) : w1.ownsRow base e size v n xs := by
  obtain ⟨h0, h1 | ⟨g, cap, cur, h1, h2, h3, h4⟩⟩ := h
  · exact ⟨h0, .inl h1⟩
  · exact ⟨h0, .inr ⟨g, cap, cur, h1, h2, by rw [hb.block g (Array.getElem?_eq_some_iff.1 h3).1]; exact h3, h4⟩⟩
theorem ownsRow_mono {base B size n : Nat} {e : TypeId} {v : Value} {xs : List Value} {W : World} (h : W.ownsRow base e size v n xs) (hB : B ≤ base) : W.ownsRow B e size v n xs := by
  obtain ⟨h0, h1 | ⟨g, cap, cur, h1, h2, h3⟩⟩ := h
  · exact ⟨h0, .inl h1⟩
  · exact ⟨h0, .inr ⟨g, cap, cur, h1, Nat.le_trans hB h2, h3⟩⟩
/-- A row stays where a row of another kind grows. -/
theorem ownsRow_other {base base' size size' n n' : Nat} {e e' : TypeId} {u s : Value} {xs xs' : List Value} {W w9 : World} (hne : e ≠ e') (h : W.ownsRow base e size u n xs) (hrow : W.ownsRow base' e' size' s n' xs') (hg : W.grownBy w9 s.ownBlock) : w9.ownsRow base e size u n xs := by
  obtain ⟨h0, h1 | ⟨g, cap, cur, h1, h2, h3, h4⟩⟩ := h
  · exact ⟨h0, .inl h1⟩
  · refine ⟨h0, .inr ⟨g, cap, cur, h1, h2, ?_, h4⟩⟩
    refine (hg.block g (Array.getElem?_eq_some_iff.1 h3).1 ?_).trans h3
    intro e2
    obtain ⟨k0, ⟨k1, k2⟩ | ⟨g', cap', cur', k1, k2, k3, k4⟩⟩ := hrow
    · rw [k1] at e2; simp [Value.ownBlock] at e2
    · rw [k1] at e2
      simp [Value.ownBlock] at e2
      subst e2
      rw [k3] at h3
      simp at h3
      exact hne h3.2.symm
theorem info_ofR {t : TypeId} {z : Value} {s b : Nat} (h : (Try.prog.info? t).map (fun i => (i.zero, i.size, i.bytes)) = some (some z, s, b)) : ∃ i : TypeInfo, Try.prog.info? t = some i ∧ i.zero = some z ∧ i.size = s ∧ i.bytes = b := by
  cases hi : Try.prog.info? t with
  | none => rw [hi] at h; cases h
  | some i =>
    rw [hi] at h
    simp only [Option.map_some, Option.some.injEq, Prod.mk.injEq] at h
    exact ⟨i, rfl, h.1, h.2.1, h.2.2⟩
theorem results_tmp3 {fn : Func} {t u v : Tmp} (h : fn.results = #[.tmp t, .tmp u, .tmp v]) (tmps : Array Value) (P : Program) (w : World) :
    (results fn tmps).run P w = .ok (.tuple #[tmps.getD t undef, tmps.getD u undef, tmps.getD v undef]) w := by
  simp [results, h]
theorem results_tmp4 {fn : Func} {t u v x : Tmp} (h : fn.results = #[.tmp t, .tmp u, .tmp v, .tmp x]) (tmps : Array Value) (P : Program) (w : World) :
    (results fn tmps).run P w = .ok (.tuple #[tmps.getD t undef, tmps.getD u undef, tmps.getD v undef, tmps.getD x undef]) w := by
  simp [results, h]

/-- Some cells lie from a place on. -/
def CellsAt (cs : List Value) (w : World) (b off : Nat) : Prop := ∀ j u, cs[j]? = some u → w.cell? ⟨b, off + j, none⟩ = some u
theorem CellsAt.below {cs : List Value} {w w2 : World} {b off B : Nat} (h : CellsAt cs w b off) (hb : Below B w w2) (hB : b < B) : CellsAt cs w2 b off :=
  fun j u hj => (hb.cell (p := ⟨b, off + j, none⟩) hB).trans (h j u hj)
/-- A list that can be read: its elements lie in a row; c the cells of one, cs these. -/
def RowsOf {α : Type} (c : Nat) (cs : α → List Value) (w : World) (v : Value) (xs : List α) : Prop :=
  ∃ a cap, v = .slice a xs.length cap ∧ xs.length ≤ cap ∧ ∀ k (hk : k < xs.length), ∃ b off, a = some ⟨b, off, none⟩ ∧ b < w.heap.size ∧ CellsAt (cs xs[k]) w b (off + k * c)
theorem RowsOf.all {α : Type} {c : Nat} {cs : α → List Value} {w w2 : World} {v : Value} {xs : List α} (h : RowsOf c cs w v xs) (hb : Below w.heap.size w w2) : RowsOf c cs w2 v xs := by
  obtain ⟨a, cap, h1, h0, h2⟩ := h
  exact ⟨a, cap, h1, h0, fun k hk => by obtain ⟨b, off, e1, e2, e3⟩ := h2 k hk; exact ⟨b, off, e1, Nat.lt_of_lt_of_le e2 hb.size, e3.below hb e2⟩⟩
theorem RowsOf.form {α : Type} {c : Nat} {cs : α → List Value} {w : World} {v : Value} {xs : List α} (h : RowsOf c cs w v xs) : ∃ a cap, v = .slice a xs.length cap := by
  obtain ⟨a, cap, h1, _⟩ := h
  exact ⟨a, cap, h1⟩
/-- A list that a call has made, in blocks from a number on. -/
def OwnG {α : Type} (t : TypeId) (c : Nat) (cs : α → List Value) (base : Nat) (w : World) (v : Value) (xs : List α) : Prop := w.ownsRow base t c v xs.length (xs.flatMap cs)
theorem flat_len {α : Type} {c : Nat} {cs : α → List Value} (hc : ∀ x, (cs x).length = c) : ∀ xs : List α, (xs.flatMap cs).length = xs.length * c
  | [] => by simp
  | x :: xs => by
    have := flat_len hc xs
    rw [List.flatMap_cons, List.length_append, hc, this, List.length_cons, Nat.succ_mul]; omega
theorem flat_at {α : Type} {c : Nat} {cs : α → List Value} (hc : ∀ x, (cs x).length = c) : ∀ (xs : List α) (k : Nat) (hk : k < xs.length) (j : Nat), j < c → (xs.flatMap cs)[k * c + j]? = (cs xs[k])[j]?
  | x :: xs, 0, _, j, hj => by
    rw [List.flatMap_cons, List.getElem?_append_left (by rw [hc]; omega), Nat.zero_mul, Nat.zero_add]; rfl
  | x :: xs, k + 1, hk, j, hj => by
    have := flat_at hc xs k (by simpa using hk) j hj
    rw [List.flatMap_cons, List.getElem?_append_right (by rw [hc, Nat.succ_mul]; omega), hc, show (k + 1) * c + j - c = k * c + j by rw [Nat.succ_mul]; omega, this]; rfl
section
variable {α : Type} {t : TypeId} {c : Nat} {cs : α → List Value} {base B : Nat} {w w2 : World} {v : Value} {xs : List α}
theorem OwnG.nil (base : Nat) (w : World) : OwnG t c cs base w (.slice none 0 0) [] := World.ownsRow_nil _ _ _ _
theorem OwnG.alloc (h : OwnG t c cs base w v xs) (o : Obj) : OwnG t c cs base (w.alloc o) v xs := World.ownsRow.alloc h o
theorem OwnG.all (h : OwnG t c cs base w v xs) (hb : Below w.heap.size w w2) : OwnG t c cs base w2 v xs := ownsRow_all h hb
theorem OwnG.mono (h : OwnG t c cs base w v xs) (hB : B ≤ base) : OwnG t c cs B w v xs := ownsRow_mono h hB
theorem OwnG.pushed {x : α} (h : w.ownsRow base t c v (xs.length + 1) (xs.flatMap cs ++ cs x)) : OwnG t c cs base w v (xs ++ [x]) := by
  unfold OwnG
  rw [List.flatMap_append, show [x].flatMap cs = cs x by simp, show (xs ++ [x]).length = xs.length + 1 by simp]
  exact h
/-- An own list can be read. -/
theorem OwnG.rows (hc : ∀ x, (cs x).length = c) (h : OwnG t c cs base w v xs) : RowsOf c cs w v xs := by
  obtain ⟨h0, ⟨h1, h2⟩ | ⟨g, cap, cur, h1, h2, h3, h4, h5⟩⟩ := id h
  · obtain rfl := List.length_eq_zero_iff.1 h2
    exact ⟨none, 0, h1, Nat.le_refl _, fun k hk => absurd hk (Nat.not_lt_zero _)⟩
  · subst h1
    refine ⟨_, cap, rfl, h4, fun k hk => ⟨g, 0, rfl, (Array.getElem?_eq_some_iff.1 h3).1, fun j u hj => ?_⟩⟩
    have hjc : j < c := by
      have := (List.getElem?_eq_some_iff.1 hj).1
      rwa [hc] at this
    have hlt : k * c + j < xs.length * c := by
      have := Nat.mul_le_mul_right c (show k + 1 ≤ xs.length by omega)
      rw [Nat.succ_mul] at this; omega
    rw [Nat.zero_add]
    exact (World.ownsRow.cellAt h (k * c + j) hlt).trans ((flat_at hc xs k hk j hjc).trans hj)
/-- Where an own list lies. -/
theorem OwnG.form (h : OwnG t c cs base w v xs) : (v = .slice none 0 0 ∧ xs = []) ∨ ∃ g cap, v = .slice (some ⟨g, 0, none⟩) xs.length cap ∧ base ≤ g ∧ g < w.heap.size ∧ xs.length ≤ cap ∧ ∀ j, w.frozen? ⟨g, j, none⟩ = false := by
  obtain ⟨h0, ⟨h1, h2⟩ | ⟨g, cap, cur, h1, h2, h3, h4, h5⟩⟩ := id h
  · exact .inl ⟨h1, List.length_eq_zero_iff.1 h2⟩
  · subst h1
    exact .inr ⟨g, cap, rfl, h2, (Array.getElem?_eq_some_iff.1 h3).1, h4, fun j => World.ownsRow.frozenAt h j⟩
end
theorem cells_new {cs : List Value} (w : World) (t : TypeId) : ∀ (j : Nat) (u : Value), cs[j]? = some u → (w.alloc (.cells cs.toArray t)).cell? ((⟨w.heap.size, 0, none⟩ : Addr).add j) = some u := by
  intro j u h
  have h2 := (BlockAt.new w cs.toArray t).cell j
  rw [show ((⟨w.heap.size, 0, none⟩ : Addr).add j) = ⟨w.heap.size, j, none⟩ by cases j <;> simp [Addr.add], h2]
  simpa using h
def intL (x : Int) : List Value := [.int .i64 x]
abbrev Ints (w : World) (v : Value) (xs : List Int) : Prop := RowsOf 1 intL w v xs
abbrev OwnI (base : Nat) (w : World) (v : Value) (xs : List Int) : Prop := OwnG 3 1 intL base w v xs
theorem infoInt : (Try.prog.info? 3).map (fun i => (i.zero, i.size, i.bytes)) = some (some (.int .i64 0), 1, 8) := by kernel_rfl
theorem int_at {x : Int} {w : World} {b off : Nat} (h : CellsAt (intL x) w b off) : w.cell? ⟨b, off, none⟩ = some (.int .i64 x) := by
  have := h 0 _ rfl; simpa using this
theorem intL_one (x : Int) : ∀ u ∈ intL x, u.oneCell' = true := by
  intro u h; simp [intL] at h; subst h; rfl
abbrev hangV (r : Lf.H) : Value := .agg #[.int .i64 r.d, .int .i64 r.s, .int .i64 r.y, .int .i64 r.r, .int .i64 r.f]
abbrev hangA (r : Lf.H) : Array Value := #[.int .i64 r.d, .int .i64 r.s, .int .i64 r.y, .int .i64 r.r, .int .i64 r.f]
def hangC (r : Lf.H) : List Value := [.int .i64 r.d, .int .i64 r.s, .int .i64 r.y, .int .i64 r.r, .int .i64 r.f]
theorem hangC_len (r : Lf.H) : (hangC r).length = 5 := rfl
theorem hangC_one (r : Lf.H) : ∀ u ∈ hangC r, u.oneCell' = true := by
  intro u h; simp [hangC] at h; rcases h with rfl | rfl | rfl | rfl | rfl <;> rfl
theorem hang_at {r : Lf.H} {w : World} {b off : Nat} (h : CellsAt (hangC r) w b off) : w.cell? ⟨b, off, none⟩ = some (.int .i64 r.d) ∧ w.cell? ⟨b, off + 1, none⟩ = some (.int .i64 r.s) ∧ w.cell? ⟨b, off + 2, none⟩ = some (.int .i64 r.y) ∧ w.cell? ⟨b, off + 3, none⟩ = some (.int .i64 r.r) ∧ w.cell? ⟨b, off + 4, none⟩ = some (.int .i64 r.f) := ⟨by have := h 0 _ rfl; simpa using this, by have := h 1 _ rfl; simpa using this, by have := h 2 _ rfl; simpa using this, by have := h 3 _ rfl; simpa using this, by have := h 4 _ rfl; simpa using this⟩
abbrev Hangs (w : World) (v : Value) (xs : List Lf.H) : Prop := RowsOf 5 hangC w v xs
abbrev OwnHang (base : Nat) (w : World) (v : Value) (xs : List Lf.H) : Prop := OwnG 28 5 hangC base w v xs
theorem infoHang : (Try.prog.info? 28).map (fun i => (i.zero, i.size, i.bytes)) = some (some (.agg #[.int .i64 0, .int .i64 0, .int .i64 0, .int .i64 0, .int .i64 0]), 5, 40) := by kernel_rfl
abbrev gdV (r : Lf.G) : Value := .agg #[.int .i64 r.p, .int .i64 r.n, .int .i64 r.m, .int .i64 r.a, .int .i64 r.u]
abbrev gdA (r : Lf.G) : Array Value := #[.int .i64 r.p, .int .i64 r.n, .int .i64 r.m, .int .i64 r.a, .int .i64 r.u]
def gdC (r : Lf.G) : List Value := [.int .i64 r.p, .int .i64 r.n, .int .i64 r.m, .int .i64 r.a, .int .i64 r.u]
theorem gdC_len (r : Lf.G) : (gdC r).length = 5 := rfl
theorem gdC_one (r : Lf.G) : ∀ u ∈ gdC r, u.oneCell' = true := by
  intro u h; simp [gdC] at h; rcases h with rfl | rfl | rfl | rfl | rfl <;> rfl
theorem gd_at {r : Lf.G} {w : World} {b off : Nat} (h : CellsAt (gdC r) w b off) : w.cell? ⟨b, off, none⟩ = some (.int .i64 r.p) ∧ w.cell? ⟨b, off + 1, none⟩ = some (.int .i64 r.n) ∧ w.cell? ⟨b, off + 2, none⟩ = some (.int .i64 r.m) ∧ w.cell? ⟨b, off + 3, none⟩ = some (.int .i64 r.a) ∧ w.cell? ⟨b, off + 4, none⟩ = some (.int .i64 r.u) := ⟨by have := h 0 _ rfl; simpa using this, by have := h 1 _ rfl; simpa using this, by have := h 2 _ rfl; simpa using this, by have := h 3 _ rfl; simpa using this, by have := h 4 _ rfl; simpa using this⟩
abbrev Goods (w : World) (v : Value) (xs : List Lf.G) : Prop := RowsOf 5 gdC w v xs
abbrev OwnGood (base : Nat) (w : World) (v : Value) (xs : List Lf.G) : Prop := OwnG 84 5 gdC base w v xs
theorem infoGood : (Try.prog.info? 84).map (fun i => (i.zero, i.size, i.bytes)) = some (some (.agg #[.int .i64 0, .int .i64 0, .int .i64 0, .int .i64 0, .int .i64 0]), 5, 40) := by kernel_rfl

/-- A block of cells that are told by a function. -/
def fnV (n : Nat) (f : Nat → Value) : Array Value := ((List.range n).map f).toArray
theorem fnV_at {n : Nat} {f : Nat → Value} {i : Nat} (h : i < n) : (fnV n f)[i]? = some (f i) := by simp [fnV, h]
def updV (f : Nat → Value) (i : Nat) (v : Value) : Nat → Value := fun j => if j = i then v else f j
theorem fnV_set (n : Nat) (f : Nat → Value) (i : Nat) (v : Value) : (fnV n f).setIfInBounds i v = fnV n (updV f i v) := by
  unfold fnV
  rw [List.setIfInBounds_toArray]
  congr 1
  refine List.ext_getElem (by simp) fun j h1 h2 => ?_
  simp only [List.getElem_set, List.getElem_map, List.getElem_range, updV]
  by_cases e : i = j
  · subst e; simp
  · rw [if_neg e, if_neg (fun h => e h.symm)]
theorem fnV_congr {n : Nat} {f g : Nat → Value} (h : ∀ i, i < n → f i = g i) : fnV n f = fnV n g := by
  unfold fnV
  congr 1
  exact List.map_congr_left fun i hi => h i (List.mem_range.1 hi)
theorem below_set {w wr : World} {B j : Nat} (h : Below w.heap.size w wr) (hB : w.heap.size ≤ B) (v : Value) : Below w.heap.size w (wr.setCell ⟨B, j, none⟩ v) := h.setCell hB v
abbrev HangT : TypeId := 28
abbrev RHangT : TypeId := 31
abbrev LoftT : TypeId := 63
abbrev GoodT : TypeId := 84
abbrev loftV (p : Int) (v : Value) : Value := .agg #[.int .i64 p, v]
abbrev loftA (p : Int) (v : Value) : Array Value := #[.int .i64 p, v]
theorem RowsOf.nil {α : Type} (c : Nat) (cs : α → List Value) (w : World) : RowsOf c cs w (.slice none 0 0) [] := ⟨none, 0, rfl, Nat.le_refl _, fun _k hk => absurd hk (Nat.not_lt_zero _)⟩

/-- A list that can be read, of elements that lie in a row and may lead further. -/
def RowsX {α : Type} (c : Nat) (At : World → Nat → Nat → α → Prop) (w : World) (v : Value) (xs : List α) : Prop :=
  ∃ a cap, v = .slice a xs.length cap ∧ xs.length ≤ cap ∧ ∀ k (hk : k < xs.length), ∃ b off, a = some ⟨b, off, none⟩ ∧ b < w.heap.size ∧ At w b (off + k * c) xs[k]
theorem RowsX.all {α : Type} {c : Nat} {At : World → Nat → Nat → α → Prop} (hAt : ∀ {w w2 : World} {b off : Nat} {x : α}, At w b off x → Below w.heap.size w w2 → b < w.heap.size → At w2 b off x) {w w2 : World} {v : Value} {xs : List α}
    (h : RowsX c At w v xs) (hb : Below w.heap.size w w2) : RowsX c At w2 v xs := by
  obtain ⟨a, cap, h1, h0, h2⟩ := h
  exact ⟨a, cap, h1, h0, fun k hk => by obtain ⟨b, off, e1, e2, e3⟩ := h2 k hk; exact ⟨b, off, e1, Nat.lt_of_lt_of_le e2 hb.size, hAt e3 hb e2⟩⟩
theorem RowsX.form {α : Type} {c : Nat} {At : World → Nat → Nat → α → Prop} {w : World} {v : Value} {xs : List α} (h : RowsX c At w v xs) : ∃ a cap, v = .slice a xs.length cap := by
  obtain ⟨a, cap, h1, _⟩ := h
  exact ⟨a, cap, h1⟩
def LofAt (w : World) (b off : Nat) (x : Lf.F) : Prop := ∃ v, (w.cell? ⟨b, off, none⟩ = some (.int .i64 x.p) ∧ w.cell? ⟨b, off + 1, none⟩ = some v) ∧ Ints w v x.rs
theorem LofAt.all {w w2 : World} {b off : Nat} {x : Lf.F} (h : LofAt w b off x) (hb : Below w.heap.size w w2) (hB : b < w.heap.size) : LofAt w2 b off x := by
  obtain ⟨v, ⟨h1, h2⟩, h3⟩ := h
  exact ⟨v, ⟨(hb.cell (p := ⟨b, off, none⟩) hB).trans h1, (hb.cell (p := ⟨b, off + 1, none⟩) hB).trans h2⟩, h3.all hb⟩
abbrev Lofts (w : World) (v : Value) (xs : List Lf.F) : Prop := RowsX 2 LofAt w v xs
theorem Lofts.all {w w2 : World} {v : Value} {xs : List Lf.F} (h : Lofts w v xs) (hb : Below w.heap.size w w2) : Lofts w2 v xs := RowsX.all (At := LofAt) (fun h hb hB => LofAt.all h hb hB) h hb
def LoadAt (w : World) (b off : Nat) (x : Lf.L) : Prop :=
  ∃ u v, (w.cell? ⟨b, off, none⟩ = some (.int .i64 x.l) ∧ w.cell? ⟨b, off + 1, none⟩ = some (.int .i64 x.a) ∧ w.cell? ⟨b, off + 2, none⟩ = some u ∧ w.cell? ⟨b, off + 3, none⟩ = some v) ∧ Ints w u x.hs ∧ Ints w v x.gs
theorem LoadAt.all {w w2 : World} {b off : Nat} {x : Lf.L} (h : LoadAt w b off x) (hb : Below w.heap.size w w2) (hB : b < w.heap.size) : LoadAt w2 b off x := by
  obtain ⟨u, v, ⟨h1, h2, h3, h4⟩, h5, h6⟩ := h
  exact ⟨u, v, ⟨(hb.cell (p := ⟨b, off, none⟩) hB).trans h1, (hb.cell (p := ⟨b, off + 1, none⟩) hB).trans h2, (hb.cell (p := ⟨b, off + 2, none⟩) hB).trans h3, (hb.cell (p := ⟨b, off + 3, none⟩) hB).trans h4⟩, h5.all hb, h6.all hb⟩
abbrev Loads (w : World) (v : Value) (xs : List Lf.L) : Prop := RowsX 4 LoadAt w v xs
theorem Loads.all {w w2 : World} {v : Value} {xs : List Lf.L} (h : Loads w v xs) (hb : Below w.heap.size w w2) : Loads w2 v xs := RowsX.all (At := LoadAt) (fun h hb hB => LoadAt.all h hb hB) h hb
end Go.Proofs.Ytabfcnfddemblaa.Lo
