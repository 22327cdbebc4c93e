/- Books in memory: lists of lines and of postings, what can be read, and what a call has made itself. -/
import Derived.Test.YtcljpklgpedolaaGreatDoorText4
import Derived.Test.YtcljpklgpedolaaGreatDoorBkN
import Derived.Test.YtcljpklgpedolaaGreatDoorSeq3
import Derived.Laws.OwnMore
import Derived.Maps.AppendAt
import Derived.Deep.CutRange
import Derived.Laws.EntriesVeiled
import Derived.Below
namespace Go.Proofs.YtcljpklgpedolaaGreatDoor
open Go.RowKit Go.Sort

theorem ret_str {a b : List UInt8} (h : a = b) : Ending.returned (.string ⟨a.toArray⟩) = .returned (.string ⟨b.toArray⟩) := by rw [h]
/-- A text's value. -/
abbrev sv (l : List UInt8) : Value := .string ⟨l.toArray⟩
theorem mk_list (s : ByteArray) : (⟨s.data.toList.toArray⟩ : ByteArray) = s := by apply ByteArray.ext; simp
theorem bcell {W w1 : World} (hb : Below W.heap.size W w1) : (∀ b o, b < W.heap.size → w1.cell? ⟨b, o, none⟩ = W.cell? ⟨b, o, none⟩) ∧ (∀ b o, b < W.heap.size → w1.frozen? ⟨b, o, none⟩ = W.frozen? ⟨b, o, none⟩) :=
  ⟨fun b o h => hb.cell (p := ⟨b, o, none⟩) h, fun b o h => hb.frozen (p := ⟨b, o, none⟩) h⟩
theorem results_tmp3 {fn : Func} {t u v : Tmp} (h : fn.results = #[.tmp t, .tmp u, .tmp v]) (tmps : Array Value) (P : Program) (w : World) :
    (results fn tmps).run P w = .ok (.tuple #[tmps.getD t undef, tmps.getD u undef, tmps.getD v undef]) w := by
  simp [results, h]
theorem results_tmp4 {fn : Func} {t u v x : Tmp} (h : fn.results = #[.tmp t, .tmp u, .tmp v, .tmp x]) (tmps : Array Value) (P : Program) (w : World) :
    (results fn tmps).run P w = .ok (.tuple #[tmps.getD t undef, tmps.getD u undef, tmps.getD v undef, tmps.getD x undef]) w := by
  simp [results, h]

theorem BlockAt.kept {W W' : World} {row : Option Nat} {B : Nat} {cs : Array Value} {t : TypeId} (h : BlockAt W B cs t) (hg : W.grownBy W' row) (hne : some B ≠ row) : BlockAt W' B cs t := (hg.block B h.lt hne).trans h
theorem BlockAt.not_row {W : World} {B : Nat} {cs : Array Value} {t e : TypeId} (h : BlockAt W B cs t) (hte : t ≠ e) {base size k : Nat} {v : Value} {xs : List Value} (hr : W.ownsRow base e size v k xs) : some B ≠ v.ownBlock := by
  rcases hr.2 with ⟨rfl, _⟩ | ⟨g, cap, cur, rfl, _, hgb, _⟩
  · simp [Value.ownBlock]
  · intro e'
    obtain rfl : B = g := by simpa [Value.ownBlock] using e'
    have := (show W.heap[B]? = _ from h).symm.trans hgb
    simp at this
    exact hte this.2
theorem ownsRow_all {base size n : Nat} {e : TypeId} {v : Value} {xs : List Value} {W w1 : World} (h : W.ownsRow base e size v n xs) (hb : Below W.heap.size W w1) : w1.ownsRow base e size v n xs := by
  obtain ⟨h0, h1 | ⟨g, cap, cur, h1, h2, h3, h4⟩⟩ := h
  · exact ⟨h0, .inl h1⟩
  · exact ⟨h0, .inr ⟨g, cap, cur, h1, h2, by rw [hb.block g (Array.getElem?_eq_some_iff.1 h3).1]; exact h3, h4⟩⟩
theorem ownsRow_mono {base B size n : Nat} {e : TypeId} {v : Value} {xs : List Value} {W : World} (h : W.ownsRow base e size v n xs) (hB : B ≤ base) : W.ownsRow B e size v n xs := by
  obtain ⟨h0, h1 | ⟨g, cap, cur, h1, h2, h3⟩⟩ := h
  · exact ⟨h0, .inl h1⟩
  · exact ⟨h0, .inr ⟨g, cap, cur, h1, Nat.le_trans hB h2, h3⟩⟩
/-- A row stays where a row of another kind grows. -/
theorem ownsRow_other {base base' size size' n n' : Nat} {e e' : TypeId} {u s : Value} {xs xs' : List Value} {W w9 : World} (hne : e ≠ e') (h : W.ownsRow base e size u n xs) (hrow : W.ownsRow base' e' size' s n' xs') (hg : W.grownBy w9 s.ownBlock) : w9.ownsRow base e size u n xs := by
  obtain ⟨h0, h1 | ⟨g, cap, cur, h1, h2, h3, h4⟩⟩ := h
  · exact ⟨h0, .inl h1⟩
  · refine ⟨h0, .inr ⟨g, cap, cur, h1, h2, ?_, h4⟩⟩
    refine (hg.block g (Array.getElem?_eq_some_iff.1 h3).1 ?_).trans h3
    intro e2
    obtain ⟨k0, ⟨k1, k2⟩ | ⟨g', cap', cur', k1, k2, k3, k4⟩⟩ := hrow
    · rw [k1] at e2; simp [Value.ownBlock] at e2
    · rw [k1] at e2
      simp [Value.ownBlock] at e2
      subst e2
      rw [k3] at h3
      simp at h3
      exact hne h3.2.symm
/-- Some cells lie from a place on. -/
def CellsAt (cs : List Value) (w : World) (b off : Nat) : Prop := ∀ j u, cs[j]? = some u → w.cell? ⟨b, off + j, none⟩ = some u
theorem CellsAt.below {cs : List Value} {w w2 : World} {b off B : Nat} (h : CellsAt cs w b off) (hb : Below B w w2) (hB : b < B) : CellsAt cs w2 b off :=
  fun j u hj => (hb.cell (p := ⟨b, off + j, none⟩) hB).trans (h j u hj)
/-- A list that can be read: its elements lie in a row; c the cells of one, cs these. -/
def RowsOf {α : Type} (c : Nat) (cs : α → List Value) (w : World) (v : Value) (xs : List α) : Prop :=
  ∃ a cap, v = .slice a xs.length cap ∧ xs.length ≤ cap ∧ ∀ k (hk : k < xs.length), ∃ b off, a = some ⟨b, off, none⟩ ∧ b < w.heap.size ∧ CellsAt (cs xs[k]) w b (off + k * c)
theorem RowsOf.all {α : Type} {c : Nat} {cs : α → List Value} {w w2 : World} {v : Value} {xs : List α} (h : RowsOf c cs w v xs) (hb : Below w.heap.size w w2) : RowsOf c cs w2 v xs := by
  obtain ⟨a, cap, h1, h0, h2⟩ := h
  exact ⟨a, cap, h1, h0, fun k hk => by obtain ⟨b, off, e1, e2, e3⟩ := h2 k hk; exact ⟨b, off, e1, Nat.lt_of_lt_of_le e2 hb.size, e3.below hb e2⟩⟩
theorem RowsOf.form {α : Type} {c : Nat} {cs : α → List Value} {w : World} {v : Value} {xs : List α} (h : RowsOf c cs w v xs) : ∃ a cap, v = .slice a xs.length cap := by
  obtain ⟨a, cap, h1, _⟩ := h
  exact ⟨a, cap, h1⟩
/-- A list that a call has made, in blocks from a number on. -/
def OwnG {α : Type} (t : TypeId) (c : Nat) (cs : α → List Value) (base : Nat) (w : World) (v : Value) (xs : List α) : Prop := w.ownsRow base t c v xs.length (xs.flatMap cs)
theorem flat_len {α : Type} {c : Nat} {cs : α → List Value} (hc : ∀ x, (cs x).length = c) : ∀ xs : List α, (xs.flatMap cs).length = xs.length * c
  | [] => by simp
  | x :: xs => by
    have := flat_len hc xs
    rw [List.flatMap_cons, List.length_append, hc, this, List.length_cons, Nat.succ_mul]; omega
theorem flat_at {α : Type} {c : Nat} {cs : α → List Value} (hc : ∀ x, (cs x).length = c) : ∀ (xs : List α) (k : Nat) (hk : k < xs.length) (j : Nat), j < c → (xs.flatMap cs)[k * c + j]? = (cs xs[k])[j]?
  | x :: xs, 0, _, j, hj => by
    rw [List.flatMap_cons, List.getElem?_append_left (by rw [hc]; omega), Nat.zero_mul, Nat.zero_add]; rfl
  | x :: xs, k + 1, hk, j, hj => by
    have := flat_at hc xs k (by simpa using hk) j hj
    rw [List.flatMap_cons, List.getElem?_append_right (by rw [hc, Nat.succ_mul]; omega), hc, show (k + 1) * c + j - c = k * c + j by rw [Nat.succ_mul]; omega, this]; rfl
section
variable {α : Type} {t : TypeId} {c : Nat} {cs : α → List Value} {base B : Nat} {w w2 : World} {v : Value} {xs : List α}
theorem OwnG.nil (base : Nat) (w : World) : OwnG t c cs base w (.slice none 0 0) [] := World.ownsRow_nil _ _ _ _
theorem OwnG.alloc (h : OwnG t c cs base w v xs) (o : Obj) : OwnG t c cs base (w.alloc o) v xs := World.ownsRow.alloc h o
theorem OwnG.all (h : OwnG t c cs base w v xs) (hb : Below w.heap.size w w2) : OwnG t c cs base w2 v xs := ownsRow_all h hb
theorem OwnG.mono (h : OwnG t c cs base w v xs) (hB : B ≤ base) : OwnG t c cs B w v xs := ownsRow_mono h hB
theorem OwnG.pushed {x : α} (h : w.ownsRow base t c v (xs.length + 1) (xs.flatMap cs ++ cs x)) : OwnG t c cs base w v (xs ++ [x]) := by
  unfold OwnG
  rw [List.flatMap_append, show [x].flatMap cs = cs x by simp, show (xs ++ [x]).length = xs.length + 1 by simp]
  exact h
/-- An own list can be read. -/
theorem OwnG.rows (hc : ∀ x, (cs x).length = c) (h : OwnG t c cs base w v xs) : RowsOf c cs w v xs := by
  obtain ⟨h0, ⟨h1, h2⟩ | ⟨g, cap, cur, h1, h2, h3, h4, h5⟩⟩ := id h
  · obtain rfl := List.length_eq_zero_iff.1 h2
    exact ⟨none, 0, h1, Nat.le_refl _, fun k hk => absurd hk (Nat.not_lt_zero _)⟩
  · subst h1
    refine ⟨_, cap, rfl, h4, fun k hk => ⟨g, 0, rfl, (Array.getElem?_eq_some_iff.1 h3).1, fun j u hj => ?_⟩⟩
    have hjc : j < c := by
      have := (List.getElem?_eq_some_iff.1 hj).1
      rwa [hc] at this
    have hlt : k * c + j < xs.length * c := by
      have := Nat.mul_le_mul_right c (show k + 1 ≤ xs.length by omega)
      rw [Nat.succ_mul] at this; omega
    rw [Nat.zero_add]
    exact (World.ownsRow.cellAt h (k * c + j) hlt).trans ((flat_at hc xs k hk j hjc).trans hj)
/-- Where an own list lies. -/
theorem OwnG.form (h : OwnG t c cs base w v xs) : (v = .slice none 0 0 ∧ xs = []) ∨ ∃ g cap, v = .slice (some ⟨g, 0, none⟩) xs.length cap ∧ base ≤ g ∧ g < w.heap.size ∧ xs.length ≤ cap ∧ ∀ j, w.frozen? ⟨g, j, none⟩ = false := by
  obtain ⟨h0, ⟨h1, h2⟩ | ⟨g, cap, cur, h1, h2, h3, h4, h5⟩⟩ := id h
  · exact .inl ⟨h1, List.length_eq_zero_iff.1 h2⟩
  · subst h1
    exact .inr ⟨g, cap, rfl, h2, (Array.getElem?_eq_some_iff.1 h3).1, h4, fun j => World.ownsRow.frozenAt h j⟩
end
theorem cells_new {cs : List Value} (w : World) (t : TypeId) : ∀ (j : Nat) (u : Value), cs[j]? = some u → (w.alloc (.cells cs.toArray t)).cell? ((⟨w.heap.size, 0, none⟩ : Addr).add j) = some u := by
  intro j u h
  have h2 := (BlockAt.new w cs.toArray t).cell j
  rw [show ((⟨w.heap.size, 0, none⟩ : Addr).add j) = ⟨w.heap.size, j, none⟩ by cases j <;> simp [Addr.add], h2]
  simpa using h
abbrev lnV (x : Bk.Ln) : Value := .agg #[.int .i64 x.1, sv x.2.1, .int .i64 x.2.2]
def lnC (x : Bk.Ln) : List Value := [.int .i64 x.1, sv x.2.1, .int .i64 x.2.2]
theorem lnC_len (x : Bk.Ln) : (lnC x).length = 3 := rfl
theorem lnC_one (x : Bk.Ln) : ∀ u ∈ lnC x, u.oneCell' = true := by
  intro u h; simp [lnC] at h; rcases h with rfl | rfl | rfl <;> rfl
theorem ln_at {x : Bk.Ln} {w : World} {b off : Nat} (h : CellsAt (lnC x) w b off) : w.cell? ⟨b, off, none⟩ = some (.int .i64 x.1) ∧ w.cell? ⟨b, off + 1, none⟩ = some (sv x.2.1) ∧ w.cell? ⟨b, off + 2, none⟩ = some (.int .i64 x.2.2) := ⟨by have := h 0 _ rfl; simpa using this, by have := h 1 _ rfl; simpa using this, by have := h 2 _ rfl; simpa using this⟩
abbrev Lines (w : World) (v : Value) (xs : List Bk.Ln) : Prop := RowsOf 3 lnC w v xs
abbrev OwnL (base : Nat) (w : World) (v : Value) (xs : List Bk.Ln) : Prop := OwnG 37 3 lnC base w v xs
theorem infoLine : (Tryz.prog.info? 37).map (fun i => (i.zero, i.size, i.bytes)) = some (some (.agg #[.int .i64 0, .string ⟨#[]⟩, .int .i64 0]), 3, 32) := by kernel_rfl
end Go.Proofs.YtcljpklgpedolaaGreatDoor
