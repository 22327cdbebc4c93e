/- Lists of marks in memory. -/
import Derived.Test.YtbmjjmpdlmbehaaBand30
namespace Go.Proofs.Ytbmjjmpdlmbehaa
open Go.RowKit

def mkC (m : Bd.M) : List Value := [.int .i64 m.t, .int .i64 m.s, .int .i64 m.f]
def cellsM : List Bd.M → List Value
  | [] => []
  | s :: b => mkC s ++ cellsM b
theorem cellsM_append (a b : List Bd.M) : cellsM (a ++ b) = cellsM a ++ cellsM b := by
  induction a with
  | nil => rfl
  | cons r a ih => simp [cellsM, ih, List.append_assoc]
def MkAt (w : World) (b off : Nat) (m : Bd.M) : Prop := w.cell? ⟨b, off, none⟩ = some (.int .i64 m.t) ∧ w.cell? ⟨b, off + 1, none⟩ = some (.int .i64 m.s) ∧ w.cell? ⟨b, off + 2, none⟩ = some (.int .i64 m.f)
theorem MkAt.below {w w2 : World} {b off : Nat} {m : Bd.M} {B : Nat} (h : MkAt w b off m) (hb : Below B w w2) (hB : b < B) : MkAt w2 b off m :=
  ⟨(hb.cell (p := ⟨b, off, none⟩) hB).trans h.1, (hb.cell (p := ⟨b, off + 1, none⟩) hB).trans h.2.1, (hb.cell (p := ⟨b, off + 2, none⟩) hB).trans h.2.2⟩
/-- A list of marks that can be read. -/
def Mks (w : World) (v : Value) (ms : List Bd.M) : Prop := ∃ a c, v = .slice a ms.length c ∧ ∀ k (hk : k < ms.length), ∃ b off, a = some ⟨b, off, none⟩ ∧ b < w.heap.size ∧ MkAt w b (off + k * 3) ms[k]
theorem Mks.all {w w2 : World} {v : Value} {ms : List Bd.M} (h : Mks w v ms) (hb : Below w.heap.size w w2) : Mks w2 v ms := by
  obtain ⟨a, c, h1, h2⟩ := h
  exact ⟨a, c, h1, fun k hk => by obtain ⟨b, off, e1, e2, e3⟩ := h2 k hk; exact ⟨b, off, e1, Nat.lt_of_lt_of_le e2 hb.size, e3.below hb e2⟩⟩
def OwnM (base : Nat) (w : World) (v : Value) (ms : List Bd.M) : Prop := w.ownsRow base 50 3 v ms.length (cellsM ms)
theorem OwnM.nil (base : Nat) (w : World) : OwnM base w (.slice none 0 0) [] := World.ownsRow_nil _ _ _ _
theorem OwnM.alloc {base : Nat} {w : World} {v : Value} {ms : List Bd.M} (h : OwnM base w v ms) (o : Obj) : OwnM base (w.alloc o) v ms := World.ownsRow.alloc h o
theorem OwnM.lower {base B : Nat} {w : World} {v : Value} {ms : List Bd.M} (h : OwnM base w v ms) (hB : B ≤ base) : OwnM B w v ms := by
  obtain ⟨h0, h⟩ := h
  rcases h with h | ⟨g, cap, cur, h1, h2, h3⟩
  · exact ⟨h0, .inl h⟩
  · exact ⟨h0, .inr ⟨g, cap, cur, h1, Nat.le_trans hB h2, h3⟩⟩
theorem OwnM.all {base : Nat} {w w2 : World} {v : Value} {ms : List Bd.M} (h : OwnM base w v ms) (hb : Below w.heap.size w w2) : OwnM base w2 v ms := by
  obtain ⟨h0, h1 | ⟨g, cap, cur, h1, h2, h3, h4⟩⟩ := h
  · exact ⟨h0, .inl h1⟩
  · have hg : g < w.heap.size := (Array.getElem?_eq_some_iff.1 h3).1
    exact ⟨h0, .inr ⟨g, cap, cur, h1, h2, by rw [hb.block g hg]; exact h3, h4⟩⟩
theorem cellsM_at : ∀ (ms : List Bd.M) (k : Nat) (hk : k < ms.length), (cellsM ms)[k * 3]? = some (.int .i64 ms[k].t) ∧ (cellsM ms)[k * 3 + 1]? = some (.int .i64 ms[k].s) ∧ (cellsM ms)[k * 3 + 2]? = some (.int .i64 ms[k].f)
  | s :: b, 0, _ => by simp [cellsM, mkC]
  | s :: b, k + 1, h => by
    have ih := cellsM_at b k (by simpa using h)
    have e : ∀ j, (cellsM (s :: b))[(k + 1) * 3 + j]? = (cellsM b)[k * 3 + j]? := by
      intro j
      show (mkC s ++ cellsM b)[(k + 1) * 3 + j]? = _
      rw [List.getElem?_append_right (by simp [mkC]; omega)]
      congr 1; simp [mkC]; omega
    have e0 := e 0
    simp only [Nat.add_zero] at e0
    rw [e0, e 1, e 2]
    simpa using ih
theorem OwnM.form {base : Nat} {w : World} {v : Value} {ms : List Bd.M} (h : OwnM base w v ms) :
    (v = .slice none 0 0 ∧ ms = []) ∨ ∃ g cap, v = .slice (some ⟨g, 0, none⟩) ms.length cap ∧ base ≤ g ∧ g < w.heap.size ∧ ms.length ≤ cap ∧ (∀ j, w.frozen? ⟨g, j, none⟩ = false) ∧ ∀ k (hk : k < ms.length), MkAt w g (k * 3) ms[k] := by
  have h' := h
  obtain ⟨h0, ⟨h1, h2⟩ | ⟨g, cap, cur, h1, h2, h3, h4, h5⟩⟩ := h'
  · exact .inl ⟨h1, List.length_eq_zero_iff.1 h2⟩
  · subst h1
    refine .inr ⟨g, cap, rfl, h2, (Array.getElem?_eq_some_iff.1 h3).1, h4, fun j => World.ownsRow.frozenAt h j, fun k hk => ?_⟩
    obtain ⟨c0, c1, c2⟩ := cellsM_at ms k hk
    exact ⟨(World.ownsRow.cellAt h (k * 3) (by omega)).trans c0, (World.ownsRow.cellAt h (k * 3 + 1) (by omega)).trans c1, (World.ownsRow.cellAt h (k * 3 + 2) (by omega)).trans c2⟩
theorem OwnM.mks {base : Nat} {w : World} {v : Value} {ms : List Bd.M} (h : OwnM base w v ms) : Mks w v ms := by
  rcases h.form with ⟨rfl, rfl⟩ | ⟨g, cap, rfl, _, h2, _, _, h4⟩
  · exact ⟨none, 0, rfl, fun k hk => by simp at hk⟩
  · exact ⟨_, cap, rfl, fun k hk => ⟨g, 0, rfl, h2, by rw [Nat.zero_add]; exact h4 k hk⟩⟩
theorem OwnM.pushed {base : Nat} {w : World} {v : Value} {a : List Bd.M} {s : Bd.M} (h : w.ownsRow base 50 3 v (a.length + 1) (cellsM a ++ mkC s)) : OwnM base w v (a ++ [s]) := by
  unfold OwnM
  rw [cellsM_append, show cellsM [s] = mkC s by simp [cellsM], show (a ++ [s]).length = a.length + 1 by simp]
  exact h
theorem infoMark : (Try.prog.info? 50).map (fun i => (i.zero, i.size, i.bytes)) = some (some (.agg #[.int .i64 0, .int .i64 0, .int .i64 0]), 3, 24) := by kernel_rfl
theorem mkC_at (w : World) (m : Bd.M) (t : TypeId) : ∀ (j : Nat) (u : Value), (mkC m)[j]? = some u → (w.alloc (.cells #[.int .i64 m.t, .int .i64 m.s, .int .i64 m.f] t)).cell? ((⟨w.heap.size, 0, none⟩ : Addr).add j) = some u := by
  intro j u h
  match j, h with
  | 0, h => simp [mkC] at h; subst h; simp [Addr.add]
  | 1, h => simp [mkC] at h; subst h; simp [Addr.add]
  | 2, h => simp [mkC] at h; subst h; simp [Addr.add]
  | j + 3, h => simp [mkC] at h
theorem mkC_one (m : Bd.M) : ∀ u ∈ mkC m, u.oneCell' = true := by
  intro u h
  simp [mkC] at h
  rcases h with rfl | rfl | rfl <;> rfl

theorem below_alloc2 {w w1 : World} (h : Below w.heap.size w w1) (o : Obj) : Below w.heap.size w (w1.alloc o) := h.alloc h.size o
end Go.Proofs.Ytbmjjmpdlmbehaa
