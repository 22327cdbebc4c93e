/- Lists of runs in memory: what can be read, and what the call itself has made. -/
import Derived.Test.YtabfcnfddemblaaBandN
import Derived.Test.YtabfcnfddemblaaProg
import Derived.WalkKit
import Derived.WalkSpells
import Derived.BigQuiet
import Derived.Deep.QuietTactic
import Derived.RegionTactic
import Derived.ChangeAlike
import Derived.Outline
import Derived.Lib.Hide
import Derived.Laws.OwnMore
namespace Go.Proofs.Ytabfcnfddemblaa
open Go.RowKit

theorem ret_int {k : IntKind} {a b : Int} (h : a = b) : Ending.returned (.int k a) = .returned (.int k b) := by rw [h]
theorem ret_bool {a b : Bool} (h : a = b) : Ending.returned (.bool a) = .returned (.bool b) := by rw [h]
theorem below_drewN {B : Nat} {a w : World} (h : Below B a w) (n : Nat) : Below B a (w.drewN n) := ⟨h.os, h.tape, h.output, h.size, h.block⟩
theorem below_step {w w1 w2 : World} (h : Below w.heap.size w w1) (hb : Below w1.heap.size w1 w2) : Below w.heap.size w w2 := h.trans (hb.mono h.size)

abbrev markV (m : Bd.M) : Value := .agg #[.int .i64 m.t, .int .i64 m.s, .int .i64 m.f]
abbrev runV (r : Bd.R) : Value := .agg #[.int .i64 r.l, .int .i64 r.m.t, .int .i64 r.m.s, .int .i64 r.m.f]
def runC (r : Bd.R) : List Value := [.int .i64 r.l, .int .i64 r.m.t, .int .i64 r.m.s, .int .i64 r.m.f]
def cellsR : List Bd.R → List Value
  | [] => []
  | r :: b => runC r ++ cellsR b
theorem cellsR_append (a b : List Bd.R) : cellsR (a ++ b) = cellsR a ++ cellsR b := by
  induction a with
  | nil => rfl
  | cons r a ih => simp [cellsR, ih, List.append_assoc]
theorem cellsR_length (b : List Bd.R) : (cellsR b).length = b.length * 4 := by
  induction b with
  | nil => rfl
  | cons r b ih => simp [cellsR, runC, ih]; omega
theorem cellsR_one (b : List Bd.R) : ∀ u ∈ cellsR b, u.oneCell' = true := by
  induction b with
  | nil => intro u h; cases h
  | cons r b ih =>
    intro u h
    rcases List.mem_append.1 h with h | h
    · simp [runC] at h; rcases h with rfl | rfl | rfl | rfl <;> rfl
    · exact ih u h

/-- A run lies at an address. -/
def RunAt (w : World) (b off : Nat) (r : Bd.R) : Prop :=
  w.cell? ⟨b, off, none⟩ = some (.int .i64 r.l) ∧ w.cell? ⟨b, off + 1, none⟩ = some (.int .i64 r.m.t) ∧ w.cell? ⟨b, off + 2, none⟩ = some (.int .i64 r.m.s) ∧ w.cell? ⟨b, off + 3, none⟩ = some (.int .i64 r.m.f)
theorem RunAt.below {w w2 : World} {b off : Nat} {r : Bd.R} {B : Nat} (h : RunAt w b off r) (hb : Below B w w2) (hB : b < B) : RunAt w2 b off r :=
  ⟨(hb.cell (p := ⟨b, off, none⟩) hB).trans h.1, (hb.cell (p := ⟨b, off + 1, none⟩) hB).trans h.2.1, (hb.cell (p := ⟨b, off + 2, none⟩) hB).trans h.2.2.1, (hb.cell (p := ⟨b, off + 3, none⟩) hB).trans h.2.2.2⟩
/-- A list of runs that can be read: of length 0, or a row of cells. -/
def Runs (w : World) (v : Value) (rs : List Bd.R) : Prop :=
  (∃ a c, v = .slice a 0 c ∧ rs = [] ∧ (a = none → c = 0)) ∨ ∃ b off cap, v = .slice (some ⟨b, off, none⟩) rs.length cap ∧ rs.length ≤ cap ∧ b < w.heap.size ∧ ∀ k, k < rs.length → RunAt w b (off + k * 4) (rs.getD k default)
theorem Runs.all {w w2 : World} {v : Value} {rs : List Bd.R} (h : Runs w v rs) (hb : Below w.heap.size w w2) : Runs w2 v rs := by
  rcases h with h | ⟨b, off, cap, h1, h2, h3, h4⟩
  · exact .inl h
  · exact .inr ⟨b, off, cap, h1, h2, Nat.lt_of_lt_of_le h3 hb.size, fun k hk => (h4 k hk).below hb h3⟩
theorem Runs.form {w : World} {v : Value} {rs : List Bd.R} (h : Runs w v rs) : ∃ a c, v = .slice a rs.length c := by
  rcases h with ⟨a, c, rfl, rfl, _⟩ | ⟨b, off, cap, rfl, _⟩
  · exact ⟨a, c, rfl⟩
  · exact ⟨_, _, rfl⟩
theorem getD_run {xs : List Bd.R} {k : Nat} (h : k < xs.length) : xs.getD k default = xs[k] := by simp [h]
theorem drop_run {xs : List Bd.R} {k : Nat} (h : k < xs.length) : xs.drop k = xs[k] :: xs.drop (k + 1) := by rw [List.drop_eq_getElem_cons h]
theorem take_run {xs : List Bd.R} {k : Nat} (h : k < xs.length) : xs.take (k + 1) = xs.take k ++ [xs[k]] := by rw [List.take_succ_eq_append_getElem h]

/-- What the call itself has made: a list of runs in blocks from a number on. -/
def Own (base : Nat) (w : World) (v : Value) (rs : List Bd.R) : Prop := w.ownsRow base 112 4 v rs.length (cellsR rs)
theorem cellsR_at : ∀ (rs : List Bd.R) (k : Nat), k < rs.length → (cellsR rs)[k * 4]? = some (.int .i64 (rs.getD k default).l) ∧ (cellsR rs)[k * 4 + 1]? = some (.int .i64 (rs.getD k default).m.t) ∧
    (cellsR rs)[k * 4 + 2]? = some (.int .i64 (rs.getD k default).m.s) ∧ (cellsR rs)[k * 4 + 3]? = some (.int .i64 (rs.getD k default).m.f)
  | [], k, h => by simp at h
  | r :: b, 0, _ => by simp [cellsR, runC]
  | r :: b, k + 1, h => by
    have ih := cellsR_at b k (by simpa using h)
    have e : ∀ j, (cellsR (r :: b))[(k + 1) * 4 + j]? = (cellsR b)[k * 4 + j]? := by
      intro j
      show (runC r ++ cellsR b)[(k + 1) * 4 + j]? = _
      rw [List.getElem?_append_right (by simp [runC]; omega)]
      congr 1; simp [runC]; omega
    have e0 := e 0
    simp only [Nat.add_zero] at e0
    rw [e0, e 1, e 2, e 3]
    simpa using ih
theorem Own.nil (base : Nat) (w : World) : Own base w (.slice none 0 0) [] := World.ownsRow_nil _ _ _ _
theorem Own.alloc {base : Nat} {w : World} {v : Value} {rs : List Bd.R} (h : Own base w v rs) (o : Obj) : Own base (w.alloc o) v rs := World.ownsRow.alloc h o
theorem Own.drewN {base : Nat} {w : World} {v : Value} {rs : List Bd.R} (h : Own base w v rs) (n : Nat) : Own base (w.drewN n) v rs := h
theorem Own.lt {base : Nat} {w : World} {g n cap : Nat} {rs : List Bd.R} (h : Own base w (.slice (some ⟨g, 0, none⟩) n cap) rs) : base ≤ g ∧ g < w.heap.size := World.ownsRow.lt h g rfl
theorem Own.mono {base B : Nat} {w : World} {v : Value} {rs : List Bd.R} (h : Own base w v rs) (hB : B ≤ base) : Own B w v rs := by
  obtain ⟨h0, h⟩ := h
  rcases h with h | ⟨g, cap, cur, h1, h2, h3⟩
  · exact ⟨h0, .inl h⟩
  · exact ⟨h0, .inr ⟨g, cap, cur, h1, Nat.le_trans hB h2, h3⟩⟩
/-- An own list is nil, or a row at the head of a block. -/
theorem Own.form {base : Nat} {w : World} {v : Value} {rs : List Bd.R} (h : Own base w v rs) :
    (v = .slice none 0 0 ∧ rs = []) ∨ ∃ g cap, v = .slice (some ⟨g, 0, none⟩) rs.length cap ∧ base ≤ g ∧ g < w.heap.size ∧ rs.length ≤ cap ∧ (∀ j, w.frozen? ⟨g, j, none⟩ = false) ∧ ∀ k, k < rs.length → RunAt w g (k * 4) (rs.getD k default) := by
  have h' := h
  obtain ⟨h0, ⟨h1, h2⟩ | ⟨g, cap, cur, h1, h2, h3, h4, h5⟩⟩ := h'
  · exact .inl ⟨h1, List.length_eq_zero_iff.1 h2⟩
  · subst h1
    refine .inr ⟨g, cap, rfl, h2, h.lt.2, h4, fun j => World.ownsRow.frozenAt h j, fun k hk => ?_⟩
    obtain ⟨c0, c1, c2, c3⟩ := cellsR_at rs k hk
    exact ⟨(World.ownsRow.cellAt h (k * 4) (by omega)).trans c0, (World.ownsRow.cellAt h (k * 4 + 1) (by omega)).trans c1, (World.ownsRow.cellAt h (k * 4 + 2) (by omega)).trans c2, (World.ownsRow.cellAt h (k * 4 + 3) (by omega)).trans c3⟩
theorem Own.runs {base : Nat} {w : World} {v : Value} {rs : List Bd.R} (h : Own base w v rs) : Runs w v rs := by
  rcases h.form with ⟨rfl, rfl⟩ | ⟨g, cap, rfl, _, h2, h3, _, h4⟩
  · exact .inl ⟨none, 0, rfl, rfl, fun _ => rfl⟩
  · exact .inr ⟨g, 0, cap, rfl, h3, h2, fun k hk => by rw [Nat.zero_add]; exact h4 k hk⟩
/-- An own list behind what leaves its blocks alone. -/
theorem Own.all {base : Nat} {w w2 : World} {v : Value} {rs : List Bd.R} (h : Own base w v rs) (hb : Below w.heap.size w w2) : Own base w2 v rs := by
  obtain ⟨h0, h1 | ⟨g, cap, cur, h1, h2, h3, h4⟩⟩ := h
  · exact ⟨h0, .inl h1⟩
  · have hg : g < w.heap.size := (Array.getElem?_eq_some_iff.1 h3).1
    exact ⟨h0, .inr ⟨g, cap, cur, h1, h2, by rw [hb.block g hg]; exact h3, h4⟩⟩
theorem cellsR_set : ∀ (a : List Bd.R) (q : Bd.R) (x : Int), (cellsR (a ++ [q])).set (a.length * 4) (.int .i64 x) = cellsR (a ++ [⟨x, q.m⟩])
  | [], q, x => rfl
  | r :: a, q, x => by
    have ih := cellsR_set a q x
    show (runC r ++ cellsR (a ++ [q])).set ((a.length + 1) * 4) _ = runC r ++ cellsR (a ++ [⟨x, q.m⟩])
    rw [← ih, List.set_append_right _ _ (by simp [runC]; omega)]
    congr 2
    simp [runC]; omega
/-- The length of the last run of an own list is written. -/
theorem Own.setL {base : Nat} {w : World} {g cap : Nat} {a : List Bd.R} {q : Bd.R} (h : Own base w (.slice (some ⟨g, 0, none⟩) (a.length + 1) cap) (a ++ [q])) (x : Int) :
    Own base (w.setCell ⟨g, a.length * 4, none⟩ (.int .i64 x)) (.slice (some ⟨g, 0, none⟩) (a.length + 1) cap) (a ++ [⟨x, q.m⟩]) := by
  have hl : (a ++ [q]).length = a.length + 1 := by simp
  have h' : w.ownsRow base 112 4 (.slice (some ⟨g, 0, none⟩) (a.length + 1) cap) (a.length + 1) (cellsR (a ++ [q])) := by rw [← hl]; unfold Own at h; rw [hl] at h ⊢; exact h
  have := (World.ownsRow.stored h' (a.length * 4) (.int .i64 x)).1
  rw [cellsR_set] at this
  unfold Own
  rw [show (a ++ [(⟨x, q.m⟩ : Bd.R)]).length = a.length + 1 by simp]
  exact this
theorem Own.snoc {base : Nat} {w : World} {v : Value} {a : List Bd.R} {q : Bd.R} (h : Own base w v (a ++ [q])) :
    ∃ g cap, v = .slice (some ⟨g, 0, none⟩) (a.length + 1) cap ∧ base ≤ g ∧ g < w.heap.size ∧ a.length + 1 ≤ cap ∧ (∀ j, w.frozen? ⟨g, j, none⟩ = false) ∧ RunAt w g (a.length * 4) q := by
  rcases h.form with ⟨_, h⟩ | ⟨g, cap, h1, h2, h3, h4, h5, h6⟩
  · simp at h
  · have h7 := h6 a.length (by simp)
    rw [show (a ++ [q]).getD a.length default = q by simp [List.getD]] at h7
    simp only [List.length_append, List.length_singleton] at h1 h4
    exact ⟨g, cap, h1, h2, h3, h4, h5, h7⟩
/-- What the law on append leaves, as a list of runs. -/
theorem Own.pushed {base : Nat} {w : World} {v : Value} {a : List Bd.R} {r : Bd.R} (h : w.ownsRow base 112 4 v (a.length + 1) (cellsR a ++ runC r)) : Own base w v (a ++ [r]) := by
  unfold Own
  rw [cellsR_append, show cellsR [r] = runC r by simp [cellsR], show (a ++ [r]).length = a.length + 1 by simp]
  exact h
theorem Own.empty {base : Nat} {w : World} {v : Value} (h : Own base w v []) : ∃ a c, v = .slice a 0 c := by
  rcases h.form with ⟨rfl, _⟩ | ⟨g, cap, rfl, _⟩
  · exact ⟨_, _, rfl⟩
  · exact ⟨_, _, rfl⟩
theorem runC_at (w : World) (r : Bd.R) (t : TypeId) : ∀ (j : Nat) (u : Value), (runC r)[j]? = some u → (w.alloc (.cells #[.int .i64 r.l, .int .i64 r.m.t, .int .i64 r.m.s, .int .i64 r.m.f] t)).cell? ((⟨w.heap.size, 0, none⟩ : Addr).add j) = some u := by
  intro j u h
  match j, h with
  | 0, h => simp [runC] at h; subst h; simp [Addr.add]
  | 1, h => simp [runC] at h; subst h; simp [Addr.add]
  | 2, h => simp [runC] at h; subst h; simp [Addr.add]
  | 3, h => simp [runC] at h; subst h; simp [Addr.add]
  | j + 4, h => simp [runC] at h
theorem runC_one (r : Bd.R) : ∀ u ∈ runC r, u.oneCell' = true := by
  intro u h
  simp [runC] at h; rcases h with rfl | rfl | rfl | rfl <;> rfl
theorem infoRun : (Try.prog.info? 112).map (fun i => (i.zero, i.size, i.bytes)) = some (some (.agg #[.int .i64 0, .int .i64 0, .int .i64 0, .int .i64 0]), 4, 32) := by kernel_rfl
end Go.Proofs.Ytabfcnfddemblaa
