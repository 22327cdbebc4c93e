/- Lists of spans: plain, and in memory. -/
import Derived.Test.YtbmjjmpdlmbehaaBand33
namespace Go.Proofs.Ytbmjjmpdlmbehaa
open Go.RowKit

namespace Bd
structure S where
  f : Int
  t : Int
instance : Inhabited S := ⟨⟨0, 0⟩⟩
theorem S.ext' {a b : S} (h1 : a.f = b.f) (h2 : a.t = b.t) : a = b := by cases a; cases b; simp_all
/-- A span behind others: joined to the last one if it begins where that one ends. -/
def pushS (out : List S) (s : S) : List S :=
  match out.getLast? with
  | some q => if q.t = s.f then out.dropLast ++ [⟨q.f, s.t⟩] else out ++ [s]
  | none => [s]
def normS (l : List S) : List S := l.foldl pushS []
theorem pushS_nil (s : S) : pushS [] s = [s] := rfl
theorem pushS_snoc (a : List S) (q s : S) : pushS (a ++ [q]) s = if q.t = s.f then a ++ [⟨q.f, s.t⟩] else a ++ [q] ++ [s] := by simp [pushS]
theorem normS_snoc (l : List S) (s : S) : normS (l ++ [s]) = pushS (normS l) s := by simp [normS]
theorem normS_take_succ {l : List S} {k : Nat} (h : k < l.length) : normS (l.take (k + 1)) = pushS (normS (l.take k)) l[k] := by
  rw [List.take_succ_eq_append_getElem h, normS_snoc]
theorem snocS_cases (l : List S) : l = [] ∨ ∃ a q, l = a ++ [q] := by
  rcases List.eq_nil_or_concat l with h | ⟨a, q, h⟩
  · exact .inl h
  · exact .inr ⟨a, q, by simpa using h⟩
theorem pushS_length (out : List S) (s : S) : (pushS out s).length ≤ out.length + 1 := by
  rcases snocS_cases out with rfl | ⟨a, q, rfl⟩
  · simp [pushS]
  · rw [pushS_snoc]; split <;> simp
theorem foldS_length : ∀ (l out : List S), (l.foldl pushS out).length ≤ out.length + l.length
  | [], out => by simp
  | s :: l, out => by have h1 := foldS_length l (pushS out s); have h2 := pushS_length out s; rw [List.foldl_cons]; simp only [List.length_cons]; omega
theorem normS_length (l : List S) : (normS l).length ≤ l.length := by have := foldS_length l []; simpa [normS] using this
theorem normS_bound {l : List S} {k : Nat} (h : k ≤ l.length) : (normS (l.take k)).length ≤ l.length := by
  have := normS_length (l.take k)
  have : (l.take k).length ≤ l.length := by simp; omega
  omega
end Bd

abbrev spnV (s : Bd.S) : Value := .agg #[.int .i64 s.f, .int .i64 s.t]
def spnC (s : Bd.S) : List Value := [.int .i64 s.f, .int .i64 s.t]
def cellsS : List Bd.S → List Value
  | [] => []
  | s :: b => spnC s ++ cellsS b
theorem cellsS_append (a b : List Bd.S) : cellsS (a ++ b) = cellsS a ++ cellsS b := by
  induction a with
  | nil => rfl
  | cons r a ih => simp [cellsS, ih, List.append_assoc]
def SpnAt (w : World) (b off : Nat) (s : Bd.S) : Prop := w.cell? ⟨b, off, none⟩ = some (.int .i64 s.f) ∧ w.cell? ⟨b, off + 1, none⟩ = some (.int .i64 s.t)
theorem SpnAt.below {w w2 : World} {b off : Nat} {s : Bd.S} {B : Nat} (h : SpnAt w b off s) (hb : Below B w w2) (hB : b < B) : SpnAt w2 b off s :=
  ⟨(hb.cell (p := ⟨b, off, none⟩) hB).trans h.1, (hb.cell (p := ⟨b, off + 1, none⟩) hB).trans h.2⟩
/-- A list of spans that can be read. -/
def Spns (w : World) (v : Value) (ss : List Bd.S) : Prop := ∃ a c, v = .slice a ss.length c ∧ ∀ k (hk : k < ss.length), ∃ b off, a = some ⟨b, off, none⟩ ∧ b < w.heap.size ∧ SpnAt w b (off + k * 2) ss[k]
theorem Spns.all {w w2 : World} {v : Value} {ss : List Bd.S} (h : Spns w v ss) (hb : Below w.heap.size w w2) : Spns w2 v ss := by
  obtain ⟨a, c, h1, h2⟩ := h
  exact ⟨a, c, h1, fun k hk => by obtain ⟨b, off, e1, e2, e3⟩ := h2 k hk; exact ⟨b, off, e1, Nat.lt_of_lt_of_le e2 hb.size, e3.below hb e2⟩⟩
def OwnS (base : Nat) (w : World) (v : Value) (ss : List Bd.S) : Prop := w.ownsRow base 70 2 v ss.length (cellsS ss)
theorem OwnS.nil (base : Nat) (w : World) : OwnS base w (.slice none 0 0) [] := World.ownsRow_nil _ _ _ _
theorem OwnS.alloc {base : Nat} {w : World} {v : Value} {ss : List Bd.S} (h : OwnS base w v ss) (o : Obj) : OwnS base (w.alloc o) v ss := World.ownsRow.alloc h o
theorem OwnS.drewN {base : Nat} {w : World} {v : Value} {ss : List Bd.S} (h : OwnS base w v ss) (n : Nat) : OwnS base (w.drewN n) v ss := h
theorem OwnS.mono {base B : Nat} {w : World} {v : Value} {ss : List Bd.S} (h : OwnS base w v ss) (hB : B ≤ base) : OwnS B w v ss := by
  obtain ⟨h0, h⟩ := h
  rcases h with h | ⟨g, cap, cur, h1, h2, h3⟩
  · exact ⟨h0, .inl h⟩
  · exact ⟨h0, .inr ⟨g, cap, cur, h1, Nat.le_trans hB h2, h3⟩⟩
theorem cellsS_at : ∀ (ss : List Bd.S) (k : Nat) (hk : k < ss.length), (cellsS ss)[k * 2]? = some (.int .i64 ss[k].f) ∧ (cellsS ss)[k * 2 + 1]? = some (.int .i64 ss[k].t)
  | s :: b, 0, _ => by simp [cellsS, spnC]
  | s :: b, k + 1, h => by
    have ih := cellsS_at b k (by simpa using h)
    have e : ∀ j, (cellsS (s :: b))[(k + 1) * 2 + j]? = (cellsS b)[k * 2 + j]? := by
      intro j
      show (spnC s ++ cellsS b)[(k + 1) * 2 + j]? = _
      rw [List.getElem?_append_right (by simp [spnC]; omega)]
      congr 1; simp [spnC]; omega
    have e0 := e 0
    simp only [Nat.add_zero] at e0
    rw [e0, e 1]
    simpa using ih
theorem OwnS.form {base : Nat} {w : World} {v : Value} {ss : List Bd.S} (h : OwnS base w v ss) :
    (v = .slice none 0 0 ∧ ss = []) ∨ ∃ g cap, v = .slice (some ⟨g, 0, none⟩) ss.length cap ∧ base ≤ g ∧ g < w.heap.size ∧ ss.length ≤ cap ∧ (∀ j, w.frozen? ⟨g, j, none⟩ = false) ∧ ∀ k (hk : k < ss.length), SpnAt w g (k * 2) ss[k] := by
  have h' := h
  obtain ⟨h0, ⟨h1, h2⟩ | ⟨g, cap, cur, h1, h2, h3, h4, h5⟩⟩ := h'
  · exact .inl ⟨h1, List.length_eq_zero_iff.1 h2⟩
  · subst h1
    refine .inr ⟨g, cap, rfl, h2, (Array.getElem?_eq_some_iff.1 h3).1, h4, fun j => World.ownsRow.frozenAt h j, fun k hk => ?_⟩
    obtain ⟨c0, c1⟩ := cellsS_at ss k hk
    exact ⟨(World.ownsRow.cellAt h (k * 2) (by omega)).trans c0, (World.ownsRow.cellAt h (k * 2 + 1) (by omega)).trans c1⟩
theorem OwnS.spns {base : Nat} {w : World} {v : Value} {ss : List Bd.S} (h : OwnS base w v ss) : Spns w v ss := by
  rcases h.form with ⟨rfl, rfl⟩ | ⟨g, cap, rfl, _, h2, _, _, h4⟩
  · exact ⟨none, 0, rfl, fun k hk => by simp at hk⟩
  · exact ⟨_, cap, rfl, fun k hk => ⟨g, 0, rfl, h2, by rw [Nat.zero_add]; exact h4 k hk⟩⟩
theorem OwnS.empty {base : Nat} {w : World} {v : Value} (h : OwnS base w v []) : ∃ a c, v = .slice a 0 c := by
  rcases h.form with ⟨rfl, _⟩ | ⟨g, cap, rfl, _⟩
  · exact ⟨_, _, rfl⟩
  · exact ⟨_, _, rfl⟩
theorem OwnS.pushed {base : Nat} {w : World} {v : Value} {a : List Bd.S} {s : Bd.S} (h : w.ownsRow base 70 2 v (a.length + 1) (cellsS a ++ spnC s)) : OwnS base w v (a ++ [s]) := by
  unfold OwnS
  rw [cellsS_append, show cellsS [s] = spnC s by simp [cellsS], show (a ++ [s]).length = a.length + 1 by simp]
  exact h
theorem OwnS.snoc {base : Nat} {w : World} {v : Value} {a : List Bd.S} {q : Bd.S} (h : OwnS base w v (a ++ [q])) :
    ∃ g cap, v = .slice (some ⟨g, 0, none⟩) (a.length + 1) cap ∧ base ≤ g ∧ g < w.heap.size ∧ a.length + 1 ≤ cap ∧ (∀ j, w.frozen? ⟨g, j, none⟩ = false) ∧ SpnAt w g (a.length * 2) q := by
  rcases h.form with ⟨_, h⟩ | ⟨g, cap, h1, h2, h3, h4, h5, h6⟩
  · simp at h
  · have h7 := h6 a.length (by simp)
    rw [show (a ++ [q])[a.length]'(by simp) = q by simp] at h7
    simp only [List.length_append, List.length_singleton] at h1 h4
    exact ⟨g, cap, h1, h2, h3, h4, h5, h7⟩
theorem OwnS.allB {base B : Nat} {w w2 : World} {g n cap : Nat} {ss : List Bd.S} (h : OwnS base w (.slice (some ⟨g, 0, none⟩) n cap) ss) (hb : Below B w w2) (hg : g < B) : OwnS base w2 (.slice (some ⟨g, 0, none⟩) n cap) ss := by
  obtain ⟨h0, ⟨h1, _⟩ | ⟨g', cap', cur, h1, h2, h3, h4⟩⟩ := h
  · simp at h1
  · obtain ⟨rfl, _, rfl⟩ : g = g' ∧ n = ss.length ∧ cap = cap' := by simpa using h1
    exact ⟨h0, .inr ⟨g, cap, cur, h1, h2, by rw [hb.block g hg]; exact h3, h4⟩⟩
theorem cellsS_setS : ∀ (a : List Bd.S) (q x : Bd.S), ((cellsS (a ++ [q])).set (a.length * 2) (.int .i64 x.f)).set (a.length * 2 + 1) (.int .i64 x.t) = cellsS (a ++ [x])
  | [], q, x => rfl
  | r :: a, q, x => by
    have ih := cellsS_setS a q x
    have e : ∀ (l : List Value) (j : Nat) (u : Value), (spnC r ++ l).set ((a.length + 1) * 2 + j) u = spnC r ++ l.set (a.length * 2 + j) u := by
      intro l j u
      rw [List.set_append_right _ _ (by simp [spnC]; omega)]
      congr 2
      simp [spnC]; omega
    have e0 := fun l u => e l 0 u
    simp only [Nat.add_zero] at e0
    show ((spnC r ++ cellsS (a ++ [q])).set ((a.length + 1) * 2) _).set ((a.length + 1) * 2 + 1) _ = spnC r ++ cellsS (a ++ [x])
    rw [e0, e, ih]
theorem OwnS.row {base : Nat} {w : World} {g cap : Nat} {a : List Bd.S} {q : Bd.S} (h : OwnS base w (.slice (some ⟨g, 0, none⟩) (a.length + 1) cap) (a ++ [q])) :
    w.ownsRow base 70 2 (.slice (some ⟨g, 0, none⟩) (a.length + 1) cap) (a.length + 1) (cellsS (a ++ [q])) := by
  have hl : (a ++ [q]).length = a.length + 1 := by simp
  unfold OwnS at h; rw [hl] at h; exact h
theorem OwnS.of_row {base : Nat} {w : World} {v : Value} {a : List Bd.S} {q : Bd.S} (h : w.ownsRow base 70 2 v (a.length + 1) (cellsS (a ++ [q]))) : OwnS base w v (a ++ [q]) := by
  have hl : (a ++ [q]).length = a.length + 1 := by simp
  unfold OwnS; rw [hl]; exact h
theorem OwnS.setS {base : Nat} {w : World} {g cap : Nat} {a : List Bd.S} {q : Bd.S} (h : OwnS base w (.slice (some ⟨g, 0, none⟩) (a.length + 1) cap) (a ++ [q])) (x : Bd.S) :
    OwnS base ((w.setCell ⟨g, a.length * 2, none⟩ (.int .i64 x.f)).setCell ⟨g, a.length * 2 + 1, none⟩ (.int .i64 x.t)) (.slice (some ⟨g, 0, none⟩) (a.length + 1) cap) (a ++ [x]) := by
  have h1 := (World.ownsRow.stored (World.ownsRow.stored h.row (a.length * 2) (.int .i64 x.f)).1 (a.length * 2 + 1) (.int .i64 x.t)).1
  rw [cellsS_setS] at h1
  exact OwnS.of_row h1
theorem spnC_at (w : World) (s : Bd.S) (t : TypeId) {B : Nat} (hB : B = w.heap.size) : ∀ (j : Nat) (u : Value), (spnC s)[j]? = some u → (w.alloc (.cells #[.int .i64 s.f, .int .i64 s.t] t)).cell? ((⟨B, 0, none⟩ : Addr).add j) = some u := by
  subst hB
  intro j u h
  match j, h with
  | 0, h => simp [spnC] at h; subst h; simp [Addr.add]
  | 1, h => simp [spnC] at h; subst h; simp [Addr.add]
  | j + 2, h => simp [spnC] at h
theorem spnC_one (s : Bd.S) : ∀ u ∈ spnC s, u.oneCell' = true := by
  intro u h
  simp [spnC] at h; rcases h with rfl | rfl <;> rfl
abbrev spnObj (s : Bd.S) : Obj := .cells #[.int .i64 s.f, .int .i64 s.t] 70
theorem infoSpn : (Try.prog.info? 70).map (fun i => (i.zero, i.size, i.bytes)) = some (some (.agg #[.int .i64 0, .int .i64 0]), 2, 16) := by kernel_rfl

set_option maxRecDepth 20000 in
set_option maxHeartbeats 2000000 in
theorem join_spans_any (q r : Bd.S) (w : World) :
    Calls Try.prog 86 #[spnV q, spnV r] w fun e w' => e = .returned (.tuple #[spnV ⟨q.f, r.t⟩, .bool (decide (q.t = r.f))]) ∧ Below w.heap.size w w' := by
  by_cases hm : q.t = r.f
  · have e1 : (q.t == r.f) = true := by simp [hm]
    have hd : decide (q.t = r.f) = true := by simp [hm]
    have HD := Lib.hid hd
    clear hm hd
    go_enter Try.func86, Try.ntmps86
    go_wp2
    go_region
    go_wp2
    exact bodyPost_ret (v := .tuple #[.agg #[.int .i64 q.f, .int .i64 r.t], .bool true]) (by simp [results, Try.results86, go_sem]) rfl ⟨by rw [HD.out], by repeat' (first | exact Below.refl _ _ | apply Below.drew | refine Below.setCell ?_ (by simp) _ | refine Below.alloc ?_ (by simp <;> omega) _)⟩
  · have e1 : (q.t == r.f) = false := by simp [hm]
    have hd : decide (q.t = r.f) = false := by simp [hm]
    have HD := Lib.hid hd
    clear hm hd
    go_enter Try.func86, Try.ntmps86
    go_wp2
    go_region
    go_wp2
    exact bodyPost_ret (v := .tuple #[.agg #[.int .i64 q.f, .int .i64 r.t], .bool false]) (by simp [results, Try.results86, go_sem]) rfl ⟨by rw [HD.out], by repeat' (first | exact Below.refl _ _ | apply Below.drew | refine Below.setCell ?_ (by simp) _ | refine Below.alloc ?_ (by simp <;> omega) _)⟩
end Go.Proofs.Ytbmjjmpdlmbehaa
