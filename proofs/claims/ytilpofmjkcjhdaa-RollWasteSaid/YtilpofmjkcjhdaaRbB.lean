/- A region that draws its order, walked in ONE order: what only reads is taken first wherever it is free to be, what makes memory comes up where nothing else may. A guard that is false costs nothing. The program's normal forms: runs joined by a generic function with a function value. The program's normal forms: runs joined by a generic function with a function value. Normal, Length; runs in new memory; a band that is written into. A band that is written into; what is known of the program. How far two bands agree: runs by runs, and place by place. Same and Agree, of the program and of the reference. Lists of runs one behind the other, in new memory. Any number of lists of runs one behind the other, in new memory. -/
import Derived.WalkKit
import Derived.Deep.RegionHeld
import Derived.Test.YtilpofmjkcjhdaaRbA
import Derived.Laws.AppendOwnNone
import Derived.Lib.AppendZeros
namespace Go.Proofs.Ytilpofmjkcjhdaa
open Go

section
variable {P : Program} {ops : Array Oper} {Q : Exit → Act → World → Prop} {S : World → Prop}

/-- The operations in the order that is given; 'true' beside an operation: it only yields a value. -/
def SeqH (P : Program) (ops : Array Oper) (Q : Exit → Act → World → Prop) (S : World → Prop) : List (Nat × Bool) → Act → World → Prop
  | [], a, w => Q .normal a w
  | (i, true) :: r, a, w => ∃ o v, ops[i]? = some o ∧ YieldsIf P ops S o v a ∧ SeqH P ops Q S r (a.put o.dst v) w
  | (i, false) :: r, a, w => wpOp P ops Q i (fun a' w' => S w' ∧ SeqH P ops Q S r a' w') a w

/-- Whether the order may be taken: a closed fact. -/
def seqOk (md : Region.Mode) (ops : Array Oper) : List (Nat × Bool) → Array Bool → Bool
  | [], listed => (Region.ready md ops listed) == []
  | (i, true) :: r, listed => Region.free md ops listed i && (Region.ready md ops listed).contains i && seqOk md ops r (listed.setIfInBounds i true)
  | (i, false) :: r, listed => (Region.ready md ops listed) == [i] && seqOk md ops r (listed.setIfInBounds i true)

theorem wpAnyH_of_seq {md : Region.Mode} (hs : Region.noSelect ops = true) (hQ : ∀ d v c a w, Q (.panic c) (a.put d v) w → Q (.panic c) a w) :
    ∀ (ord : List (Nat × Bool)) (fuel : Nat) (listed : Array Bool) (a : Act) (w : World), ord.length ≤ fuel → seqOk md ops ord listed = true → S w → SeqH P ops Q S ord a w → wpAnyH P md ops Q S fuel listed a w
  | [], fuel, listed, a, w, _, ho, _, h => wpAnyH_done (by simpa [seqOk] using ho) h fuel
  | (i, true) :: r, fuel + 1, listed, a, w, hl, ho, hS, h => by
    simp only [seqOk, Bool.and_eq_true] at ho
    obtain ⟨o, v, hi, hy, h⟩ := h
    exact wpAnyH_take hi hs ho.1.1 ho.1.2 (fun c a w => hQ _ _ c a w) hy hS (wpAnyH_of_seq hs hQ r fuel _ _ _ (by simpa using hl) ho.2 hS h)
  | (i, false) :: r, fuel + 1, listed, a, w, hl, ho, _, h => by
    simp only [seqOk, Bool.and_eq_true, beq_iff_eq] at ho
    refine wpAnyH_all (rs := [i]) ho.1 (by simp) fun j hj => ?_
    obtain rfl : j = i := by simpa using hj
    exact wpOp_mono (fun a' w' h' => ⟨h'.1, wpAnyH_of_seq hs hQ r fuel _ _ _ (by simpa using hl) ho.2 h'.1 h'.2⟩) h
  | _ :: _, 0, _, _, _, hl, _, _, _ => by simp at hl

theorem wp_region_seq {id : Nat} {a : Act} {w : World} (ord : List (Nat × Bool)) (S : World → Prop) (hm : P.follows .mixedOrders = true) (hs : Region.noSelect ops = true)
    (hl : decide (ord.length ≤ ops.size) = true) (ho : seqOk .any ops ord (Array.replicate ops.size false) = true) (hQ : ∀ d v c a w, Q (.panic c) (a.put d v) w → Q (.panic c) a w)
    (hS : S w.drew) (h : S w.drew → SeqH P ops Q S ord a w.drew) : (Code.region id ops true).wp P Q a w :=
  wp_region_held hm (wpAnyH_of_seq hs hQ ord _ _ _ _ (of_decide_eq_true hl) ho hS (h hS))

theorem SeqH.done {a : Act} {w : World} (h : Q .normal a w) : SeqH P ops Q S [] a w := h
theorem at_toList {i : Nat} {o : Oper} (h : ops.toList[i]? = some o) : ops[i]? = some o := by rw [← h]; simp
theorem SeqH.take {i : Nat} {r : List (Nat × Bool)} {o : Oper} {v : Value} {a : Act} {w : World} (hl : ops.toList[i]? = some o) (hw : Region.wanted o (yielded ops a.tmps) = true)
    (hv : ∀ w, S w → (execOp a.eval o).run P w = .ok (.value v) w) (h : SeqH P ops Q S r (a.put o.dst v) w) : SeqH P ops Q S ((i, true) :: r) a w :=
  ⟨o, v, at_toList hl, .inl ⟨hw, hv⟩, h⟩
theorem SeqH.skip {i : Nat} {r : List (Nat × Bool)} {o : Oper} {a : Act} {w : World} (hl : ops.toList[i]? = some o) (hw : Region.wanted o (yielded ops a.tmps) = false)
    (h : SeqH P ops Q S r (a.put o.dst undef) w) : SeqH P ops Q S ((i, true) :: r) a w :=
  ⟨o, undef, at_toList hl, .inr ⟨hw, rfl⟩, h⟩
theorem SeqH.pass {i : Nat} {r : List (Nat × Bool)} {o : Oper} {a : Act} {w : World} (hl : ops.toList[i]? = some o) (hw : Region.wanted o (yielded ops a.tmps) = false) (hS : S w)
    (h : SeqH P ops Q S r (a.put o.dst undef) w) : SeqH P ops Q S ((i, false) :: r) a w := by
  have hi := at_toList hl
  show wpOp P ops Q i _ a w
  unfold wpOp
  simp only [hi, hw]
  exact ⟨hS, h⟩
theorem SeqH.step {i : Nat} {r : List (Nat × Bool)} {o : Oper} {a : Act} {w : World} (hl : ops.toList[i]? = some o) (hw : Region.wanted o (yielded ops a.tmps) = true)
    (h : ∀ K' : Act → World → Prop, Shut (∀ a w, S w → (S w → SeqH P ops Q S r a w) → K' a w) → Oper.wp P o a w K' Q) : SeqH P ops Q S ((i, false) :: r) a w := by
  show wpOp P ops Q i _ a w
  refine wpOp_step (at_toList hl) (fun K' hK => ?_)
  rw [if_pos hw]
  exact h K' (fun a w hS hW => hK a w ⟨hS, hW hS⟩)

/-- As SeqH, where at a place one of two operations may come first: both ways. -/
inductive Ord2 where
  | done : Ord2
  | take : Nat → Ord2 → Ord2
  | one : Nat → Ord2 → Ord2
  | two : Nat → Ord2 → Nat → Ord2 → Ord2
def SeqO (P : Program) (ops : Array Oper) (Q : Exit → Act → World → Prop) (S : World → Prop) : Ord2 → Act → World → Prop
  | .done, a, w => Q .normal a w
  | .take i r, a, w => ∃ o v, ops[i]? = some o ∧ YieldsIf P ops S o v a ∧ SeqO P ops Q S r (a.put o.dst v) w
  | .one i r, a, w => wpOp P ops Q i (fun a' w' => S w' ∧ SeqO P ops Q S r a' w') a w
  | .two i r j t, a, w => wpOp P ops Q i (fun a' w' => S w' ∧ SeqO P ops Q S r a' w') a w ∧ wpOp P ops Q j (fun a' w' => S w' ∧ SeqO P ops Q S t a' w') a w
def Ord2.depth : Ord2 → Nat
  | .done => 0
  | .take _ r => r.depth + 1
  | .one _ r => r.depth + 1
  | .two _ r _ t => max r.depth t.depth + 1
def seqOk2 (md : Region.Mode) (ops : Array Oper) : Ord2 → Array Bool → Bool
  | .done, listed => (Region.ready md ops listed) == []
  | .take i r, listed => Region.free md ops listed i && (Region.ready md ops listed).contains i && seqOk2 md ops r (listed.setIfInBounds i true)
  | .one i r, listed => (Region.ready md ops listed) == [i] && seqOk2 md ops r (listed.setIfInBounds i true)
  | .two i r j t, listed => (Region.ready md ops listed) == [i, j] && seqOk2 md ops r (listed.setIfInBounds i true) && seqOk2 md ops t (listed.setIfInBounds j true)
theorem wpAnyH_of_seq2 {md : Region.Mode} (hs : Region.noSelect ops = true) (hQ : ∀ d v c a w, Q (.panic c) (a.put d v) w → Q (.panic c) a w) :
    ∀ (ord : Ord2) (fuel : Nat) (listed : Array Bool) (a : Act) (w : World), ord.depth ≤ fuel → seqOk2 md ops ord listed = true → S w → SeqO P ops Q S ord a w → wpAnyH P md ops Q S fuel listed a w
  | .done, fuel, listed, a, w, _, ho, _, h => wpAnyH_done (by simpa [seqOk2] using ho) h fuel
  | .take i r, fuel + 1, listed, a, w, hl, ho, hS, h => by
    simp only [seqOk2, Bool.and_eq_true] at ho
    obtain ⟨o, v, hi, hy, h⟩ := h
    exact wpAnyH_take hi hs ho.1.1 ho.1.2 (fun c a w => hQ _ _ c a w) hy hS (wpAnyH_of_seq2 hs hQ r fuel _ _ _ (by simpa [Ord2.depth] using hl) ho.2 hS h)
  | .one i r, fuel + 1, listed, a, w, hl, ho, _, h => by
    simp only [seqOk2, Bool.and_eq_true, beq_iff_eq] at ho
    refine wpAnyH_all (rs := [i]) ho.1 (by simp) fun j hj => ?_
    obtain rfl : j = i := by simpa using hj
    exact wpOp_mono (fun a' w' h' => ⟨h'.1, wpAnyH_of_seq2 hs hQ r fuel _ _ _ (by simpa [Ord2.depth] using hl) ho.2 h'.1 h'.2⟩) h
  | .two i r k t, fuel + 1, listed, a, w, hl, ho, _, h => by
    simp only [seqOk2, Bool.and_eq_true, beq_iff_eq] at ho
    simp only [Ord2.depth] at hl
    refine wpAnyH_all (rs := [i, k]) ho.1.1 (by simp) fun j hj => ?_
    rcases List.mem_cons.1 hj with e | hj
    · subst e
      exact wpOp_mono (fun a' w' h' => ⟨h'.1, wpAnyH_of_seq2 hs hQ r fuel _ _ _ (by omega) ho.1.2 h'.1 h'.2⟩) h.1
    · obtain rfl : j = k := by simpa using hj
      exact wpOp_mono (fun a' w' h' => ⟨h'.1, wpAnyH_of_seq2 hs hQ t fuel _ _ _ (by omega) ho.2 h'.1 h'.2⟩) h.2
  | .take _ _, 0, _, _, _, hl, _, _, _ => by simp [Ord2.depth] at hl
  | .one _ _, 0, _, _, _, hl, _, _, _ => by simp [Ord2.depth] at hl
  | .two _ _ _ _, 0, _, _, _, hl, _, _, _ => by simp [Ord2.depth] at hl
theorem wp_region_seq2 {id : Nat} {a : Act} {w : World} (ord : Ord2) (S : World → Prop) (hm : P.follows .mixedOrders = true) (hs : Region.noSelect ops = true)
    (hl : decide (ord.depth ≤ ops.size) = true) (ho : seqOk2 .any ops ord (Array.replicate ops.size false) = true) (hQ : ∀ d v c a w, Q (.panic c) (a.put d v) w → Q (.panic c) a w)
    (hS : S w.drew) (h : S w.drew → SeqO P ops Q S ord a w.drew) : (Code.region id ops true).wp P Q a w :=
  wp_region_held hm (wpAnyH_of_seq2 hs hQ ord _ _ _ _ (of_decide_eq_true hl) ho hS (h hS))
theorem SeqO.fin {a : Act} {w : World} (h : Q .normal a w) : SeqO P ops Q S .done a w := h
theorem SeqO.ld {i : Nat} {r : Ord2} {o : Oper} {v : Value} {a : Act} {w : World} (hl : ops.toList[i]? = some o) (hw : Region.wanted o (yielded ops a.tmps) = true)
    (hv : ∀ w, S w → (execOp a.eval o).run P w = .ok (.value v) w) (h : SeqO P ops Q S r (a.put o.dst v) w) : SeqO P ops Q S (.take i r) a w :=
  ⟨o, v, at_toList hl, .inl ⟨hw, hv⟩, h⟩
theorem SeqO.skip {i : Nat} {r : Ord2} {o : Oper} {a : Act} {w : World} (hl : ops.toList[i]? = some o) (hw : Region.wanted o (yielded ops a.tmps) = false)
    (h : SeqO P ops Q S r (a.put o.dst undef) w) : SeqO P ops Q S (.take i r) a w :=
  ⟨o, undef, at_toList hl, .inr ⟨hw, rfl⟩, h⟩
theorem wpOp_stepS {i : Nat} {o : Oper} {a : Act} {w : World} {R : Act → World → Prop} (hl : ops.toList[i]? = some o) (hw : Region.wanted o (yielded ops a.tmps) = true)
    (h : ∀ K' : Act → World → Prop, Shut (∀ a w, S w → (S w → R a w) → K' a w) → Oper.wp P o a w K' Q) : wpOp P ops Q i (fun a' w' => S w' ∧ R a' w') a w := by
  refine wpOp_step (at_toList hl) (fun K' hK => ?_)
  rw [if_pos hw]
  exact h K' (fun a w hS hW => hK a w ⟨hS, hW hS⟩)
theorem SeqO.step {i : Nat} {r : Ord2} {o : Oper} {a : Act} {w : World} (hl : ops.toList[i]? = some o) (hw : Region.wanted o (yielded ops a.tmps) = true)
    (h : ∀ K' : Act → World → Prop, Shut (∀ a w, S w → (S w → SeqO P ops Q S r a w) → K' a w) → Oper.wp P o a w K' Q) : SeqO P ops Q S (.one i r) a w :=
  wpOp_stepS hl hw h
end
end Go.Proofs.Ytilpofmjkcjhdaa
namespace Go.Proofs.Ytilpofmjkcjhdaa
open Go.RowKit

set_option maxRecDepth 20000 in
set_option maxHeartbeats 2000000 in
theorem join_runs_any (q r : Bd.R) (w : World) (h1 : 0 ≤ q.l) (h2 : q.l ≤ 1000000000000) (h3 : 0 ≤ r.l) (h4 : r.l ≤ 1000000000000) :
    Calls Try.prog 91 #[runV q, runV r] w fun e w' => e = .returned (.tuple #[runV ⟨q.l + r.l, q.m⟩, .bool (decide (q.m = r.m))]) ∧ Below w.heap.size w w' := by
  by_cases hm : q.m = r.m
  · have e1 : (q.m.t == r.m.t) = true := by simp [hm]
    have e2 : (q.m.s == r.m.s) = true := by simp [hm]
    have e3 : (q.m.f == r.m.f) = true := by simp [hm]
    have hd : decide (q.m = r.m) = true := by simp [hm]
    have HD := Lib.hid hd
    clear hm hd
    go_enter Try.func91, Try.ntmps91
    go_wp2
    go_region
    go_wp2
    exact bodyPost_ret (v := .tuple #[.agg #[.int .i64 (q.l + r.l), .int .i64 q.m.t, .int .i64 q.m.s, .int .i64 q.m.f], .bool true]) (by simp [results, Try.results91, go_sem]) rfl ⟨by rw [HD.out], by repeat' (first | exact Below.refl _ _ | apply Below.drew | refine Below.setCell ?_ (by simp) _ | refine Below.alloc ?_ (by simp <;> omega) _)⟩
  · have hd : decide (q.m = r.m) = false := by simp [hm]
    have HD := Lib.hid hd
    rcases m_ne hm with e1 | ⟨e1, e2⟩ | ⟨e1, e2, e3⟩
    all_goals
      clear hm hd
      go_enter Try.func91, Try.ntmps91
      go_wp2
      go_region
      go_wp2
      exact bodyPost_ret (v := .tuple #[.agg #[.int .i64 (q.l + r.l), .int .i64 q.m.t, .int .i64 q.m.s, .int .i64 q.m.f], .bool false]) (by simp [results, Try.results91, go_sem]) rfl ⟨by rw [HD.out], by repeat' (first | exact Below.refl _ _ | apply Below.drew | refine Below.setCell ?_ (by simp) _ | refine Below.alloc ?_ (by simp <;> omega) _)⟩
end Go.Proofs.Ytilpofmjkcjhdaa
namespace Go.Proofs.Ytilpofmjkcjhdaa
open Go.RowKit

theorem runC_at2 (w : World) (r : Bd.R) (t : TypeId) {B : Nat} (hB : B = w.heap.size) : ∀ (j : Nat) (u : Value), (runC r)[j]? = some u → (w.alloc (.cells #[.int .i64 r.l, .int .i64 r.m.t, .int .i64 r.m.s, .int .i64 r.m.f] t)).cell? ((⟨B, 0, none⟩ : Addr).add j) = some u := by
  subst hB; exact runC_at w r t
abbrev runObj (r : Bd.R) : Obj := .cells #[.int .i64 r.l, .int .i64 r.m.t, .int .i64 r.m.s, .int .i64 r.m.f] 73
theorem Own.allB {base B : Nat} {w w2 : World} {g n cap : Nat} {rs : List Bd.R} (h : Own base w (.slice (some ⟨g, 0, none⟩) n cap) rs) (hb : Below B w w2) (hg : g < B) : Own base w2 (.slice (some ⟨g, 0, none⟩) n cap) rs := by
  obtain ⟨h0, ⟨h1, _⟩ | ⟨g', cap', cur, h1, h2, h3, h4⟩⟩ := h
  · simp at h1
  · obtain ⟨rfl, _, rfl⟩ : g = g' ∧ n = rs.length ∧ cap = cap' := by simpa using h1
    exact ⟨h0, .inr ⟨g, cap, cur, h1, h2, by rw [hb.block g hg]; exact h3, h4⟩⟩
theorem cellsR_setR : ∀ (a : List Bd.R) (q x : Bd.R), (((((cellsR (a ++ [q])).set (a.length * 4) (.int .i64 x.l)).set (a.length * 4 + 1) (.int .i64 x.m.t)).set (a.length * 4 + 2) (.int .i64 x.m.s)).set (a.length * 4 + 3) (.int .i64 x.m.f)) = cellsR (a ++ [x])
  | [], q, x => rfl
  | r :: a, q, x => by
    have ih := cellsR_setR a q x
    have e : ∀ (l : List Value) (j : Nat) (u : Value), (runC r ++ l).set ((a.length + 1) * 4 + j) u = runC r ++ l.set (a.length * 4 + j) u := by
      intro l j u
      rw [List.set_append_right _ _ (by simp [runC]; omega)]
      congr 2
      simp [runC]; omega
    have e0 := fun l u => e l 0 u
    simp only [Nat.add_zero] at e0
    show ((((runC r ++ cellsR (a ++ [q])).set ((a.length + 1) * 4) _).set ((a.length + 1) * 4 + 1) _).set ((a.length + 1) * 4 + 2) _).set ((a.length + 1) * 4 + 3) _ = runC r ++ cellsR (a ++ [x])
    rw [e0, e, e, e, ih]
theorem Own.row {base : Nat} {w : World} {g cap : Nat} {a : List Bd.R} {q : Bd.R} (h : Own base w (.slice (some ⟨g, 0, none⟩) (a.length + 1) cap) (a ++ [q])) :
    w.ownsRow base 73 4 (.slice (some ⟨g, 0, none⟩) (a.length + 1) cap) (a.length + 1) (cellsR (a ++ [q])) := by
  have hl : (a ++ [q]).length = a.length + 1 := by simp
  unfold Own at h; rw [hl] at h; exact h
theorem Own.of_row {base : Nat} {w : World} {v : Value} {a : List Bd.R} {q : Bd.R} (h : w.ownsRow base 73 4 v (a.length + 1) (cellsR (a ++ [q]))) : Own base w v (a ++ [q]) := by
  have hl : (a ++ [q]).length = a.length + 1 := by simp
  unfold Own; rw [hl]; exact h
/-- The last run of an own list is written. -/
theorem Own.setR {base : Nat} {w : World} {g cap : Nat} {a : List Bd.R} {q : Bd.R} (h : Own base w (.slice (some ⟨g, 0, none⟩) (a.length + 1) cap) (a ++ [q])) (x : Bd.R) :
    Own base ((((w.setCell ⟨g, a.length * 4, none⟩ (.int .i64 x.l)).setCell ⟨g, a.length * 4 + 1, none⟩ (.int .i64 x.m.t)).setCell ⟨g, a.length * 4 + 2, none⟩ (.int .i64 x.m.s)).setCell ⟨g, a.length * 4 + 3, none⟩ (.int .i64 x.m.f))
      (.slice (some ⟨g, 0, none⟩) (a.length + 1) cap) (a ++ [x]) := by
  have h1 := (World.ownsRow.stored (World.ownsRow.stored (World.ownsRow.stored (World.ownsRow.stored h.row (a.length * 4) (.int .i64 x.l)).1 (a.length * 4 + 1) (.int .i64 x.m.t)).1 (a.length * 4 + 2) (.int .i64 x.m.s)).1 (a.length * 4 + 3) (.int .i64 x.m.f)).1
  rw [cellsR_setR] at h1
  exact Own.of_row h1
/-- What a region keeps while it calls: the list, its last run, the next run, and that nothing old has turned. -/
theorem keep_join {w0 W W2 : World} {base g B7 m cap B : Nat} {a : List Bd.R} {q r : Bd.R}
    (h : Own base W (.slice (some ⟨g, 0, none⟩) m cap) (a ++ [q]) ∧ Below base w0 W ∧ W.cell? ⟨g, a.length * 4, none⟩ = some (.int .i64 q.l) ∧ W.cell? ⟨g, a.length * 4 + 1, none⟩ = some (.int .i64 q.m.t) ∧ W.cell? ⟨g, a.length * 4 + 2, none⟩ = some (.int .i64 q.m.s) ∧ W.cell? ⟨g, a.length * 4 + 3, none⟩ = some (.int .i64 q.m.f) ∧
      W.cell? ⟨B7, 0, none⟩ = some (.int .i64 r.l) ∧ W.cell? ⟨B7, 1, none⟩ = some (.int .i64 r.m.t) ∧ W.cell? ⟨B7, 2, none⟩ = some (.int .i64 r.m.s) ∧ W.cell? ⟨B7, 3, none⟩ = some (.int .i64 r.m.f) ∧ B7 < W.heap.size ∧ g < W.heap.size ∧ base ≤ W.heap.size) (hb : Below B W W2) (hB : B7 < B ∧ g < B ∧ base ≤ B) :
    Own base W2 (.slice (some ⟨g, 0, none⟩) m cap) (a ++ [q]) ∧ Below base w0 W2 ∧ W2.cell? ⟨g, a.length * 4, none⟩ = some (.int .i64 q.l) ∧ W2.cell? ⟨g, a.length * 4 + 1, none⟩ = some (.int .i64 q.m.t) ∧ W2.cell? ⟨g, a.length * 4 + 2, none⟩ = some (.int .i64 q.m.s) ∧ W2.cell? ⟨g, a.length * 4 + 3, none⟩ = some (.int .i64 q.m.f) ∧
      W2.cell? ⟨B7, 0, none⟩ = some (.int .i64 r.l) ∧ W2.cell? ⟨B7, 1, none⟩ = some (.int .i64 r.m.t) ∧ W2.cell? ⟨B7, 2, none⟩ = some (.int .i64 r.m.s) ∧ W2.cell? ⟨B7, 3, none⟩ = some (.int .i64 r.m.f) ∧ B7 < W2.heap.size ∧ g < W2.heap.size ∧ base ≤ W2.heap.size := by
  obtain ⟨h1, h2, h3, h4, h5, h6, h7, h8, h9, h10, s1, s2, s3⟩ := h
  have hs := hb.size
  obtain ⟨b1, b2, b3⟩ := hB
  exact ⟨h1.allB hb b2, h2.trans (hb.mono b3), (hb.cell (p := ⟨g, _, none⟩) b2).trans h3, (hb.cell (p := ⟨g, _, none⟩) b2).trans h4, (hb.cell (p := ⟨g, _, none⟩) b2).trans h5, (hb.cell (p := ⟨g, _, none⟩) b2).trans h6,
    (hb.cell (p := ⟨B7, _, none⟩) b1).trans h7, (hb.cell (p := ⟨B7, _, none⟩) b1).trans h8, (hb.cell (p := ⟨B7, _, none⟩) b1).trans h9, (hb.cell (p := ⟨B7, _, none⟩) b1).trans h10, by omega, by omega, by omega⟩

set_option maxRecDepth 20000 in
set_option maxHeartbeats 1000000 in
theorem joined_any (v : Value) (rs : List Bd.R) (w : World) (hv : Runs w v rs) (hf : Bd.fine rs) :
    Calls Try.prog 90 #[v, .func (.func 91) #[] #[]] w fun e w' => ∃ u, e = .returned u ∧ Own w.heap.size w' u (Bd.norm rs) ∧ Below w.heap.size w w' := by
  obtain ⟨hlen, hp, hm⟩ := hf
  rcases hv with ⟨a0, c0, rfl, rfl, hn0⟩ | ⟨b, off, cap, rfl, hcap, hb, hc⟩
  · go_enter Try.func90, Try.ntmps90
    go_wp2
    go_loop [5, 13] (fun s t => s = .slice none 0 0 ∧ t = .int .i64 0) (fun _ t => (0 - intOf t).toNat)
    case atStart => exact ⟨rfl, rfl⟩
    case round =>
      obtain ⟨rfl, rfl⟩ := hrel
      go_wp2
      go_ret
      exact ⟨_, rfl, Own.nil _ _, Below.refl _ _⟩
  · obtain ⟨i0, hi, hz0, hz1, hz2⟩ := info_parts infoRun
    have hP := Lib.hid hp
    clear hp
    go_enter Try.func90, Try.ntmps90
    go_wp2
    have hw0 := Below.refl w.heap.size w
    go_loopw [5, 13] (fun s t wr => ∃ k : Nat, k ≤ rs.length ∧ t = .int .i64 k ∧ Own w.heap.size wr s (Bd.norm (rs.take k)) ∧ Below w.heap.size w wr) (fun _ t _ => rs.length - (intOf t).toNat)
    case atStart => exact ⟨0, Nat.zero_le _, rfl, Own.nil _ _, hw0⟩
    case round =>
      obtain ⟨k, hk, rfl, hown, hw⟩ := hrel
      clear hw0
      by_cases hlt : k < rs.length
      · have hck := hc k hlt
        rw [getD_run hlt] at hck
        clear hc
        obtain ⟨c0, c1, c2, c3⟩ := hck.below hw hb
        clear hck
        have hns := Bd.norm_take_succ hlt
        rcases Bd.snoc_cases (Bd.norm (rs.take k)) with he | ⟨a, q, he⟩
        · rw [he] at hown hns
          rw [Bd.push_nil] at hns
          have HN := Lib.hid hns
          clear hns he
          generalize rs[k] = r at *
          obtain ⟨ga, gc, rfl⟩ := hown.empty
          go_wp2_with (at_builtin; refine wpList_append_own _ rfl _ _ 22 rfl w.heap.size 73 i0 (.agg #[.int .i64 0, .int .i64 0, .int .i64 0, .int .i64 0]) 4 32 Try.underlying22 hi hz0 hz1 hz2 rfl (by decide) _ _ _ rfl ((hown.alloc _).alloc _) ⟨wr.heap.size + 1, 0, none⟩ 1 1 (runC r) rfl rfl ?c1 (runC_one r) ?c3 ?c4 ?c5 ?_)
          case c1 => exact runC_at2 (wr.alloc (runObj r)) r _ (by simp)
          case c3 => unfold maxLen; simp
          case c4 => simp
          case c5 => have := hw.size; simp; omega
          intro v' w1 hown1 hgrow _
          have hw1 := ((hw.alloc hw.size (runObj r)).alloc (by have := hw.size; simp; omega) (runObj r)).grown hgrow (by have := hw.size; simp; omega) (fun j e => (World.ownsRow.lt hown j e).1)
          have hown2 := Own.pushed (a := []) hown1
          clear hown1 hgrow hown hw c0 c1 c2 c3
          go_wp2
          go_roundw
          case rel => exact ⟨k + 1, by omega, by go_num, by rw [HN.out]; exact hown2, hw1⟩
          case measure => simp [intOf]; omega
        · obtain ⟨h1, h2, h3, h4⟩ := Bd.norm_last hP.out hlt he
          rw [he] at hown hns
          rw [Bd.push_snoc] at hns
          obtain ⟨g, cp, rfl, hg1, hg2, hg3, hg4, d0, d1, d2, d3⟩ := hown.snoc
          have HN := Lib.hid hns
          clear hns he
          generalize rs[k] = r at *
          go_wp2_with fail
          have HB := Lib.hid hw.size
          refine wp_region_seq2 (.take 0 (.take 1 (.take 2 (.take 3 (.take 4 (.take 5 (.two 6 (.take 7 (.take 8 (.take 9 (.one 10 (.one 11 (.take 12 .done)))))) 10 (.one 6 (.take 7 (.take 8 (.take 9 (.one 11 (.take 12 .done)))))))))))))
            (fun W => Own w.heap.size W (.slice (some ⟨g, 0, none⟩) (a.length + 1) cp) (a ++ [q]) ∧ Below w.heap.size w W ∧ W.cell? ⟨g, a.length * 4, none⟩ = some (.int .i64 q.l) ∧ W.cell? ⟨g, a.length * 4 + 1, none⟩ = some (.int .i64 q.m.t) ∧ W.cell? ⟨g, a.length * 4 + 2, none⟩ = some (.int .i64 q.m.s) ∧ W.cell? ⟨g, a.length * 4 + 3, none⟩ = some (.int .i64 q.m.f) ∧
              W.cell? ⟨wr.heap.size, 0, none⟩ = some (.int .i64 r.l) ∧ W.cell? ⟨wr.heap.size, 1, none⟩ = some (.int .i64 r.m.t) ∧ W.cell? ⟨wr.heap.size, 2, none⟩ = some (.int .i64 r.m.s) ∧ W.cell? ⟨wr.heap.size, 3, none⟩ = some (.int .i64 r.m.f) ∧ wr.heap.size < W.heap.size ∧ g < W.heap.size ∧ w.heap.size ≤ W.heap.size)
            (by kernel_rfl) (by kernel_rfl) (by kernel_rfl) (by kernel_rfl) (fun d _ _ _ _ h => by cases d <;> exact h)
            (by exact keep_join ⟨hown.alloc (runObj r), hw.alloc hw.size (runObj r), (World.cell?_alloc_past _ _ _ hg2).trans d0, (World.cell?_alloc_past _ _ _ hg2).trans d1, (World.cell?_alloc_past _ _ _ hg2).trans d2, (World.cell?_alloc_past _ _ _ hg2).trans d3, by simp, by simp, by simp, by simp, by simp, by simp; omega, by have := hw.size; simp; omega⟩ (B := wr.heap.size + 1) ((Below.refl _ _).drew) ⟨by omega, by omega, by have := hw.size; omega⟩) (fun hS => ?_)
          clear hown hw c0 c1 c2 c3 d0 d1 d2 d3
          have hlti : (a.length : Int) < (a.length : Int) + 1 := by omega
          repeat (first
            | (refine SeqO.ld (v := ?_) rfl (by rfl) ?_ ?_; rotate_left; (· intro w hSw; (try dsimp only at hSw); go_simp; (try with_reducible rfl)); simp only [Act.put, List.setIfInBounds_toArray, List.set_cons_zero, List.set_cons_succ]))
          refine ⟨wpOp_stepS rfl (by rfl) (fun K hK => ?_), wpOp_stepS rfl (by rfl) (fun K hK => ?_)⟩
          · go_simp
            go_at_call 91
            refine (join_runs_any q r _ (by omega) (by omega) (by omega) (by omega)).mono ?_
            rintro e w1 ⟨rfl, hb1⟩
            try dsimp only
            refine hK.out _ _ (keep_join hS hb1 (by (try dsimp only at hS); omega)) (fun hS1 => ?_)
            clear hK K hb1 hS
            try simp only [Act.put, List.setIfInBounds_toArray, List.set_cons_zero, List.set_cons_succ]
            repeat (refine SeqO.ld (v := ?_) rfl (by rfl) ?_ ?_; rotate_left; (· intro w hSw; (try dsimp only at hSw); go_simp; (try with_reducible rfl)); (try simp only [Act.put, List.setIfInBounds_toArray, List.set_cons_zero, List.set_cons_succ]))
            refine SeqO.step rfl (by rfl) (fun K hK => ?_)
            go_simp
            dsimp only [runV]
            refine hK.out _ _ (keep_join hS1 ((Below.refl _ _).alloc (Nat.le_refl _) _) (by omega)) (fun hSn => ?_)
            clear hK K hSn
            try simp only [Act.put, List.setIfInBounds_toArray, List.set_cons_zero, List.set_cons_succ]
            refine SeqO.step rfl (by rfl) (fun K hK => ?_)
            go_simp
            refine hK.out _ _ (keep_join hS1 ((Below.refl _ _).alloc (Nat.le_refl _) _) (by omega)) (fun hS => ?_)
            clear hK K hS1
            try simp only [Act.put, List.setIfInBounds_toArray, List.set_cons_zero, List.set_cons_succ]
            repeat (refine SeqO.ld (v := ?_) rfl (by rfl) ?_ ?_; rotate_left; (· intro w hSw; (try dsimp only at hSw); go_simp; (try with_reducible rfl)); (try simp only [Act.put, List.setIfInBounds_toArray, List.set_cons_zero, List.set_cons_succ]))
            refine SeqO.fin ?_
            obtain ⟨W, hWW⟩ : ∃ W : World, W = w1.alloc (runObj ⟨q.l + r.l, q.m⟩) := ⟨_, rfl⟩
            have j0 : W.cell? ⟨w1.heap.size, 0, none⟩ = some (.int .i64 (q.l + r.l)) := by rw [hWW]; simp
            have j1 : W.cell? ⟨w1.heap.size, 1, none⟩ = some (.int .i64 q.m.t) := by rw [hWW]; simp
            have j2 : W.cell? ⟨w1.heap.size, 2, none⟩ = some (.int .i64 q.m.s) := by rw [hWW]; simp
            have j3 : W.cell? ⟨w1.heap.size, 3, none⟩ = some (.int .i64 q.m.f) := by rw [hWW]; simp
            rw [← hWW] at hS ⊢
            clear hWW
            obtain ⟨hown, hw, d0, d1, d2, d3, c0, c1, c2, c3, s1, s2, s3⟩ := hS
            have hfz := hown.snoc
            obtain ⟨_, _, e0, _, _, _, hfz, _⟩ := hfz
            obtain ⟨rfl, rfl⟩ : g = _ ∧ cp = _ := by simpa using e0
            clear e0
            have f0 := hfz (a.length * 4)
            have f1 := hfz (a.length * 4 + 1)
            have f2 := hfz (a.length * 4 + 2)
            have f3 := hfz (a.length * 4 + 3)
            clear hfz
            by_cases hmk : q.m = r.m
            · have HN' := Lib.hid (HN.out.trans (if_pos hmk))
              have hd : decide (q.m = r.m) = true := by simp [hmk]
              rw [hd]
              clear hmk HN hd
              have hs := hown.setR ⟨q.l + r.l, q.m⟩
              have hsw := (((hw.setCell (p := ⟨g, a.length * 4, none⟩) hg1 (.int .i64 (q.l + r.l))).setCell (p := ⟨g, a.length * 4 + 1, none⟩) hg1 (.int .i64 q.m.t)).setCell (p := ⟨g, a.length * 4 + 2, none⟩) hg1 (.int .i64 q.m.s)).setCell (p := ⟨g, a.length * 4 + 3, none⟩) hg1 (.int .i64 q.m.f)
              have HS := Lib.hid (And.intro hs hsw)
              clear hs hsw hown hw
              go_wp2
              go_roundw
              case rel => exact ⟨k + 1, by omega, by go_num, by rw [HN'.out]; exact HS.out.1, HS.out.2⟩
              case measure => simp [intOf]; omega
            · have HN' := Lib.hid (HN.out.trans (if_neg hmk))
              have hd : decide (q.m = r.m) = false := by simp [hmk]
              rw [hd]
              clear hmk HN hd
              have hr := hown.row
              go_wp2_with (at_builtin; refine wpList_append_own _ rfl _ _ 22 rfl w.heap.size 73 i0 (.agg #[.int .i64 0, .int .i64 0, .int .i64 0, .int .i64 0]) 4 32 Try.underlying22 hi hz0 hz1 hz2 rfl (by decide) _ _ _ rfl (hr.alloc _) ⟨W.heap.size, 0, none⟩ 1 1 (runC r) rfl rfl (runC_at W r _) (runC_one r) (by unfold maxLen; omega) (by omega) (by simp; omega) ?_)
              intro v' w3 hown1 hgrow _
              have hw1 := (hw.alloc s3 (runObj r)).grown hgrow (by simp; omega) (fun j e => (World.ownsRow.lt hown j e).1)
              have hown2 : Own w.heap.size w3 v' (a ++ [q] ++ [r]) := Own.pushed (a := a ++ [q]) (by rw [show (a ++ [q]).length = a.length + 1 by simp]; exact hown1)
              clear hown1 hgrow hown hw hr c0 c1 c2 c3 d0 d1 d2 d3 f0 f1 f2 f3 j0 j1 j2 j3
              go_wp2
              go_roundw
              case rel => exact ⟨k + 1, by omega, by go_num, by rw [HN'.out]; exact hown2, hw1⟩
              case measure => simp [intOf]; omega
          · go_simp
            refine hK.out _ _ (keep_join hS ((Below.refl _ _).alloc (Nat.le_refl _) _) (by (try dsimp only at hS); omega)) (fun hS1 => ?_)
            clear hK K hS
            try simp only [Act.put, List.setIfInBounds_toArray, List.set_cons_zero, List.set_cons_succ]
            refine SeqO.step rfl (by rfl) (fun K hK => ?_)
            go_simp
            go_at_call 91
            refine (join_runs_any q r _ (by omega) (by omega) (by omega) (by omega)).mono ?_
            rintro e w1 ⟨rfl, hb1⟩
            try dsimp only
            have z0 : w1.cell? ⟨wr.heap.size + 1, 0, none⟩ = some (.int .i64 0) := (hb1.cell (p := ⟨wr.heap.size + 1, 0, none⟩) (by simp)).trans (by simp)
            have z1 : w1.cell? ⟨wr.heap.size + 1, 1, none⟩ = some (.int .i64 0) := (hb1.cell (p := ⟨wr.heap.size + 1, 1, none⟩) (by simp)).trans (by simp)
            have z2 : w1.cell? ⟨wr.heap.size + 1, 2, none⟩ = some (.int .i64 0) := (hb1.cell (p := ⟨wr.heap.size + 1, 2, none⟩) (by simp)).trans (by simp)
            have z3 : w1.cell? ⟨wr.heap.size + 1, 3, none⟩ = some (.int .i64 0) := (hb1.cell (p := ⟨wr.heap.size + 1, 3, none⟩) (by simp)).trans (by simp)
            have y0 : w1.frozen? ⟨wr.heap.size + 1, 0, none⟩ = false := (hb1.frozen (p := ⟨wr.heap.size + 1, 0, none⟩) (by simp)).trans (by simp [go_sem])
            have y1 : w1.frozen? ⟨wr.heap.size + 1, 1, none⟩ = false := (hb1.frozen (p := ⟨wr.heap.size + 1, 1, none⟩) (by simp)).trans (by simp [go_sem])
            have y2 : w1.frozen? ⟨wr.heap.size + 1, 2, none⟩ = false := (hb1.frozen (p := ⟨wr.heap.size + 1, 2, none⟩) (by simp)).trans (by simp [go_sem])
            have y3 : w1.frozen? ⟨wr.heap.size + 1, 3, none⟩ = false := (hb1.frozen (p := ⟨wr.heap.size + 1, 3, none⟩) (by simp)).trans (by simp [go_sem])
            have hz9 : wr.heap.size + 1 < w1.heap.size := Nat.lt_of_lt_of_le (by simp) hb1.size
            refine hK.out _ _ (keep_join hS1 hb1 (by (try dsimp only at hS1); omega)) (fun hS2 => ?_)
            clear hK K hb1 hS1
            try simp only [Act.put, List.setIfInBounds_toArray, List.set_cons_zero, List.set_cons_succ]
            dsimp only [runV]
            repeat (refine SeqO.ld (v := ?_) rfl (by rfl) ?_ ?_; rotate_left; (· intro w hSw; (try dsimp only at hSw); go_simp; (try with_reducible rfl)); (try simp only [Act.put, List.setIfInBounds_toArray, List.set_cons_zero, List.set_cons_succ]))
            refine SeqO.step rfl (by rfl) (fun K hK => ?_)
            go_simp
            refine hK.out _ _ (keep_join (B := wr.heap.size + 1) hS2 (by repeat' (first | exact Below.refl _ _ | refine Below.setCell ?_ (by simp) _)) (by omega)) (fun hS => ?_)
            clear hK K hS2
            try simp only [Act.put, List.setIfInBounds_toArray, List.set_cons_zero, List.set_cons_succ]
            repeat (refine SeqO.ld (v := ?_) rfl (by rfl) ?_ ?_; rotate_left; (· intro w hSw; (try dsimp only at hSw); go_simp; (try with_reducible rfl)); (try simp only [Act.put, List.setIfInBounds_toArray, List.set_cons_zero, List.set_cons_succ]))
            refine SeqO.fin ?_
            obtain ⟨W, hWW⟩ : ∃ W : World, W = (((w1.setCell ⟨wr.heap.size + 1, 0, none⟩ (.int .i64 (q.l + r.l))).setCell ⟨wr.heap.size + 1, 1, none⟩ (.int .i64 q.m.t)).setCell ⟨wr.heap.size + 1, 2, none⟩ (.int .i64 q.m.s)).setCell ⟨wr.heap.size + 1, 3, none⟩ (.int .i64 q.m.f) := ⟨_, rfl⟩
            have j0 : W.cell? ⟨wr.heap.size + 1, 0, none⟩ = some (.int .i64 (q.l + r.l)) := by rw [hWW]; simp [go_sem, z0]
            have j1 : W.cell? ⟨wr.heap.size + 1, 1, none⟩ = some (.int .i64 q.m.t) := by rw [hWW]; simp [go_sem, z1]
            have j2 : W.cell? ⟨wr.heap.size + 1, 2, none⟩ = some (.int .i64 q.m.s) := by rw [hWW]; simp [go_sem, z2]
            have j3 : W.cell? ⟨wr.heap.size + 1, 3, none⟩ = some (.int .i64 q.m.f) := by rw [hWW]; simp [go_sem, z3]
            rw [← hWW] at hS ⊢
            clear hWW
            obtain ⟨hown, hw, d0, d1, d2, d3, c0, c1, c2, c3, s1, s2, s3⟩ := hS
            have hfz := hown.snoc
            obtain ⟨_, _, e0, _, _, _, hfz, _⟩ := hfz
            obtain ⟨rfl, rfl⟩ : g = _ ∧ cp = _ := by simpa using e0
            clear e0
            have f0 := hfz (a.length * 4)
            have f1 := hfz (a.length * 4 + 1)
            have f2 := hfz (a.length * 4 + 2)
            have f3 := hfz (a.length * 4 + 3)
            clear hfz
            by_cases hmk : q.m = r.m
            · have HN' := Lib.hid (HN.out.trans (if_pos hmk))
              have hd : decide (q.m = r.m) = true := by simp [hmk]
              rw [hd]
              clear hmk HN hd
              have hs := hown.setR ⟨q.l + r.l, q.m⟩
              have hsw := (((hw.setCell (p := ⟨g, a.length * 4, none⟩) hg1 (.int .i64 (q.l + r.l))).setCell (p := ⟨g, a.length * 4 + 1, none⟩) hg1 (.int .i64 q.m.t)).setCell (p := ⟨g, a.length * 4 + 2, none⟩) hg1 (.int .i64 q.m.s)).setCell (p := ⟨g, a.length * 4 + 3, none⟩) hg1 (.int .i64 q.m.f)
              have HS := Lib.hid (And.intro hs hsw)
              clear hs hsw hown hw
              go_wp2
              go_roundw
              case rel => exact ⟨k + 1, by omega, by go_num, by rw [HN'.out]; exact HS.out.1, HS.out.2⟩
              case measure => simp [intOf]; omega
            · have HN' := Lib.hid (HN.out.trans (if_neg hmk))
              have hd : decide (q.m = r.m) = false := by simp [hmk]
              rw [hd]
              clear hmk HN hd
              have hr := hown.row
              go_wp2_with (at_builtin; refine wpList_append_own _ rfl _ _ 22 rfl w.heap.size 73 i0 (.agg #[.int .i64 0, .int .i64 0, .int .i64 0, .int .i64 0]) 4 32 Try.underlying22 hi hz0 hz1 hz2 rfl (by decide) _ _ _ rfl (hr.alloc _) ⟨W.heap.size, 0, none⟩ 1 1 (runC r) rfl rfl (runC_at W r _) (runC_one r) (by unfold maxLen; omega) (by omega) (by simp; omega) ?_)
              intro v' w3 hown1 hgrow _
              have hw1 := (hw.alloc s3 (runObj r)).grown hgrow (by simp; omega) (fun j e => (World.ownsRow.lt hown j e).1)
              have hown2 : Own w.heap.size w3 v' (a ++ [q] ++ [r]) := Own.pushed (a := a ++ [q]) (by rw [show (a ++ [q]).length = a.length + 1 by simp]; exact hown1)
              clear hown1 hgrow hown hw hr c0 c1 c2 c3 d0 d1 d2 d3 f0 f1 f2 f3 j0 j1 j2 j3
              go_wp2
              go_roundw
              case rel => exact ⟨k + 1, by omega, by go_num, by rw [HN'.out]; exact hown2, hw1⟩
              case measure => simp [intOf]; omega
      · obtain rfl : k = rs.length := by omega
        clear hc
        rw [List.take_length] at hown
        rcases hown.form with ⟨rfl, _⟩ | ⟨g, cp, rfl, hg1, hg2, hg3, hg4, _⟩
        all_goals
          go_wp2
          go_ret
          exact ⟨_, rfl, hown, hw⟩
end Go.Proofs.Ytilpofmjkcjhdaa
namespace Go.Proofs.Ytilpofmjkcjhdaa
open Go.RowKit

namespace Bd
def norR (b : List R) : List R := if valE b = 0 then norm b else []
def lenR (b : List R) : Int := if valE b = 0 then len b else 0
theorem told_valid {b : List R} (h : valE b = 0) : toldE b = 0 ∧ toldR b = norm b := by
  obtain ⟨h1, _, h3⟩ := valE_zero h
  have := norm_length b
  exact told_fits (by omega)
theorem norR_zero {b : List R} (h : valE b = 0) : norR b = norm b := if_pos h
theorem norR_not {b : List R} (h : valE b ≠ 0) : norR b = [] := if_neg h
theorem lenR_zero {b : List R} (h : valE b = 0) : lenR b = len b := if_pos h
theorem lenR_not {b : List R} (h : valE b ≠ 0) : lenR b = 0 := if_neg h
end Bd

theorem normal_any (v : Value) (rs : List Bd.R) (w : World) (hv : Runs w v rs) (hf : Bd.fine rs) :
    Calls Try.prog 72 #[v] w fun e w' => ∃ u, e = .returned u ∧ Own w.heap.size w' u (Bd.norm rs) ∧ Below w.heap.size w w' := by
  have J := Lib.hid (joined_any v rs w hv hf)
  obtain ⟨a, c, rfl⟩ := hv.form
  clear hv
  go_enter Try.func72, Try.ntmps72
  go_wp2_with fail
  refine J.out.mono ?_
  rintro e w1 ⟨u, rfl, hu, hb1⟩
  obtain ⟨ua, uc, hu'⟩ := hu.runs.form
  subst hu'
  go_wp2
  go_ret
  exact ⟨_, rfl, hu, hb1⟩

theorem num_length_any (v : Value) (rs : List Bd.R) (w : World) (hv : Runs w v rs) (hl : rs.length ≤ 1000) :
    Calls Try.prog 44 #[v] w fun e w' => e = .returned (.tuple #[.int .i64 (Bd.lenR rs), .int .i64 (Bd.valE rs)]) ∧ Below w.heap.size w w' := by
  have V := Lib.hid (validate_any v rs w hv hl)
  have N := Lib.hid (fun W (hW : Below w.heap.size w W) h => length_any v rs W (hv.all hW) (Bd.fine_of_valid h))
  obtain ⟨a, c, rfl⟩ := hv.form
  clear hv
  by_cases h : Bd.valE rs = 0
  · rw [h] at V ⊢
    rw [Bd.lenR_zero h]
    have N := Lib.hid (fun W hW => N.out W hW h)
    clear h
    generalize Bd.len rs = n at *
    go_enter Try.func44, Try.ntmps44
    go_wp2_with fail
    refine V.out.mono ?_
    rintro e w1 ⟨rfl, hb1⟩
    go_wp2_with fail
    refine (N.out _ hb1).mono ?_
    rintro e w2 ⟨rfl, hb2⟩
    go_wp2
    go_ret2
    exact ⟨rfl, below_step hb1 hb2⟩
  · rw [Bd.lenR_not h]
    generalize Bd.valE rs = z at *
    have hz : (z == 0) = false := by simp [h]
    clear h N
    go_enter Try.func44, Try.ntmps44
    go_wp2_with fail
    refine V.out.mono ?_
    rintro e w1 ⟨rfl, hb1⟩
    go_wp2
    go_ret2
    exact ⟨rfl, hb1⟩

theorem ref_length_any (v : Value) (rs : List Bd.R) (w : World) (hv : Runs w v rs) (hl : rs.length ≤ 1000) :
    Calls Try.prog 76 #[v] w fun e w' => e = .returned (.tuple #[.int .i64 (Bd.lenR rs), .int .i64 (Bd.valE rs)]) ∧ Below w.heap.size w w' := by
  have V := Lib.hid (ref_validate_any v rs w hv hl)
  have N := Lib.hid (fun W (hW : Below w.heap.size w W) h => size_any v rs W (hv.all hW) (Bd.fine_of_valid h))
  obtain ⟨a, c, rfl⟩ := hv.form
  clear hv
  by_cases h : Bd.valE rs = 0
  · rw [h] at V ⊢
    rw [Bd.lenR_zero h]
    have N := Lib.hid (fun W hW => N.out W hW h)
    clear h
    generalize Bd.len rs = n at *
    go_enter Try.func76, Try.ntmps76
    go_wp2_with fail
    refine V.out.mono ?_
    rintro e w1 ⟨rfl, hb1⟩
    go_wp2_with fail
    refine (N.out _ hb1).mono ?_
    rintro e w2 ⟨rfl, hb2⟩
    go_wp2
    go_ret2
    exact ⟨rfl, below_step hb1 hb2⟩
  · rw [Bd.lenR_not h]
    generalize Bd.valE rs = z at *
    have hz : (z == 0) = false := by simp [h]
    clear h N
    go_enter Try.func76, Try.ntmps76
    go_wp2_with fail
    refine V.out.mono ?_
    rintro e w1 ⟨rfl, hb1⟩
    go_wp2
    go_ret2
    exact ⟨rfl, hb1⟩
theorem long_false (v : Value) (rs : List Bd.R) (w : World) (hv : Runs w v rs) (hl : rs.length ≤ 100) :
    Calls Try.prog 46 #[v] w fun e w' => e = .returned (.bool false) ∧ Below w.heap.size w w' := by
  obtain ⟨a, c, rfl⟩ := hv.form
  clear hv
  go_enter Try.func46, Try.ntmps46
  go_wp2
  go_ret
  exact ⟨ret_bool (by simp; omega), Below.refl _ _⟩
theorem long_true (v : Value) (rs : List Bd.R) (w : World) (hv : Runs w v rs) (hl : 100 < rs.length) :
    Calls Try.prog 46 #[v] w fun e w' => e = .returned (.bool true) ∧ Below w.heap.size w w' := by
  obtain ⟨a, c, rfl⟩ := hv.form
  clear hv
  go_enter Try.func46, Try.ntmps46
  go_wp2
  go_ret
  exact ⟨ret_bool (by simp; omega), Below.refl _ _⟩

theorem cellsR_get (rs : List Bd.R) (j : Nat) (u : Value) (h : (cellsR rs)[j]? = some u) :
    ∃ k i, j = k * 4 + i ∧ k < rs.length ∧ ((i = 0 ∧ u = .int .i64 (rs.getD k default).l) ∨ (i = 1 ∧ u = .int .i64 (rs.getD k default).m.t) ∨ (i = 2 ∧ u = .int .i64 (rs.getD k default).m.s) ∨ (i = 3 ∧ u = .int .i64 (rs.getD k default).m.f)) := by
  have hj : j < rs.length * 4 := by
    have := (List.getElem?_eq_some_iff.1 h).1
    rwa [cellsR_length] at this
  have hk : j / 4 < rs.length := by omega
  obtain ⟨c0, c1, c2, c3⟩ := cellsR_at rs (j / 4) hk
  refine ⟨j / 4, j % 4, by omega, hk, ?_⟩
  have h4 : j % 4 = 0 ∨ j % 4 = 1 ∨ j % 4 = 2 ∨ j % 4 = 3 := by omega
  rcases h4 with e | e | e | e
  · rw [show j = j / 4 * 4 by omega, c0] at h; exact .inl ⟨e, by simpa using h.symm⟩
  · rw [show j = j / 4 * 4 + 1 by omega, c1] at h; exact .inr (.inl ⟨e, by simpa using h.symm⟩)
  · rw [show j = j / 4 * 4 + 2 by omega, c2] at h; exact .inr (.inr (.inl ⟨e, by simpa using h.symm⟩))
  · rw [show j = j / 4 * 4 + 3 by omega, c3] at h; exact .inr (.inr (.inr ⟨e, by simpa using h.symm⟩))
/-- The cells of a row of runs, behind a new block. -/
theorem runs_cells {w : World} {b off : Nat} {rs : List Bd.R} {o : Obj} (hb : b < w.heap.size) (hc : ∀ k, k < rs.length → RunAt w b (off + k * 4) (rs.getD k default)) :
    ∀ (j : Nat) (u : Value), (cellsR rs)[j]? = some u → (w.alloc o).cell? ((⟨b, off, none⟩ : Addr).add j) = some u := by
  intro j u h
  obtain ⟨k, i, rfl, hk, h⟩ := cellsR_get rs j u h
  obtain ⟨c0, c1, c2, c3⟩ := runAt_alloc (hc k hk) hb o
  have ha : ∀ n : Nat, (⟨b, off, none⟩ : Addr).add n = ⟨b, off + n, none⟩ := fun n => by
    unfold Addr.add
    split
    · rename_i e; subst e; rfl
    · rfl
  rw [ha]
  rcases h with ⟨rfl, rfl⟩ | ⟨rfl, rfl⟩ | ⟨rfl, rfl⟩ | ⟨rfl, rfl⟩
  · rw [Nat.add_zero]; exact c0
  · rw [← Nat.add_assoc]; exact c1
  · rw [← Nat.add_assoc]; exact c2
  · rw [← Nat.add_assoc]; exact c3
end Go.Proofs.Ytilpofmjkcjhdaa
namespace Go.Proofs.Ytilpofmjkcjhdaa
open Go.RowKit

theorem cellsR_setK : ∀ (rs : List Bd.R) (k : Nat) (x : Int), k < rs.length → (cellsR rs).set (k * 4) (.int .i64 x) = cellsR (rs.set k ⟨x, (rs.getD k default).m⟩)
  | [], k, x, h => by simp at h
  | r :: b, 0, x, _ => rfl
  | r :: b, k + 1, x, h => by
    have ih := cellsR_setK b k x (by simpa using h)
    show (runC r ++ cellsR b).set ((k + 1) * 4) _ = runC r ++ cellsR (b.set k _)
    simp only [List.getD_cons_succ] at ih ⊢
    rw [← ih, List.set_append_right _ _ (by simp [runC]; omega)]
    congr 2
    simp [runC]; omega
theorem Own.setK {base : Nat} {w : World} {g cap : Nat} {rs : List Bd.R} (h : Own base w (.slice (some ⟨g, 0, none⟩) rs.length cap) rs) (k : Nat) (x : Int) (hk : k < rs.length) :
    Own base (w.setCell ⟨g, k * 4, none⟩ (.int .i64 x)) (.slice (some ⟨g, 0, none⟩) rs.length cap) (rs.set k ⟨x, (rs.getD k default).m⟩) := by
  have h1 := (World.ownsRow.stored h (k * 4) (.int .i64 x)).1
  rw [cellsR_setK rs k x hk] at h1
  unfold Own
  rw [List.length_set]
  exact h1

abbrev knownObj : Obj := .cells #[.int .i64 100, .int .i64 20, .int .i64 0, .int .i64 0, .int .i64 50, .int .i64 20, .int .i64 0, .int .i64 0, .int .i64 30, .int .i64 25, .int .i64 0, .int .i64 0] 73
def knownRuns : List Bd.R := [⟨100, ⟨20, 0, 0⟩⟩, ⟨50, ⟨20, 0, 0⟩⟩, ⟨30, ⟨25, 0, 0⟩⟩]
theorem known_runs (w : World) : Runs (w.alloc knownObj) (.slice (some ⟨w.heap.size, 0, none⟩) 3 3) knownRuns := by
  refine .inr ⟨w.heap.size, 0, 3, rfl, by decide, by simp, fun k hk => ?_⟩
  have hk' : k = 0 ∨ k = 1 ∨ k = 2 := by simp [knownRuns] at hk; omega
  rcases hk' with rfl | rfl | rfl <;> exact ⟨by simp [knownRuns], by simp [knownRuns], by simp [knownRuns], by simp [knownRuns]⟩
theorem known_valE : Bd.valE knownRuns = 0 := by decide
theorem known_norR : Bd.norR knownRuns = [⟨150, ⟨20, 0, 0⟩⟩] ++ [⟨30, ⟨25, 0, 0⟩⟩] := by decide
end Go.Proofs.Ytilpofmjkcjhdaa
namespace Go.Proofs.Ytilpofmjkcjhdaa
namespace Bd
/-- How far two normal bands agree. -/
def agr : List R → List R → Int
  | r :: x, q :: y => if r.m = q.m then (if r.l = q.l then r.l + agr x y else min r.l q.l) else 0
  | _, _ => 0
/-- The length of the common beginning. -/
def cpl : List M → List M → Nat
  | a :: x, b :: y => if a = b then cpl x y + 1 else 0
  | _, _ => 0
theorem cpl_nil (x : List M) : cpl x [] = 0 := by cases x <;> rfl
theorem agr_nil (x : List R) : agr x [] = 0 := by cases x <;> rfl
theorem cpl_rep (m : M) (n : Nat) (x y : List M) : cpl (List.replicate n m ++ x) (List.replicate n m ++ y) = n + cpl x y := by
  induction n with
  | zero => simp
  | succ n ih => simp only [List.replicate_succ, List.cons_append, cpl, if_true, ih]; omega
theorem cpl_head {x y : List M} (h : x.head? = none ∨ x.head? ≠ y.head?) : cpl x y = 0 := by
  cases x with
  | nil => rfl
  | cons a x =>
    cases y with
    | nil => rfl
    | cons b y =>
      rcases h with h | h
      · simp at h
      · simp at h; simp [cpl, h]
theorem cpl_comm : ∀ (x y : List M), cpl x y = cpl y x
  | [], y => by rw [cpl_nil]; rfl
  | a :: x, [] => rfl
  | a :: x, b :: y => by
    simp only [cpl]
    by_cases h : a = b
    · rw [if_pos h, if_pos h.symm, cpl_comm x y]
    · rw [if_neg h, if_neg (fun e => h e.symm)]
theorem rep_split {n k : Nat} (h : n < k) (m : M) (z : List M) : List.replicate k m ++ z = List.replicate n m ++ (List.replicate (k - n) m ++ z) := by
  rw [← List.append_assoc, List.replicate_append_replicate, show n + (k - n) = k by omega]
theorem rep_head {n : Nat} (h : 0 < n) (m : M) (z : List M) : (List.replicate n m ++ z).head? = some m := by
  cases n with
  | zero => omega
  | succ n => simp [List.replicate_succ]
theorem agr_cpl : ∀ {x y : List R}, nrm x → nrm y → agr x y = cpl (exp x) (exp y)
  | [], y, _, _ => by simp [agr, exp, cpl]
  | r :: x, [], _, _ => by simp [agr, exp, cpl_nil]
  | r :: x, q :: y, hx, hy => by
    have h1 := hx.1
    have h2 := hy.1
    simp only [agr, exp]
    by_cases hm : r.m = q.m
    · rw [if_pos hm, ← hm]
      by_cases hl : r.l = q.l
      · rw [if_pos hl, ← hl, cpl_rep, agr_cpl hx.2.2 hy.2.2]; omega
      · rw [if_neg hl]
        rcases Int.lt_or_gt_of_ne hl with h | h
        · rw [rep_split (n := r.l.toNat) (k := q.l.toNat) (by omega), cpl_rep, cpl_head, Int.min_eq_left (by omega)]
          · omega
          · right; rw [rep_head (by omega)]; exact nrm_head hx
        · rw [rep_split (n := q.l.toNat) (k := r.l.toNat) (by omega), cpl_rep, cpl_comm, cpl_head, Int.min_eq_right (by omega)]
          · omega
          · right; rw [rep_head (by omega), hm]; exact nrm_head hy
    · rw [if_neg hm, cpl_head]
      · rfl
      · right; rw [rep_head (by omega), rep_head (by omega)]; simpa using hm
theorem cpl_le : ∀ (x y : List M), cpl x y ≤ x.length ∧ cpl x y ≤ y.length
  | [], y => by simp [cpl]
  | a :: x, [] => by simp [cpl]
  | a :: x, b :: y => by
    have := cpl_le x y
    simp only [cpl]; split <;> simp <;> omega
theorem cpl_take : ∀ (x y : List M), x.take (cpl x y) = y.take (cpl x y)
  | [], y => by simp [cpl]
  | a :: x, [] => by simp [cpl]
  | a :: x, b :: y => by
    simp only [cpl]
    by_cases h : a = b
    · rw [if_pos h, h]; simp [cpl_take x y]
    · rw [if_neg h]; simp
theorem cpl_next : ∀ (x y : List M), cpl x y < x.length → cpl x y < y.length → x[cpl x y]? ≠ y[cpl x y]?
  | [], y, h, _ => by simp [cpl] at h
  | a :: x, [], _, h => by simp [cpl] at h
  | a :: x, b :: y, h1, h2 => by
    simp only [cpl] at *
    by_cases h : a = b
    · rw [if_pos h] at *
      simp only [List.length_cons, List.getElem?_cons_succ] at *
      exact cpl_next x y (by omega) (by omega)
    · rw [if_neg h]; simpa using h
theorem cpl_full {x y : List M} (h1 : cpl x y = x.length) (h2 : cpl x y = y.length) : x = y := by
  have := cpl_take x y
  rwa [h1, List.take_length, ← h1, h2, List.take_length] at this
theorem cpl_self : ∀ x : List M, cpl x x = x.length
  | [] => rfl
  | a :: x => by simp [cpl, cpl_self x]
/-- Two normal bands are one just if they agree up to both ends. -/
theorem agr_full {x y : List R} (hx : nrm x) (hy : nrm y) : (agr x y = len x ∧ agr x y = len y) ↔ x = y := by
  rw [agr_cpl hx hy, len_exp (nrm_pos hx), len_exp (nrm_pos hy)]
  constructor
  · rintro ⟨h1, h2⟩
    exact nrm_unique hx hy (cpl_full (by omega) (by omega))
  · rintro rfl
    rw [cpl_self]; exact ⟨rfl, rfl⟩
theorem agr_bounds {x y : List R} (hx : nrm x) (hy : nrm y) : 0 ≤ agr x y ∧ agr x y ≤ len x ∧ agr x y ≤ len y := by
  rw [agr_cpl hx hy, len_exp (nrm_pos hx), len_exp (nrm_pos hy)]
  have := cpl_le (exp x) (exp y)
  omega
theorem nrm_drop : ∀ {x : List R} (k : Nat), nrm x → nrm (x.drop k)
  | _, 0, h => h
  | [], k + 1, _ => by simp [nrm]
  | r :: x, k + 1, h => nrm_drop (x := x) k h.2.2
theorem agr_step {x y : List R} {k : Nat} (hx : k < x.length) (hy : k < y.length) :
    agr (x.drop k) (y.drop k) = if x[k].m = y[k].m then (if x[k].l = y[k].l then x[k].l + agr (x.drop (k + 1)) (y.drop (k + 1)) else min x[k].l y[k].l) else 0 := by
  rw [List.drop_eq_getElem_cons hx, List.drop_eq_getElem_cons hy]; rfl
theorem agr_end {x y : List R} {k : Nat} (h : x.length ≤ k ∨ y.length ≤ k) : agr (x.drop k) (y.drop k) = 0 := by
  rcases h with h | h
  · rw [List.drop_of_length_le h]; rfl
  · rw [List.drop_of_length_le h, agr_nil]
theorem len_drop_le {b : List R} (h : pos b) (k : Nat) : 0 ≤ len (b.drop k) ∧ len (b.drop k) ≤ len b := by
  have h1 := len_append (b.take k) (b.drop k)
  rw [List.take_append_drop] at h1
  have h2 := len_nonneg (pos_take h k)
  have h3 := len_nonneg (b := b.drop k) (fun r hr => h r (List.mem_of_mem_drop hr))
  omega
def bothE (a b : List R) : Int := if valE a = 0 then valE b else valE a
theorem bothE_zero {a b : List R} : bothE a b = 0 ↔ valE a = 0 ∧ valE b = 0 := by
  unfold bothE; split
  · rename_i h; simp [h]
  · rename_i h; simp [h]
def sameB (a b : List R) : Bool := if bothE a b = 0 then decide (norm a = norm b) else false
def agrV (a b : List R) : Int := if bothE a b = 0 then agr (norm a) (norm b) else 0
end Bd
end Go.Proofs.Ytilpofmjkcjhdaa
namespace Go.Proofs.Ytilpofmjkcjhdaa
open Go.RowKit


theorem ref_join_fine (v : Value) (rs : List Bd.R) (w : World) (hv : Runs w v rs) (hf : Bd.fine rs) :
    Calls Try.prog 101 #[v] w fun e w' => ∃ u, e = .returned u ∧ Own w.heap.size w' u (Bd.norm rs) ∧ Below w.heap.size w w' :=
  ref_join_any v rs w hv hf.1 hf.2.1 (by have := hf.2.2; omega)

/-- Two rows of runs side by side, at a place that both have. -/
theorem two_at {w0 wr : World} {g1 g2 : Nat} {xs ys : List Bd.R} {k : Nat} (h1 : ∀ k, k < xs.length → RunAt w0 g1 (k * 4) (xs.getD k default)) (h2 : ∀ k, k < ys.length → RunAt w0 g2 (k * 4) (ys.getD k default))
    (hb : Below w0.heap.size w0 wr) (s1 : g1 < w0.heap.size) (s2 : g2 < w0.heap.size) (k1 : k < xs.length) (k2 : k < ys.length) : RunAt wr g1 (k * 4) xs[k] ∧ RunAt wr g2 (k * 4) ys[k] := by
  have a := h1 k k1
  have b := h2 k k2
  rw [getD_run k1] at a
  rw [getD_run k2] at b
  exact ⟨a.below hb s1, b.below hb s2⟩

theorem Runs.look {w : World} {v : Value} {rs : List Bd.R} (h : Runs w v rs) :
    ∃ ao c, v = .slice ao rs.length c ∧ ∀ k (hk : k < rs.length), ∃ b off, ao = some ⟨b, off, none⟩ ∧ b < w.heap.size ∧ RunAt w b (off + k * 4) rs[k] := by
  rcases h with ⟨a, c, rfl, rfl, _⟩ | ⟨b, off, cap, rfl, h2, h3, h4⟩
  · exact ⟨a, c, rfl, fun k hk => by simp at hk⟩
  · exact ⟨_, cap, rfl, fun k hk => ⟨b, off, rfl, h3, by have := h4 k hk; rwa [getD_run hk] at this⟩⟩
theorem m_eq {r q : Bd.M} (h : r = q) : (r.t == q.t) = true ∧ (r.s == q.s) = true ∧ (r.f == q.f) = true := by subst h; simp
theorem Bd.len_drop_succ {b : List Bd.R} {k : Nat} (h : k < b.length) : Bd.len (b.drop k) = b[k].l + Bd.len (b.drop (k + 1)) := by
  rw [List.drop_eq_getElem_cons h]; rfl

end Go.Proofs.Ytilpofmjkcjhdaa
namespace Go.Proofs.Ytilpofmjkcjhdaa
open Go.RowKit

theorem Bd.fine_append {a b : List Bd.R} (h1 : a.length + b.length ≤ 1000) (h2 : Bd.pos a) (h3 : Bd.pos b) (h4 : Bd.len a + Bd.len b ≤ 1000000000) : Bd.fine (a ++ b) :=
  ⟨by simp; omega, Bd.pos_append.2 ⟨h2, h3⟩, by rw [Bd.len_append]; exact h4⟩

/-- A slice that is read and appended to an own list. -/
theorem runs_src {w : World} {v : Value} {rs : List Bd.R} (h : Runs w v rs) :
    (v = .slice none 0 0 ∧ rs = []) ∨ ∃ ad c, v = .slice (some ad) rs.length c ∧ ∀ (j : Nat) (u : Value), (cellsR rs)[j]? = some u → w.cell? (ad.add j) = some u := by
  rcases h with ⟨a, c, rfl, rfl, hn⟩ | ⟨b, off, cap, rfl, hcap, hb, hc⟩
  · cases a with
    | none => obtain rfl := hn rfl; exact .inl ⟨rfl, rfl⟩
    | some ad => exact .inr ⟨ad, c, rfl, fun j u h => by simp [cellsR] at h⟩
  · refine .inr ⟨⟨b, off, none⟩, cap, rfl, fun j u h => ?_⟩
    have h1 := runs_cells (o := .deferred none) hb hc j u h
    have ha : ∀ n : Nat, (⟨b, off, none⟩ : Addr).add n = ⟨b, off + n, none⟩ := fun n => by
      unfold Addr.add
      split
      · rename_i e; subst e; rfl
      · rfl
    rw [ha] at h1 ⊢
    rwa [World.cell?_alloc_past _ _ _ hb] at h1
theorem Own.joined {base : Nat} {w : World} {v : Value} {a b : List Bd.R} (h : w.ownsRow base 73 4 v (a.length + b.length) (cellsR a ++ cellsR b)) : Own base w v (a ++ b) := by
  unfold Own; rw [List.length_append, cellsR_append]; exact h

set_option maxRecDepth 20000 in
set_option maxHeartbeats 1000000 in
theorem both_any (v u : Value) (rs qs : List Bd.R) (w : World) (hv : Runs w v rs) (hu : Runs w u qs) (hl : rs.length ≤ 1000) (hl2 : qs.length ≤ 1000) :
    Calls Try.prog 48 #[v, u] w fun e w' => ∃ x, e = .returned x ∧ Own w.heap.size w' x (rs ++ qs) ∧ Below w.heap.size w w' := by
  obtain ⟨i0, hi, hz0, hz1, hz2⟩ := info_parts infoRun
  have hown := World.ownsRow_made (base := w.heap.size) (e := 73) (size := 4) w #[] 0 (Nat.le_refl _) (by unfold maxLen; omega) rfl
  have hw0 := (Below.refl w.heap.size w).alloc (Nat.le_refl _) (.cells #[] 73)
  have hv1 := runs_src (hv.all hw0)
  have hu1 := hu.all hw0
  clear hv
  rcases hv1 with ⟨rfl, rfl⟩ | ⟨ad, c, rfl, hca⟩
  · rcases runs_src hu1 with ⟨rfl, rfl⟩ | ⟨ad2, c2, rfl, hcb⟩
    · go_enter Try.func48, Try.ntmps48
      go_wp2_with (at_builtin; refine wpList_append_own_none rfl _ _ 22 rfl w.heap.size 73 i0 4 Try.underlying22 hi _ _ _ rfl hown rfl ?_)
      go_ret
      exact ⟨_, rfl, hown, hw0⟩
    · go_enter Try.func48, Try.ntmps48
      go_wp2_with (first | (at_builtin; refine wpList_append_own_none rfl _ _ 22 rfl w.heap.size 73 i0 4 Try.underlying22 hi _ _ _ rfl hown rfl ?_) | (at_builtin; refine wpList_append_own _ rfl _ _ 22 rfl w.heap.size 73 i0 (.agg #[.int .i64 0, .int .i64 0, .int .i64 0, .int .i64 0]) 4 32 Try.underlying22 hi hz0 hz1 hz2 rfl (by decide) _ _ _ rfl hown ad2 qs.length c2 (cellsR qs) rfl (cellsR_length qs) hcb (cellsR_one qs) (by unfold maxLen; omega) (by omega) (by simp) ?_))
      intro v' w1 hown1 hgrow _
      have hw1 := hw0.grown hgrow (by simp) (fun j e => (World.ownsRow.lt hown j e).1)
      have hx : Own w.heap.size w1 v' ([] ++ qs) := Own.joined (a := []) (b := qs) (by simpa [cellsR] using hown1)
      clear hown hgrow hown1 hcb
      go_wp2
      go_ret
      exact ⟨_, rfl, hx, hw1⟩
  · go_enter Try.func48, Try.ntmps48
    go_wp2_with (at_builtin; refine wpList_append_own _ rfl _ _ 22 rfl w.heap.size 73 i0 (.agg #[.int .i64 0, .int .i64 0, .int .i64 0, .int .i64 0]) 4 32 Try.underlying22 hi hz0 hz1 hz2 rfl (by decide) _ _ _ rfl hown ad rs.length c (cellsR rs) rfl (cellsR_length rs) hca (cellsR_one rs) (by unfold maxLen; omega) (by omega) (by simp) ?_)
    intro v' w1 hown1 hgrow _
    have hw1 := hw0.grown hgrow (by simp) (fun j e => (World.ownsRow.lt hown j e).1)
    have hx1 : w1.ownsRow w.heap.size 73 4 v' rs.length (cellsR rs) := by simpa using hown1
    have hu2 := runs_src (hu.all hw1)
    clear hu hown hgrow hown1 hca hw0
    rcases hu2 with ⟨rfl, rfl⟩ | ⟨ad2, c2, rfl, hcb⟩
    · go_wp2_with (at_builtin; refine wpList_append_own_none rfl _ _ 22 rfl w.heap.size 73 i0 4 Try.underlying22 hi _ _ _ rfl hx1 rfl ?_)
      go_ret
      exact ⟨_, rfl, by rw [List.append_nil]; exact hx1, hw1⟩
    · go_wp2_with (at_builtin; refine wpList_append_own _ rfl _ _ 22 rfl w.heap.size 73 i0 (.agg #[.int .i64 0, .int .i64 0, .int .i64 0, .int .i64 0]) 4 32 Try.underlying22 hi hz0 hz1 hz2 rfl (by decide) _ _ _ rfl hx1 ad2 qs.length c2 (cellsR qs) rfl (cellsR_length qs) hcb (cellsR_one qs) (by unfold maxLen; omega) (by omega) hw1.size ?_)
      intro v2 w2 hown2 hgrow2 _
      have hw2 := hw1.grown hgrow2 hw1.size (fun j e => (World.ownsRow.lt hx1 j e).1)
      have hx2 := Own.joined hown2
      clear hown2 hgrow2 hcb hx1
      go_wp2
      go_ret
      exact ⟨_, rfl, hx2, hw2⟩
end Go.Proofs.Ytilpofmjkcjhdaa
namespace Go.Proofs.Ytilpofmjkcjhdaa
open Go.RowKit

def catR (vs : List (Value × List Bd.R)) : List Bd.R := (vs.map (·.2)).flatten
theorem catR_take_succ {vs : List (Value × List Bd.R)} {k : Nat} (h : k < vs.length) : catR (vs.take (k + 1)) = catR (vs.take k) ++ vs[k].2 := by
  unfold catR; rw [List.take_succ_eq_append_getElem h, List.map_append, List.flatten_append, List.map_cons, List.map_nil, List.flatten_cons, List.flatten_nil, List.append_nil]
theorem catR_take_le (vs : List (Value × List Bd.R)) (k : Nat) : (catR (vs.take k)).length ≤ (catR vs).length := by
  have : catR vs = catR (vs.take k) ++ catR (vs.drop k) := by
    unfold catR; rw [← List.flatten_append, ← List.map_append, List.take_append_drop]
  rw [this]; simp
theorem catR_all (vs : List (Value × List Bd.R)) : catR (vs.take vs.length) = catR vs := by rw [List.take_length]

end Go.Proofs.Ytilpofmjkcjhdaa
