/- A region that draws its order, walked in ONE order: what only reads is taken first wherever it is free to be, what makes memory comes up where nothing else may. A guard that is false costs nothing. -/
import Derived.WalkKit
import Derived.Deep.RegionHeld
namespace Go.Proofs.Ytbmjjmpdlmbehaa
open Go

section
variable {P : Program} {ops : Array Oper} {Q : Exit → Act → World → Prop} {S : World → Prop}

/-- The operations in the order that is given; 'true' beside an operation: it only yields a value. -/
def SeqH (P : Program) (ops : Array Oper) (Q : Exit → Act → World → Prop) (S : World → Prop) : List (Nat × Bool) → Act → World → Prop
  | [], a, w => Q .normal a w
  | (i, true) :: r, a, w => ∃ o v, ops[i]? = some o ∧ YieldsIf P ops S o v a ∧ SeqH P ops Q S r (a.put o.dst v) w
  | (i, false) :: r, a, w => wpOp P ops Q i (fun a' w' => S w' ∧ SeqH P ops Q S r a' w') a w

/-- Whether the order may be taken: a closed fact. -/
def seqOk (md : Region.Mode) (ops : Array Oper) : List (Nat × Bool) → Array Bool → Bool
  | [], listed => (Region.ready md ops listed) == []
  | (i, true) :: r, listed => Region.free md ops listed i && (Region.ready md ops listed).contains i && seqOk md ops r (listed.setIfInBounds i true)
  | (i, false) :: r, listed => (Region.ready md ops listed) == [i] && seqOk md ops r (listed.setIfInBounds i true)

theorem wpAnyH_of_seq {md : Region.Mode} (hs : Region.noSelect ops = true) (hQ : ∀ d v c a w, Q (.panic c) (a.put d v) w → Q (.panic c) a w) :
    ∀ (ord : List (Nat × Bool)) (fuel : Nat) (listed : Array Bool) (a : Act) (w : World), ord.length ≤ fuel → seqOk md ops ord listed = true → S w → SeqH P ops Q S ord a w → wpAnyH P md ops Q S fuel listed a w
  | [], fuel, listed, a, w, _, ho, _, h => wpAnyH_done (by simpa [seqOk] using ho) h fuel
  | (i, true) :: r, fuel + 1, listed, a, w, hl, ho, hS, h => by
    simp only [seqOk, Bool.and_eq_true] at ho
    obtain ⟨o, v, hi, hy, h⟩ := h
    exact wpAnyH_take hi hs ho.1.1 ho.1.2 (fun c a w => hQ _ _ c a w) hy hS (wpAnyH_of_seq hs hQ r fuel _ _ _ (by simpa using hl) ho.2 hS h)
  | (i, false) :: r, fuel + 1, listed, a, w, hl, ho, _, h => by
    simp only [seqOk, Bool.and_eq_true, beq_iff_eq] at ho
    refine wpAnyH_all (rs := [i]) ho.1 (by simp) fun j hj => ?_
    obtain rfl : j = i := by simpa using hj
    exact wpOp_mono (fun a' w' h' => ⟨h'.1, wpAnyH_of_seq hs hQ r fuel _ _ _ (by simpa using hl) ho.2 h'.1 h'.2⟩) h
  | _ :: _, 0, _, _, _, hl, _, _, _ => by simp at hl

theorem wp_region_seq {id : Nat} {a : Act} {w : World} (ord : List (Nat × Bool)) (S : World → Prop) (hm : P.follows .mixedOrders = true) (hs : Region.noSelect ops = true)
    (hl : decide (ord.length ≤ ops.size) = true) (ho : seqOk .any ops ord (Array.replicate ops.size false) = true) (hQ : ∀ d v c a w, Q (.panic c) (a.put d v) w → Q (.panic c) a w)
    (hS : S w.drew) (h : S w.drew → SeqH P ops Q S ord a w.drew) : (Code.region id ops true).wp P Q a w :=
  wp_region_held hm (wpAnyH_of_seq hs hQ ord _ _ _ _ (of_decide_eq_true hl) ho hS (h hS))

theorem SeqH.done {a : Act} {w : World} (h : Q .normal a w) : SeqH P ops Q S [] a w := h
theorem at_toList {i : Nat} {o : Oper} (h : ops.toList[i]? = some o) : ops[i]? = some o := by rw [← h]; simp
theorem SeqH.take {i : Nat} {r : List (Nat × Bool)} {o : Oper} {v : Value} {a : Act} {w : World} (hl : ops.toList[i]? = some o) (hw : Region.wanted o (yielded ops a.tmps) = true)
    (hv : ∀ w, S w → (execOp a.eval o).run P w = .ok (.value v) w) (h : SeqH P ops Q S r (a.put o.dst v) w) : SeqH P ops Q S ((i, true) :: r) a w :=
  ⟨o, v, at_toList hl, .inl ⟨hw, hv⟩, h⟩
theorem SeqH.skip {i : Nat} {r : List (Nat × Bool)} {o : Oper} {a : Act} {w : World} (hl : ops.toList[i]? = some o) (hw : Region.wanted o (yielded ops a.tmps) = false)
    (h : SeqH P ops Q S r (a.put o.dst undef) w) : SeqH P ops Q S ((i, true) :: r) a w :=
  ⟨o, undef, at_toList hl, .inr ⟨hw, rfl⟩, h⟩
theorem SeqH.pass {i : Nat} {r : List (Nat × Bool)} {o : Oper} {a : Act} {w : World} (hl : ops.toList[i]? = some o) (hw : Region.wanted o (yielded ops a.tmps) = false) (hS : S w)
    (h : SeqH P ops Q S r (a.put o.dst undef) w) : SeqH P ops Q S ((i, false) :: r) a w := by
  have hi := at_toList hl
  show wpOp P ops Q i _ a w
  unfold wpOp
  simp only [hi, hw]
  exact ⟨hS, h⟩
theorem SeqH.step {i : Nat} {r : List (Nat × Bool)} {o : Oper} {a : Act} {w : World} (hl : ops.toList[i]? = some o) (hw : Region.wanted o (yielded ops a.tmps) = true)
    (h : ∀ K' : Act → World → Prop, Shut (∀ a w, S w → (S w → SeqH P ops Q S r a w) → K' a w) → Oper.wp P o a w K' Q) : SeqH P ops Q S ((i, false) :: r) a w := by
  show wpOp P ops Q i _ a w
  refine wpOp_step (at_toList hl) (fun K' hK => ?_)
  rw [if_pos hw]
  exact h K' (fun a w hS hW => hK a w ⟨hS, hW hS⟩)

/-- As SeqH, where at a place one of two operations may come first: both ways. -/
inductive Ord2 where
  | done : Ord2
  | take : Nat → Ord2 → Ord2
  | one : Nat → Ord2 → Ord2
  | two : Nat → Ord2 → Nat → Ord2 → Ord2
def SeqO (P : Program) (ops : Array Oper) (Q : Exit → Act → World → Prop) (S : World → Prop) : Ord2 → Act → World → Prop
  | .done, a, w => Q .normal a w
  | .take i r, a, w => ∃ o v, ops[i]? = some o ∧ YieldsIf P ops S o v a ∧ SeqO P ops Q S r (a.put o.dst v) w
  | .one i r, a, w => wpOp P ops Q i (fun a' w' => S w' ∧ SeqO P ops Q S r a' w') a w
  | .two i r j t, a, w => wpOp P ops Q i (fun a' w' => S w' ∧ SeqO P ops Q S r a' w') a w ∧ wpOp P ops Q j (fun a' w' => S w' ∧ SeqO P ops Q S t a' w') a w
def Ord2.depth : Ord2 → Nat
  | .done => 0
  | .take _ r => r.depth + 1
  | .one _ r => r.depth + 1
  | .two _ r _ t => max r.depth t.depth + 1
def seqOk2 (md : Region.Mode) (ops : Array Oper) : Ord2 → Array Bool → Bool
  | .done, listed => (Region.ready md ops listed) == []
  | .take i r, listed => Region.free md ops listed i && (Region.ready md ops listed).contains i && seqOk2 md ops r (listed.setIfInBounds i true)
  | .one i r, listed => (Region.ready md ops listed) == [i] && seqOk2 md ops r (listed.setIfInBounds i true)
  | .two i r j t, listed => (Region.ready md ops listed) == [i, j] && seqOk2 md ops r (listed.setIfInBounds i true) && seqOk2 md ops t (listed.setIfInBounds j true)
theorem wpAnyH_of_seq2 {md : Region.Mode} (hs : Region.noSelect ops = true) (hQ : ∀ d v c a w, Q (.panic c) (a.put d v) w → Q (.panic c) a w) :
    ∀ (ord : Ord2) (fuel : Nat) (listed : Array Bool) (a : Act) (w : World), ord.depth ≤ fuel → seqOk2 md ops ord listed = true → S w → SeqO P ops Q S ord a w → wpAnyH P md ops Q S fuel listed a w
  | .done, fuel, listed, a, w, _, ho, _, h => wpAnyH_done (by simpa [seqOk2] using ho) h fuel
  | .take i r, fuel + 1, listed, a, w, hl, ho, hS, h => by
    simp only [seqOk2, Bool.and_eq_true] at ho
    obtain ⟨o, v, hi, hy, h⟩ := h
    exact wpAnyH_take hi hs ho.1.1 ho.1.2 (fun c a w => hQ _ _ c a w) hy hS (wpAnyH_of_seq2 hs hQ r fuel _ _ _ (by simpa [Ord2.depth] using hl) ho.2 hS h)
  | .one i r, fuel + 1, listed, a, w, hl, ho, _, h => by
    simp only [seqOk2, Bool.and_eq_true, beq_iff_eq] at ho
    refine wpAnyH_all (rs := [i]) ho.1 (by simp) fun j hj => ?_
    obtain rfl : j = i := by simpa using hj
    exact wpOp_mono (fun a' w' h' => ⟨h'.1, wpAnyH_of_seq2 hs hQ r fuel _ _ _ (by simpa [Ord2.depth] using hl) ho.2 h'.1 h'.2⟩) h
  | .two i r k t, fuel + 1, listed, a, w, hl, ho, _, h => by
    simp only [seqOk2, Bool.and_eq_true, beq_iff_eq] at ho
    simp only [Ord2.depth] at hl
    refine wpAnyH_all (rs := [i, k]) ho.1.1 (by simp) fun j hj => ?_
    rcases List.mem_cons.1 hj with e | hj
    · subst e
      exact wpOp_mono (fun a' w' h' => ⟨h'.1, wpAnyH_of_seq2 hs hQ r fuel _ _ _ (by omega) ho.1.2 h'.1 h'.2⟩) h.1
    · obtain rfl : j = k := by simpa using hj
      exact wpOp_mono (fun a' w' h' => ⟨h'.1, wpAnyH_of_seq2 hs hQ t fuel _ _ _ (by omega) ho.2 h'.1 h'.2⟩) h.2
  | .take _ _, 0, _, _, _, hl, _, _, _ => by simp [Ord2.depth] at hl
  | .one _ _, 0, _, _, _, hl, _, _, _ => by simp [Ord2.depth] at hl
  | .two _ _ _ _, 0, _, _, _, hl, _, _, _ => by simp [Ord2.depth] at hl
theorem wp_region_seq2 {id : Nat} {a : Act} {w : World} (ord : Ord2) (S : World → Prop) (hm : P.follows .mixedOrders = true) (hs : Region.noSelect ops = true)
    (hl : decide (ord.depth ≤ ops.size) = true) (ho : seqOk2 .any ops ord (Array.replicate ops.size false) = true) (hQ : ∀ d v c a w, Q (.panic c) (a.put d v) w → Q (.panic c) a w)
    (hS : S w.drew) (h : S w.drew → SeqO P ops Q S ord a w.drew) : (Code.region id ops true).wp P Q a w :=
  wp_region_held hm (wpAnyH_of_seq2 hs hQ ord _ _ _ _ (of_decide_eq_true hl) ho hS (h hS))
theorem SeqO.fin {a : Act} {w : World} (h : Q .normal a w) : SeqO P ops Q S .done a w := h
theorem SeqO.ld {i : Nat} {r : Ord2} {o : Oper} {v : Value} {a : Act} {w : World} (hl : ops.toList[i]? = some o) (hw : Region.wanted o (yielded ops a.tmps) = true)
    (hv : ∀ w, S w → (execOp a.eval o).run P w = .ok (.value v) w) (h : SeqO P ops Q S r (a.put o.dst v) w) : SeqO P ops Q S (.take i r) a w :=
  ⟨o, v, at_toList hl, .inl ⟨hw, hv⟩, h⟩
theorem SeqO.skip {i : Nat} {r : Ord2} {o : Oper} {a : Act} {w : World} (hl : ops.toList[i]? = some o) (hw : Region.wanted o (yielded ops a.tmps) = false)
    (h : SeqO P ops Q S r (a.put o.dst undef) w) : SeqO P ops Q S (.take i r) a w :=
  ⟨o, undef, at_toList hl, .inr ⟨hw, rfl⟩, h⟩
theorem wpOp_stepS {i : Nat} {o : Oper} {a : Act} {w : World} {R : Act → World → Prop} (hl : ops.toList[i]? = some o) (hw : Region.wanted o (yielded ops a.tmps) = true)
    (h : ∀ K' : Act → World → Prop, Shut (∀ a w, S w → (S w → R a w) → K' a w) → Oper.wp P o a w K' Q) : wpOp P ops Q i (fun a' w' => S w' ∧ R a' w') a w := by
  refine wpOp_step (at_toList hl) (fun K' hK => ?_)
  rw [if_pos hw]
  exact h K' (fun a w hS hW => hK a w ⟨hS, hW hS⟩)
theorem SeqO.step {i : Nat} {r : Ord2} {o : Oper} {a : Act} {w : World} (hl : ops.toList[i]? = some o) (hw : Region.wanted o (yielded ops a.tmps) = true)
    (h : ∀ K' : Act → World → Prop, Shut (∀ a w, S w → (S w → SeqO P ops Q S r a w) → K' a w) → Oper.wp P o a w K' Q) : SeqO P ops Q S (.one i r) a w :=
  wpOp_stepS hl hw h
end
end Go.Proofs.Ytbmjjmpdlmbehaa
