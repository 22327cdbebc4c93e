/- A region that draws its order, walked in ONE order: what only reads is taken first wherever it is free to be, what makes memory comes up where nothing else may. A guard that is false costs nothing. A region with up to three possible next operations, met once behind all its orders. Sets of numbers, without the program. A list of ints that came in. Rows of numbers that a call makes itself. Lists of numbers that a call makes itself, as rows that grow. Whether a number lies within bounds. -/
import Derived.WalkKit
import Derived.Deep.RegionHeld
import Derived.Test.YtcljpklgpedolaaGreatDoorNumA
import Derived.Test.YtcljpklgpedolaaGreatDoorShelf
import Derived.Laws.Externs
import Derived.StillTailTactics
import Derived.Maps.AppendAt
namespace Go.Proofs.YtcljpklgpedolaaGreatDoor
open Go

section
variable {P : Program} {ops : Array Oper} {Q : Exit → Act → World → Prop} {S : World → Prop}

/-- The operations in the order that is given; 'true' beside an operation: it only yields a value. -/
def SeqH (P : Program) (ops : Array Oper) (Q : Exit → Act → World → Prop) (S : World → Prop) : List (Nat × Bool) → Act → World → Prop
  | [], a, w => Q .normal a w
  | (i, true) :: r, a, w => ∃ o v, ops[i]? = some o ∧ YieldsIf P ops S o v a ∧ SeqH P ops Q S r (a.put o.dst v) w
  | (i, false) :: r, a, w => wpOp P ops Q i (fun a' w' => S w' ∧ SeqH P ops Q S r a' w') a w

/-- Whether the order may be taken: a closed fact. -/
def seqOk (md : Region.Mode) (ops : Array Oper) : List (Nat × Bool) → Array Bool → Bool
  | [], listed => (Region.ready md ops listed) == []
  | (i, true) :: r, listed => Region.free md ops listed i && (Region.ready md ops listed).contains i && seqOk md ops r (listed.setIfInBounds i true)
  | (i, false) :: r, listed => (Region.ready md ops listed) == [i] && seqOk md ops r (listed.setIfInBounds i true)

theorem wpAnyH_of_seq {md : Region.Mode} (hs : Region.noSelect ops = true) (hQ : ∀ d v c a w, Q (.panic c) (a.put d v) w → Q (.panic c) a w) :
    ∀ (ord : List (Nat × Bool)) (fuel : Nat) (listed : Array Bool) (a : Act) (w : World), ord.length ≤ fuel → seqOk md ops ord listed = true → S w → SeqH P ops Q S ord a w → wpAnyH P md ops Q S fuel listed a w
  | [], fuel, listed, a, w, _, ho, _, h => wpAnyH_done (by simpa [seqOk] using ho) h fuel
  | (i, true) :: r, fuel + 1, listed, a, w, hl, ho, hS, h => by
    simp only [seqOk, Bool.and_eq_true] at ho
    obtain ⟨o, v, hi, hy, h⟩ := h
    exact wpAnyH_take hi hs ho.1.1 ho.1.2 (fun c a w => hQ _ _ c a w) hy hS (wpAnyH_of_seq hs hQ r fuel _ _ _ (by simpa using hl) ho.2 hS h)
  | (i, false) :: r, fuel + 1, listed, a, w, hl, ho, _, h => by
    simp only [seqOk, Bool.and_eq_true, beq_iff_eq] at ho
    refine wpAnyH_all (rs := [i]) ho.1 (by simp) fun j hj => ?_
    obtain rfl : j = i := by simpa using hj
    exact wpOp_mono (fun a' w' h' => ⟨h'.1, wpAnyH_of_seq hs hQ r fuel _ _ _ (by simpa using hl) ho.2 h'.1 h'.2⟩) h
  | _ :: _, 0, _, _, _, hl, _, _, _ => by simp at hl

theorem wp_region_seq {id : Nat} {a : Act} {w : World} (ord : List (Nat × Bool)) (S : World → Prop) (hm : P.follows .mixedOrders = true) (hs : Region.noSelect ops = true)
    (hl : decide (ord.length ≤ ops.size) = true) (ho : seqOk .any ops ord (Array.replicate ops.size false) = true) (hQ : ∀ d v c a w, Q (.panic c) (a.put d v) w → Q (.panic c) a w)
    (hS : S w.drew) (h : S w.drew → SeqH P ops Q S ord a w.drew) : (Code.region id ops true).wp P Q a w :=
  wp_region_held hm (wpAnyH_of_seq hs hQ ord _ _ _ _ (of_decide_eq_true hl) ho hS (h hS))

theorem SeqH.done {a : Act} {w : World} (h : Q .normal a w) : SeqH P ops Q S [] a w := h
theorem at_toList {i : Nat} {o : Oper} (h : ops.toList[i]? = some o) : ops[i]? = some o := by rw [← h]; simp
theorem SeqH.take {i : Nat} {r : List (Nat × Bool)} {o : Oper} {v : Value} {a : Act} {w : World} (hl : ops.toList[i]? = some o) (hw : Region.wanted o (yielded ops a.tmps) = true)
    (hv : ∀ w, S w → (execOp a.eval o).run P w = .ok (.value v) w) (h : SeqH P ops Q S r (a.put o.dst v) w) : SeqH P ops Q S ((i, true) :: r) a w :=
  ⟨o, v, at_toList hl, .inl ⟨hw, hv⟩, h⟩
theorem SeqH.skip {i : Nat} {r : List (Nat × Bool)} {o : Oper} {a : Act} {w : World} (hl : ops.toList[i]? = some o) (hw : Region.wanted o (yielded ops a.tmps) = false)
    (h : SeqH P ops Q S r (a.put o.dst undef) w) : SeqH P ops Q S ((i, true) :: r) a w :=
  ⟨o, undef, at_toList hl, .inr ⟨hw, rfl⟩, h⟩
theorem SeqH.pass {i : Nat} {r : List (Nat × Bool)} {o : Oper} {a : Act} {w : World} (hl : ops.toList[i]? = some o) (hw : Region.wanted o (yielded ops a.tmps) = false) (hS : S w)
    (h : SeqH P ops Q S r (a.put o.dst undef) w) : SeqH P ops Q S ((i, false) :: r) a w := by
  have hi := at_toList hl
  show wpOp P ops Q i _ a w
  unfold wpOp
  simp only [hi, hw]
  exact ⟨hS, h⟩
theorem SeqH.step {i : Nat} {r : List (Nat × Bool)} {o : Oper} {a : Act} {w : World} (hl : ops.toList[i]? = some o) (hw : Region.wanted o (yielded ops a.tmps) = true)
    (h : ∀ K' : Act → World → Prop, Shut (∀ a w, S w → (S w → SeqH P ops Q S r a w) → K' a w) → Oper.wp P o a w K' Q) : SeqH P ops Q S ((i, false) :: r) a w := by
  show wpOp P ops Q i _ a w
  refine wpOp_step (at_toList hl) (fun K' hK => ?_)
  rw [if_pos hw]
  exact h K' (fun a w hS hW => hK a w ⟨hS, hW hS⟩)

/-- As SeqH, where at a place one of two operations may come first: both ways. -/
inductive Ord2 where
  | done : Ord2
  | take : Nat → Ord2 → Ord2
  | one : Nat → Ord2 → Ord2
  | two : Nat → Ord2 → Nat → Ord2 → Ord2
def SeqO (P : Program) (ops : Array Oper) (Q : Exit → Act → World → Prop) (S : World → Prop) : Ord2 → Act → World → Prop
  | .done, a, w => Q .normal a w
  | .take i r, a, w => ∃ o v, ops[i]? = some o ∧ YieldsIf P ops S o v a ∧ SeqO P ops Q S r (a.put o.dst v) w
  | .one i r, a, w => wpOp P ops Q i (fun a' w' => S w' ∧ SeqO P ops Q S r a' w') a w
  | .two i r j t, a, w => wpOp P ops Q i (fun a' w' => S w' ∧ SeqO P ops Q S r a' w') a w ∧ wpOp P ops Q j (fun a' w' => S w' ∧ SeqO P ops Q S t a' w') a w
def Ord2.depth : Ord2 → Nat
  | .done => 0
  | .take _ r => r.depth + 1
  | .one _ r => r.depth + 1
  | .two _ r _ t => max r.depth t.depth + 1
def seqOk2 (md : Region.Mode) (ops : Array Oper) : Ord2 → Array Bool → Bool
  | .done, listed => (Region.ready md ops listed) == []
  | .take i r, listed => Region.free md ops listed i && (Region.ready md ops listed).contains i && seqOk2 md ops r (listed.setIfInBounds i true)
  | .one i r, listed => (Region.ready md ops listed) == [i] && seqOk2 md ops r (listed.setIfInBounds i true)
  | .two i r j t, listed => (Region.ready md ops listed) == [i, j] && seqOk2 md ops r (listed.setIfInBounds i true) && seqOk2 md ops t (listed.setIfInBounds j true)
theorem wpAnyH_of_seq2 {md : Region.Mode} (hs : Region.noSelect ops = true) (hQ : ∀ d v c a w, Q (.panic c) (a.put d v) w → Q (.panic c) a w) :
    ∀ (ord : Ord2) (fuel : Nat) (listed : Array Bool) (a : Act) (w : World), ord.depth ≤ fuel → seqOk2 md ops ord listed = true → S w → SeqO P ops Q S ord a w → wpAnyH P md ops Q S fuel listed a w
  | .done, fuel, listed, a, w, _, ho, _, h => wpAnyH_done (by simpa [seqOk2] using ho) h fuel
  | .take i r, fuel + 1, listed, a, w, hl, ho, hS, h => by
    simp only [seqOk2, Bool.and_eq_true] at ho
    obtain ⟨o, v, hi, hy, h⟩ := h
    exact wpAnyH_take hi hs ho.1.1 ho.1.2 (fun c a w => hQ _ _ c a w) hy hS (wpAnyH_of_seq2 hs hQ r fuel _ _ _ (by simpa [Ord2.depth] using hl) ho.2 hS h)
  | .one i r, fuel + 1, listed, a, w, hl, ho, _, h => by
    simp only [seqOk2, Bool.and_eq_true, beq_iff_eq] at ho
    refine wpAnyH_all (rs := [i]) ho.1 (by simp) fun j hj => ?_
    obtain rfl : j = i := by simpa using hj
    exact wpOp_mono (fun a' w' h' => ⟨h'.1, wpAnyH_of_seq2 hs hQ r fuel _ _ _ (by simpa [Ord2.depth] using hl) ho.2 h'.1 h'.2⟩) h
  | .two i r k t, fuel + 1, listed, a, w, hl, ho, _, h => by
    simp only [seqOk2, Bool.and_eq_true, beq_iff_eq] at ho
    simp only [Ord2.depth] at hl
    refine wpAnyH_all (rs := [i, k]) ho.1.1 (by simp) fun j hj => ?_
    rcases List.mem_cons.1 hj with e | hj
    · subst e
      exact wpOp_mono (fun a' w' h' => ⟨h'.1, wpAnyH_of_seq2 hs hQ r fuel _ _ _ (by omega) ho.1.2 h'.1 h'.2⟩) h.1
    · obtain rfl : j = k := by simpa using hj
      exact wpOp_mono (fun a' w' h' => ⟨h'.1, wpAnyH_of_seq2 hs hQ t fuel _ _ _ (by omega) ho.2 h'.1 h'.2⟩) h.2
  | .take _ _, 0, _, _, _, hl, _, _, _ => by simp [Ord2.depth] at hl
  | .one _ _, 0, _, _, _, hl, _, _, _ => by simp [Ord2.depth] at hl
  | .two _ _ _ _, 0, _, _, _, hl, _, _, _ => by simp [Ord2.depth] at hl
theorem wp_region_seq2 {id : Nat} {a : Act} {w : World} (ord : Ord2) (S : World → Prop) (hm : P.follows .mixedOrders = true) (hs : Region.noSelect ops = true)
    (hl : decide (ord.depth ≤ ops.size) = true) (ho : seqOk2 .any ops ord (Array.replicate ops.size false) = true) (hQ : ∀ d v c a w, Q (.panic c) (a.put d v) w → Q (.panic c) a w)
    (hS : S w.drew) (h : S w.drew → SeqO P ops Q S ord a w.drew) : (Code.region id ops true).wp P Q a w :=
  wp_region_held hm (wpAnyH_of_seq2 hs hQ ord _ _ _ _ (of_decide_eq_true hl) ho hS (h hS))
theorem SeqO.fin {a : Act} {w : World} (h : Q .normal a w) : SeqO P ops Q S .done a w := h
theorem SeqO.ld {i : Nat} {r : Ord2} {o : Oper} {v : Value} {a : Act} {w : World} (hl : ops.toList[i]? = some o) (hw : Region.wanted o (yielded ops a.tmps) = true)
    (hv : ∀ w, S w → (execOp a.eval o).run P w = .ok (.value v) w) (h : SeqO P ops Q S r (a.put o.dst v) w) : SeqO P ops Q S (.take i r) a w :=
  ⟨o, v, at_toList hl, .inl ⟨hw, hv⟩, h⟩
theorem SeqO.skip {i : Nat} {r : Ord2} {o : Oper} {a : Act} {w : World} (hl : ops.toList[i]? = some o) (hw : Region.wanted o (yielded ops a.tmps) = false)
    (h : SeqO P ops Q S r (a.put o.dst undef) w) : SeqO P ops Q S (.take i r) a w :=
  ⟨o, undef, at_toList hl, .inr ⟨hw, rfl⟩, h⟩
theorem wpOp_stepS {i : Nat} {o : Oper} {a : Act} {w : World} {R : Act → World → Prop} (hl : ops.toList[i]? = some o) (hw : Region.wanted o (yielded ops a.tmps) = true)
    (h : ∀ K' : Act → World → Prop, Shut (∀ a w, S w → (S w → R a w) → K' a w) → Oper.wp P o a w K' Q) : wpOp P ops Q i (fun a' w' => S w' ∧ R a' w') a w := by
  refine wpOp_step (at_toList hl) (fun K' hK => ?_)
  rw [if_pos hw]
  exact h K' (fun a w hS hW => hK a w ⟨hS, hW hS⟩)
theorem SeqO.step {i : Nat} {r : Ord2} {o : Oper} {a : Act} {w : World} (hl : ops.toList[i]? = some o) (hw : Region.wanted o (yielded ops a.tmps) = true)
    (h : ∀ K' : Act → World → Prop, Shut (∀ a w, S w → (S w → SeqO P ops Q S r a w) → K' a w) → Oper.wp P o a w K' Q) : SeqO P ops Q S (.one i r) a w :=
  wpOp_stepS hl hw h
end
end Go.Proofs.YtcljpklgpedolaaGreatDoor
namespace Go.Proofs.YtcljpklgpedolaaGreatDoor
open Go

section
variable {P : Program} {ops : Array Oper} {Q : Exit → Act → World → Prop} {S : World → Prop}
inductive Ord3 where
  | done : Ord3
  | take : Nat → Ord3 → Ord3
  | one : Nat → Ord3 → Ord3
  | two : Nat → Ord3 → Nat → Ord3 → Ord3
  | three : Nat → Ord3 → Nat → Ord3 → Nat → Ord3 → Ord3
def SeqT (P : Program) (ops : Array Oper) (Q : Exit → Act → World → Prop) (S : World → Prop) : Ord3 → Act → World → Prop
  | .done, a, w => Q .normal a w
  | .take i r, a, w => ∃ o v, ops[i]? = some o ∧ YieldsIf P ops S o v a ∧ SeqT P ops Q S r (a.put o.dst v) w
  | .one i r, a, w => wpOp P ops Q i (fun a' w' => S w' ∧ SeqT P ops Q S r a' w') a w
  | .two i r j t, a, w => wpOp P ops Q i (fun a' w' => S w' ∧ SeqT P ops Q S r a' w') a w ∧ wpOp P ops Q j (fun a' w' => S w' ∧ SeqT P ops Q S t a' w') a w
  | .three i r j t k u, a, w => wpOp P ops Q i (fun a' w' => S w' ∧ SeqT P ops Q S r a' w') a w ∧ wpOp P ops Q j (fun a' w' => S w' ∧ SeqT P ops Q S t a' w') a w ∧ wpOp P ops Q k (fun a' w' => S w' ∧ SeqT P ops Q S u a' w') a w
def Ord3.depth : Ord3 → Nat
  | .done => 0
  | .take _ r => r.depth + 1
  | .one _ r => r.depth + 1
  | .two _ r _ t => max r.depth t.depth + 1
  | .three _ r _ t _ u => max r.depth (max t.depth u.depth) + 1
def seqOk3 (md : Region.Mode) (ops : Array Oper) : Ord3 → Array Bool → Bool
  | .done, listed => (Region.ready md ops listed) == []
  | .take i r, listed => Region.free md ops listed i && (Region.ready md ops listed).contains i && seqOk3 md ops r (listed.setIfInBounds i true)
  | .one i r, listed => (Region.ready md ops listed) == [i] && seqOk3 md ops r (listed.setIfInBounds i true)
  | .two i r j t, listed => (Region.ready md ops listed) == [i, j] && seqOk3 md ops r (listed.setIfInBounds i true) && seqOk3 md ops t (listed.setIfInBounds j true)
  | .three i r j t k u, listed => (Region.ready md ops listed) == [i, j, k] && seqOk3 md ops r (listed.setIfInBounds i true) && seqOk3 md ops t (listed.setIfInBounds j true) && seqOk3 md ops u (listed.setIfInBounds k true)
theorem wpAnyH_of_seq3 {md : Region.Mode} (hs : Region.noSelect ops = true) (hQ : ∀ d v c a w, Q (.panic c) (a.put d v) w → Q (.panic c) a w) :
    ∀ (ord : Ord3) (fuel : Nat) (listed : Array Bool) (a : Act) (w : World), ord.depth ≤ fuel → seqOk3 md ops ord listed = true → S w → SeqT P ops Q S ord a w → wpAnyH P md ops Q S fuel listed a w
  | .done, fuel, listed, a, w, _, ho, _, h => wpAnyH_done (by simpa [seqOk3] using ho) h fuel
  | .take i r, fuel + 1, listed, a, w, hl, ho, hS, h => by
    simp only [seqOk3, Bool.and_eq_true] at ho
    obtain ⟨o, v, hi, hy, h⟩ := h
    exact wpAnyH_take hi hs ho.1.1 ho.1.2 (fun c a w => hQ _ _ c a w) hy hS (wpAnyH_of_seq3 hs hQ r fuel _ _ _ (by simpa [Ord3.depth] using hl) ho.2 hS h)
  | .one i r, fuel + 1, listed, a, w, hl, ho, _, h => by
    simp only [seqOk3, Bool.and_eq_true, beq_iff_eq] at ho
    refine wpAnyH_all (rs := [i]) ho.1 (by simp) fun j hj => ?_
    obtain rfl : j = i := by simpa using hj
    exact wpOp_mono (fun a' w' h' => ⟨h'.1, wpAnyH_of_seq3 hs hQ r fuel _ _ _ (by simpa [Ord3.depth] using hl) ho.2 h'.1 h'.2⟩) h
  | .two i r k t, fuel + 1, listed, a, w, hl, ho, _, h => by
    simp only [seqOk3, Bool.and_eq_true, beq_iff_eq] at ho
    simp only [Ord3.depth] at hl
    refine wpAnyH_all (rs := [i, k]) ho.1.1 (by simp) fun j hj => ?_
    rcases List.mem_cons.1 hj with e | hj
    · subst e
      exact wpOp_mono (fun a' w' h' => ⟨h'.1, wpAnyH_of_seq3 hs hQ r fuel _ _ _ (by omega) ho.1.2 h'.1 h'.2⟩) h.1
    · obtain rfl : j = k := by simpa using hj
      exact wpOp_mono (fun a' w' h' => ⟨h'.1, wpAnyH_of_seq3 hs hQ t fuel _ _ _ (by omega) ho.2 h'.1 h'.2⟩) h.2
  | .three i r k t l u, fuel + 1, listed, a, w, hl, ho, _, h => by
    simp only [seqOk3, Bool.and_eq_true, beq_iff_eq] at ho
    simp only [Ord3.depth] at hl
    refine wpAnyH_all (rs := [i, k, l]) ho.1.1.1 (by simp) fun j hj => ?_
    rcases List.mem_cons.1 hj with e | hj
    · subst e
      exact wpOp_mono (fun a' w' h' => ⟨h'.1, wpAnyH_of_seq3 hs hQ r fuel _ _ _ (by omega) ho.1.1.2 h'.1 h'.2⟩) h.1
    · rcases List.mem_cons.1 hj with e | hj
      · subst e
        exact wpOp_mono (fun a' w' h' => ⟨h'.1, wpAnyH_of_seq3 hs hQ t fuel _ _ _ (by omega) ho.1.2 h'.1 h'.2⟩) h.2.1
      · obtain rfl : j = l := by simpa using hj
        exact wpOp_mono (fun a' w' h' => ⟨h'.1, wpAnyH_of_seq3 hs hQ u fuel _ _ _ (by omega) ho.2 h'.1 h'.2⟩) h.2.2
  | .take _ _, 0, _, _, _, hl, _, _, _ => by simp [Ord3.depth] at hl
  | .one _ _, 0, _, _, _, hl, _, _, _ => by simp [Ord3.depth] at hl
  | .two _ _ _ _, 0, _, _, _, hl, _, _, _ => by simp [Ord3.depth] at hl
  | .three _ _ _ _ _ _, 0, _, _, _, hl, _, _, _ => by simp [Ord3.depth] at hl

def putAll (a : Act) : List (Nat × Value) → Act
  | [] => a
  | p :: r => putAll (a.put (some p.1) p.2) r
/-- A region whose orders all come to the same slots, but for what x says: what follows is met once. -/
theorem wp_region_meet {β : Type} {id : Nat} {a : Act} {w : World} (ord : Ord3) (S : World → Prop) (puts : β → List (Nat × Value)) (F : β → World → Prop) (hm : P.follows .mixedOrders = true) (hs : Region.noSelect ops = true)
    (hl : decide (ord.depth ≤ ops.size) = true) (ho : seqOk3 .any ops ord (Array.replicate ops.size false) = true) (hS : S w.drew)
    (h : S w.drew → SeqT P ops (fun ex a' w' => ex = .normal ∧ ∃ x, a' = putAll a (puts x) ∧ F x w') S ord a w.drew)
    (hK : ∀ x w', F x w' → Q .normal (putAll a (puts x)) w') : (Code.region id ops true).wp P Q a w := by
  have h1 : (Code.region id ops true).wp P (fun ex a' w' => ex = .normal ∧ ∃ x, a' = putAll a (puts x) ∧ F x w') a w :=
    wp_region_held hm (wpAnyH_of_seq3 hs (fun d v c a w h => by cases h.1) ord _ _ _ _ (of_decide_eq_true hl) ho hS (h hS))
  refine Code.wp_mono (fun e a' w' h => ?_) h1
  obtain ⟨rfl, x, rfl, hF⟩ := h
  exact hK x w' hF
theorem SeqT.fin {a : Act} {w : World} (h : Q .normal a w) : SeqT P ops Q S .done a w := h
theorem SeqT.ld {i : Nat} {r : Ord3} {o : Oper} {v : Value} {a : Act} {w : World} (hl : ops.toList[i]? = some o) (hw : Region.wanted o (yielded ops a.tmps) = true)
    (hv : ∀ w, S w → (execOp a.eval o).run P w = .ok (.value v) w) (h : SeqT P ops Q S r (a.put o.dst v) w) : SeqT P ops Q S (.take i r) a w :=
  ⟨o, v, at_toList hl, .inl ⟨hw, hv⟩, h⟩
theorem SeqT.step {i : Nat} {r : Ord3} {o : Oper} {a : Act} {w : World} (hl : ops.toList[i]? = some o) (hw : Region.wanted o (yielded ops a.tmps) = true)
    (h : ∀ K' : Act → World → Prop, Shut (∀ a w, S w → (S w → SeqT P ops Q S r a w) → K' a w) → Oper.wp P o a w K' Q) : SeqT P ops Q S (.one i r) a w :=
  wpOp_stepS hl hw h
end
end Go.Proofs.YtcljpklgpedolaaGreatDoor
namespace Go.Proofs.YtcljpklgpedolaaGreatDoor
namespace Cal

/-- Whether a list is a set of numbers from 'least' to limit - 1. -/
def setGo (limit : Int) : Int → List Int → Bool
  | _, [] => true
  | least, x :: r => if x < least ∨ limit ≤ x then false else setGo limit (x + 1) r
def setB (limit : Int) (xs : List Int) : Bool := setGo limit 0 xs

theorem setGo_cons {limit least x : Int} {r : List Int} : setGo limit least (x :: r) = if x < least ∨ limit ≤ x then false else setGo limit (x + 1) r := rfl
theorem drop_cons {xs : List Int} {k : Nat} (h : k < xs.length) : xs.drop k = xs[k] :: xs.drop (k + 1) := List.drop_eq_getElem_cons h
theorem setGo_bad {limit least : Int} {xs : List Int} {k : Nat} (h : k < xs.length) (hb : xs[k] < least ∨ limit ≤ xs[k]) : setGo limit least (xs.drop k) = false := by
  rw [drop_cons h, setGo_cons, if_pos hb]
theorem setGo_good {limit least : Int} {xs : List Int} {k : Nat} (h : k < xs.length) (hb : ¬ (xs[k] < least ∨ limit ≤ xs[k])) : setGo limit least (xs.drop k) = setGo limit (xs[k] + 1) (xs.drop (k + 1)) := by
  rw [drop_cons h, setGo_cons, if_neg hb]
theorem setGo_end {limit least : Int} {xs : List Int} : setGo limit least (xs.drop xs.length) = true := by simp [setGo]

/-- What a set is. -/
theorem setGo_iff {limit : Int} : ∀ {least : Int} {xs : List Int}, setGo limit least xs = true ↔ (∀ x ∈ xs, least ≤ x ∧ x < limit) ∧ xs.Pairwise (· < ·)
  | least, [] => by simp [setGo]
  | least, x :: r => by
    rw [setGo_cons]
    by_cases h : x < least ∨ limit ≤ x
    · rw [if_pos h]
      simp only [List.mem_cons, forall_eq_or_imp, Bool.false_eq_true, false_iff, not_and]
      intro hh
      omega
    · rw [if_neg h, setGo_iff (xs := r), List.pairwise_cons]
      constructor
      · rintro ⟨h1, h2⟩
        refine ⟨fun y hy => ?_, fun y hy => ?_, h2⟩
        · rcases List.mem_cons.1 hy with rfl | hy
          · omega
          · have := h1 y hy; omega
        · have := h1 y hy; omega
      · rintro ⟨h1, h2, h3⟩
        refine ⟨fun y hy => ?_, h3⟩
        have a := h1 y (List.mem_cons_of_mem _ hy)
        have b := h2 y hy
        omega

/-- Whether a number is in a list. -/
def hasB (xs : List Int) (x : Int) : Bool := xs.contains x
theorem hasB_iff {xs : List Int} {x : Int} : hasB xs x = true ↔ x ∈ xs := by simp [hasB]
theorem hasB_hit {xs : List Int} {k : Nat} {x y : Int} (hd : xs.drop k = y :: xs.drop (k + 1)) (h : y = x) : hasB (xs.drop k) x = true := by rw [hasB_iff, hd]; simp [h]
theorem hasB_miss {xs : List Int} {k : Nat} {x y : Int} (hd : xs.drop k = y :: xs.drop (k + 1)) (h : y ≠ x) : hasB (xs.drop k) x = hasB (xs.drop (k + 1)) x := by
  rw [Bool.eq_iff_iff, hasB_iff, hasB_iff, hd]; simp [Ne.symm h]
theorem hasB_end {xs : List Int} {x : Int} : hasB (xs.drop xs.length) x = false := by simp [hasB]
end Cal
end Go.Proofs.YtcljpklgpedolaaGreatDoor
namespace Go.Proofs.YtcljpklgpedolaaGreatDoor
open Go.RowKit

/-- A list of ints that can be read: nil, or a row of cells. -/
def Ints (w : World) (v : Value) (xs : List Int) : Prop :=
  (∃ a c, v = .slice a 0 c ∧ xs = []) ∨ ∃ b off cap, v = .slice (some ⟨b, off, none⟩) xs.length cap ∧ xs.length ≤ cap ∧ b < w.heap.size ∧ ∀ k, k < xs.length → w.cell? ⟨b, off + k, none⟩ = some (.int .i64 (xs.getD k 0))
theorem Ints.all {w w2 : World} {v : Value} {xs : List Int} (h : Ints w v xs) (hb : Below w.heap.size w w2) : Ints w2 v xs := by
  rcases h with h | ⟨b, off, cap, h1, h2, h3, h4⟩
  · exact .inl h
  · exact .inr ⟨b, off, cap, h1, h2, Nat.lt_of_lt_of_le h3 hb.size, fun k hk => (hb.cell (p := ⟨b, off + k, none⟩) h3).trans (h4 k hk)⟩
theorem getD_at {xs : List Int} {k : Nat} (h : k < xs.length) : xs.getD k 0 = xs[k] := by simp [h]
end Go.Proofs.YtcljpklgpedolaaGreatDoor
namespace Go.Proofs.YtcljpklgpedolaaGreatDoor
open Go.RowKit

/-- A block lies as it was made. -/
def BlockAt (W : World) (B : Nat) (cs : Array Value) (t : TypeId) : Prop := W.heap[B]? = some (.cells cs t (0, 0))
theorem BlockAt.lt {W : World} {B : Nat} {cs : Array Value} {t : TypeId} (h : BlockAt W B cs t) : B < W.heap.size := (Array.getElem?_eq_some_iff.1 h).1
theorem BlockAt.new (W : World) (cs : Array Value) (t : TypeId) : BlockAt (W.alloc (.cells cs t)) W.heap.size cs t := heap_alloc_new W _
theorem BlockAt.alloc {W : World} {B : Nat} {cs : Array Value} {t : TypeId} (h : BlockAt W B cs t) (o : Obj) : BlockAt (W.alloc o) B cs t := (Below.heap_alloc _ _ _ h.lt).trans h
theorem BlockAt.cell {W : World} {B : Nat} {cs : Array Value} {t : TypeId} (h : BlockAt W B cs t) (i : Nat) : W.cell? ⟨B, i, none⟩ = cs[i]? := by simp [World.cell?, show W.heap[B]? = _ from h]
theorem BlockAt.frozen {W : World} {B : Nat} {cs : Array Value} {t : TypeId} (h : BlockAt W B cs t) (i : Nat) : W.frozen? ⟨B, i, none⟩ = false := by simp [World.frozen?, show W.heap[B]? = _ from h]
theorem BlockAt.set {W : World} {B : Nat} {cs : Array Value} {t : TypeId} (h : BlockAt W B cs t) (i : Nat) (v : Value) : BlockAt (W.setCell ⟨B, i, none⟩ v) B (cs.setIfInBounds i v) t := by
  obtain ⟨hlt, hk⟩ := Array.getElem?_eq_some_iff.1 h
  show (W.heap.modify B _)[B]? = _
  rw [Array.getElem?_eq_getElem (by rw [Array.size_modify]; exact hlt), Array.getElem_modify_self, hk]
  rfl
theorem BlockAt.other {W : World} {B B' i : Nat} {cs : Array Value} {t : TypeId} (h : BlockAt W B cs t) (hne : B ≠ B') (u : Value) : BlockAt (W.setCell ⟨B', i, none⟩ u) B cs t := by
  unfold BlockAt
  rw [Below.heap_setCell _ _ _ _ hne]; exact h
theorem BlockAt.below {W W2 : World} {B N : Nat} {cs : Array Value} {t : TypeId} (h : BlockAt W B cs t) (hb : Below N W W2) (hN : B < N) : BlockAt W2 B cs t := (hb.block B hN).trans h
theorem BlockAt.drew {W : World} {B : Nat} {cs : Array Value} {t : TypeId} (h : BlockAt W B cs t) : BlockAt W.drew B cs t := h
theorem below_step {w w1 w2 : World} (h : Below w.heap.size w w1) (hb : Below w1.heap.size w1 w2) : Below w.heap.size w w2 := h.trans (hb.mono h.size)
theorem below_alloc {w w1 : World} (h : Below w.heap.size w w1) (o : Obj) : Below w.heap.size w (w1.alloc o) := h.alloc h.size o
def intsC (xs : List Int) : Array Value := (xs.map (Value.int .i64)).toArray
theorem intsC_set (xs : List Int) (k : Nat) (x : Int) : (intsC xs).setIfInBounds k (.int .i64 x) = intsC (xs.set k x) := by
  unfold intsC; rw [List.setIfInBounds_toArray, ← List.map_set]
theorem intsC_at {xs : List Int} {k : Nat} (h : k < xs.length) : (intsC xs)[k]? = some (.int .i64 (xs.getD k 0)) := by
  unfold intsC; simp [h]
theorem cellsInts (n : Nat) : madeCells #[.int .i64 0] n = intsC (List.replicate n 0) := by
  unfold intsC madeCells
  refine Array.ext (by simp) fun i h1 h2 => ?_
  simp [Nat.mod_one]
theorem infoInt : (Tryz.prog.info? 3).map (fun i => (i.zero, i.size, i.bytes)) = some (some (.int .i64 0), 1, 8) := by kernel_rfl
def upd (f : Nat → Int) (i : Nat) (v : Int) : Nat → Int := fun j => if j = i then v else f j
def fnC (n : Nat) (f : Nat → Int) : Array Value := intsC ((List.range n).map f)
theorem fnC_set (n : Nat) (f : Nat → Int) (i : Nat) (v : Int) : (fnC n f).setIfInBounds i (.int .i64 v) = fnC n (upd f i v) := by
  unfold fnC
  rw [intsC_set]
  congr 1
  refine List.ext_getElem (by simp) fun j h1 h2 => ?_
  simp only [List.getElem_set, List.getElem_map, List.getElem_range, upd]
  by_cases e : i = j
  · subst e; simp
  · rw [if_neg e, if_neg (fun h => e h.symm)]
theorem fnC_at {n : Nat} {f : Nat → Int} {i : Nat} (h : i < n) : (fnC n f)[i]? = some (.int .i64 (f i)) := by
  unfold fnC
  rw [intsC_at (by simpa using h)]
  simp [h]
theorem fnC_zero (n : Nat) : intsC (List.replicate n 0) = fnC n (fun _ => 0) := by
  unfold fnC
  congr 1
  refine List.ext_getElem (by simp) fun j h1 h2 => by simp
theorem made_ints (n : Nat) (hn : n ≤ 1000) : ∀ W : World, (Instr.makeSlice 53 (.int .i64 (n : Int)) (.int .i64 (n : Int))).run Tryz.prog W = .ok (.slice (some ⟨W.heap.size, 0, none⟩) n n) (W.alloc (.cells (fnC n (fun _ => 0)) 3)) := by
  intro W
  obtain ⟨i0, hi, hz0, hz1, hz2⟩ := info_parts infoInt
  have := run_makeSlice (P := Tryz.prog) (w := W) 53 3 i0 (.int .i64 0) Tryz.underlying53 hi hz0 .i64 .i64 (n : Int) (n : Int) (by omega) (by omega) (by rw [hz1]; omega) (by rw [hz2]; omega) (by omega)
  rw [this, hz1, Nat.mul_one, show ((n : Int)).toNat = n by omega, show (Value.int .i64 0).cells = #[.int .i64 0] from rfl, cellsInts, fnC_zero]
/-- The values of the first k, and zeros. -/
def upTo (f : Nat → Int) (k : Nat) : Nat → Int := fun i => if i < k then f i else 0
theorem upTo_upd (f : Nat → Int) (k : Nat) : upd (upTo f k) k (f k) = upTo f (k + 1) := by
  funext j; unfold upd upTo
  by_cases e : j = k
  · subst e; rw [if_pos rfl, if_pos (by omega)]
  · rw [if_neg e]
    by_cases h : j < k
    · rw [if_pos h, if_pos (by omega)]
    · rw [if_neg h, if_neg (by omega)]
theorem upTo_zero (f : Nat → Int) : upTo f 0 = fun _ => 0 := by funext j; unfold upTo; rw [if_neg (by omega)]
theorem fnC_congr {n : Nat} {f g : Nat → Int} (h : ∀ i, i < n → f i = g i) : fnC n f = fnC n g := by
  unfold fnC
  congr 1
  exact List.map_congr_left fun i hi => h i (List.mem_range.1 hi)
theorem fnC_all (f : Nat → Int) (n : Nat) : fnC n (upTo f n) = fnC n f := fnC_congr fun i hi => by unfold upTo; rw [if_pos hi]
end Go.Proofs.YtcljpklgpedolaaGreatDoor
namespace Go.Proofs.YtcljpklgpedolaaGreatDoor
open Go.RowKit

def intL (x : Int) : List Value := [.int .i64 x]
def cellsL : List Int → List Value
  | [] => []
  | x :: b => intL x ++ cellsL b
theorem cellsL_append (a b : List Int) : cellsL (a ++ b) = cellsL a ++ cellsL b := by
  induction a with
  | nil => rfl
  | cons r a ih => simp [cellsL, ih, List.append_assoc]
theorem cellsL_get : ∀ (a : List Int) (k : Nat) (hk : k < a.length), (cellsL a)[k]? = some (.int .i64 a[k])
  | x :: a, 0, _ => rfl
  | x :: a, k + 1, hk => by
    have := cellsL_get a k (by simpa using hk)
    simpa [cellsL, intL] using this
def OwnI (base : Nat) (w : World) (v : Value) (ks : List Int) : Prop := w.ownsRow base 3 1 v ks.length (cellsL ks)
theorem OwnI.nil (base : Nat) (w : World) : OwnI base w (.slice none 0 0) [] := World.ownsRow_nil _ _ _ _
theorem OwnI.pushed {base : Nat} {w : World} {v : Value} {a : List Int} {x : Int} (h : w.ownsRow base 3 1 v (a.length + 1) (cellsL a ++ intL x)) : OwnI base w v (a ++ [x]) := by
  unfold OwnI
  rw [cellsL_append, show cellsL [x] = intL x by simp [cellsL], show (a ++ [x]).length = a.length + 1 by simp]
  exact h
theorem OwnI.ints {base : Nat} {w : World} {v : Value} {ks : List Int} (h : OwnI base w v ks) : Ints w v ks := by
  obtain ⟨h0, ⟨h1, h2⟩ | ⟨g, cap, cur, h1, h2, h3, h4⟩⟩ := id h
  · exact .inl ⟨none, 0, by rw [h1], List.length_eq_zero_iff.1 (by simpa using h2)⟩
  · subst h1
    refine .inr ⟨g, 0, cap, rfl, by omega, (Array.getElem?_eq_some_iff.1 h3).1, fun k hk => ?_⟩
    rw [Nat.zero_add]
    refine (World.ownsRow.cellAt h k (by omega)).trans ?_
    rw [cellsL_get ks k hk]
    simp [hk]
theorem intL_at (w : World) (x : Int) (t : TypeId) : ∀ (j : Nat) (u : Value), (intL x)[j]? = some u → (w.alloc (.cells #[.int .i64 x] t)).cell? ((⟨w.heap.size, 0, none⟩ : Addr).add j) = some u := by
  intro j u h
  match j, h with
  | 0, h => simp [intL] at h; subst h; simp [Addr.add]
  | j + 1, h => simp [intL] at h
theorem intL_one (x : Int) : ∀ u ∈ intL x, u.oneCell' = true := by
  intro u h
  simp [intL] at h; subst h; rfl

theorem OwnI.alloc {base : Nat} {w : World} {v : Value} {rs : List Int} (h : OwnI base w v rs) (o : Obj) : OwnI base (w.alloc o) v rs := World.ownsRow.alloc h o
theorem OwnI.mono {base B : Nat} {w : World} {v : Value} {rs : List Int} (h : OwnI base w v rs) (hB : B ≤ base) : OwnI B w v rs := by
  obtain ⟨h0, h⟩ := h
  rcases h with h | ⟨g, cap, cur, h1, h2, h3⟩
  · exact ⟨h0, .inl h⟩
  · exact ⟨h0, .inr ⟨g, cap, cur, h1, Nat.le_trans hB h2, h3⟩⟩
theorem OwnI.all {base : Nat} {w w2 : World} {v : Value} {rs : List Int} (h : OwnI base w v rs) (hb : Below w.heap.size w w2) : OwnI base w2 v rs := by
  obtain ⟨h0, h1 | ⟨g, cap, cur, h1, h2, h3, h4⟩⟩ := h
  · exact ⟨h0, .inl h1⟩
  · have hg : g < w.heap.size := (Array.getElem?_eq_some_iff.1 h3).1
    exact ⟨h0, .inr ⟨g, cap, cur, h1, h2, by rw [hb.block g hg]; exact h3, h4⟩⟩


/-- The first n values of a function. -/
def fnL (n : Nat) (f : Nat → Int) : List Int := (List.range n).map f
theorem fnL_len (n : Nat) (f : Nat → Int) : (fnL n f).length = n := by simp [fnL]
theorem fnL_succ (n : Nat) (f : Nat → Int) : fnL (n + 1) f = fnL n f ++ [f n] := by unfold fnL; rw [List.range_succ, List.map_append]; rfl
theorem cellsL_set : ∀ (a : List Int) (k : Nat) (x : Int), (cellsL a).set k (.int .i64 x) = cellsL (a.set k x)
  | [], k, x => by simp [cellsL]
  | y :: a, 0, x => by simp [cellsL, intL]
  | y :: a, k + 1, x => by
    have := cellsL_set a k x
    simpa [cellsL, intL] using this
theorem fnL_set (n : Nat) (f : Nat → Int) (k : Nat) (x : Int) : (fnL n f).set k x = fnL n (upd f k x) := by
  unfold fnL
  refine List.ext_getElem (by simp) fun j h1 h2 => ?_
  simp only [List.getElem_set, List.getElem_map, List.getElem_range, upd]
  by_cases e : k = j
  · subst e; simp
  · rw [if_neg e, if_neg (fun h => e h.symm)]
/-- A row of n numbers that is the call's own. -/
def OwnF (base : Nat) (w : World) (v : Value) (n : Nat) (f : Nat → Int) : Prop := w.ownsRow base 3 1 v n (cellsL (fnL n f))
theorem OwnF.nil (base : Nat) (w : World) (f : Nat → Int) : OwnF base w (.slice none 0 0) 0 f := World.ownsRow_nil _ _ _ _
theorem OwnF.pushed {base : Nat} {w : World} {v : Value} {n : Nat} {f : Nat → Int} {x : Int} (h : w.ownsRow base 3 1 v (n + 1) (cellsL (fnL n f) ++ intL x)) (hx : f n = x) : OwnF base w v (n + 1) f := by
  unfold OwnF
  rw [fnL_succ, cellsL_append, hx, show cellsL [x] = intL x by simp [cellsL]]
  exact h
theorem OwnF.congr {base : Nat} {w : World} {v : Value} {n : Nat} {f g : Nat → Int} (h : OwnF base w v n f) (e : ∀ i, i < n → f i = g i) : OwnF base w v n g := by
  unfold OwnF at h ⊢
  rwa [show fnL n g = fnL n f by unfold fnL; exact List.map_congr_left fun i hi => (e i (List.mem_range.1 hi)).symm]
theorem OwnF.form {base : Nat} {w : World} {v : Value} {n : Nat} {f : Nat → Int} (h : OwnF base w v n f) (h0 : 0 < n) : ∃ g cap, v = .slice (some ⟨g, 0, none⟩) n cap ∧ base ≤ g ∧ g < w.heap.size := by
  rcases id h with ⟨_, ⟨_, h2⟩ | ⟨g, cap, cur, h1, h2, h3, _⟩⟩
  · omega
  · exact ⟨g, cap, h1, h2, (Array.getElem?_eq_some_iff.1 h3).1⟩
theorem OwnF.cell {base g cap : Nat} {w : World} {n : Nat} {f : Nat → Int} (h : OwnF base w (.slice (some ⟨g, 0, none⟩) n cap) n f) {k : Nat} (hk : k < n) : w.cell? ⟨g, k, none⟩ = some (.int .i64 (f k)) := by
  refine (World.ownsRow.cellAt h k (by omega)).trans ?_
  rw [cellsL_get _ _ (by rw [fnL_len]; exact hk)]
  simp [fnL]
theorem OwnF.free {base g cap : Nat} {w : World} {n : Nat} {f : Nat → Int} (h : OwnF base w (.slice (some ⟨g, 0, none⟩) n cap) n f) (k : Nat) : w.frozen? ⟨g, k, none⟩ = false := World.ownsRow.frozenAt h k
theorem OwnF.store {base g cap : Nat} {w : World} {n : Nat} {f : Nat → Int} (h : OwnF base w (.slice (some ⟨g, 0, none⟩) n cap) n f) (k : Nat) (x : Int) :
    OwnF base (w.setCell ⟨g, k, none⟩ (.int .i64 x)) (.slice (some ⟨g, 0, none⟩) n cap) n (upd f k x) ∧ w.grownBy (w.setCell ⟨g, k, none⟩ (.int .i64 x)) (some g) := by
  have := World.ownsRow.stored h k (.int .i64 x)
  rwa [cellsL_set, fnL_set] at this
theorem OwnF.kept {base : Nat} {w w' : World} {v : Value} {n : Nat} {f : Nat → Int} {row : Option Nat} (h : OwnF base w v n f) (hg : w.grownBy w' row) (hne : v.ownBlock = none ∨ v.ownBlock ≠ row) : OwnF base w' v n f := World.ownsRow.kept h hg hne
theorem OwnF.drew {base : Nat} {w : World} {v : Value} {n : Nat} {f : Nat → Int} (h : OwnF base w v n f) : OwnF base w.drew v n f := h
theorem OwnF.below {base : Nat} {w w2 : World} {v : Value} {n : Nat} {f : Nat → Int} (h : OwnF base w v n f) (hb : Below w.heap.size w w2) : OwnF base w2 v n f := by
  obtain ⟨h0, h1 | ⟨g, cap, cur, h1, h2, h3, h4⟩⟩ := h
  · exact ⟨h0, .inl h1⟩
  · have hg : g < w.heap.size := (Array.getElem?_eq_some_iff.1 h3).1
    exact ⟨h0, .inr ⟨g, cap, cur, h1, h2, by rw [hb.block g hg]; exact h3, h4⟩⟩
end Go.Proofs.YtcljpklgpedolaaGreatDoor
namespace Go.Proofs.YtcljpklgpedolaaGreatDoor
open Go.RowKit

theorem within_t (n lo hi : Int) (w : World) (h1 : lo ≤ n) (h2 : n ≤ hi) :
    Calls Tryz.prog 103 #[.int .i64 n, .int .i64 lo, .int .i64 hi] w fun e w' => e = .returned (.bool true) ∧ w = w' :=
  (within_any n lo hi w).mono fun e w' ⟨h, k⟩ => ⟨by rw [h]; simp [h1, h2], k⟩
theorem within_f (n lo hi : Int) (w : World) (h : n < lo ∨ hi < n) :
    Calls Tryz.prog 103 #[.int .i64 n, .int .i64 lo, .int .i64 hi] w fun e w' => e = .returned (.bool false) ∧ w = w' :=
  (within_any n lo hi w).mono fun e w' ⟨h1, k⟩ => ⟨by rw [h1]; congr 2; simp; omega, k⟩

end Go.Proofs.YtcljpklgpedolaaGreatDoor
