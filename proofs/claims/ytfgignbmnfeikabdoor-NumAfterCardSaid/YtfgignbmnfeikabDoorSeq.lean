/- A region that draws its order, walked in ONE order: what only reads is taken first wherever it is free to be, what makes memory comes up where nothing else may. A guard that is false costs nothing. -/
import Derived.WalkKit
import Derived.Deep.RegionHeld
namespace Go.Proofs.YtfgignbmnfeikabDoor
open Go

section
variable {P : Program} {ops : Array Oper} {Q : Exit → Act → World → Prop} {S : World → Prop}

/-- The operations in the order that is given; 'true' beside an operation: it only yields a value. -/
def SeqH (P : Program) (ops : Array Oper) (Q : Exit → Act → World → Prop) (S : World → Prop) : List (Nat × Bool) → Act → World → Prop
  | [], a, w => Q .normal a w
  | (i, true) :: r, a, w => ∃ o v, ops[i]? = some o ∧ YieldsIf P ops S o v a ∧ SeqH P ops Q S r (a.put o.dst v) w
  | (i, false) :: r, a, w => wpOp P ops Q i (fun a' w' => S w' ∧ SeqH P ops Q S r a' w') a w

/-- Whether the order may be taken: a closed fact. -/
def seqOk (md : Region.Mode) (ops : Array Oper) : List (Nat × Bool) → Array Bool → Bool
  | [], listed => (Region.ready md ops listed) == []
  | (i, true) :: r, listed => Region.free md ops listed i && (Region.ready md ops listed).contains i && seqOk md ops r (listed.setIfInBounds i true)
  | (i, false) :: r, listed => (Region.ready md ops listed) == [i] && seqOk md ops r (listed.setIfInBounds i true)

theorem wpAnyH_of_seq {md : Region.Mode} (hs : Region.noSelect ops = true) (hQ : ∀ d v c a w, Q (.panic c) (a.put d v) w → Q (.panic c) a w) :
    ∀ (ord : List (Nat × Bool)) (fuel : Nat) (listed : Array Bool) (a : Act) (w : World), ord.length ≤ fuel → seqOk md ops ord listed = true → S w → SeqH P ops Q S ord a w → wpAnyH P md ops Q S fuel listed a w
  | [], fuel, listed, a, w, _, ho, _, h => wpAnyH_done (by simpa [seqOk] using ho) h fuel
  | (i, true) :: r, fuel + 1, listed, a, w, hl, ho, hS, h => by
    simp only [seqOk, Bool.and_eq_true] at ho
    obtain ⟨o, v, hi, hy, h⟩ := h
    exact wpAnyH_take hi hs ho.1.1 ho.1.2 (fun c a w => hQ _ _ c a w) hy hS (wpAnyH_of_seq hs hQ r fuel _ _ _ (by simpa using hl) ho.2 hS h)
  | (i, false) :: r, fuel + 1, listed, a, w, hl, ho, _, h => by
    simp only [seqOk, Bool.and_eq_true, beq_iff_eq] at ho
    refine wpAnyH_all (rs := [i]) ho.1 (by simp) fun j hj => ?_
    obtain rfl : j = i := by simpa using hj
    exact wpOp_mono (fun a' w' h' => ⟨h'.1, wpAnyH_of_seq hs hQ r fuel _ _ _ (by simpa using hl) ho.2 h'.1 h'.2⟩) h
  | _ :: _, 0, _, _, _, hl, _, _, _ => by simp at hl

theorem wp_region_seq {id : Nat} {a : Act} {w : World} (ord : List (Nat × Bool)) (S : World → Prop) (hm : P.follows .mixedOrders = true) (hs : Region.noSelect ops = true)
    (hl : decide (ord.length ≤ ops.size) = true) (ho : seqOk .any ops ord (Array.replicate ops.size false) = true) (hQ : ∀ d v c a w, Q (.panic c) (a.put d v) w → Q (.panic c) a w)
    (hS : S w.drew) (h : S w.drew → SeqH P ops Q S ord a w.drew) : (Code.region id ops true).wp P Q a w :=
  wp_region_held hm (wpAnyH_of_seq hs hQ ord _ _ _ _ (of_decide_eq_true hl) ho hS (h hS))

theorem SeqH.done {a : Act} {w : World} (h : Q .normal a w) : SeqH P ops Q S [] a w := h
theorem at_toList {i : Nat} {o : Oper} (h : ops.toList[i]? = some o) : ops[i]? = some o := by rw [← h]; simp
theorem SeqH.take {i : Nat} {r : List (Nat × Bool)} {o : Oper} {v : Value} {a : Act} {w : World} (hl : ops.toList[i]? = some o) (hw : Region.wanted o (yielded ops a.tmps) = true)
    (hv : ∀ w, S w → (execOp a.eval o).run P w = .ok (.value v) w) (h : SeqH P ops Q S r (a.put o.dst v) w) : SeqH P ops Q S ((i, true) :: r) a w :=
  ⟨o, v, at_toList hl, .inl ⟨hw, hv⟩, h⟩
theorem SeqH.skip {i : Nat} {r : List (Nat × Bool)} {o : Oper} {a : Act} {w : World} (hl : ops.toList[i]? = some o) (hw : Region.wanted o (yielded ops a.tmps) = false)
    (h : SeqH P ops Q S r (a.put o.dst undef) w) : SeqH P ops Q S ((i, true) :: r) a w :=
  ⟨o, undef, at_toList hl, .inr ⟨hw, rfl⟩, h⟩
theorem SeqH.pass {i : Nat} {r : List (Nat × Bool)} {o : Oper} {a : Act} {w : World} (hl : ops.toList[i]? = some o) (hw : Region.wanted o (yielded ops a.tmps) = false) (hS : S w)
    (h : SeqH P ops Q S r (a.put o.dst undef) w) : SeqH P ops Q S ((i, false) :: r) a w := by
  have hi := at_toList hl
  show wpOp P ops Q i _ a w
  unfold wpOp
  simp only [hi, hw]
  exact ⟨hS, h⟩
theorem SeqH.step {i : Nat} {r : List (Nat × Bool)} {o : Oper} {a : Act} {w : World} (hl : ops.toList[i]? = some o) (hw : Region.wanted o (yielded ops a.tmps) = true)
    (h : ∀ K' : Act → World → Prop, Shut (∀ a w, S w → (S w → SeqH P ops Q S r a w) → K' a w) → Oper.wp P o a w K' Q) : SeqH P ops Q S ((i, false) :: r) a w := by
  show wpOp P ops Q i _ a w
  refine wpOp_step (at_toList hl) (fun K' hK => ?_)
  rw [if_pos hw]
  exact h K' (fun a w hS hW => hK a w ⟨hS, hW hS⟩)
end
end Go.Proofs.YtfgignbmnfeikabDoor
