/- A region that draws its order, walked in one order, inside a fence, also in a round of a loop over a function: no operation of it is a 'defer'. -/
import Derived.Test.YtimpdmpfpbeflaaSeq
import Derived.OrdersIn
namespace Go.Proofs.Ytimpdmpfpbeflaa
open Go

section
variable {F : Fence} {n : Nat} {P : Program} {ops : Array Oper} {Q : Exit → Act → World → Prop} {S : World → Prop} {md : Region.Mode}

def noDefer (ops : Array Oper) : Bool := ops.toList.all fun o => match o.op with
  | .defer _ => false
  | _ => true
theorem noDefer_at (h : noDefer ops = true) {i : Nat} {o : Oper} (hi : ops[i]? = some o) : ∀ c, o.op ≠ .defer c := by
  intro c hc
  have hm : o ∈ ops.toList := by
    rw [← Array.getElem?_toList] at hi
    exact List.mem_of_getElem? hi
  have := List.all_eq_true.1 h o hm
  rw [hc] at this
  cases this
/-- It yields a value and is about to make no call. -/
def Calm (P : Program) (ops : Array Oper) (S : World → Prop) (o : Oper) (v : Value) (a : Act) : Prop := YieldsIf P ops S o v a ∧ ∀ w, o.about P w a.eval = none
theorem Calm.kept {o oj : Oper} {v u : Value} {a : Act} (hy : Calm P ops S o v a) (hsi : ∀ cs b, o.op ≠ .select cs b) (h : ∀ d, oj.dst = some d → d ∉ o.looksAt ops) : Calm P ops S o v (a.put oj.dst u) :=
  ⟨hy.1.of_same (execOp_put o hsi a oj.dst u h) (wanted_put o a oj.dst u h), fun w => by rw [about_put o w a oj.dst u h]; exact hy.2 w⟩
theorem Calm.go (hd : noDefer ops = true) {i : Nat} {o : Oper} {v : Value} {a : Act} (hi : ops[i]? = some o) (hy : Calm P ops S o v a) {K : Act → World → Prop} {w : World} (hS : S w) (h : K (a.put o.dst v) w) : wpOpIn F n P ops Q i K a w := by
  have hab : ∀ f, o.about P w a.eval = some f → F.fn f := fun f hf => by rw [hy.2 w] at hf; cases hf
  unfold wpOpIn
  simp only [hi]
  rcases hy.1 with ⟨hw, hv⟩ | ⟨hw, rfl⟩
  · rw [if_pos hw]
    unfold Oper.wpIn
    rw [Oper.semAt_eq _ _ _ (noDefer_at hd hi), hv w hS]
    exact ⟨hab, h⟩
  · rw [if_neg (by rw [hw]; decide)]
    exact ⟨hab, h⟩
/-- Another operation, apart from it. -/
theorem Calm.swap (hd : noDefer ops = true) {j : Nat} {oi oj : Oper} {v : Value} (hj : ops[j]? = some oj) (hap : oi.apart ops oj = true) (hsi : ∀ cs b, oi.op ≠ .select cs b) (hsj : ∀ cs b, oj.op ≠ .select cs b)
    (hQ : ∀ c a w, Q (.panic c) (a.put oi.dst v) w → Q (.panic c) a w) {K : Act → World → Prop} {a : Act} {w : World} (hy : Calm P ops S oi v a) (h : wpOpIn F n P ops Q j K (a.put oi.dst v) w) :
    wpOpIn F n P ops Q j (fun a' w' => Calm P ops S oi v a' ∧ K (a'.put oi.dst v) w') a w := by
  obtain ⟨h1, h2, h3⟩ := Oper.apart_spec hap
  have keep : ∀ u, Calm P ops S oi v (a.put oj.dst u) := fun u => hy.kept hsi h3
  have hnd := noDefer_at hd hj
  unfold wpOpIn at *
  simp only [hj] at *
  rw [wanted_put oj a oi.dst v h1, about_put oj w a oi.dst v h1] at h
  by_cases hw : Region.wanted oj (yielded ops a.tmps) = true
  · rw [if_pos hw] at h ⊢
    unfold Oper.wpIn at *
    rw [about_put oj w a oi.dst v h1, Oper.semAt_eq _ _ _ hnd, execOp_put oj hsj a oi.dst v h1] at h
    rw [Oper.semAt_eq _ _ _ hnd]
    obtain ⟨hab, h⟩ := h
    refine ⟨hab, ?_⟩
    generalize (execOp a.eval oj).run P w = r at *
    cases r with
    | ok x w' =>
      cases x <;> simp only [Oper.uponIn] at h ⊢
      case value u => exact ⟨keep u, by rw [← Act.put_comm a v u h2]; exact h⟩
      case skip => exact ⟨keep _, by rw [← Act.put_comm a v undef h2]; exact h⟩
      case defer d =>
        have hyd : Calm P ops S oi v { a with defers := d :: a.defers } := ⟨hy.1.of_same rfl rfl, fun w => hy.2 w⟩
        refine ⟨hyd.kept hsi h3, ?_⟩
        rw [← Act.put_comm _ v undef h2, ← Act.put_defers]
        exact h
      case enter f args =>
        refine ⟨h.1, CallsIn.mono h.2 fun e w'' he => ?_⟩
        cases e with
        | returned u => exact ⟨keep u, by rw [← Act.put_comm a v u h2]; exact he⟩
        | panicked c => exact hQ _ _ _ he
        | outgrown => exact he
      case row row args => exact ⟨h.1, RowsIn.mono h.2 fun u w'' he => ⟨keep u, by rw [← Act.put_comm a v u h2]; exact he⟩⟩
      case round l f tmps assign body =>
        refine ⟨h.1, RoundIn.mono h.2 fun e w'' he => ?_⟩
        cases e with
        | returned u => exact ⟨keep u, by rw [← Act.put_comm a v u h2]; exact he⟩
        | panicked c => exact hQ _ _ _ he
        | outgrown => exact he
    | halt x w' =>
      cases x <;> simp only [Oper.uponIn] at h ⊢
      case panic u => exact hQ _ _ _ h
  · rw [if_neg hw] at h ⊢
    exact ⟨h.1, keep _, by rw [← Act.put_comm a v undef h2]; exact h.2⟩
/-- Whatever order is picked, and S holds behind every operation. -/
def AnyK (F : Fence) (n : Nat) (P : Program) (md : Region.Mode) (ops : Array Oper) (Q : Exit → Act → World → Prop) (S : World → Prop) : Nat → Array Bool → Act → World → Prop
  | 0, listed, a, w => Region.ready md ops listed = [] ∧ Q .normal a w
  | fuel + 1, listed, a, w => (Region.ready md ops listed = [] → Q .normal a w) ∧ ∀ i ∈ Region.ready md ops listed, wpOpIn F n P ops Q i (fun a' w' => S w' ∧ AnyK F n P md ops Q S fuel (listed.setIfInBounds i true) a' w') a w
theorem AnyK.any : ∀ (fuel : Nat) (listed : Array Bool) (a : Act) (w : World), AnyK F n P md ops Q S fuel listed a w → wpAnyIn F n P md ops Q fuel listed a w
  | 0, _, _, _, h => h
  | fuel + 1, _, _, _, h => ⟨h.1, fun i hi => wpOpIn_mono (fun a' w' h' => AnyK.any fuel _ a' w' h'.2) (h.2 i hi)⟩
theorem AnyK.first (hd : noDefer ops = true) {i : Nat} {oi : Oper} {v : Value} (hi : ops[i]? = some oi) (hsel : ∀ (j : Nat) (o : Oper) cs b, ops[j]? = some o → o.op ≠ .select cs b)
    (hQ : ∀ c a w, Q (.panic c) (a.put oi.dst v) w → Q (.panic c) a w) : ∀ (fuel : Nat) (listed : Array Bool) (a : Act) (w : World),
      (∀ j oj, ops[j]? = some oj → j ≠ i → listed.getD j true = false → (∀ e ∈ oj.after, Region.binds md e = true → e.on ≠ i) → oi.apart ops oj = true) →
      i ∈ Region.ready md ops listed → Calm P ops S oi v a → S w → AnyK F n P md ops Q S fuel (listed.setIfInBounds i true) (a.put oi.dst v) w → AnyK F n P md ops Q S (fuel + 1) listed a w := by
  intro fuel
  induction fuel with
  | zero =>
    intro listed a w _ hr hy hS H
    refine ⟨fun h => absurd hr (by rw [h]; exact List.not_mem_nil), fun j hj => ?_⟩
    by_cases hji : j = i
    · subst hji; exact hy.go hd hi hS ⟨hS, H⟩
    · have := ready_mono hj hji
      rw [H.1] at this
      exact absurd this List.not_mem_nil
  | succ fuel ih =>
    intro listed a w hfree hr hy hS H
    refine ⟨fun h => absurd hr (by rw [h]; exact List.not_mem_nil), fun j hj => ?_⟩
    by_cases hji : j = i
    · subst hji; exact hy.go hd hi hS ⟨hS, H⟩
    · obtain ⟨hjun, oj, hoj, hall⟩ := mem_ready.1 hj
      have hin := (mem_ready.1 hr).1
      have hnot : ∀ e ∈ oj.after, Region.binds md e = true → e.on ≠ i := fun e he hb heq => by
        have h1 := hall e he hb
        rw [heq] at h1
        rcases Nat.lt_or_ge i listed.size with h' | h'
        · simp [h'] at hin h1; rw [hin] at h1; cases h1
        · simp [Array.getElem?_eq_none h'] at h1
      have h2 := hy.swap hd hoj (hfree j oj hoj hji hjun hnot) (fun cs b => hsel i oi cs b hi) (fun cs b => hsel j oj cs b hoj) hQ (H.2 j (ready_mono hj hji))
      refine wpOpIn_mono (fun a' w' h3 => ⟨h3.2.1, ih (listed.setIfInBounds j true) a' w' (fun k ok hk hki hun hno => hfree k ok hk hki ?_ hno) (ready_mono hr (Ne.symm hji)) h3.1 h3.2.1 ?_⟩) h2
      · by_cases hjk : j = k
        · subst hjk; exact hjun
        · rw [getD_set_ne true hjk] at hun; exact hun
      · rw [Array.setIfInBounds_comm _ _ hji]
        exact h3.2.2
/-- The operations in the order that is given. -/
def SeqK (F : Fence) (n : Nat) (P : Program) (ops : Array Oper) (Q : Exit → Act → World → Prop) (S : World → Prop) : List (Nat × Bool) → Act → World → Prop
  | [], a, w => Q .normal a w
  | (i, true) :: r, a, w => ∃ o v, ops[i]? = some o ∧ Calm P ops S o v a ∧ SeqK F n P ops Q S r (a.put o.dst v) w
  | (i, false) :: r, a, w => wpOpIn F n P ops Q i (fun a' w' => S w' ∧ SeqK F n P ops Q S r a' w') a w
theorem AnyK.of_seq (hd : noDefer ops = true) (hs : Region.noSelect ops = true) (hQ : ∀ d v c a w, Q (.panic c) (a.put d v) w → Q (.panic c) a w) :
    ∀ (ord : List (Nat × Bool)) (fuel : Nat) (listed : Array Bool) (a : Act) (w : World), ord.length ≤ fuel → seqOk md ops ord listed = true → S w → SeqK F n P ops Q S ord a w → AnyK F n P md ops Q S fuel listed a w
  | [], 0, listed, a, w, _, ho, _, h => ⟨by simpa [seqOk] using ho, h⟩
  | [], fuel + 1, listed, a, w, _, ho, _, h => ⟨fun _ => h, fun i hi => by
    have : Region.ready md ops listed = [] := by simpa [seqOk] using ho
    rw [this] at hi
    exact absurd hi List.not_mem_nil⟩
  | (i, true) :: r, fuel + 1, listed, a, w, hl, ho, hS, h => by
    simp only [seqOk, Bool.and_eq_true] at ho
    obtain ⟨o, v, hi, hy, h⟩ := h
    exact AnyK.first hd hi (Region.noSelect_spec hs) (fun c a w => hQ _ _ c a w) fuel listed a w (Region.free_spec hi ho.1.1) (by simpa using ho.1.2) hy hS (AnyK.of_seq hd hs hQ r fuel _ _ _ (by simpa using hl) ho.2 hS h)
  | (i, false) :: r, fuel + 1, listed, a, w, hl, ho, _, h => by
    simp only [seqOk, Bool.and_eq_true, beq_iff_eq] at ho
    refine ⟨fun h0 => absurd h0 (by rw [ho.1]; exact List.cons_ne_nil _ _), fun j hj => ?_⟩
    rw [ho.1] at hj
    obtain rfl : j = i := by simpa using hj
    exact wpOpIn_mono (fun a' w' h' => ⟨h'.1, AnyK.of_seq hd hs hQ r fuel _ _ _ (by simpa using hl) ho.2 h'.1 h'.2⟩) h
  | _ :: _, 0, _, _, _, hl, _, _, _ => by simp at hl
theorem wpIn_region_seq {id : Nat} {a : Act} {w : World} (ord : List (Nat × Bool)) (S : World → Prop) (hm : P.follows .mixedOrders = true) (hd : noDefer ops = true) (hs : Region.noSelect ops = true)
    (hl : decide (ord.length ≤ ops.size) = true) (ho : seqOk .any ops ord (Array.replicate ops.size false) = true) (hQ : ∀ d v c a w, Q (.panic c) (a.put d v) w → Q (.panic c) a w)
    (hS : S w.drew) (h : S w.drew → SeqK F n P ops Q S ord a w.drew) : (Code.region id ops true).wpIn F n P Q a w :=
  wpIn_region_any hm (AnyK.any _ _ _ _ (AnyK.of_seq hd hs hQ ord _ _ _ _ (of_decide_eq_true hl) ho hS (h hS)))
theorem SeqK.done {a : Act} {w : World} (h : Q .normal a w) : SeqK F n P ops Q S [] a w := h
theorem SeqK.take {i : Nat} {r : List (Nat × Bool)} {o : Oper} {v : Value} {a : Act} {w : World} (hl : ops.toList[i]? = some o) (hw : Region.wanted o (yielded ops a.tmps) = true) (ha : ∀ w, o.about P w a.eval = none)
    (hv : ∀ w, S w → (execOp a.eval o).run P w = .ok (.value v) w) (h : SeqK F n P ops Q S r (a.put o.dst v) w) : SeqK F n P ops Q S ((i, true) :: r) a w :=
  ⟨o, v, at_toList hl, ⟨.inl ⟨hw, hv⟩, ha⟩, h⟩
theorem SeqK.skip {i : Nat} {r : List (Nat × Bool)} {o : Oper} {a : Act} {w : World} (hl : ops.toList[i]? = some o) (hw : Region.wanted o (yielded ops a.tmps) = false) (ha : ∀ w, o.about P w a.eval = none)
    (h : SeqK F n P ops Q S r (a.put o.dst undef) w) : SeqK F n P ops Q S ((i, true) :: r) a w :=
  ⟨o, undef, at_toList hl, ⟨.inr ⟨hw, rfl⟩, ha⟩, h⟩
theorem SeqK.pass {i : Nat} {r : List (Nat × Bool)} {o : Oper} {a : Act} {w : World} (hl : ops.toList[i]? = some o) (hw : Region.wanted o (yielded ops a.tmps) = false) (hS : S w) (ha : ∀ f, o.about P w a.eval = some f → F.fn f)
    (h : SeqK F n P ops Q S r (a.put o.dst undef) w) : SeqK F n P ops Q S ((i, false) :: r) a w := by
  show wpOpIn F n P ops Q i _ a w
  unfold wpOpIn
  simp only [at_toList hl]
  rw [if_neg (by rw [hw]; decide)]
  exact ⟨ha, hS, h⟩
theorem SeqK.step {i : Nat} {r : List (Nat × Bool)} {o : Oper} {a : Act} {w : World} (hl : ops.toList[i]? = some o) (hw : Region.wanted o (yielded ops a.tmps) = true)
    (h : ∀ K' : Act → World → Prop, Shut (∀ a w, S w → (S w → SeqK F n P ops Q S r a w) → K' a w) → Oper.wpIn F n P o a w K' Q) : SeqK F n P ops Q S ((i, false) :: r) a w := by
  show wpOpIn F n P ops Q i _ a w
  unfold wpOpIn
  simp only [at_toList hl]
  rw [if_pos hw]
  exact h _ (show Shut _ from fun a w hS hW => ⟨hS, hW hS⟩)
end
end Go.Proofs.Ytimpdmpfpbeflaa
