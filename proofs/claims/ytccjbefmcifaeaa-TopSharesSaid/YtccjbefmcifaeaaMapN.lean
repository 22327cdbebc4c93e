/- The map of the shares that were found: what it holds, and how many entries there can be. -/
import Derived.Test.YtccjbefmcifaeaaDenom
import Derived.Maps.OwnSet
import Derived.Maps.Views
namespace Go.Proofs.Ytccjbefmcifaeaa
open Go.RowKit

/-- The world with new blocks, and with another map in one block. -/
abbrev Kb (bm : Nat) (w w' : World) : Prop := w.grownBy w' (some bm)
theorem Kb.refl (bm : Nat) (w : World) : Kb bm w w := ⟨rfl, rfl, rfl, Nat.le_refl _, fun _ _ _ => rfl⟩
theorem Kb.trans {bm : Nat} {w w1 w2 : World} (h : Kb bm w w1) (k : Kb bm w1 w2) : Kb bm w w2 :=
  ⟨k.os.trans h.os, k.tape.trans h.tape, k.output.trans h.output, Nat.le_trans h.size k.size, fun i hi hn => (k.block i (Nat.lt_of_lt_of_le hi h.size) hn).trans (h.block i hi hn)⟩
theorem Kb.below {bm : Nat} {w w1 w2 : World} (h : Kb bm w w1) (k : Below w1.heap.size w1 w2) : Kb bm w w2 :=
  h.trans ⟨k.os, k.tape, k.output, k.size, fun i hi _ => k.block i hi⟩
theorem Kb.of {bm : Nat} {w w1 : World} (k : Below w.heap.size w w1) : Kb bm w w1 := (Kb.refl bm w).below k
theorem Kb.alloc {bm : Nat} {w w1 : World} (h : Kb bm w w1) (o : Obj) : Kb bm w (w1.alloc o) := h.below ((Below.refl _ _).alloc (Nat.le_refl _) o)
theorem Kb.drew {bm : Nat} {w w1 : World} (h : Kb bm w w1) : Kb bm w w1.drew := ⟨h.os, h.tape, h.output, h.size, h.block⟩
theorem Kb.set {bm : Nat} {w w1 : World} (h : Kb bm w w1) {p : Addr} (hp : w.heap.size ≤ p.block) (v : Value) : Kb bm w (w1.setCell p v) :=
  ⟨h.os, h.tape, h.output, by simpa [World.setCell] using h.size, fun i hi hn => (Below.heap_setCell _ _ _ _ (by omega)).trans (h.block i hi hn)⟩
theorem Kb.storeN {bm : Nat} {w w1 : World} (h : Kb bm w w1) {B n : Nat} (hp : w.heap.size ≤ B) : Kb bm w (storeN w1 B n) :=
  (((((((h.set hp _).set hp _).set hp _).set hp _).set hp _).set hp _).set hp _).set hp _
theorem BlockAt.kb {W W' : World} {bm B : Nat} {cs : Array Value} {t : TypeId} (h : BlockAt W B cs t) (hg : Kb bm W W') (hne : B ≠ bm) : BlockAt W' B cs t :=
  (hg.block B h.lt (by intro e; exact hne (Option.some.inj e))).trans h

abbrev natR : Value → Option (DataW Value × List MemPlace) := fun v => some (.held v, [])
abbrev keyL (i : Nat) : Lit := .int .i64 (i : Int)
theorem keyL_ne {i j : Nat} (h : i ≠ j) : keyL i ≠ keyL j := by
  intro e; simp only [keyL, Lit.int.injEq] at e; exact h (by omega)
theorem key_law : Maps.Keyed Try.prog 3 := Maps.int_keyed Try.underlying3
theorem key_of (i : Nat) (h : i < 1000) : keyOf Try.prog 3 (.int .i64 (i : Int)) = some (keyL i) := Maps.keyOf_int_mk Try.underlying3 (WalkArith.wf_i64 (by omega))
def good (T : Nat → Nat) (D : DataW Value) : Prop := Maps.IsMap D ∧ ∀ i : Nat, Maps.has D (keyL i) = true → ∀ z, D.atKey (keyL i) z = .held (natV (T i))
def cnt (D : DataW Value) : Nat := ((List.range 24).filter fun i => Maps.has D (keyL i)).length
theorem filter_one {p q : Nat → Bool} {i : Nat} (hp : p i = false) (hq : q i = true) (h : ∀ j, j ≠ i → q j = p j) : ∀ {l : List Nat}, l.Nodup → i ∈ l → (l.filter q).length = (l.filter p).length + 1
  | [], _, hm => by cases hm
  | a :: l, hd, hm => by
    obtain ⟨h1, h2⟩ := List.nodup_cons.1 hd
    by_cases e : a = i
    · subst e
      have : l.filter q = l.filter p := List.filter_congr fun j hj => h j (fun e => h1 (e ▸ hj))
      simp [List.filter_cons, hp, hq, this]
    · have hm' : i ∈ l := by simpa [Ne.symm e] using hm
      have ih := filter_one hp hq h h2 hm'
      simp only [List.filter_cons, h a e]
      split <;> simp [ih]
theorem cnt_put {D : DataW Value} {i : Nat} (hD : Maps.IsMap D) (hi : i < 24) (h : Maps.has D (keyL i) = false) (d : DataW Value) : cnt (D.put (keyL i) d) = cnt D + 1 := by
  unfold cnt
  refine filter_one (i := i) h (Maps.has_put_same hD (by trivial) d) (fun j hj => Maps.has_put_other (keyL_ne hj) d) List.nodup_range (by simpa using hi)
theorem cnt_le (D : DataW Value) : cnt D ≤ 24 := by
  unfold cnt; refine Nat.le_trans (List.length_filter_le _ _) (by simp)
theorem good_put {T : Nat → Nat} {D : DataW Value} {i : Nat} (h : good T D) : good T (D.put (keyL i) (.held (natV (T i)))) := by
  refine ⟨h.1.put _ _, fun j hj z => ?_⟩
  by_cases e : j = i
  · subst e; exact Maps.atKey_put_same h.1 (by trivial) _ _
  · rw [Maps.has_put_other (keyL_ne e)] at hj
    rw [Maps.atKey_put_other (keyL_ne e)]; exact h.2 j hj z
/-- The map as it is at a time. -/
def VM (w : World) (bm : Nat) (T : Nat → Nat) (D : DataW Value) : Prop := (∃ m, w.ownsMap Try.prog 3 natR bm m D ∧ m ≤ cnt D) ∧ good T D
theorem VM.kept {w w' : World} {bm : Nat} {T : Nat → Nat} {D : DataW Value} (h : VM w bm T D) (hb : Below w.heap.size w w') : VM w' bm T D := by
  obtain ⟨⟨m, h1, h2⟩, h3⟩ := h
  exact ⟨⟨m, h1.kept (row := none) ⟨hb.os, hb.tape, hb.output, hb.size, fun i hi _ => hb.block i hi⟩ (by simp), h2⟩, h3⟩
theorem VM.other {w : World} {bm : Nat} {T : Nat → Nat} {D : DataW Value} (h : VM w bm T D) {p : Addr} (hp : bm ≠ p.block) (v : Value) : VM (w.setCell p v) bm T D := by
  obtain ⟨⟨m, h1, h2⟩, h3⟩ := h
  exact ⟨⟨m, h1.setCell hp v, h2⟩, h3⟩
theorem VM.storeN {w : World} {bm : Nat} {T : Nat → Nat} {D : DataW Value} (h : VM w bm T D) {B n : Nat} (hp : bm ≠ B) : VM (storeN w B n) bm T D :=
  (((((((h.other hp _).other hp _).other hp _).other hp _).other hp _).other hp _).other hp _).other hp _
theorem VM.lt {w : World} {bm : Nat} {T : Nat → Nat} {D : DataW Value} (h : VM w bm T D) : bm < w.heap.size := h.1.elim fun _ h => h.1.lt
end Go.Proofs.Ytccjbefmcifaeaa
