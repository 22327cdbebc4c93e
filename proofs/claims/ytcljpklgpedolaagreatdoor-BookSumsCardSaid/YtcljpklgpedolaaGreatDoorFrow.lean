/- Rows of numbers that a call makes itself. -/
import Derived.Test.YtcljpklgpedolaaGreatDoorIntsI
import Derived.Test.YtcljpklgpedolaaGreatDoorShelf
import Derived.Test.YtcljpklgpedolaaGreatDoorSeq
import Derived.Laws.Externs
import Derived.StillTailTactics
namespace Go.Proofs.YtcljpklgpedolaaGreatDoor
open Go.RowKit

/-- A block lies as it was made. -/
def BlockAt (W : World) (B : Nat) (cs : Array Value) (t : TypeId) : Prop := W.heap[B]? = some (.cells cs t (0, 0))
theorem BlockAt.lt {W : World} {B : Nat} {cs : Array Value} {t : TypeId} (h : BlockAt W B cs t) : B < W.heap.size := (Array.getElem?_eq_some_iff.1 h).1
theorem BlockAt.new (W : World) (cs : Array Value) (t : TypeId) : BlockAt (W.alloc (.cells cs t)) W.heap.size cs t := heap_alloc_new W _
theorem BlockAt.alloc {W : World} {B : Nat} {cs : Array Value} {t : TypeId} (h : BlockAt W B cs t) (o : Obj) : BlockAt (W.alloc o) B cs t := (Below.heap_alloc _ _ _ h.lt).trans h
theorem BlockAt.cell {W : World} {B : Nat} {cs : Array Value} {t : TypeId} (h : BlockAt W B cs t) (i : Nat) : W.cell? ⟨B, i, none⟩ = cs[i]? := by simp [World.cell?, show W.heap[B]? = _ from h]
theorem BlockAt.frozen {W : World} {B : Nat} {cs : Array Value} {t : TypeId} (h : BlockAt W B cs t) (i : Nat) : W.frozen? ⟨B, i, none⟩ = false := by simp [World.frozen?, show W.heap[B]? = _ from h]
theorem BlockAt.set {W : World} {B : Nat} {cs : Array Value} {t : TypeId} (h : BlockAt W B cs t) (i : Nat) (v : Value) : BlockAt (W.setCell ⟨B, i, none⟩ v) B (cs.setIfInBounds i v) t := by
  obtain ⟨hlt, hk⟩ := Array.getElem?_eq_some_iff.1 h
  show (W.heap.modify B _)[B]? = _
  rw [Array.getElem?_eq_getElem (by rw [Array.size_modify]; exact hlt), Array.getElem_modify_self, hk]
  rfl
theorem BlockAt.other {W : World} {B B' i : Nat} {cs : Array Value} {t : TypeId} (h : BlockAt W B cs t) (hne : B ≠ B') (u : Value) : BlockAt (W.setCell ⟨B', i, none⟩ u) B cs t := by
  unfold BlockAt
  rw [Below.heap_setCell _ _ _ _ hne]; exact h
theorem BlockAt.below {W W2 : World} {B N : Nat} {cs : Array Value} {t : TypeId} (h : BlockAt W B cs t) (hb : Below N W W2) (hN : B < N) : BlockAt W2 B cs t := (hb.block B hN).trans h
theorem BlockAt.drew {W : World} {B : Nat} {cs : Array Value} {t : TypeId} (h : BlockAt W B cs t) : BlockAt W.drew B cs t := h
theorem below_step {w w1 w2 : World} (h : Below w.heap.size w w1) (hb : Below w1.heap.size w1 w2) : Below w.heap.size w w2 := h.trans (hb.mono h.size)
theorem below_alloc {w w1 : World} (h : Below w.heap.size w w1) (o : Obj) : Below w.heap.size w (w1.alloc o) := h.alloc h.size o
def intsC (xs : List Int) : Array Value := (xs.map (Value.int .i64)).toArray
theorem intsC_set (xs : List Int) (k : Nat) (x : Int) : (intsC xs).setIfInBounds k (.int .i64 x) = intsC (xs.set k x) := by
  unfold intsC; rw [List.setIfInBounds_toArray, ← List.map_set]
theorem intsC_at {xs : List Int} {k : Nat} (h : k < xs.length) : (intsC xs)[k]? = some (.int .i64 (xs.getD k 0)) := by
  unfold intsC; simp [h]
theorem cellsInts (n : Nat) : madeCells #[.int .i64 0] n = intsC (List.replicate n 0) := by
  unfold intsC madeCells
  refine Array.ext (by simp) fun i h1 h2 => ?_
  simp [Nat.mod_one]
theorem infoInt : (Tryz.prog.info? 3).map (fun i => (i.zero, i.size, i.bytes)) = some (some (.int .i64 0), 1, 8) := by kernel_rfl
def upd (f : Nat → Int) (i : Nat) (v : Int) : Nat → Int := fun j => if j = i then v else f j
def fnC (n : Nat) (f : Nat → Int) : Array Value := intsC ((List.range n).map f)
theorem fnC_set (n : Nat) (f : Nat → Int) (i : Nat) (v : Int) : (fnC n f).setIfInBounds i (.int .i64 v) = fnC n (upd f i v) := by
  unfold fnC
  rw [intsC_set]
  congr 1
  refine List.ext_getElem (by simp) fun j h1 h2 => ?_
  simp only [List.getElem_set, List.getElem_map, List.getElem_range, upd]
  by_cases e : i = j
  · subst e; simp
  · rw [if_neg e, if_neg (fun h => e h.symm)]
theorem fnC_at {n : Nat} {f : Nat → Int} {i : Nat} (h : i < n) : (fnC n f)[i]? = some (.int .i64 (f i)) := by
  unfold fnC
  rw [intsC_at (by simpa using h)]
  simp [h]
theorem fnC_zero (n : Nat) : intsC (List.replicate n 0) = fnC n (fun _ => 0) := by
  unfold fnC
  congr 1
  refine List.ext_getElem (by simp) fun j h1 h2 => by simp
theorem made_ints (n : Nat) (hn : n ≤ 1000) : ∀ W : World, (Instr.makeSlice 53 (.int .i64 (n : Int)) (.int .i64 (n : Int))).run Tryz.prog W = .ok (.slice (some ⟨W.heap.size, 0, none⟩) n n) (W.alloc (.cells (fnC n (fun _ => 0)) 3)) := by
  intro W
  obtain ⟨i0, hi, hz0, hz1, hz2⟩ := info_parts infoInt
  have := run_makeSlice (P := Tryz.prog) (w := W) 53 3 i0 (.int .i64 0) Tryz.underlying53 hi hz0 .i64 .i64 (n : Int) (n : Int) (by omega) (by omega) (by rw [hz1]; omega) (by rw [hz2]; omega) (by omega)
  rw [this, hz1, Nat.mul_one, show ((n : Int)).toNat = n by omega, show (Value.int .i64 0).cells = #[.int .i64 0] from rfl, cellsInts, fnC_zero]
/-- The values of the first k, and zeros. -/
def upTo (f : Nat → Int) (k : Nat) : Nat → Int := fun i => if i < k then f i else 0
theorem upTo_upd (f : Nat → Int) (k : Nat) : upd (upTo f k) k (f k) = upTo f (k + 1) := by
  funext j; unfold upd upTo
  by_cases e : j = k
  · subst e; rw [if_pos rfl, if_pos (by omega)]
  · rw [if_neg e]
    by_cases h : j < k
    · rw [if_pos h, if_pos (by omega)]
    · rw [if_neg h, if_neg (by omega)]
theorem upTo_zero (f : Nat → Int) : upTo f 0 = fun _ => 0 := by funext j; unfold upTo; rw [if_neg (by omega)]
theorem fnC_congr {n : Nat} {f g : Nat → Int} (h : ∀ i, i < n → f i = g i) : fnC n f = fnC n g := by
  unfold fnC
  congr 1
  exact List.map_congr_left fun i hi => h i (List.mem_range.1 hi)
theorem fnC_all (f : Nat → Int) (n : Nat) : fnC n (upTo f n) = fnC n f := fnC_congr fun i hi => by unfold upTo; rw [if_pos hi]
end Go.Proofs.YtcljpklgpedolaaGreatDoor
