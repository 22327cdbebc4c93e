/- Lists of numbers that a call makes itself, as rows that grow. -/
import Derived.Test.YtigigmjdockdeaaGreatDoorFrow
import Derived.Maps.AppendAt
namespace Go.Proofs.YtigigmjdockdeaaGreatDoor
open Go.RowKit

def intL (x : Int) : List Value := [.int .i64 x]
def cellsL : List Int → List Value
  | [] => []
  | x :: b => intL x ++ cellsL b
theorem cellsL_append (a b : List Int) : cellsL (a ++ b) = cellsL a ++ cellsL b := by
  induction a with
  | nil => rfl
  | cons r a ih => simp [cellsL, ih, List.append_assoc]
theorem cellsL_get : ∀ (a : List Int) (k : Nat) (hk : k < a.length), (cellsL a)[k]? = some (.int .i64 a[k])
  | x :: a, 0, _ => rfl
  | x :: a, k + 1, hk => by
    have := cellsL_get a k (by simpa using hk)
    simpa [cellsL, intL] using this
def OwnI (base : Nat) (w : World) (v : Value) (ks : List Int) : Prop := w.ownsRow base 3 1 v ks.length (cellsL ks)
theorem OwnI.nil (base : Nat) (w : World) : OwnI base w (.slice none 0 0) [] := World.ownsRow_nil _ _ _ _
theorem OwnI.pushed {base : Nat} {w : World} {v : Value} {a : List Int} {x : Int} (h : w.ownsRow base 3 1 v (a.length + 1) (cellsL a ++ intL x)) : OwnI base w v (a ++ [x]) := by
  unfold OwnI
  rw [cellsL_append, show cellsL [x] = intL x by simp [cellsL], show (a ++ [x]).length = a.length + 1 by simp]
  exact h
theorem OwnI.ints {base : Nat} {w : World} {v : Value} {ks : List Int} (h : OwnI base w v ks) : Ints w v ks := by
  obtain ⟨h0, ⟨h1, h2⟩ | ⟨g, cap, cur, h1, h2, h3, h4⟩⟩ := id h
  · exact .inl ⟨none, 0, by rw [h1], List.length_eq_zero_iff.1 (by simpa using h2)⟩
  · subst h1
    refine .inr ⟨g, 0, cap, rfl, by omega, (Array.getElem?_eq_some_iff.1 h3).1, fun k hk => ?_⟩
    rw [Nat.zero_add]
    refine (World.ownsRow.cellAt h k (by omega)).trans ?_
    rw [cellsL_get ks k hk]
    simp [hk]
theorem intL_at (w : World) (x : Int) (t : TypeId) : ∀ (j : Nat) (u : Value), (intL x)[j]? = some u → (w.alloc (.cells #[.int .i64 x] t)).cell? ((⟨w.heap.size, 0, none⟩ : Addr).add j) = some u := by
  intro j u h
  match j, h with
  | 0, h => simp [intL] at h; subst h; simp [Addr.add]
  | j + 1, h => simp [intL] at h
theorem intL_one (x : Int) : ∀ u ∈ intL x, u.oneCell' = true := by
  intro u h
  simp [intL] at h; subst h; rfl

theorem OwnI.alloc {base : Nat} {w : World} {v : Value} {rs : List Int} (h : OwnI base w v rs) (o : Obj) : OwnI base (w.alloc o) v rs := World.ownsRow.alloc h o
theorem OwnI.mono {base B : Nat} {w : World} {v : Value} {rs : List Int} (h : OwnI base w v rs) (hB : B ≤ base) : OwnI B w v rs := by
  obtain ⟨h0, h⟩ := h
  rcases h with h | ⟨g, cap, cur, h1, h2, h3⟩
  · exact ⟨h0, .inl h⟩
  · exact ⟨h0, .inr ⟨g, cap, cur, h1, Nat.le_trans hB h2, h3⟩⟩
theorem OwnI.all {base : Nat} {w w2 : World} {v : Value} {rs : List Int} (h : OwnI base w v rs) (hb : Below w.heap.size w w2) : OwnI base w2 v rs := by
  obtain ⟨h0, h1 | ⟨g, cap, cur, h1, h2, h3, h4⟩⟩ := h
  · exact ⟨h0, .inl h1⟩
  · have hg : g < w.heap.size := (Array.getElem?_eq_some_iff.1 h3).1
    exact ⟨h0, .inr ⟨g, cap, cur, h1, h2, by rw [hb.block g hg]; exact h3, h4⟩⟩


/-- The first n values of a function. -/
def fnL (n : Nat) (f : Nat → Int) : List Int := (List.range n).map f
theorem fnL_len (n : Nat) (f : Nat → Int) : (fnL n f).length = n := by simp [fnL]
theorem fnL_succ (n : Nat) (f : Nat → Int) : fnL (n + 1) f = fnL n f ++ [f n] := by unfold fnL; rw [List.range_succ, List.map_append]; rfl
theorem cellsL_set : ∀ (a : List Int) (k : Nat) (x : Int), (cellsL a).set k (.int .i64 x) = cellsL (a.set k x)
  | [], k, x => by simp [cellsL]
  | y :: a, 0, x => by simp [cellsL, intL]
  | y :: a, k + 1, x => by
    have := cellsL_set a k x
    simpa [cellsL, intL] using this
theorem fnL_set (n : Nat) (f : Nat → Int) (k : Nat) (x : Int) : (fnL n f).set k x = fnL n (upd f k x) := by
  unfold fnL
  refine List.ext_getElem (by simp) fun j h1 h2 => ?_
  simp only [List.getElem_set, List.getElem_map, List.getElem_range, upd]
  by_cases e : k = j
  · subst e; simp
  · rw [if_neg e, if_neg (fun h => e h.symm)]
/-- A row of n numbers that is the call's own. -/
def OwnF (base : Nat) (w : World) (v : Value) (n : Nat) (f : Nat → Int) : Prop := w.ownsRow base 3 1 v n (cellsL (fnL n f))
theorem OwnF.nil (base : Nat) (w : World) (f : Nat → Int) : OwnF base w (.slice none 0 0) 0 f := World.ownsRow_nil _ _ _ _
theorem OwnF.pushed {base : Nat} {w : World} {v : Value} {n : Nat} {f : Nat → Int} {x : Int} (h : w.ownsRow base 3 1 v (n + 1) (cellsL (fnL n f) ++ intL x)) (hx : f n = x) : OwnF base w v (n + 1) f := by
  unfold OwnF
  rw [fnL_succ, cellsL_append, hx, show cellsL [x] = intL x by simp [cellsL]]
  exact h
theorem OwnF.congr {base : Nat} {w : World} {v : Value} {n : Nat} {f g : Nat → Int} (h : OwnF base w v n f) (e : ∀ i, i < n → f i = g i) : OwnF base w v n g := by
  unfold OwnF at h ⊢
  rwa [show fnL n g = fnL n f by unfold fnL; exact List.map_congr_left fun i hi => (e i (List.mem_range.1 hi)).symm]
theorem OwnF.form {base : Nat} {w : World} {v : Value} {n : Nat} {f : Nat → Int} (h : OwnF base w v n f) (h0 : 0 < n) : ∃ g cap, v = .slice (some ⟨g, 0, none⟩) n cap ∧ base ≤ g ∧ g < w.heap.size := by
  rcases id h with ⟨_, ⟨_, h2⟩ | ⟨g, cap, cur, h1, h2, h3, _⟩⟩
  · omega
  · exact ⟨g, cap, h1, h2, (Array.getElem?_eq_some_iff.1 h3).1⟩
theorem OwnF.cell {base g cap : Nat} {w : World} {n : Nat} {f : Nat → Int} (h : OwnF base w (.slice (some ⟨g, 0, none⟩) n cap) n f) {k : Nat} (hk : k < n) : w.cell? ⟨g, k, none⟩ = some (.int .i64 (f k)) := by
  refine (World.ownsRow.cellAt h k (by omega)).trans ?_
  rw [cellsL_get _ _ (by rw [fnL_len]; exact hk)]
  simp [fnL]
theorem OwnF.free {base g cap : Nat} {w : World} {n : Nat} {f : Nat → Int} (h : OwnF base w (.slice (some ⟨g, 0, none⟩) n cap) n f) (k : Nat) : w.frozen? ⟨g, k, none⟩ = false := World.ownsRow.frozenAt h k
theorem OwnF.store {base g cap : Nat} {w : World} {n : Nat} {f : Nat → Int} (h : OwnF base w (.slice (some ⟨g, 0, none⟩) n cap) n f) (k : Nat) (x : Int) :
    OwnF base (w.setCell ⟨g, k, none⟩ (.int .i64 x)) (.slice (some ⟨g, 0, none⟩) n cap) n (upd f k x) ∧ w.grownBy (w.setCell ⟨g, k, none⟩ (.int .i64 x)) (some g) := by
  have := World.ownsRow.stored h k (.int .i64 x)
  rwa [cellsL_set, fnL_set] at this
theorem OwnF.kept {base : Nat} {w w' : World} {v : Value} {n : Nat} {f : Nat → Int} {row : Option Nat} (h : OwnF base w v n f) (hg : w.grownBy w' row) (hne : v.ownBlock = none ∨ v.ownBlock ≠ row) : OwnF base w' v n f := World.ownsRow.kept h hg hne
theorem OwnF.drew {base : Nat} {w : World} {v : Value} {n : Nat} {f : Nat → Int} (h : OwnF base w v n f) : OwnF base w.drew v n f := h
theorem OwnF.below {base : Nat} {w w2 : World} {v : Value} {n : Nat} {f : Nat → Int} (h : OwnF base w v n f) (hb : Below w.heap.size w w2) : OwnF base w2 v n f := by
  obtain ⟨h0, h1 | ⟨g, cap, cur, h1, h2, h3, h4⟩⟩ := h
  · exact ⟨h0, .inl h1⟩
  · have hg : g < w.heap.size := (Array.getElem?_eq_some_iff.1 h3).1
    exact ⟨h0, .inr ⟨g, cap, cur, h1, h2, by rw [hb.block g hg]; exact h3, h4⟩⟩
end Go.Proofs.YtigigmjdockdeaaGreatDoor
