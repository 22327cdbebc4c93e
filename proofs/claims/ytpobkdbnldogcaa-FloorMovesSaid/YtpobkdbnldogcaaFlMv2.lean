/- Blocks of own lists; a list of strips of which the first ones are moved. -/
import Derived.Test.YtpobkdbnldogcaaFl26
import Derived.Test.YtpobkdbnldogcaaFlMv
namespace Go.Proofs.Ytpobkdbnldogcaa
open Go.RowKit

theorem OwnG.blk {α : Type} {t : TypeId} {c : Nat} {cs : α → List Value} {base : Nat} {w : World} {v : Value} {xs : List α} (hc : ∀ x, (cs x).length = c) (h : OwnG t c cs base w v xs) :
    xs.length = 0 ∨ ∃ g cap cur, v = .slice (some ⟨g, 0, none⟩) xs.length cap ∧ base ≤ g ∧ BlockAt w g cur t ∧ ∀ k (hk : k < xs.length) j u, (cs xs[k])[j]? = some u → cur[k * c + j]? = some u := by
  obtain ⟨_, ⟨_, h2⟩ | ⟨g, cap, cur, h1, h2, h3, _⟩⟩ := id h
  · exact .inl h2
  · subst h1
    refine .inr ⟨g, cap, cur, rfl, h2, h3, fun k hk j u hj => ?_⟩
    have hjc : j < c := by
      have := (List.getElem?_eq_some_iff.1 hj).1
      rwa [hc] at this
    have hlt : k * c + j < xs.length * c := by
      have := Nat.mul_le_mul_right c (show k + 1 ≤ xs.length by omega)
      rw [Nat.succ_mul] at this; omega
    rw [← BlockAt.cell h3 (k * c + j)]
    exact (World.ownsRow.cellAt h (k * c + j) hlt).trans ((flat_at hc xs k hk j hjc).trans hj)
theorem OwnG.set {α : Type} {t : TypeId} {c : Nat} {cs : α → List Value} {base B : Nat} {w : World} {v : Value} {xs : List α} (h : OwnG t c cs base w v xs) (hB : B < base) (j : Nat) (u : Value) : OwnG t c cs base (w.setCell ⟨B, j, none⟩ u) v xs := by
  obtain ⟨h0, h1 | ⟨g, cap, cur, h1, h2, h3, h4⟩⟩ := h
  · exact ⟨h0, .inl h1⟩
  · exact ⟨h0, .inr ⟨g, cap, cur, h1, h2, by rw [Below.heap_setCell _ _ _ _ (show g ≠ B by omega)]; exact h3, h4⟩⟩
/-- The first k strips of a are moved, all of b are. -/
def MvI (L : List Fl.S) (d : Int) (a b : Option Addr) (k : Nat) (w0 wr : World) : Prop :=
  (L.length = 0 ∨ ∃ g cur g2 cur2, a = some ⟨g, 0, none⟩ ∧ b = some ⟨g2, 0, none⟩ ∧ w0.heap.size ≤ g ∧ g ≠ g2 ∧ BlockAt wr g cur StripT ∧ BlockAt wr g2 cur2 StripT ∧
    (∀ i (hi : i < L.length) j u, (stripC (if i < k then Fl.mvS d L[i] else L[i]))[j]? = some u → cur[i * 3 + j]? = some u) ∧
    (∀ i (hi : i < L.length) j u, (stripC (Fl.mvS d L[i]))[j]? = some u → cur2[i * 3 + j]? = some u)) ∧ Below w0.heap.size w0 wr
theorem MvI.drew {L : List Fl.S} {d : Int} {a b : Option Addr} {k : Nat} {w0 wr : World} (h : MvI L d a b k w0 wr) (m : Nat) : MvI L d a b k w0 (wr.drewN m) := by
  obtain ⟨h1 | ⟨g, cur, g2, cur2, e1, e2, e3, e4, e5, e6, e7, e8⟩, hb⟩ := h
  · exact ⟨.inl h1, below_drewN hb m⟩
  · have hd := below_drewN (Below.refl wr.heap.size wr) m
    exact ⟨.inr ⟨g, cur, g2, cur2, e1, e2, e3, e4, e5.below hd e5.lt, e6.below hd e6.lt, e7, e8⟩, below_drewN hb m⟩
theorem MvI.start {L : List Fl.S} {d : Int} {a b : Option Addr} {c c2 : Nat} {w0 w1 w2 wr : World} (ha : OwnS w0.heap.size w1 (.slice a L.length c) L) (hb : OwnS w2.heap.size wr (.slice b (L.map (Fl.mvS d)).length c2) (L.map (Fl.mvS d)))
    (h1 : Below w1.heap.size w1 wr) (hs : w1.heap.size ≤ w2.heap.size) (h0 : Below w0.heap.size w0 wr) : MvI L d a b 0 w0 wr := by
  refine ⟨?_, h0⟩
  rcases OwnG.blk stripC_len ha with h | ⟨g, cap, cur, e1, e2, e3, e4⟩
  · exact .inl h
  rcases OwnG.blk stripC_len hb with h | ⟨g2, cap2, cur2, q1, q2, q3, q4⟩
  · exact .inl (by simpa using h)
  cases e1; cases q1
  have hlt := e3.lt
  refine .inr ⟨g, cur, g2, cur2, rfl, rfl, e2, by omega, e3.below h1 e3.lt, q3, fun i hi j u hj => e4 i hi j u (by simpa using hj), fun i hi j u hj => q4 i (by simpa using hi) j u ?_⟩
  rw [List.getElem_map]; exact hj
theorem MvI.at {L : List Fl.S} {d : Int} {a b : Option Addr} {k : Nat} {w0 wr : World} (h : MvI L d a b k w0 wr) (hk : k < L.length) :
    ∃ g g2, a = some ⟨g, 0, none⟩ ∧ b = some ⟨g2, 0, none⟩ ∧ wr.cell? ⟨g, k * 3, none⟩ = some (.int .i64 L[k].x) ∧ wr.frozen? ⟨g, k * 3, none⟩ = false ∧ ∀ W, W = wr.setCell ⟨g, k * 3, none⟩ (.int .i64 (L[k].x + d)) →
      (W.cell? ⟨g, k * 3, none⟩ = some (.int .i64 (L[k].x + d)) ∧ W.cell? ⟨g, k * 3 + 1, none⟩ = some (.int .i64 L[k].f) ∧ W.cell? ⟨g, k * 3 + 2, none⟩ = some (.int .i64 L[k].t)) ∧
      (W.cell? ⟨g2, k * 3, none⟩ = some (.int .i64 (L[k].x + d)) ∧ W.cell? ⟨g2, k * 3 + 1, none⟩ = some (.int .i64 L[k].f) ∧ W.cell? ⟨g2, k * 3 + 2, none⟩ = some (.int .i64 L[k].t)) ∧ MvI L d a b (k + 1) w0 W := by
  obtain ⟨h1 | ⟨g, cur, g2, cur2, e1, e2, e3, e4, e5, e6, e7, e8⟩, hb⟩ := h
  · omega
  have hx := e7 k hk 0 _ (by rw [if_neg (by omega)]; rfl)
  have hf := e7 k hk 1 _ (by rw [if_neg (by omega)]; rfl)
  have ht := e7 k hk 2 _ (by rw [if_neg (by omega)]; rfl)
  have hx2 := e8 k hk 0 _ rfl
  have hf2 := e8 k hk 1 _ rfl
  have ht2 := e8 k hk 2 _ rfl
  rw [Nat.add_zero] at hx hx2
  refine ⟨g, g2, e1, e2, by rw [e5.cell]; exact hx, e5.frozen _, ?_⟩
  rintro W rfl
  have b5 := e5.set (k * 3) (.int .i64 (L[k].x + d))
  have b6 := e6.other (Ne.symm e4) (i := k * 3) (.int .i64 (L[k].x + d))
  have hlt := (Array.getElem?_eq_some_iff.1 hx).1
  have s0 : (cur.setIfInBounds (k * 3) (.int .i64 (L[k].x + d)))[k * 3]? = some (.int .i64 (L[k].x + d)) := by
    rw [Array.getElem?_setIfInBounds_self_of_lt hlt]
  have sN : ∀ m, m ≠ k * 3 → (cur.setIfInBounds (k * 3) (.int .i64 (L[k].x + d)))[m]? = cur[m]? := fun m hm => Array.getElem?_setIfInBounds_ne (Ne.symm hm)
  refine ⟨⟨by rw [b5.cell]; exact s0, by rw [b5.cell, sN _ (by omega)]; exact hf, by rw [b5.cell, sN _ (by omega)]; exact ht⟩, ⟨by rw [b6.cell]; exact hx2, by rw [b6.cell]; exact hf2, by rw [b6.cell]; exact ht2⟩,
    .inr ⟨g, _, g2, cur2, e1, e2, e3, e4, b5, b6, fun i hi j u hj => ?_, e8⟩, hb.setCell e3 _⟩
  have hj3 : j < 3 := by
    have := (List.getElem?_eq_some_iff.1 hj).1
    rwa [stripC_len] at this
  by_cases hik : i = k
  · subst hik
    rw [if_pos (by omega)] at hj
    by_cases hj0 : j = 0
    · subst hj0
      rw [Nat.add_zero, s0]
      exact hj
    · rw [sN _ (by omega)]
      refine e7 i hi j u ?_
      rw [if_neg (by omega)]
      have : j = 1 ∨ j = 2 := by omega
      rcases this with rfl | rfl <;> exact hj
  · rw [sN _ (by omega)]
    refine e7 i hi j u ?_
    by_cases hlt2 : i < k
    · rw [if_pos hlt2]; rwa [if_pos (by omega)] at hj
    · rw [if_neg hlt2]; rwa [if_neg (by omega)] at hj
end Go.Proofs.Ytpobkdbnldogcaa
