/- At: the mark at a place, of the program and of the reference. -/
import Derived.Test.YtbmjjmpdlmbehaaBand23
namespace Go.Proofs.Ytbmjjmpdlmbehaa
open Go.RowKit Go.Shelf

attribute [local go_sem] Oper.semAt_some

namespace Bd
def atE (rs : List R) (p : Int) : Int := if valE rs = 0 then (if 0 ≤ p ∧ p < len rs then 0 else 5) else valE rs
def atM (rs : List R) (p : Int) : M := if valE rs = 0 ∧ 0 ≤ p ∧ p < len rs then (exp rs)[p.toNat]?.getD ⟨0, 0, 0⟩ else ⟨0, 0, 0⟩
theorem exp_at {rs : List R} (h : pos rs) {k : Nat} (hk : k < rs.length) {p : Int} (h1 : len (rs.take k) ≤ p) (h2 : p < len (rs.take k) + rs[k].l) : (exp rs)[p.toNat]? = some rs[k].m := by
  have hl := exp_take_len h k
  have e : exp rs = exp (rs.take k) ++ (List.replicate rs[k].l.toNat rs[k].m ++ exp (rs.drop (k + 1))) := by
    have e1 := exp_append (rs.take k) (rs.drop k)
    rw [List.take_append_drop, drop_run hk] at e1
    exact e1
  rw [e, List.getElem?_append_right (by omega), List.getElem?_append_left (by simp; omega), List.getElem?_replicate, if_pos (by omega)]
theorem span_of {rs : List R} (h : pos rs) {p : Int} (h1 : 0 ≤ p) : ∀ n, n ≤ rs.length → p < len (rs.take n) → ∃ k, k < n ∧ len (rs.take k) ≤ p ∧ p < len (rs.take (k + 1))
  | 0, _, h2 => by simp [len] at h2; omega
  | n + 1, hn, h2 => by
    by_cases h3 : p < len (rs.take n)
    · obtain ⟨k, k1, k2, k3⟩ := span_of h h1 n (by omega) h3
      exact ⟨k, by omega, k2, k3⟩
    · exact ⟨n, by omega, by omega, h2⟩
theorem at_ok {rs : List R} {p : Int} (hv : valE rs = 0) {k : Nat} (hk : k < rs.length) (h1 : len (rs.take k) ≤ p) (h2 : p < len (rs.take k) + rs[k].l) : atE rs p = 0 ∧ atM rs p = rs[k].m := by
  have hf := fine_of_valid hv
  have hp := hf.2.1
  have a := len_take_le hp k
  have b := len_take_le hp (k + 1)
  rw [len_take_succ hk] at b
  unfold atE atM
  rw [if_pos hv, if_pos ⟨by omega, by omega⟩, if_pos ⟨hv, by omega, by omega⟩, exp_at hp hk h1 h2]
  exact ⟨rfl, rfl⟩
theorem at_none {rs : List R} {p : Int} (hv : valE rs = 0) (h : ∀ k, k < rs.length → ¬ (len (rs.take k) ≤ p ∧ p < len (rs.take (k + 1)))) : atE rs p = 5 ∧ atM rs p = ⟨0, 0, 0⟩ := by
  have hp := (fine_of_valid hv).2.1
  have hn : ¬ (0 ≤ p ∧ p < len rs) := by
    rintro ⟨h1, h2⟩
    obtain ⟨k, k1, k2, k3⟩ := span_of hp h1 rs.length (Nat.le_refl _) (by rw [List.take_length]; exact h2)
    exact h k k1 ⟨k2, k3⟩
  unfold atE atM
  rw [if_pos hv, if_neg hn, if_neg (fun e => hn e.2)]
  exact ⟨rfl, rfl⟩
theorem at_inv {rs : List R} {p : Int} (hv : valE rs ≠ 0) : atE rs p = valE rs ∧ atM rs p = ⟨0, 0, 0⟩ := by
  unfold atE atM; rw [if_neg hv, if_neg (fun e => hv e.1)]; exact ⟨rfl, rfl⟩
end Bd

/-- No span among these holds the place. -/
def noSp (p : Int) (pre : List Bd.SpB) : Prop := ∀ x ∈ pre, ¬ (x.1.f ≤ p ∧ p < x.1.t)
theorem noSp_nil (p : Int) : noSp p [] := fun _ h => by cases h
theorem noSp_snoc {p : Int} {pre : List Bd.SpB} {x : Bd.SpB} (h : noSp p pre) (h2 : ¬ (x.1.f ≤ p ∧ p < x.1.t)) : noSp p (pre ++ [x]) := by
  intro y hy
  rcases List.mem_append.1 hy with h3 | h3
  · exact h y h3
  · rw [List.mem_singleton.1 h3]; exact h2
/-- One of these spans holds the place, and its mark lies in a block. -/
def HitAt (p : Int) (B : Nat) (pre : List Bd.SpB) (W : World) : Prop := ∃ x ∈ pre, (x.1.f ≤ p ∧ p < x.1.t) ∧ BlockAt W B #[.int .i64 x.1.m.t, .int .i64 x.1.m.s, .int .i64 x.1.m.f] 50
theorem hit_own (p : Int) (B : Nat) : Go.Own (fun (pre : List Bd.SpB) W => HitAt p B pre W) := by
  rintro s X Y row ⟨x, h2, h3, h4⟩ hg hr
  exact ⟨x, h2, h3, block_own _ (fun (_ : Unit) => #[Value.int .i64 x.1.m.t, .int .i64 x.1.m.s, .int .i64 x.1.m.f]) 50 () X Y row h4 hg hr⟩
theorem BlockAt.frozen {W : World} {B : Nat} {cs : Array Value} {t : TypeId} (h : BlockAt W B cs t) (i : Nat) : W.frozen? ⟨B, i, none⟩ = false := by simp [World.frozen?, show W.heap[B]? = _ from h]
theorem BlockAt.set {W : World} {B : Nat} {cs : Array Value} {t : TypeId} (h : BlockAt W B cs t) (i : Nat) (v : Value) : BlockAt (W.setCell ⟨B, i, none⟩ v) B (cs.setIfInBounds i v) t := by
  obtain ⟨hlt, hk⟩ := Array.getElem?_eq_some_iff.1 h
  show (W.heap.modify B _)[B]? = _
  rw [Array.getElem?_eq_getElem (by rw [Array.size_modify]; exact hlt), Array.getElem_modify_self, hk]
  rfl
theorem BlockAt.other {W : World} {B B' i : Nat} {cs : Array Value} {t : TypeId} (h : BlockAt W B cs t) (hne : B ≠ B') (u : Value) : BlockAt (W.setCell ⟨B', i, none⟩ u) B cs t := by
  unfold BlockAt
  rw [Below.heap_setCell _ _ _ _ hne]; exact h
theorem BlockAt.below {W W2 : World} {B N : Nat} {cs : Array Value} {t : TypeId} (h : BlockAt W B cs t) (hb : Below N W W2) (hN : B < N) : BlockAt W2 B cs t := (hb.block B hN).trans h
theorem BlockAt.set3 {W : World} {B : Nat} {a b c : Value} {t : TypeId} (h : BlockAt W B #[a, b, c] t) (x y z : Value) : BlockAt (((W.setCell ⟨B, 0, none⟩ x).setCell ⟨B, 1, none⟩ y).setCell ⟨B, 2, none⟩ z) B #[x, y, z] t :=
  ((h.set 0 x).set 1 y).set 2 z
theorem Boxed.blockAt {W : World} {B : Nat} {v : Value} {t : TypeId} (h : Boxed W B t v) : BlockAt W B #[v] t := h

end Go.Proofs.Ytbmjjmpdlmbehaa
