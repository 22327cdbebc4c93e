/- The reference's numerators over one denominator: the plain part. -/
import Derived.Test.YtccjbefmcifaeaaShN
import Derived.Test.YtccjbefmcifaeaaWholeN
namespace Go.Proofs.Ytccjbefmcifaeaa
namespace Sh
open Lt
/-- What the denominators behind a lot make together. -/
def Kf (ls : List L) (M i : Nat) : Nat := pr (be ls) (i + 1) (M - (i + 1))
theorem Kf_pos (ls : List L) (M i : Nat) : 0 < Kf ls M i := pr_pos (be_pos ls) _ _
theorem pr_one (f : Nat → Nat) (a : Nat) : pr f a 1 = f a := by simp [pr]
theorem K_part (ls : List L) {p i M : Nat} (hp : p < i) (hi : i < M) : Kf ls M p = pr (be ls) (p + 1) (i - (p + 1)) * (be ls i * Kf ls M i) := by
  unfold Kf
  have h1 := pr_add (be ls) (p + 1) (i - (p + 1)) (M - i)
  rw [show i - (p + 1) + (M - i) = M - (p + 1) by omega, show p + 1 + (i - (p + 1)) = i by omega] at h1
  rw [h1]
  have h2 := pr_add (be ls) i 1 (M - (i + 1))
  rw [show 1 + (M - (i + 1)) = M - i by omega, pr_one] at h2
  rw [h2]
theorem D_K (ls : List L) {i M : Nat} (hi : i < M) : D ls M = D ls (i + 1) * Kf ls M i := pr_split ls hi
theorem K_last (ls : List L) (i : Nat) : Kf ls (i + 1) i = 1 := by simp [Kf, pr]
theorem be_of {ls : List L} {i : Nat} {x : L} (h : ls.getD i default = x) : be ls i = (max 1 (takes x.ps)).toNat := by unfold be beI; rw [h]
theorem be_empty {ls : List L} {i : Nat} {x : L} (h : ls.getD i default = x) (h0 : x.ps.length = 0) : be ls i = 1 := by
  rw [be_of h, List.length_eq_zero_iff.1 h0]; decide
theorem be_full {ls : List L} {i : Nat} {x : L} (h : ls.getD i default = x) (hf : fine x) (h0 : 0 < x.ps.length) : (be ls i : Int) = takes x.ps := by
  rw [be_of h]
  have := takes_bd hf.2.2
  omega
/-- A lot's numerator over the whole denominator. -/
def numK (ls : List L) (o : Nat → Bool) (M i : Nat) : Nat := S ls o i * Kf ls M i
theorem numK_le {ls : List L} (h : early ls) (o : Nat → Bool) {M i : Nat} (hi : i < M) (hM : M ≤ ls.length) : numK ls o M i ≤ D ls M := by
  rw [D_K ls hi]
  exact Nat.mul_le_mul_right _ (S_le h o i (by omega))
theorem numK_mark {ls : List L} (h : early ls) (o : Nat → Bool) {M i : Nat} (hi : i < M) (hM : M ≤ ls.length) (ho : o i = true) : numK ls o M i = D ls M := by
  unfold numK
  rw [S_eq h o (by omega), if_pos ho, ← D_K ls hi]
/-- The sum over the first parts. -/
def sumK (ls : List L) (o : Nat → Bool) (M i j : Nat) : Nat := sumS ls i (S ls o) ((ls.getD i default).ps.take j) * (be ls i * Kf ls M i)
theorem sumK_zero (ls : List L) (o : Nat → Bool) (M i : Nat) : sumK ls o M i 0 = 0 := by simp [sumK, sumS]
theorem sumK_succ (ls : List L) (o : Nat → Bool) {M i j p : Nat} (hj : j < (ls.getD i default).ps.length) (hp : (ls.getD i default).ps[j].l = (p : Int)) (hpi : p < i) (hi : i < M) :
    sumK ls o M i (j + 1) = sumK ls o M i j + numK ls o M p * (ls.getD i default).ps[j].m.toNat := by
  unfold sumK numK
  rw [sumS_succ ls i (S ls o) hj, hp, Int.toNat_natCast, Nat.add_mul, K_part ls hpi hi]
  simp only [Nat.mul_assoc, Nat.mul_comm, Nat.mul_left_comm]
theorem sumK_full {ls : List L} (h : early ls) (o : Nat → Bool) {M i : Nat} (hi : i < M) (hM : M ≤ ls.length) (ho : o i = false) : sumK ls o M i (ls.getD i default).ps.length / be ls i = numK ls o M i := by
  unfold sumK numK
  rw [List.take_length, S_eq h o (by omega), ho, if_neg (by decide)]
  rw [Nat.mul_left_comm, Nat.mul_div_cancel_left _ (be_pos ls i)]
theorem sumS_take (ls : List L) (i : Nat) (T : Nat → Nat) (ps : List P) (j : Nat) : sumS ls i T (ps.take j) ≤ sumS ls i T ps := by
  have h := sumS_append ls i T (ps.take j) (ps.drop j)
  rw [List.take_append_drop] at h
  omega
theorem sumK_le {ls : List L} (h : early ls) (o : Nat → Bool) {M i j : Nat} (hi : i < M) (hM : M ≤ ls.length) (hb : (takes (ls.getD i default).ps).toNat ≤ 600000) : sumK ls o M i j ≤ D ls M * 600000 := by
  unfold sumK
  have h1 := sumS_le (ls := ls) (i := i) (T := S ls o) (h i (by omega)) (fun p hp => S_le h o _ (by have := h i (by omega) p hp; omega))
  have h2 := sumS_take ls i (S ls o) (ls.getD i default).ps j
  have h3 : D ls M = D ls i * (be ls i * Kf ls M i) := by rw [D_K ls hi, D_succ, Nat.mul_assoc]
  rw [h3]
  have h4 : sumS ls i (S ls o) ((ls.getD i default).ps.take j) ≤ D ls i * 600000 := Nat.le_trans h2 (Nat.le_trans h1 (Nat.mul_le_mul_left _ hb))
  have h5 := Nat.mul_le_mul_right (be ls i * Kf ls M i) h4
  rw [show D ls i * (be ls i * Kf ls M i) * 600000 = D ls i * 600000 * (be ls i * Kf ls M i) by simp only [Nat.mul_assoc, Nat.mul_comm, Nat.mul_left_comm]]
  exact h5
theorem D_nd {ls : List L} (h : ∀ j, j < ls.length → fine (ls.getD j default)) {n : Nat} (hn : n ≤ 24) : Wh.nd (D ls n) ≤ 20 ∧ ∀ a, a ≤ D ls n * 600000 → Wh.nd a ≤ 21 := by
  have h1 := D_lt h hn
  constructor
  · exact Wh.nd_le (Nat.lt_of_le_of_lt h1 (by decide))
  · intro a ha
    refine Wh.nd_le (Nat.lt_of_le_of_lt ha (Nat.lt_of_le_of_lt (Nat.mul_le_mul_right _ h1) (by decide)))
end Sh
end Go.Proofs.Ytccjbefmcifaeaa
