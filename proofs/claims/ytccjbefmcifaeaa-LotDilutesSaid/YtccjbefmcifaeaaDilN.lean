/- Sums of shares by mass: the plain part of LotDilutes. -/
import Derived.Test.YtccjbefmcifaeaaComparesLWalk
namespace Go.Proofs.Ytccjbefmcifaeaa
open Go.RowKit

namespace Fr
theorem sum_ok {an ad bn bd : Int} (h : sumE an ad bn bd = 0) : both an ad bn bd = true ∧ ok (sumN an ad bn bd) (sumD an ad bn bd) = true ∧ sumN an ad bn bd * (ad * bd) = (an * bd + bn * ad) * sumD an ad bn bd := by
  cases hb : both an ad bn bd with
  | false => rw [(sum_not hb).2.2] at h; omega
  | true =>
    obtain ⟨e1, e2, e3⟩ := sum_both hb
    rw [e3] at h
    rw [e1, e2]
    exact ⟨rfl, ok_mk h, val_mk h⟩
theorem mul_ok {an ad bn bd : Int} (h : mulE an ad bn bd = 0) : both an ad bn bd = true ∧ ok (mulN an ad bn bd) (mulD an ad bn bd) = true ∧ mulN an ad bn bd * (ad * bd) = (an * bn) * mulD an ad bn bd := by
  cases hb : both an ad bn bd with
  | false => rw [(mul_not hb).2.2] at h; omega
  | true =>
    obtain ⟨e1, e2, e3⟩ := mul_both hb
    rw [e3] at h
    rw [e1, e2]
    exact ⟨rfl, ok_mk h, val_mk h⟩
end Fr
theorem sum_bounds (an ad bn bd : Int) : (-1099511627776 ≤ Fr.sumN an ad bn bd ∧ Fr.sumN an ad bn bd ≤ 1099511627776) ∧ 0 ≤ Fr.sumD an ad bn bd ∧ Fr.sumD an ad bn bd ≤ 1048576 := by
  unfold Fr.sumN Fr.sumD
  split
  · exact ⟨Fr.nu_bound _ _, Fr.de_bound _ _⟩
  · decide
theorem mul_bounds2 (an ad bn bd : Int) : (-1099511627776 ≤ Fr.mulN an ad bn bd ∧ Fr.mulN an ad bn bd ≤ 1099511627776) ∧ 0 ≤ Fr.mulD an ad bn bd ∧ Fr.mulD an ad bn bd ≤ 1048576 := by
  unfold Fr.mulN Fr.mulD
  split
  · exact ⟨Fr.nu_bound _ _, Fr.de_bound _ _⟩
  · decide
/-- What the sum is after some parts: a fraction with the value of their sum over the whole denominator. -/
def SumIs (a b : Int) (X A : Nat) : Prop := Fr.ok a b = true ∧ a * (X : Int) = b * (A : Int)
theorem SumIs.zero (X : Nat) : SumIs 0 1 X 0 := ⟨by decide, by simp⟩
theorem SumIs.step {a b : Int} {X A : Nat} (h : SumIs a b X A) (hX : 0 < X) {g s' d' m T pr : Nat} (hg : 0 < g) (hd : 0 < d') (hT : 0 < T) (hXe : X = g * d' * pr * T)
    (hm : Fr.er (m : Int) (T : Int) = 0) (hmul : Fr.mulE (s' : Int) (d' : Int) (Fr.nu m T) (Fr.de m T) = 0) (hsum : Fr.sumE a b (Fr.mulN (s' : Int) (d' : Int) (Fr.nu m T) (Fr.de m T)) (Fr.mulD (s' : Int) (d' : Int) (Fr.nu m T) (Fr.de m T)) = 0) :
    SumIs (Fr.sumN a b (Fr.mulN (s' : Int) (d' : Int) (Fr.nu m T) (Fr.de m T)) (Fr.mulD (s' : Int) (d' : Int) (Fr.nu m T) (Fr.de m T))) (Fr.sumD a b (Fr.mulN (s' : Int) (d' : Int) (Fr.nu m T) (Fr.de m T)) (Fr.mulD (s' : Int) (d' : Int) (Fr.nu m T) (Fr.de m T))) X (A + g * s' * m * pr) := by
  have v1 := Fr.val_mk hm
  have o1 := Fr.ok_iff.1 (Fr.ok_mk hm)
  generalize Fr.nu (m : Int) (T : Int) = kn at *
  generalize Fr.de (m : Int) (T : Int) = kd at *
  obtain ⟨_, o2, v2⟩ := Fr.mul_ok hmul
  have o2 := Fr.ok_iff.1 o2
  generalize Fr.mulN (s' : Int) (d' : Int) kn kd = tn at *
  generalize Fr.mulD (s' : Int) (d' : Int) kn kd = td at *
  obtain ⟨_, o3, v3⟩ := Fr.sum_ok hsum
  generalize Fr.sumN a b tn td = un at *
  generalize Fr.sumD a b tn td = ud at *
  refine ⟨o3, ?_⟩
  have hb := Fr.ok_iff.1 h.1
  have hv := h.2
  have e1 : tn * (X : Int) = td * ((g * s' * m * pr : Nat) : Int) := by
    have hkd : kd ≠ 0 := by omega
    refine Int.eq_of_mul_eq_mul_right hkd ?_
    have hx : (X : Int) = (g : Int) * d' * pr * T := by rw [hXe]; simp [Int.natCast_mul]
    have hy : ((g * s' * m * pr : Nat) : Int) = (g : Int) * s' * m * pr := by simp [Int.natCast_mul]
    rw [hx, hy]
    calc tn * ((g : Int) * d' * pr * T) * kd = (tn * ((d' : Int) * kd)) * (g * pr * T) := by simp only [Int.mul_assoc, Int.mul_comm, Int.mul_left_comm]
      _ = ((s' : Int) * kn * td) * (g * pr * T) := by rw [v2]
      _ = (kn * T) * (s' * td * (g * pr)) := by simp only [Int.mul_assoc, Int.mul_comm, Int.mul_left_comm]
      _ = ((m : Int) * kd) * (s' * td * (g * pr)) := by rw [v1]
      _ = td * ((g : Int) * s' * m * pr) * kd := by simp only [Int.mul_assoc, Int.mul_comm, Int.mul_left_comm]
  have hbt : b * td ≠ 0 := by
    have := Int.mul_pos (show 0 < b by omega) (show 0 < td by omega)
    omega
  refine Int.eq_of_mul_eq_mul_right hbt ?_
  rw [Int.natCast_add]
  calc un * (X : Int) * (b * td) = (un * (b * td)) * X := by simp only [Int.mul_assoc, Int.mul_comm, Int.mul_left_comm]
    _ = ((a * td + tn * b) * ud) * X := by rw [v3]
    _ = ud * td * (a * X) + ud * b * (tn * X) := by
      rw [Int.add_mul, Int.add_mul]
      congr 1 <;> simp only [Int.mul_assoc, Int.mul_comm, Int.mul_left_comm]
    _ = ud * td * (b * A) + ud * b * (td * ((g * s' * m * pr : Nat) : Int)) := by rw [hv, e1]
    _ = ud * ((A : Int) + ((g * s' * m * pr : Nat) : Int)) * (b * td) := by
      rw [Int.mul_add, Int.add_mul]
      congr 1 <;> simp only [Int.mul_assoc, Int.mul_comm, Int.mul_left_comm]
/-- At the end it is the share itself. -/
theorem SumIs.fin {a b : Int} {X A : Nat} (h : SumIs a b X A) {g s' d' : Nat} (hg : 0 < g) (hd : 0 < d') (hs : A = g * s') (hX : X = g * d') (hc : Nat.gcd s' d' = 1) : a = s' ∧ b = d' := by
  have hb := Fr.ok_iff.1 h.1
  have hv := h.2
  refine Fr.uniq (by omega) (by omega) hb.2.2.2.2 (by simpa using hc) ?_
  have hgi : (g : Int) ≠ 0 := by omega
  refine Int.eq_of_mul_eq_mul_right hgi ?_
  rw [hs, hX, Int.natCast_mul, Int.natCast_mul] at hv
  calc a * (d' : Int) * g = a * ((g : Int) * d') := by simp only [Int.mul_assoc, Int.mul_comm, Int.mul_left_comm]
    _ = b * ((g : Int) * s') := hv
    _ = (s' : Int) * b * g := by simp only [Int.mul_assoc, Int.mul_comm, Int.mul_left_comm]
end Go.Proofs.Ytccjbefmcifaeaa
