/- What the program and the reference answer for sums and differences of fractions. -/
import Derived.Test.YtcljpklgpedolaaGreatDoorRefMake
namespace Go.Proofs.YtcljpklgpedolaaGreatDoor
open Go.RowKit

namespace Fr
def both (an ad bn bd : Int) : Bool := ok an ad && ok bn bd
def sumN (an ad bn bd : Int) : Int := if both an ad bn bd = true then nu (an * bd + bn * ad) (ad * bd) else 0
def sumD (an ad bn bd : Int) : Int := if both an ad bn bd = true then de (an * bd + bn * ad) (ad * bd) else 0
def sumE (an ad bn bd : Int) : Int := if both an ad bn bd = true then er (an * bd + bn * ad) (ad * bd) else 1
theorem sum_not {an ad bn bd : Int} (h : both an ad bn bd = false) : sumN an ad bn bd = 0 ∧ sumD an ad bn bd = 0 ∧ sumE an ad bn bd = 1 := by simp [sumN, sumD, sumE, h]
theorem sum_both {an ad bn bd : Int} (h : both an ad bn bd = true) : sumN an ad bn bd = nu (an * bd + bn * ad) (ad * bd) ∧ sumD an ad bn bd = de (an * bd + bn * ad) (ad * bd) ∧ sumE an ad bn bd = er (an * bd + bn * ad) (ad * bd) := by simp [sumN, sumD, sumE, h]
theorem ok_neg (n d : Int) : ok (-n) d = ok n d := by
  rw [Bool.eq_iff_iff, ok_iff, ok_iff, Int.natAbs_neg]
  constructor <;> (rintro ⟨h1, h2, h3, h4, h5⟩; exact ⟨h1, h2, by omega, by omega, h5⟩)
theorem ok_out {n d : Int} (h : n < -1099511627776 ∨ 1099511627776 < n) : ok n d = false := by
  cases hh : ok n d with
  | false => rfl
  | true => have := ok_iff.1 hh; omega

/-- Products of a valid numerator and a valid denominator are small. -/
theorem mul_small {a d : Int} (h1 : -1099511627776 ≤ a) (h2 : a ≤ 1099511627776) (h3 : 0 ≤ d) (h4 : d ≤ 1048576) : -1152921504606846976 ≤ a * d ∧ a * d ≤ 1152921504606846976 := by
  constructor
  · calc -1152921504606846976 = -1099511627776 * 1048576 := by decide
      _ ≤ -1099511627776 * d := by omega
      _ ≤ a * d := Int.mul_le_mul_of_nonneg_right h1 h3
  · calc a * d ≤ 1099511627776 * d := Int.mul_le_mul_of_nonneg_right h2 h3
      _ ≤ 1152921504606846976 := by omega
theorem den_small {a d : Int} (h1 : 1 ≤ a) (h2 : a ≤ 1048576) (h3 : 1 ≤ d) (h4 : d ≤ 1048576) : 1 ≤ a * d ∧ a * d ≤ 1099511627776 := by
  constructor
  · calc (1 : Int) = 1 * 1 := by decide
      _ ≤ 1 * d := by omega
      _ ≤ a * d := Int.mul_le_mul_of_nonneg_right h1 (by omega)
  · calc a * d ≤ 1048576 * d := Int.mul_le_mul_of_nonneg_right h2 (by omega)
      _ ≤ 1099511627776 := by omega
end Fr

/-- Two fractions that came in and a place for the result. -/
theorem three (w : World) (an ad bn bd rn rd : Int) :
    RatAt (((w.alloc (.cells #[.int .i64 an, .int .i64 ad] 70)).alloc (.cells #[.int .i64 bn, .int .i64 bd] 70)).alloc (.cells #[.int .i64 rn, .int .i64 rd] 70)) w.heap.size an ad ∧
    RatAt (((w.alloc (.cells #[.int .i64 an, .int .i64 ad] 70)).alloc (.cells #[.int .i64 bn, .int .i64 bd] 70)).alloc (.cells #[.int .i64 rn, .int .i64 rd] 70)) (w.heap.size + 1) bn bd ∧
    RatAt (((w.alloc (.cells #[.int .i64 an, .int .i64 ad] 70)).alloc (.cells #[.int .i64 bn, .int .i64 bd] 70)).alloc (.cells #[.int .i64 rn, .int .i64 rd] 70)) (w.heap.size + 1 + 1) rn rd := by
  have h1 := ((RatAt.fresh w an ad 70).alloc (.cells #[.int .i64 bn, .int .i64 bd] 70)).alloc (.cells #[.int .i64 rn, .int .i64 rd] 70)
  have h2 := (RatAt.fresh (w.alloc (.cells #[.int .i64 an, .int .i64 ad] 70)) bn bd 70).alloc (.cells #[.int .i64 rn, .int .i64 rd] 70)
  have h3 := RatAt.fresh ((w.alloc (.cells #[.int .i64 an, .int .i64 ad] 70)).alloc (.cells #[.int .i64 bn, .int .i64 bd] 70)) rn rd 70
  rw [World.size_alloc] at h2 h3
  rw [World.size_alloc] at h3
  exact ⟨h1, h2, h3⟩

theorem below3 (w : World) (a b c : Obj) : Below w.heap.size w (((w.alloc a).alloc b).alloc c) := (((Below.refl _ _).alloc (Nat.le_refl _) _).alloc (by simp) _).alloc (by simp; omega) _


namespace Fr
def difN (an ad bn bd : Int) : Int := if both an ad bn bd = true then nu (an * bd - bn * ad) (ad * bd) else 0
def difD (an ad bn bd : Int) : Int := if both an ad bn bd = true then de (an * bd - bn * ad) (ad * bd) else 0
def difE (an ad bn bd : Int) : Int := if both an ad bn bd = true then er (an * bd - bn * ad) (ad * bd) else 1
theorem dif_not {an ad bn bd : Int} (h : both an ad bn bd = false) : difN an ad bn bd = 0 ∧ difD an ad bn bd = 0 ∧ difE an ad bn bd = 1 := by simp [difN, difD, difE, h]
theorem dif_both {an ad bn bd : Int} (h : both an ad bn bd = true) : difN an ad bn bd = nu (an * bd - bn * ad) (ad * bd) ∧ difD an ad bn bd = de (an * bd - bn * ad) (ad * bd) ∧ difE an ad bn bd = er (an * bd - bn * ad) (ad * bd) := by simp [difN, difD, difE, h]
/-- A difference is a sum with the other sign, also at the least number, which is in no valid fraction. -/
theorem dif_sum (an ad bn bd : Int) (b1 : -9223372036854775808 ≤ bn) (b2 : bn ≤ 9223372036854775807) : sumN an ad (wrap64 (-bn)) bd = difN an ad bn bd ∧ sumD an ad (wrap64 (-bn)) bd = difD an ad bn bd ∧ sumE an ad (wrap64 (-bn)) bd = difE an ad bn bd := by
  by_cases h : bn = -9223372036854775808
  · subst h
    have e : wrap64 (-(-9223372036854775808)) = -9223372036854775808 := by unfold wrap64; omega
    have hb : both an ad (-9223372036854775808) bd = false := by unfold both; rw [ok_out (n := -9223372036854775808) (d := bd) (by omega)]; simp
    rw [e]
    obtain ⟨x1, x2, x3⟩ := sum_not hb
    obtain ⟨y1, y2, y3⟩ := dif_not hb
    rw [x1, x2, x3, y1, y2, y3]; exact ⟨rfl, rfl, rfl⟩
  · have e : wrap64 (-bn) = -bn := IntWalk.wrap64_in _ ⟨by omega, by omega⟩
    have eb : both an ad (-bn) bd = both an ad bn bd := by unfold both; rw [ok_neg]
    have en : an * bd + -bn * ad = an * bd - bn * ad := by grind
    rw [e]
    unfold sumN sumD sumE difN difD difE
    rw [eb, en]; exact ⟨rfl, rfl, rfl⟩
end Fr

end Go.Proofs.YtcljpklgpedolaaGreatDoor
