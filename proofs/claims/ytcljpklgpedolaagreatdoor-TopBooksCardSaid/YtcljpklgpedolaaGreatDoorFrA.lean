/- Products and quotients of fractions, without the program: crosswise reduction. What the program and the reference answer for sums and differences of fractions. What the reference answers for the product of two fractions that are given by their magnitudes. What the program and the reference answer for products and quotients of fractions. What the program answers for products and quotients of fractions. Floors and roundings of fractions: what the program and the reference answer, and the law over them. What the program writes for small amounts of money: what the law's own look at two known answers needs. -/
import Derived.Test.YtcljpklgpedolaaGreatDoorNumA
import Derived.Test.YtcljpklgpedolaaGreatDoorSeqA
import Derived.Test.YtcljpklgpedolaaGreatDoorShelf
namespace Go.Proofs.YtcljpklgpedolaaGreatDoor
namespace Fr

/-- Reduced crosswise, nothing is left in common. -/
theorem cross_cop {n d m e : Nat} (hd : 0 < d) (he : 0 < e) (h1 : Nat.gcd n d = 1) (h2 : Nat.gcd m e = 1) :
    Nat.gcd ((n / Nat.gcd n e) * (m / Nat.gcd m d)) ((d / Nat.gcd m d) * (e / Nat.gcd n e)) = 1 := by
  have c1 : Nat.Coprime (n / Nat.gcd n e) (e / Nat.gcd n e) := Nat.gcd_div_gcd_div_gcd_of_pos_right he
  have c2 : Nat.Coprime (m / Nat.gcd m d) (d / Nat.gcd m d) := Nat.gcd_div_gcd_div_gcd_of_pos_right hd
  have a1 : n / Nat.gcd n e ∣ n := Nat.div_dvd_of_dvd (Nat.gcd_dvd_left _ _)
  have a2 : d / Nat.gcd m d ∣ d := Nat.div_dvd_of_dvd (Nat.gcd_dvd_right _ _)
  have a3 : m / Nat.gcd m d ∣ m := Nat.div_dvd_of_dvd (Nat.gcd_dvd_left _ _)
  have a4 : e / Nat.gcd n e ∣ e := Nat.div_dvd_of_dvd (Nat.gcd_dvd_right _ _)
  have c3 : Nat.Coprime (n / Nat.gcd n e) (d / Nat.gcd m d) := Nat.Coprime.coprime_dvd_left a1 (Nat.Coprime.coprime_dvd_right a2 h1)
  have c4 : Nat.Coprime (m / Nat.gcd m d) (e / Nat.gcd n e) := Nat.Coprime.coprime_dvd_left a3 (Nat.Coprime.coprime_dvd_right a4 h2)
  exact Nat.Coprime.mul_left (Nat.Coprime.mul_right c3 c1) (Nat.Coprime.mul_right c2 c4)

theorem cross_val (n d m e : Nat) : ((n / Nat.gcd n e) * (m / Nat.gcd m d)) * (d * e) = (n * m) * ((d / Nat.gcd m d) * (e / Nat.gcd n e)) := by
  have e1 : n / Nat.gcd n e * Nat.gcd n e = n := Nat.div_mul_cancel (Nat.gcd_dvd_left _ _)
  have e2 : e / Nat.gcd n e * Nat.gcd n e = e := Nat.div_mul_cancel (Nat.gcd_dvd_right _ _)
  have e3 : m / Nat.gcd m d * Nat.gcd m d = m := Nat.div_mul_cancel (Nat.gcd_dvd_left _ _)
  have e4 : d / Nat.gcd m d * Nat.gcd m d = d := Nat.div_mul_cancel (Nat.gcd_dvd_right _ _)
  generalize n / Nat.gcd n e = u at *
  generalize e / Nat.gcd n e = x at *
  generalize m / Nat.gcd m d = v at *
  generalize d / Nat.gcd m d = y at *
  generalize Nat.gcd n e = g at *
  generalize Nat.gcd m d = h at *
  subst e1 e2 e3 e4
  grind

/-- The reduced parts of a product of two fractions without common divisors. -/
theorem cross (b : Bool) {n d m e : Nat} (hd : 0 < d) (he : 0 < e) (h1 : Nat.gcd n d = 1) (h2 : Nat.gcd m e = 1) :
    up (sgn b (n * m)) ((d * e : Nat) : Int) = (n / Nat.gcd n e) * (m / Nat.gcd m d) ∧ dn (sgn b (n * m)) ((d * e : Nat) : Int) = (d / Nat.gcd m d) * (e / Nat.gcd n e) := by
  have hc := cross_cop hd he h1 h2
  have hv := cross_val n d m e
  have hp : 0 < (d / Nat.gcd m d) * (e / Nat.gcd n e) := Nat.mul_pos (Nat.div_gcd_pos_of_pos_right _ hd) (Nat.div_gcd_pos_of_pos_right _ he)
  have hde : 0 < d * e := Nat.mul_pos hd he
  generalize (n / Nat.gcd n e) * (m / Nat.gcd m d) = u at *
  generalize (d / Nat.gcd m d) * (e / Nat.gcd n e) = x at *
  generalize n * m = nm at *
  generalize d * e = dd at *
  have key : sgn b u * (dd : Int) = sgn b nm * (x : Int) := by
    have : ((u * dd : Nat) : Int) = ((nm * x : Nat) : Int) := by rw [hv]
    push_cast at this
    unfold sgn
    cases b <;> simp <;> grind
  obtain ⟨r1, r2⟩ := red (p := sgn b u) (q := (x : Int)) (n := sgn b nm) (d := (dd : Int)) (by omega) (by omega) (by rw [sgn_natAbs]; simpa using hc) key
  have ha := sg_natAbs (sgn b nm) (dd : Int)
  rw [r1, sgn_natAbs] at ha
  exact ⟨ha.symm, by omega⟩

/-- The product of two numbers is that of their magnitudes with the sign. -/
theorem sgn_mul (a c : Int) : sgn (decide (a < 0) != decide (c < 0)) (a.natAbs * c.natAbs) = a * c := by
  have e : ((a.natAbs * c.natAbs : Nat) : Int) = (a.natAbs : Int) * (c.natAbs : Int) := by push_cast; rfl
  unfold sgn
  by_cases h1 : a < 0 <;> by_cases h2 : c < 0 <;> simp [h1, h2]
  · have x1 : (a.natAbs : Int) = -a := by omega
    have x2 : (c.natAbs : Int) = -c := by omega
    rw [x1, x2]; grind
  · have x1 : (a.natAbs : Int) = -a := by omega
    have x2 : (c.natAbs : Int) = c := by omega
    rw [x1, x2]; grind
  · have x1 : (a.natAbs : Int) = a := by omega
    have x2 : (c.natAbs : Int) = -c := by omega
    rw [x1, x2]; grind
  · have x1 : (a.natAbs : Int) = a := by omega
    have x2 : (c.natAbs : Int) = c := by omega
    rw [x1, x2]

/-- What is made of a product, out of the crosswise reduced parts. -/
theorem er_sgn (b : Bool) {n d m e : Nat} (hd : 0 < d) (he : 0 < e) (h1 : Nat.gcd n d = 1) (h2 : Nat.gcd m e = 1) :
    er (sgn b (n * m)) ((d * e : Nat) : Int) = if (n / Nat.gcd n e) * (m / Nat.gcd m d) ≤ 1099511627776 ∧ (d / Nat.gcd m d) * (e / Nat.gcd n e) ≤ 1048576 then 0 else 4 := by
  obtain ⟨c1, c2⟩ := cross b hd he h1 h2
  have hde : 0 < d * e := Nat.mul_pos hd he
  unfold er
  rw [c1, c2, if_neg (by omega)]
theorem zero_made (d : Int) (hd : d ≠ 0) : er 0 d = 0 ∧ nu 0 d = 0 ∧ de 0 d = 1 := by
  exact mk_of (p := 0) (q := 1) (by decide) hd (by simp)
end Fr
end Go.Proofs.YtcljpklgpedolaaGreatDoor
namespace Go.Proofs.YtcljpklgpedolaaGreatDoor
open Go.RowKit

namespace Fr
def both (an ad bn bd : Int) : Bool := ok an ad && ok bn bd
def sumN (an ad bn bd : Int) : Int := if both an ad bn bd = true then nu (an * bd + bn * ad) (ad * bd) else 0
def sumD (an ad bn bd : Int) : Int := if both an ad bn bd = true then de (an * bd + bn * ad) (ad * bd) else 0
def sumE (an ad bn bd : Int) : Int := if both an ad bn bd = true then er (an * bd + bn * ad) (ad * bd) else 1
theorem sum_not {an ad bn bd : Int} (h : both an ad bn bd = false) : sumN an ad bn bd = 0 ∧ sumD an ad bn bd = 0 ∧ sumE an ad bn bd = 1 := by simp [sumN, sumD, sumE, h]
theorem sum_both {an ad bn bd : Int} (h : both an ad bn bd = true) : sumN an ad bn bd = nu (an * bd + bn * ad) (ad * bd) ∧ sumD an ad bn bd = de (an * bd + bn * ad) (ad * bd) ∧ sumE an ad bn bd = er (an * bd + bn * ad) (ad * bd) := by simp [sumN, sumD, sumE, h]
theorem ok_neg (n d : Int) : ok (-n) d = ok n d := by
  rw [Bool.eq_iff_iff, ok_iff, ok_iff, Int.natAbs_neg]
  constructor <;> (rintro ⟨h1, h2, h3, h4, h5⟩; exact ⟨h1, h2, by omega, by omega, h5⟩)
theorem ok_out {n d : Int} (h : n < -1099511627776 ∨ 1099511627776 < n) : ok n d = false := by
  cases hh : ok n d with
  | false => rfl
  | true => have := ok_iff.1 hh; omega

/-- Products of a valid numerator and a valid denominator are small. -/
theorem mul_small {a d : Int} (h1 : -1099511627776 ≤ a) (h2 : a ≤ 1099511627776) (h3 : 0 ≤ d) (h4 : d ≤ 1048576) : -1152921504606846976 ≤ a * d ∧ a * d ≤ 1152921504606846976 := by
  constructor
  · calc -1152921504606846976 = -1099511627776 * 1048576 := by decide
      _ ≤ -1099511627776 * d := by omega
      _ ≤ a * d := Int.mul_le_mul_of_nonneg_right h1 h3
  · calc a * d ≤ 1099511627776 * d := Int.mul_le_mul_of_nonneg_right h2 h3
      _ ≤ 1152921504606846976 := by omega
theorem den_small {a d : Int} (h1 : 1 ≤ a) (h2 : a ≤ 1048576) (h3 : 1 ≤ d) (h4 : d ≤ 1048576) : 1 ≤ a * d ∧ a * d ≤ 1099511627776 := by
  constructor
  · calc (1 : Int) = 1 * 1 := by decide
      _ ≤ 1 * d := by omega
      _ ≤ a * d := Int.mul_le_mul_of_nonneg_right h1 (by omega)
  · calc a * d ≤ 1048576 * d := Int.mul_le_mul_of_nonneg_right h2 (by omega)
      _ ≤ 1099511627776 := by omega
end Fr

/-- Two fractions that came in and a place for the result. -/
theorem three (w : World) (an ad bn bd rn rd : Int) :
    RatAt (((w.alloc (.cells #[.int .i64 an, .int .i64 ad] 70)).alloc (.cells #[.int .i64 bn, .int .i64 bd] 70)).alloc (.cells #[.int .i64 rn, .int .i64 rd] 70)) w.heap.size an ad ∧
    RatAt (((w.alloc (.cells #[.int .i64 an, .int .i64 ad] 70)).alloc (.cells #[.int .i64 bn, .int .i64 bd] 70)).alloc (.cells #[.int .i64 rn, .int .i64 rd] 70)) (w.heap.size + 1) bn bd ∧
    RatAt (((w.alloc (.cells #[.int .i64 an, .int .i64 ad] 70)).alloc (.cells #[.int .i64 bn, .int .i64 bd] 70)).alloc (.cells #[.int .i64 rn, .int .i64 rd] 70)) (w.heap.size + 1 + 1) rn rd := by
  have h1 := ((RatAt.fresh w an ad 70).alloc (.cells #[.int .i64 bn, .int .i64 bd] 70)).alloc (.cells #[.int .i64 rn, .int .i64 rd] 70)
  have h2 := (RatAt.fresh (w.alloc (.cells #[.int .i64 an, .int .i64 ad] 70)) bn bd 70).alloc (.cells #[.int .i64 rn, .int .i64 rd] 70)
  have h3 := RatAt.fresh ((w.alloc (.cells #[.int .i64 an, .int .i64 ad] 70)).alloc (.cells #[.int .i64 bn, .int .i64 bd] 70)) rn rd 70
  rw [World.size_alloc] at h2 h3
  rw [World.size_alloc] at h3
  exact ⟨h1, h2, h3⟩

theorem below3 (w : World) (a b c : Obj) : Below w.heap.size w (((w.alloc a).alloc b).alloc c) := (((Below.refl _ _).alloc (Nat.le_refl _) _).alloc (by simp) _).alloc (by simp; omega) _


namespace Fr
def difN (an ad bn bd : Int) : Int := if both an ad bn bd = true then nu (an * bd - bn * ad) (ad * bd) else 0
def difD (an ad bn bd : Int) : Int := if both an ad bn bd = true then de (an * bd - bn * ad) (ad * bd) else 0
def difE (an ad bn bd : Int) : Int := if both an ad bn bd = true then er (an * bd - bn * ad) (ad * bd) else 1
theorem dif_not {an ad bn bd : Int} (h : both an ad bn bd = false) : difN an ad bn bd = 0 ∧ difD an ad bn bd = 0 ∧ difE an ad bn bd = 1 := by simp [difN, difD, difE, h]
theorem dif_both {an ad bn bd : Int} (h : both an ad bn bd = true) : difN an ad bn bd = nu (an * bd - bn * ad) (ad * bd) ∧ difD an ad bn bd = de (an * bd - bn * ad) (ad * bd) ∧ difE an ad bn bd = er (an * bd - bn * ad) (ad * bd) := by simp [difN, difD, difE, h]
/-- A difference is a sum with the other sign, also at the least number, which is in no valid fraction. -/
theorem dif_sum (an ad bn bd : Int) (b1 : -9223372036854775808 ≤ bn) (b2 : bn ≤ 9223372036854775807) : sumN an ad (wrap64 (-bn)) bd = difN an ad bn bd ∧ sumD an ad (wrap64 (-bn)) bd = difD an ad bn bd ∧ sumE an ad (wrap64 (-bn)) bd = difE an ad bn bd := by
  by_cases h : bn = -9223372036854775808
  · subst h
    have e : wrap64 (-(-9223372036854775808)) = -9223372036854775808 := by unfold wrap64; omega
    have hb : both an ad (-9223372036854775808) bd = false := by unfold both; rw [ok_out (n := -9223372036854775808) (d := bd) (by omega)]; simp
    rw [e]
    obtain ⟨x1, x2, x3⟩ := sum_not hb
    obtain ⟨y1, y2, y3⟩ := dif_not hb
    rw [x1, x2, x3, y1, y2, y3]; exact ⟨rfl, rfl, rfl⟩
  · have e : wrap64 (-bn) = -bn := IntWalk.wrap64_in _ ⟨by omega, by omega⟩
    have eb : both an ad (-bn) bd = both an ad bn bd := by unfold both; rw [ok_neg]
    have en : an * bd + -bn * ad = an * bd - bn * ad := by grind
    rw [e]
    unfold sumN sumD sumE difN difD difE
    rw [eb, en]; exact ⟨rfl, rfl, rfl⟩
end Fr

end Go.Proofs.YtcljpklgpedolaaGreatDoor
namespace Go.Proofs.YtcljpklgpedolaaGreatDoor
open Go.RowKit

theorem u64_div (a g u : Nat) (ha : a < 18446744073709551616) (h : a / g = u) : IntKind.u64.wrap ((a : Int) / (g : Int)) = u := (u64_quo a g u ha h).1

theorem le_div {k u v : Nat} (hu : 0 < u) : (k / u < v) ↔ ¬ (u * v ≤ k) := by
  rw [Nat.div_lt_iff_lt_mul hu, Nat.mul_comm]; omega

end Go.Proofs.YtcljpklgpedolaaGreatDoor
namespace Go.Proofs.YtcljpklgpedolaaGreatDoor
open Go.RowKit

namespace Fr
def mulN (an ad bn bd : Int) : Int := if both an ad bn bd = true then nu (an * bn) (ad * bd) else 0
def mulD (an ad bn bd : Int) : Int := if both an ad bn bd = true then de (an * bn) (ad * bd) else 0
def mulE (an ad bn bd : Int) : Int := if both an ad bn bd = true then er (an * bn) (ad * bd) else 1
theorem mul_not {an ad bn bd : Int} (h : both an ad bn bd = false) : mulN an ad bn bd = 0 ∧ mulD an ad bn bd = 0 ∧ mulE an ad bn bd = 1 := by simp [mulN, mulD, mulE, h]
theorem mul_both {an ad bn bd : Int} (h : both an ad bn bd = true) : mulN an ad bn bd = nu (an * bn) (ad * bd) ∧ mulD an ad bn bd = de (an * bn) (ad * bd) ∧ mulE an ad bn bd = er (an * bn) (ad * bd) := by simp [mulN, mulD, mulE, h]
/-- Whether a quotient is asked of two valid fractions, the second one not 0. -/
def apt (an ad bn bd : Int) : Bool := both an ad bn bd && decide (bn ≠ 0)
def divN (an ad bn bd : Int) : Int := if apt an ad bn bd = true then nu (an * bd) (ad * bn) else 0
def divD (an ad bn bd : Int) : Int := if apt an ad bn bd = true then de (an * bd) (ad * bn) else 0
def divE (an ad bn bd : Int) : Int := if apt an ad bn bd = true then er (an * bd) (ad * bn) else 1
theorem div_not {an ad bn bd : Int} (h : apt an ad bn bd = false) : divN an ad bn bd = 0 ∧ divD an ad bn bd = 0 ∧ divE an ad bn bd = 1 := by simp [divN, divD, divE, h]
theorem div_apt {an ad bn bd : Int} (h : apt an ad bn bd = true) : divN an ad bn bd = nu (an * bd) (ad * bn) ∧ divD an ad bn bd = de (an * bd) (ad * bn) ∧ divE an ad bn bd = er (an * bd) (ad * bn) := by simp [divN, divD, divE, h]

theorem er_small {a d : Int} (hd : d ≠ 0) (h1 : a.natAbs ≤ 1099511627776) (h2 : d.natAbs ≤ 1048576) : er a d = 0 := by
  have u1 : up a d ≤ a.natAbs := Nat.div_le_self _ _
  have u2 : dn a d ≤ d.natAbs := Nat.div_le_self _ _
  unfold er
  rw [if_neg hd, if_pos ⟨by omega, by omega⟩]

/-- Reduced crosswise first, a product is what it is. -/
theorem mul_facts {an ad bn bd : Int} (hA : ok an ad = true) (hB : ok bn bd = true) :
    er an bd = 0 ∧ er bn ad = 0 ∧ (nu an bd * nu bn ad).natAbs = (nu an bd).natAbs * (nu bn ad).natAbs ∧
    (1099511627776 < (nu an bd).natAbs * (nu bn ad).natAbs → er (an * bn) (ad * bd) = 4) ∧
    (er (nu an bd * nu bn ad) (de an bd * de bn ad) = er (an * bn) (ad * bd) ∧ nu (nu an bd * nu bn ad) (de an bd * de bn ad) = nu (an * bn) (ad * bd) ∧ de (nu an bd * nu bn ad) (de an bd * de bn ad) = de (an * bn) (ad * bd)) := by
  obtain ⟨v1, v2, v3, v4, v5⟩ := ok_iff.1 hA
  obtain ⟨u1, u2, u3, u4, u5⟩ := ok_iff.1 hB
  have e1 : er an bd = 0 := er_small (by omega) (by omega) (by omega)
  have e2 : er bn ad = 0 := er_small (by omega) (by omega) (by omega)
  have o1 := (ok_iff.1 (ok_mk e1)).1
  have o2 := (ok_iff.1 (ok_mk e2)).1
  have wD := val_mk e1
  have wE := val_mk e2
  refine ⟨e1, e2, Int.natAbs_mul _ _, fun hP => ?_, ?_⟩
  · have h1 : (nu an bd).natAbs = an.natAbs / Nat.gcd an.natAbs bd.natAbs := by rw [nu_ok e1, sg_natAbs]; rfl
    have h2 : (nu bn ad).natAbs = bn.natAbs / Nat.gcd bn.natAbs ad.natAbs := by rw [nu_ok e2, sg_natAbs]; rfl
    have hE := er_sgn (decide (an < 0) != decide (bn < 0)) (n := an.natAbs) (d := ad.natAbs) (m := bn.natAbs) (e := bd.natAbs) (by omega) (by omega) v5 u5
    rw [sgn_mul] at hE
    have hd : ((ad.natAbs * bd.natAbs : Nat) : Int) = ad * bd := by
      rw [Int.natCast_mul]
      have x1 : (ad.natAbs : Int) = ad := by omega
      have x2 : (bd.natAbs : Int) = bd := by omega
      rw [x1, x2]
    rw [hd] at hE
    rw [hE, if_neg]
    rw [h1, h2] at hP
    omega
  · have p1 := Int.mul_pos (a := de an bd) (b := de bn ad) (by omega) (by omega)
    have p2 := Int.mul_pos (a := ad) (b := bd) (by omega) (by omega)
    exact mk_congr (by omega) (by omega) (by grind)
end Fr

theorem mul64_any (x y hi lo : Nat) (hx : x < 18446744073709551616) (hy : y < 18446744073709551616) (h : x * y / 18446744073709551616 = hi ∧ x * y % 18446744073709551616 = lo) (w : World) :
    Calls Tryz.prog 115 #[.int .u64 x, .int .u64 y] w fun e w' => e = .returned (.tuple #[.int .u64 hi, .int .u64 lo]) ∧ w' = w := by
  obtain ⟨rfl, rfl⟩ := h
  exact Tryz.bits_Mul64 x y hx hy w

theorem far2 {W : World} {b c o : Nat} {v : Value} (h : W.cell? ⟨b, o, none⟩ = some v) (hne : c ≠ b) (x y : Value) : ((W.setCell ⟨c, 0, none⟩ x).setCell ⟨c, 1, none⟩ y).cell? ⟨b, o, none⟩ = some v := by
  rw [World.cell?_setCell_far _ _ _ _ hne, World.cell?_setCell_far _ _ _ _ hne, h]

namespace Fr
theorem sgn_div (a c : Int) (D E : Nat) : sgn (!(decide (a < 0) == decide (c < 0))) (a.natAbs * E) * ((D : Int) * c) = a * (E : Int) * ((D * c.natAbs : Nat) : Int) := by
  have hm := sgn_mul a c
  rw [Int.natCast_mul]
  unfold sgn
  by_cases h1 : a < 0 <;> by_cases h2 : c < 0 <;> simp [h1, h2]
  · have x1 : (a.natAbs : Int) = -a := by omega
    have x2 : (c.natAbs : Int) = -c := by omega
    rw [x1, x2]; grind
  · have x1 : (a.natAbs : Int) = -a := by omega
    have x2 : (c.natAbs : Int) = c := by omega
    rw [x1, x2]; grind
  · have x1 : (a.natAbs : Int) = a := by omega
    have x2 : (c.natAbs : Int) = -c := by omega
    rw [x1, x2]; grind
  · have x1 : (a.natAbs : Int) = a := by omega
    have x2 : (c.natAbs : Int) = c := by omega
    rw [x1, x2]
end Fr

end Go.Proofs.YtcljpklgpedolaaGreatDoor
namespace Go.Proofs.YtcljpklgpedolaaGreatDoor
open Go.RowKit

set_option maxRecDepth 20000 in
set_option maxHeartbeats 600000 in
theorem mul_any (an ad bn bd : Int) (w : World) (a1 : -9223372036854775808 ≤ an) (a2 : an ≤ 9223372036854775807) (a3 : -9223372036854775808 ≤ ad) (a4 : ad ≤ 9223372036854775807)
    (b1 : -9223372036854775808 ≤ bn) (b2 : bn ≤ 9223372036854775807) (b3 : -9223372036854775808 ≤ bd) (b4 : bd ≤ 9223372036854775807) :
    Calls Tryz.prog 86 #[rat an ad, rat bn bd] w fun e w' => e = .returned (.tuple #[rat (Fr.mulN an ad bn bd) (Fr.mulD an ad bn bd), .int .i64 (Fr.mulE an ad bn bd)]) ∧ Below w.heap.size w w' := by
  obtain ⟨ra, rb, rr⟩ := three w an ad bn bd 0 0
  have hw0 := below3 w (.cells #[.int .i64 an, .int .i64 ad] 70) (.cells #[.int .i64 bn, .int .i64 bd] 70) (.cells #[.int .i64 0, .int .i64 0] 70)
  have HR := Lib.hid (And.intro ra (And.intro rb (And.intro rr hw0)))
  clear ra rb rr hw0
  by_cases hA : Fr.ok an ad = true
  · by_cases hB : Fr.ok bn bd = true
    · obtain ⟨e1, e2, e3⟩ := Fr.mul_both (an := an) (ad := ad) (bn := bn) (bd := bd) (by simp [Fr.both, hA, hB])
      rw [e1, e2, e3]
      clear e1 e2 e3
      have hl : Fr.er (an * bn) (ad * bd) ≠ 0 → Fr.nu (an * bn) (ad * bd) = 0 ∧ Fr.de (an * bn) (ad * bd) = 0 := fun h => ⟨Fr.nu_of h, Fr.de_of h⟩
      obtain ⟨f1, f2, f3, f4, f5⟩ := Fr.mul_facts hA hB
      obtain ⟨v1, v2, v3, v4, _⟩ := Fr.ok_iff.1 hA
      obtain ⟨u1, u2, u3, u4, _⟩ := Fr.ok_iff.1 hB
      have o1 := Fr.ok_iff.1 (Fr.ok_mk f1)
      have o2 := Fr.ok_iff.1 (Fr.ok_mk f2)
      have ML := Lib.hid (fun w => make_any an bd w (by omega) (by omega) (by omega) (by omega))
      have MR := Lib.hid (fun w => make_any bn ad w (by omega) (by omega) (by omega) (by omega))
      rw [f1] at ML
      rw [f2] at MR
      clear f1 f2
      generalize Fr.nu an bd = l at *
      generalize Fr.de an bd = p at *
      generalize Fr.nu bn ad = r at *
      generalize Fr.de bn ad = q at *
      obtain ⟨l1, l2, l3, l4, _⟩ := o1
      obtain ⟨r1, r2, r3, r4, _⟩ := o2
      by_cases hP : l.natAbs * r.natAbs ≤ 1099511627776
      · have MU := Lib.hid (fun w => mul64_any l.natAbs r.natAbs 0 (l.natAbs * r.natAbs) (by omega) (by omega) ⟨by omega, by omega⟩ w)
        have b1 : -1099511627776 ≤ l * r ∧ l * r ≤ 1099511627776 := by omega
        obtain ⟨b5, b6⟩ := b1
        obtain ⟨b7, b8⟩ := Fr.den_small l1 l2 r1 r2
        have MK := Lib.hid (fun w => make_any (l * r) (p * q) w (by omega) (by omega) (by omega) (by omega))
        rw [f5.1, f5.2.1, f5.2.2] at MK
        clear f3 f4 f5 hl
        generalize Fr.nu (an * bn) (ad * bd) = x at *
        generalize Fr.de (an * bn) (ad * bd) = y at *
        generalize Fr.er (an * bn) (ad * bd) = z at *
        generalize l.natAbs * r.natAbs = pp at *
        go_enter Tryz.func86, Tryz.ntmps86
        go_wp2_with fail
        refine (valid_any an ad _ a1 a2 a3 a4).mono ?_
        rintro e w1 ⟨rfl, hb1⟩
        obtain ⟨ra, rb, rr, hw0⟩ := HR.out
        have ra1 := ra.all hb1
        have rb1 := rb.all hb1
        have rr1 := rr.all hb1
        have hw1 := hw0.trans (hb1.mono hw0.size)
        clear HR ra rb rr hw0 hb1
        have RB := Lib.hid rb1
        obtain ⟨c0, c1, _, _, hz⟩ := rb1
        go_wp2_with fail
        refine (valid_any bn bd _ b1 b2 b3 b4).mono ?_
        rintro e w2 ⟨rfl, hb2⟩
        have ra2 := ra1.all hb2
        have rb2 := RB.out.all hb2
        have rr2 := rr1.all hb2
        have hw2 := hw1.trans (hb2.mono hw1.size)
        clear ra1 rr1 hw1 hb2 c0 c1 hz RB
        have RR := Lib.hid rr2
        have RA := Lib.hid ra2
        have RBB := Lib.hid rb2
        clear rr2
        obtain ⟨c0, c1, _, _, _⟩ := ra2
        obtain ⟨c2, c3, _, _, _⟩ := rb2
        go_wp2_with fail
        refine (ML.out _).mono ?_
        rintro e w3 ⟨rfl, hb3⟩
        have rr3 := RR.out.all hb3
        have ra3 := RA.out.all hb3
        have rb3 := RBB.out.all hb3
        have hw3 := hw2.trans (hb3.mono hw2.size)
        clear RR RA RBB hw2 hb3 c0 c1 c2 c3
        have rr4 := rr3.alloc (.cells #[.int .i64 l, .int .i64 p] 70)
        have ra4 := ra3.alloc (.cells #[.int .i64 l, .int .i64 p] 70)
        have rb4 := rb3.alloc (.cells #[.int .i64 l, .int .i64 p] 70)
        have rl4 := RatAt.fresh w3 l p 70
        have hw4 := hw3.alloc hw3.size (.cells #[.int .i64 l, .int .i64 p] 70)
        have RR := Lib.hid (And.intro rr4 (And.intro rl4 hw4))
        clear rr3 ra3 rb3 rr4 rl4 hw3 hw4
        obtain ⟨c0, c1, _, _, _⟩ := ra4
        obtain ⟨c2, c3, _, _, _⟩ := rb4
        go_wp2_with fail
        refine (MR.out _).mono ?_
        rintro e w5 ⟨rfl, hb5⟩
        obtain ⟨rr4, rl4, hw4⟩ := RR.out
        have rr5 := rr4.all hb5
        have rl5 := rl4.all hb5
        have hw5 := hw4.trans (hb5.mono hw4.size)
        clear RR rr4 rl4 hw4 hb5 c0 c1 c2 c3
        have rr6 := rr5.alloc (.cells #[.int .i64 r, .int .i64 q] 70)
        have rl6 := rl5.alloc (.cells #[.int .i64 r, .int .i64 q] 70)
        have rt6 := RatAt.fresh w5 r q 70
        have hw6 := hw5.alloc hw5.size (.cells #[.int .i64 r, .int .i64 q] 70)
        have RR := Lib.hid (And.intro rr6 (And.intro rl6 (And.intro rt6 hw6)))
        clear rr5 rl5 rr6 rt6 hw5 hw6
        obtain ⟨c0, c1, _, _, _⟩ := rl6
        go_wp2_with fail
        go_quiet ((first | (go_at_call 113; exact Calls.quiet_of_same ((magnitude_any _ _ (by omega) (by omega)).mono fun _ _ h => ⟨h.1, h.2.symm⟩)) | (go_at_call 115; exact Calls.quiet_of_same (MU.out _))))
        obtain ⟨rr6, rl6, rt6, hw6⟩ := RR.out
        clear RR
        obtain ⟨c2, c3, _, _, _⟩ := rt6
        go_wp2_with fail
        refine (MK.out _).mono ?_
        rintro e w7 ⟨rfl, hb7⟩
        have rr7 := rr6.all (below_drewN (Below.refl _ _) _ |>.trans hb7)
        have hw7 := hw6.trans ((below_drewN (Below.refl _ _) _ |>.trans hb7).mono hw6.size)
        clear hw6 rr6 hb7 c0 c1 c2 c3 rl6
        obtain ⟨c0, c1, f0, f1, hz⟩ := rr7
        go_wp2
        exact bodyPost_ret (v := .tuple #[rat x y, .int .i64 z]) (by simp [results, Tryz.results86, go_sem, c0, c1]) rfl ⟨rfl, by repeat' (first | exact hw7 | refine Below.setCell ?_ (by simp; try omega) _ | refine Below.alloc ?_ (by simp; try omega) _)⟩
      · have h4 := f4 (by omega)
        obtain ⟨g1, g2⟩ := hl (by rw [h4]; decide)
        rw [h4, g1, g2]
        clear f3 f4 f5 hl h4 g1 g2
        obtain ⟨hi, lo, hhl, hq⟩ : ∃ hi lo : Nat, (l.natAbs * r.natAbs / 18446744073709551616 = hi ∧ l.natAbs * r.natAbs % 18446744073709551616 = lo) ∧ (0 < hi ∨ (hi = 0 ∧ 1099511627776 < lo)) := ⟨_, _, ⟨rfl, rfl⟩, by omega⟩
        have MU := Lib.hid (fun w => mul64_any l.natAbs r.natAbs hi lo (by omega) (by omega) hhl w)
        clear hhl hP
        rcases hq with hq | ⟨rfl, hq⟩
        all_goals
          go_enter Tryz.func86, Tryz.ntmps86
          go_wp2_with fail
          refine (valid_any an ad _ a1 a2 a3 a4).mono ?_
          rintro e w1 ⟨rfl, hb1⟩
          obtain ⟨ra, rb, rr, hw0⟩ := HR.out
          have ra1 := ra.all hb1
          have rb1 := rb.all hb1
          have rr1 := rr.all hb1
          have hw1 := hw0.trans (hb1.mono hw0.size)
          clear HR ra rb rr hw0 hb1
          have RB := Lib.hid rb1
          obtain ⟨c0, c1, _, _, hz⟩ := rb1
          go_wp2_with fail
          refine (valid_any bn bd _ b1 b2 b3 b4).mono ?_
          rintro e w2 ⟨rfl, hb2⟩
          have ra2 := ra1.all hb2
          have rb2 := RB.out.all hb2
          have rr2 := rr1.all hb2
          have hw2 := hw1.trans (hb2.mono hw1.size)
          clear ra1 rr1 hw1 hb2 c0 c1 hz RB
          have RR := Lib.hid rr2
          have RA := Lib.hid ra2
          have RBB := Lib.hid rb2
          clear rr2
          obtain ⟨c0, c1, _, _, _⟩ := ra2
          obtain ⟨c2, c3, _, _, _⟩ := rb2
          go_wp2_with fail
          refine (ML.out _).mono ?_
          rintro e w3 ⟨rfl, hb3⟩
          have rr3 := RR.out.all hb3
          have ra3 := RA.out.all hb3
          have rb3 := RBB.out.all hb3
          have hw3 := hw2.trans (hb3.mono hw2.size)
          clear RR RA RBB hw2 hb3 c0 c1 c2 c3
          have rr4 := rr3.alloc (.cells #[.int .i64 l, .int .i64 p] 70)
          have ra4 := ra3.alloc (.cells #[.int .i64 l, .int .i64 p] 70)
          have rb4 := rb3.alloc (.cells #[.int .i64 l, .int .i64 p] 70)
          have rl4 := RatAt.fresh w3 l p 70
          have hw4 := hw3.alloc hw3.size (.cells #[.int .i64 l, .int .i64 p] 70)
          have RR := Lib.hid (And.intro rr4 (And.intro rl4 hw4))
          clear rr3 ra3 rb3 rr4 rl4 hw3 hw4
          obtain ⟨c0, c1, _, _, _⟩ := ra4
          obtain ⟨c2, c3, _, _, _⟩ := rb4
          go_wp2_with fail
          refine (MR.out _).mono ?_
          rintro e w5 ⟨rfl, hb5⟩
          obtain ⟨rr4, rl4, hw4⟩ := RR.out
          have rr5 := rr4.all hb5
          have rl5 := rl4.all hb5
          have hw5 := hw4.trans (hb5.mono hw4.size)
          clear RR rr4 rl4 hw4 hb5 c0 c1 c2 c3
          have rr6 := rr5.alloc (.cells #[.int .i64 r, .int .i64 q] 70)
          have rl6 := rl5.alloc (.cells #[.int .i64 r, .int .i64 q] 70)
          have rt6 := RatAt.fresh w5 r q 70
          have hw6 := hw5.alloc hw5.size (.cells #[.int .i64 r, .int .i64 q] 70)
          have RR := Lib.hid (And.intro rr6 (And.intro rl6 (And.intro rt6 hw6)))
          clear rr5 rl5 rr6 rt6 hw5 hw6
          obtain ⟨c0, c1, _, _, _⟩ := rl6
          go_wp2_with fail
          go_quiet ((first | (go_at_call 113; exact Calls.quiet_of_same ((magnitude_any _ _ (by omega) (by omega)).mono fun _ _ h => ⟨h.1, h.2.symm⟩)) | (go_at_call 115; exact Calls.quiet_of_same (MU.out _))))
          obtain ⟨rr6, _, _, hw6⟩ := RR.out
          clear RR c0 c1
          obtain ⟨c0, c1, f0, f1, hz⟩ := rr6
          go_wp2
          exact bodyPost_ret (v := .tuple #[rat 0 0, .int .i64 4]) (by simp [results, Tryz.results86, go_sem, c0, c1]) rfl ⟨rfl, by repeat' (first | exact hw6 | apply below_drewN | refine Below.setCell ?_ (by simp; try omega) _ | refine Below.alloc ?_ (by simp; try omega) _)⟩
    · obtain ⟨e1, e2, e3⟩ := Fr.mul_not (an := an) (ad := ad) (bn := bn) (bd := bd) (by simp [Fr.both, hA, hB])
      rw [e1, e2, e3]
      clear e1 e2 e3
      have hB' : Fr.ok bn bd = false := by simpa using hB
      clear hB
      go_enter Tryz.func86, Tryz.ntmps86
      go_wp2_with fail
      refine (valid_any an ad _ a1 a2 a3 a4).mono ?_
      rintro e w1 ⟨rfl, hb1⟩
      obtain ⟨ra, rb, rr, hw0⟩ := HR.out
      have ra1 := ra.all hb1
      have rb1 := rb.all hb1
      have rr1 := rr.all hb1
      have hw1 := hw0.trans (hb1.mono hw0.size)
      clear HR ra rb rr hw0 hb1
      have RB := Lib.hid rb1
      obtain ⟨c0, c1, _, _, hz⟩ := rb1
      go_wp2_with fail
      refine (valid_any bn bd _ b1 b2 b3 b4).mono ?_
      rintro e w2 ⟨rfl, hb2⟩
      have ra2 := ra1.all hb2
      have rb2 := RB.out.all hb2
      have rr2 := rr1.all hb2
      have hw2 := hw1.trans (hb2.mono hw1.size)
      clear ra1 rr1 hw1 hb2 c0 c1 hz RB
      clear ra2 rb2
      obtain ⟨c0, c1, f0, f1, hz⟩ := rr2
      go_wp2
      exact bodyPost_ret (v := .tuple #[rat 0 0, .int .i64 1]) (by simp [results, Tryz.results86, go_sem, c0, c1]) rfl ⟨rfl, by repeat' (first | exact hw2 | refine Below.setCell ?_ (by simp; try omega) _ | refine Below.alloc ?_ (by simp; try omega) _)⟩
  · obtain ⟨e1, e2, e3⟩ := Fr.mul_not (an := an) (ad := ad) (bn := bn) (bd := bd) (by simp [Fr.both, hA])
    rw [e1, e2, e3]
    clear e1 e2 e3
    have hA' : Fr.ok an ad = false := by simpa using hA
    clear hA
    go_enter Tryz.func86, Tryz.ntmps86
    go_wp2_with fail
    refine (valid_any an ad _ a1 a2 a3 a4).mono ?_
    rintro e w1 ⟨rfl, hb1⟩
    obtain ⟨ra, rb, rr, hw0⟩ := HR.out
    have ra1 := ra.all hb1
    have rb1 := rb.all hb1
    have rr1 := rr.all hb1
    have hw1 := hw0.trans (hb1.mono hw0.size)
    clear HR ra rb rr hw0 hb1
    clear ra1 rb1
    obtain ⟨c0, c1, f0, f1, hz⟩ := rr1
    go_wp2
    exact bodyPost_ret (v := .tuple #[rat 0 0, .int .i64 1]) (by simp [results, Tryz.results86, go_sem, c0, c1]) rfl ⟨rfl, by repeat' (first | exact hw1 | refine Below.setCell ?_ (by simp; try omega) _ | refine Below.alloc ?_ (by simp; try omega) _)⟩
end Go.Proofs.YtcljpklgpedolaaGreatDoor
namespace Go.Proofs.YtcljpklgpedolaaGreatDoor
open Go.RowKit

namespace Fr
theorem tfacts {n d : Int} (hd : 1 ≤ d) (hn : n < 0) : n.tmod d ≤ 0 ∧ -d < n.tmod d ∧ (n.tmod d < 0 → n / d = n.tdiv d - 1) ∧ (n.tmod d = 0 → n / d = n.tdiv d) ∧ n ≤ n.tdiv d ∧ n.tdiv d ≤ 0 := by
  have e1 : n.tdiv d = -((-n).tdiv d) := by rw [Int.neg_tdiv]; omega
  have e2 : n.tmod d = -((-n).tmod d) := by rw [Int.neg_tmod]; omega
  have e3 : (-n).tdiv d = (-n) / d := Int.tdiv_eq_ediv_of_nonneg (by omega)
  have e4 : (-n).tmod d = (-n) % d := Int.tmod_eq_emod_of_nonneg (by omega)
  have h1 := Int.emod_nonneg (-n) (b := d) (by omega)
  have h2 := Int.emod_lt_of_pos (-n) (b := d) (by omega)
  have h3 := Int.mul_ediv_add_emod (-n) d
  have h4 : 0 ≤ (-n) / d := Int.ediv_nonneg (by omega) (by omega)
  have h5 : (-n) / d ≤ -n := Int.ediv_le_self _ (by omega)
  rw [e1, e2, e3, e4]
  generalize (-n) / d = q at *
  generalize (-n) % d = r at *
  refine ⟨by omega, by omega, fun h => ?_, fun h => ?_, by omega, by omega⟩
  · have a1 : (-q - 1) * d ≤ n := by
      have : (-q - 1) * d = -(d * q) - d := by grind
      omega
    have a2 : n < -q * d := by
      have : -q * d = -(d * q) := by grind
      omega
    have b1 := (Int.le_ediv_iff_mul_le (c := d) (by omega)).2 a1
    have b2 := (Int.ediv_lt_iff_lt_mul (c := d) (by omega)).2 a2
    omega
  · have a1 : (-q) * d ≤ n := by
      have : (-q) * d = -(d * q) := by grind
      omega
    have a2 : n < (-q + 1) * d := by
      have : (-q + 1) * d = -(d * q) + d := by grind
      omega
    have b1 := (Int.le_ediv_iff_mul_le (c := d) (by omega)).2 a1
    have b2 := (Int.ediv_lt_iff_lt_mul (c := d) (by omega)).2 a2
    omega
def flN (n d : Int) : Int := if ok n d = true then n / d else 0
def flE (n d : Int) : Int := if ok n d = true then 0 else 1
def rdI (n d : Int) : Int := if d < 2 * (n % d) ∨ (2 * (n % d) = d ∧ (n / d).tmod 2 ≠ 0) then n / d + 1 else n / d
def rdN (n d : Int) : Int := if ok n d = true then rdI n d else 0
theorem fl_not {n d : Int} (h : ok n d = false) : flN n d = 0 ∧ flE n d = 1 ∧ rdN n d = 0 := by simp [flN, flE, rdN, h]
theorem fl_ok {n d : Int} (h : ok n d = true) : flN n d = n / d ∧ flE n d = 0 ∧ rdN n d = rdI n d := by simp [flN, flE, rdN, h]
theorem fl_bound {n d : Int} (h : ok n d = true) : -1099511627776 ≤ n / d ∧ n / d ≤ 1099511627776 := by
  obtain ⟨v1, v2, v3, v4, _⟩ := ok_iff.1 h
  constructor
  · refine (Int.le_ediv_iff_mul_le (c := d) (by omega)).2 ?_
    omega
  · have : n / d < 1099511627777 := by
      refine (Int.ediv_lt_iff_lt_mul (c := d) (by omega)).2 ?_
      omega
    omega
end Fr

theorem floor_pos (n d : Int) (w : World) (hn : 0 ≤ n) (hn2 : n ≤ 1099511627776) (hd : 1 ≤ d) (hd2 : d ≤ 1048576) (_h0 : 0 ≤ n / d) (_h2 : n / d ≤ 1099511627776) :
    Calls Tryz.prog 120 #[.int .i64 n, .int .i64 d] w fun e w' => e = .returned (.int .i64 (n / d)) ∧ w = w' := by
  have hm : 0 ≤ n % d := Int.emod_nonneg _ (by omega)
  have hm2 : n % d < d := Int.emod_lt_of_pos _ (by omega)
  go_enter Tryz.func120, Tryz.ntmps120
  go_wp2
  go_ret
  exact ⟨rfl, rfl⟩

theorem floor_neg (n d : Int) (w : World) (hn : n < 0) (hn2 : -1099511627776 ≤ n) (hd : 1 ≤ d) (hd2 : d ≤ 1048576) :
    Calls Tryz.prog 120 #[.int .i64 n, .int .i64 d] w fun e w' => e = .returned (.int .i64 (n / d)) ∧ w = w' := by
  obtain ⟨t1, t2, t3, t4, t5, t6⟩ := Fr.tfacts hd hn
  have HQ := Lib.hid (And.intro t3 t4)
  clear t3 t4
  generalize hq : n.tdiv d = q at *
  generalize hr : n.tmod d = r at *
  generalize n / d = f at *
  by_cases h : r < 0
  · obtain rfl := HQ.out.1 h
    go_enter Tryz.func120, Tryz.ntmps120
    go_wp2
    go_ret
    exact ⟨rfl, rfl⟩
  · obtain rfl := HQ.out.2 (by omega)
    go_enter Tryz.func120, Tryz.ntmps120
    go_wp2
    go_ret
    exact ⟨rfl, rfl⟩

theorem floor_any (n d : Int) (w : World) (h : Fr.ok n d = true) :
    Calls Tryz.prog 120 #[.int .i64 n, .int .i64 d] w fun e w' => e = .returned (.int .i64 (n / d)) ∧ w = w' := by
  obtain ⟨v1, v2, v3, v4, _⟩ := Fr.ok_iff.1 h
  obtain ⟨b1, b2⟩ := Fr.fl_bound h
  by_cases hn : n < 0
  · exact floor_neg n d w hn v3 v1 v2
  · exact floor_pos n d w (by omega) v4 v1 v2 (Int.ediv_nonneg (by omega) (by omega)) b2

theorem num_floor_any (n d : Int) (w : World) (n1 : -9223372036854775808 ≤ n) (n2 : n ≤ 9223372036854775807) (d1 : -9223372036854775808 ≤ d) (d2 : d ≤ 9223372036854775807) :
    Calls Tryz.prog 116 #[rat n d] w fun e w' => e = .returned (.tuple #[.int .i64 (Fr.flN n d), .int .i64 (Fr.flE n d)]) ∧ Below w.heap.size w w' := by
  by_cases h : Fr.ok n d = true
  · obtain ⟨e1, e2, _⟩ := Fr.fl_ok h
    rw [e1, e2]
    clear e1 e2
    obtain ⟨v1, v2, v3, v4, _⟩ := Fr.ok_iff.1 h
    obtain ⟨b1, b2⟩ := Fr.fl_bound h
    by_cases hn : n < 0
    · obtain ⟨t1, t2, t3, t4, t5, t6⟩ := Fr.tfacts v1 hn
      have HQ := Lib.hid (And.intro t3 t4)
      clear t3 t4
      generalize hq : n.tdiv d = q at *
      generalize hr : n.tmod d = r at *
      generalize n / d = f at *
      by_cases hr0 : r < 0
      · obtain rfl := HQ.out.1 hr0
        clear HQ
        go_enter Tryz.func116, Tryz.ntmps116
        go_wp2_with fail
        refine (valid_any n d _ n1 n2 d1 d2).mono ?_
        rintro e w1 ⟨rfl, hb1⟩
        obtain ⟨c0, c1, _, _, _⟩ := (RatAt.fresh w n d 70).all hb1
        have hw1 : Below w.heap.size w w1 := ((Below.refl _ _).alloc (Nat.le_refl _) _).trans (hb1.mono (by simp))
        clear hb1
        go_wp2
        go_ret2
        exact ⟨rfl, hw1⟩
      · obtain rfl := HQ.out.2 (by omega)
        clear HQ
        go_enter Tryz.func116, Tryz.ntmps116
        go_wp2_with fail
        refine (valid_any n d _ n1 n2 d1 d2).mono ?_
        rintro e w1 ⟨rfl, hb1⟩
        obtain ⟨c0, c1, _, _, _⟩ := (RatAt.fresh w n d 70).all hb1
        have hw1 : Below w.heap.size w w1 := ((Below.refl _ _).alloc (Nat.le_refl _) _).trans (hb1.mono (by simp))
        clear hb1
        go_wp2
        go_ret2
        exact ⟨rfl, hw1⟩
    · have h0 : 0 ≤ n / d := Int.ediv_nonneg (by omega) (by omega)
      have hm : 0 ≤ n % d := Int.emod_nonneg _ (by omega)
      have hm2 : n % d < d := Int.emod_lt_of_pos _ (by omega)
      go_enter Tryz.func116, Tryz.ntmps116
      go_wp2_with fail
      refine (valid_any n d _ n1 n2 d1 d2).mono ?_
      rintro e w1 ⟨rfl, hb1⟩
      obtain ⟨c0, c1, _, _, _⟩ := (RatAt.fresh w n d 70).all hb1
      have hw1 : Below w.heap.size w w1 := ((Below.refl _ _).alloc (Nat.le_refl _) _).trans (hb1.mono (by simp))
      clear hb1
      go_wp2
      go_ret2
      exact ⟨rfl, hw1⟩
  · obtain ⟨e1, e2, _⟩ := Fr.fl_not (n := n) (d := d) (by simpa using h)
    rw [e1, e2]
    clear e1 e2
    have h' : Fr.ok n d = false := by simpa using h
    · go_enter Tryz.func116, Tryz.ntmps116
      go_wp2_with fail
      refine (valid_any n d _ n1 n2 d1 d2).mono ?_
      rintro e w1 ⟨rfl, hb1⟩
      obtain ⟨c0, c1, _, _, _⟩ := (RatAt.fresh w n d 70).all hb1
      have hw1 : Below w.heap.size w w1 := ((Below.refl _ _).alloc (Nat.le_refl _) _).trans (hb1.mono (by simp))
      clear hb1
      go_wp2
      go_ret2
      exact ⟨rfl, hw1⟩

set_option maxRecDepth 20000 in
theorem num_round_any (n d : Int) (w : World) (n1 : -9223372036854775808 ≤ n) (n2 : n ≤ 9223372036854775807) (d1 : -9223372036854775808 ≤ d) (d2 : d ≤ 9223372036854775807) :
    Calls Tryz.prog 87 #[rat n d] w fun e w' => e = .returned (.tuple #[.int .i64 (Fr.rdN n d), .int .i64 (Fr.flE n d)]) ∧ Below w.heap.size w w' := by
  by_cases h : Fr.ok n d = true
  · obtain ⟨_, e2, e3⟩ := Fr.fl_ok h
    rw [e2, e3]
    clear e2 e3
    have FL := Lib.hid (fun w => num_floor_any n d w n1 n2 d1 d2)
    rw [(Fr.fl_ok h).1, (Fr.fl_ok h).2.1] at FL
    obtain ⟨v1, v2, v3, v4, _⟩ := Fr.ok_iff.1 h
    obtain ⟨b1, b2⟩ := Fr.fl_bound h
    have m1 : 0 ≤ n % d := Int.emod_nonneg _ (by omega)
    have m2 : n % d < d := Int.emod_lt_of_pos _ (by omega)
    have m3 : n / d * d = n - n % d := by have := Int.mul_ediv_add_emod n d; rw [Int.mul_comm] at this; omega
    generalize hf : n / d = f at *
    generalize hm : n % d = m at *
    have HF := Lib.hid hf
    have HM := Lib.hid hm
    clear hf hm
    by_cases k1 : d < 2 * m
    · rw [show Fr.rdI n d = f + 1 by unfold Fr.rdI; rw [if_pos (by rw [HF.out, HM.out]; omega)]; rw [HF.out]]
      go_enter Tryz.func87, Tryz.ntmps87
      go_wp2_with fail
      refine (FL.out _).mono ?_
      rintro e w1 ⟨rfl, hb1⟩
      obtain ⟨c0, c1, _, _, _⟩ := (RatAt.fresh w n d 70).all hb1
      have hw1 : Below w.heap.size w w1 := ((Below.refl _ _).alloc (Nat.le_refl _) _).trans (hb1.mono (by simp))
      clear hb1
      go_wp2
      go_ret2
      exact ⟨rfl, hw1⟩
    · by_cases k2 : 2 * m = d
      · by_cases k3 : f.tmod 2 = 0
        · rw [show Fr.rdI n d = f by unfold Fr.rdI; rw [if_neg (by rw [HF.out, HM.out]; omega)]; rw [HF.out]]
          have k4 : (f.tmod 2 != 0) = false := by simp [k3]
          clear k3
          go_enter Tryz.func87, Tryz.ntmps87
          go_wp2_with fail
          refine (FL.out _).mono ?_
          rintro e w1 ⟨rfl, hb1⟩
          obtain ⟨c0, c1, _, _, _⟩ := (RatAt.fresh w n d 70).all hb1
          have hw1 : Below w.heap.size w w1 := ((Below.refl _ _).alloc (Nat.le_refl _) _).trans (hb1.mono (by simp))
          clear hb1
          go_wp2
          go_ret2
          exact ⟨rfl, hw1⟩
        · rw [show Fr.rdI n d = f + 1 by unfold Fr.rdI; rw [if_pos (by rw [HF.out, HM.out]; omega)]; rw [HF.out]]
          have k4 : (f.tmod 2 != 0) = true := by simp [k3]
          clear k3
          go_enter Tryz.func87, Tryz.ntmps87
          go_wp2_with fail
          refine (FL.out _).mono ?_
          rintro e w1 ⟨rfl, hb1⟩
          obtain ⟨c0, c1, _, _, _⟩ := (RatAt.fresh w n d 70).all hb1
          have hw1 : Below w.heap.size w w1 := ((Below.refl _ _).alloc (Nat.le_refl _) _).trans (hb1.mono (by simp))
          clear hb1
          go_wp2
          go_ret2
          exact ⟨rfl, hw1⟩
      · rw [show Fr.rdI n d = f by unfold Fr.rdI; rw [if_neg (by rw [HF.out, HM.out]; omega)]; rw [HF.out]]
        go_enter Tryz.func87, Tryz.ntmps87
        go_wp2_with fail
        refine (FL.out _).mono ?_
        rintro e w1 ⟨rfl, hb1⟩
        obtain ⟨c0, c1, _, _, _⟩ := (RatAt.fresh w n d 70).all hb1
        have hw1 : Below w.heap.size w w1 := ((Below.refl _ _).alloc (Nat.le_refl _) _).trans (hb1.mono (by simp))
        clear hb1
        go_wp2
        go_ret2
        exact ⟨rfl, hw1⟩
  · obtain ⟨_, e2, e3⟩ := Fr.fl_not (n := n) (d := d) (by simpa using h)
    rw [e2, e3]
    clear e2 e3
    have h' : Fr.ok n d = false := by simpa using h
    · go_enter Tryz.func87, Tryz.ntmps87
      have FL := Lib.hid (fun w => num_floor_any n d w n1 n2 d1 d2)
      rw [(Fr.fl_not h').1, (Fr.fl_not h').2.1] at FL
      go_wp2_with fail
      refine (FL.out _).mono ?_
      rintro e w1 ⟨rfl, hb1⟩
      obtain ⟨c0, c1, _, _, _⟩ := (RatAt.fresh w n d 70).all hb1
      have hw1 : Below w.heap.size w w1 := ((Below.refl _ _).alloc (Nat.le_refl _) _).trans (hb1.mono (by simp))
      clear hb1
      go_wp2
      go_ret2
      exact ⟨rfl, hw1⟩

set_option maxRecDepth 20000 in
theorem ref_round_any (n d : Int) (w : World) (n1 : -9223372036854775808 ≤ n) (n2 : n ≤ 9223372036854775807) (d1 : -9223372036854775808 ≤ d) (d2 : d ≤ 9223372036854775807) :
    Calls Tryz.prog 90 #[rat n d] w fun e w' => e = .returned (.tuple #[.int .i64 (Fr.rdN n d), .int .i64 (Fr.flE n d)]) ∧ Below w.heap.size w w' := by
  by_cases h : Fr.ok n d = true
  · obtain ⟨_, e2, e3⟩ := Fr.fl_ok h
    rw [e2, e3]
    clear e2 e3
    have FL := Lib.hid (fun w => floor_any n d w h)
    obtain ⟨v1, v2, v3, v4, _⟩ := Fr.ok_iff.1 h
    obtain ⟨b1, b2⟩ := Fr.fl_bound h
    have m1 : 0 ≤ n % d := Int.emod_nonneg _ (by omega)
    have m2 : n % d < d := Int.emod_lt_of_pos _ (by omega)
    have m3 : n / d * d = n - n % d := by have := Int.mul_ediv_add_emod n d; rw [Int.mul_comm] at this; omega
    generalize hf : n / d = f at *
    generalize hm : n % d = m at *
    have HF := Lib.hid hf
    have HM := Lib.hid hm
    clear hf hm
    by_cases k1 : d < 2 * m
    · rw [show Fr.rdI n d = f + 1 by unfold Fr.rdI; rw [if_pos (by rw [HF.out, HM.out]; omega)]; rw [HF.out]]
      go_enter Tryz.func90, Tryz.ntmps90
      go_wp2_with fail
      refine (ref_valid_any n d _ n1 n2 d1 d2).mono ?_
      rintro e w1 ⟨rfl, hb1⟩
      obtain ⟨c0, c1, _, _, _⟩ := (RatAt.fresh w n d 70).all hb1
      have hw1 : Below w.heap.size w w1 := ((Below.refl _ _).alloc (Nat.le_refl _) _).trans (hb1.mono (by simp))
      clear hb1
      go_wp2_with fail
      refine (FL.out _).mono ?_
      rintro e w2 ⟨rfl, rfl⟩
      go_wp2
      go_ret2
      exact ⟨rfl, hw1⟩
    · by_cases k2 : 2 * m = d
      · by_cases k3 : f.tmod 2 = 0
        · rw [show Fr.rdI n d = f by unfold Fr.rdI; rw [if_neg (by rw [HF.out, HM.out]; omega)]; rw [HF.out]]
          have k4 : (f.tmod 2 != 0) = false := by simp [k3]
          clear k3
          go_enter Tryz.func90, Tryz.ntmps90
          go_wp2_with fail
          refine (ref_valid_any n d _ n1 n2 d1 d2).mono ?_
          rintro e w1 ⟨rfl, hb1⟩
          obtain ⟨c0, c1, _, _, _⟩ := (RatAt.fresh w n d 70).all hb1
          have hw1 : Below w.heap.size w w1 := ((Below.refl _ _).alloc (Nat.le_refl _) _).trans (hb1.mono (by simp))
          clear hb1
          go_wp2_with fail
          refine (FL.out _).mono ?_
          rintro e w2 ⟨rfl, rfl⟩
          go_wp2
          go_ret2
          exact ⟨rfl, hw1⟩
        · rw [show Fr.rdI n d = f + 1 by unfold Fr.rdI; rw [if_pos (by rw [HF.out, HM.out]; omega)]; rw [HF.out]]
          have k4 : (f.tmod 2 != 0) = true := by simp [k3]
          clear k3
          go_enter Tryz.func90, Tryz.ntmps90
          go_wp2_with fail
          refine (ref_valid_any n d _ n1 n2 d1 d2).mono ?_
          rintro e w1 ⟨rfl, hb1⟩
          obtain ⟨c0, c1, _, _, _⟩ := (RatAt.fresh w n d 70).all hb1
          have hw1 : Below w.heap.size w w1 := ((Below.refl _ _).alloc (Nat.le_refl _) _).trans (hb1.mono (by simp))
          clear hb1
          go_wp2_with fail
          refine (FL.out _).mono ?_
          rintro e w2 ⟨rfl, rfl⟩
          go_wp2
          go_ret2
          exact ⟨rfl, hw1⟩
      · rw [show Fr.rdI n d = f by unfold Fr.rdI; rw [if_neg (by rw [HF.out, HM.out]; omega)]; rw [HF.out]]
        go_enter Tryz.func90, Tryz.ntmps90
        go_wp2_with fail
        refine (ref_valid_any n d _ n1 n2 d1 d2).mono ?_
        rintro e w1 ⟨rfl, hb1⟩
        obtain ⟨c0, c1, _, _, _⟩ := (RatAt.fresh w n d 70).all hb1
        have hw1 : Below w.heap.size w w1 := ((Below.refl _ _).alloc (Nat.le_refl _) _).trans (hb1.mono (by simp))
        clear hb1
        go_wp2_with fail
        refine (FL.out _).mono ?_
        rintro e w2 ⟨rfl, rfl⟩
        go_wp2
        go_ret2
        exact ⟨rfl, hw1⟩
  · obtain ⟨_, e2, e3⟩ := Fr.fl_not (n := n) (d := d) (by simpa using h)
    rw [e2, e3]
    clear e2 e3
    have h' : Fr.ok n d = false := by simpa using h
    · go_enter Tryz.func90, Tryz.ntmps90
      go_wp2_with fail
      refine (ref_valid_any n d _ n1 n2 d1 d2).mono ?_
      rintro e w1 ⟨rfl, hb1⟩
      obtain ⟨c0, c1, _, _, _⟩ := (RatAt.fresh w n d 70).all hb1
      have hw1 : Below w.heap.size w w1 := ((Below.refl _ _).alloc (Nat.le_refl _) _).trans (hb1.mono (by simp))
      clear hb1
      go_wp2
      go_ret2
      exact ⟨rfl, hw1⟩
end Go.Proofs.YtcljpklgpedolaaGreatDoor
namespace Go.Proofs.YtcljpklgpedolaaGreatDoor
open Go.RowKit

theorem Tryz.strInfo : (Tryz.prog.info? 9).map (fun i => (i.zero, i.size, i.bytes)) = some (some (.string ⟨#[]⟩), 1, 16) := by kernel_rfl

/-- A unit that is not 0 is written behind what is there. -/
theorem unit_small (v : Value) (n : Nat) (xs : List Value) (a : Nat) (u : ByteArray) (w : World) (B : Nat) (hB : B ≤ w.heap.size) (hown : w.ownsRow B 9 1 v n xs) (ha : 1 ≤ a) (ha2 : a < 100) (hn : n ≤ 2)
    (hl : (Lib.decDigits a).length + u.size ≤ 9223372036854775807) (t : ByteArray) (ht : (⟨(Lib.decDigits a).toArray⟩ : ByteArray) ++ u = t) :
    Calls Tryz.prog 101 #[v, .int .i64 a, .string u] w fun e w' => ∃ v', e = .returned v' ∧ w'.ownsRow B 9 1 v' (n + 1) (xs ++ [.string t]) ∧ Below B w w' := by
  obtain ⟨i0, hi, hz0, hz1, hz2⟩ := info_parts Tryz.strInfo
  have HT := Lib.hid ht
  clear ht
  have h0 : ((a : Int) == 0) = false := by simp; omega
  go_enter Tryz.func101, Tryz.ntmps101
  go_wp2_with (first
    | (go_at_call 60; refine (Tryz.strconv_Itoa_small a ha2 _).mono ?_; rintro e w1 ⟨rfl, hw1⟩; subst w1)
    | (at_builtin; refine wpList_append_own _ rfl _ _ 44 rfl B 9 i0 (.string ⟨#[]⟩) 1 16 Tryz.underlying44 hi hz0 hz1 hz2 rfl (by decide) _ _ _ rfl (hown.alloc _) ⟨w.heap.size, 0, none⟩ 1 1 [.string t] rfl rfl ?c1 ?c2 ?c3 ?c4 ?c5 ?_))
  case c1 =>
    intro j u hj
    match j, hj with
    | 0, hj => simp at hj; subst hj; rw [HT.out]; simp [Addr.add]
  case c2 => intro u hu; simp at hu; subst hu; rfl
  case c3 => unfold maxLen; omega
  case c4 => omega
  case c5 => simp; omega
  intro v' w1 hown' hg _
  have hb : Below B w w1 := ((Below.refl B w).alloc hB _).grown hg (by simp; omega) (fun k hk => (hown.lt k hk).1)
  go_wp2
  go_ret
  exact ⟨_, rfl, hown', hb⟩

/-- 270 pence. -/
theorem money270 (w : World) :
    Calls Tryz.prog 78 #[.int .i64 270] w fun e w' => e = .returned (.tuple #[.string ⟨#[49, 108, 32, 50, 115, 32, 54, 100]⟩, .int .i64 0]) ∧ Below w.heap.size w w' := by
  have d1 : Lib.decDigits 1 = [49] := by rw [Lib.decDigits_one (by decide)]; rfl
  have d2 : Lib.decDigits 2 = [50] := by rw [Lib.decDigits_one (by decide)]; rfl
  have d6 : Lib.decDigits 6 = [54] := by rw [Lib.decDigits_one (by decide)]; rfl
  have D1 := Lib.hid d1
  have D2 := Lib.hid d2
  have D6 := Lib.hid d6
  clear d1 d2 d6
  go_enter Tryz.func78, Tryz.ntmps78
  go_wp2_with fail
  refine (unit_small _ 0 [] 1 _ w w.heap.size (Nat.le_refl _) (World.ownsRow_nil _ _ _ _) (by decide) (by decide) (by decide) (by rw [D1.out]; decide) ⟨#[49, 108]⟩ (by rw [D1.out]; rfl)).mono ?_
  rintro e w1 ⟨v1, rfl, ho1, hb1⟩
  have hs1 := hb1.size
  go_wp2_with fail
  refine (unit_small _ 1 _ 2 _ w1 w.heap.size hs1 ho1 (by decide) (by decide) (by decide) (by rw [D2.out]; decide) ⟨#[50, 115]⟩ (by rw [D2.out]; rfl)).mono ?_
  rintro e w2 ⟨v2, rfl, ho2, hb2⟩
  have hs2 := hb2.size
  go_wp2_with fail
  refine (unit_small _ 2 _ 6 _ w2 w.heap.size (Nat.le_trans hs1 hs2) ho2 (by decide) (by decide) (by decide) (by rw [D6.out]; decide) ⟨#[54, 100]⟩ (by rw [D6.out]; rfl)).mono ?_
  rintro e w3 ⟨v3, rfl, ho3, hb3⟩
  have hs3 := hb3.size
  have hex : ∃ g cap, v3 = .slice (some ⟨g, 0, none⟩) 3 cap ∧ g < w3.heap.size ∧ 3 ≤ cap ∧ ∀ j x, [(⟨#[49, 108]⟩ : ByteArray), ⟨#[50, 115]⟩, ⟨#[54, 100]⟩][j]? = some x → w3.cell? ⟨g, 0 + j, none⟩ = some (.string x) := by
    rcases ho3.2 with ⟨_, h⟩ | ⟨g, cap, cur, rfl, hbg, hg, hc, _, _, _⟩
    · omega
    · refine ⟨g, cap, rfl, (ho3.lt g rfl).2, hc, fun j x hx => ?_⟩
      have := ho3.cellAt j (by have := (List.getElem?_eq_some_iff.1 hx).1; simp at this; omega)
      rw [Nat.zero_add, this]
      match j, hx with
      | 0, hx => simp at hx; subst hx; rfl
      | 1, hx => simp at hx; subst hx; rfl
      | 2, hx => simp at hx; subst hx; rfl
  obtain ⟨g, cap, hv, hg, hcap, hcells⟩ := hex
  rw [hv]
  go_wp2_with fail
  refine (Tryz.strings_Join g 0 cap [(⟨#[49, 108]⟩ : ByteArray), ⟨#[50, 115]⟩, ⟨#[54, 100]⟩] _ w3 hcells hg (by decide) hcap (by decide)).mono ?_
  rintro e w4 ⟨rfl, hb4⟩
  have hb : Below w.heap.size w w4 := ((hb1.trans hb2).trans hb3).trans (hb4.mono (by omega))
  clear hcells hv ho1 ho2 ho3
  go_wp2
  go_ret2
  exact ⟨rfl, hb⟩

end Go.Proofs.YtcljpklgpedolaaGreatDoor
