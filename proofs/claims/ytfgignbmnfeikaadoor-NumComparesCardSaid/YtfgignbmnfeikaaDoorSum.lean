/- What the program and the reference answer for sums and differences of fractions. -/
import Derived.Test.YtfgignbmnfeikaaDoorRefMake
namespace Go.Proofs.YtfgignbmnfeikaaDoor
open Go.RowKit

namespace Fr
def both (an ad bn bd : Int) : Bool := ok an ad && ok bn bd
def sumN (an ad bn bd : Int) : Int := if both an ad bn bd = true then nu (an * bd + bn * ad) (ad * bd) else 0
def sumD (an ad bn bd : Int) : Int := if both an ad bn bd = true then de (an * bd + bn * ad) (ad * bd) else 0
def sumE (an ad bn bd : Int) : Int := if both an ad bn bd = true then er (an * bd + bn * ad) (ad * bd) else 1
theorem sum_not {an ad bn bd : Int} (h : both an ad bn bd = false) : sumN an ad bn bd = 0 ∧ sumD an ad bn bd = 0 ∧ sumE an ad bn bd = 1 := by simp [sumN, sumD, sumE, h]
theorem sum_both {an ad bn bd : Int} (h : both an ad bn bd = true) : sumN an ad bn bd = nu (an * bd + bn * ad) (ad * bd) ∧ sumD an ad bn bd = de (an * bd + bn * ad) (ad * bd) ∧ sumE an ad bn bd = er (an * bd + bn * ad) (ad * bd) := by simp [sumN, sumD, sumE, h]
theorem ok_neg (n d : Int) : ok (-n) d = ok n d := by
  rw [Bool.eq_iff_iff, ok_iff, ok_iff, Int.natAbs_neg]
  constructor <;> (rintro ⟨h1, h2, h3, h4, h5⟩; exact ⟨h1, h2, by omega, by omega, h5⟩)
theorem ok_out {n d : Int} (h : n < -1099511627776 ∨ 1099511627776 < n) : ok n d = false := by
  cases hh : ok n d with
  | false => rfl
  | true => have := ok_iff.1 hh; omega

/-- Products of a valid numerator and a valid denominator are small. -/
theorem mul_small {a d : Int} (h1 : -1099511627776 ≤ a) (h2 : a ≤ 1099511627776) (h3 : 0 ≤ d) (h4 : d ≤ 1048576) : -1152921504606846976 ≤ a * d ∧ a * d ≤ 1152921504606846976 := by
  constructor
  · calc -1152921504606846976 = -1099511627776 * 1048576 := by decide
      _ ≤ -1099511627776 * d := by omega
      _ ≤ a * d := Int.mul_le_mul_of_nonneg_right h1 h3
  · calc a * d ≤ 1099511627776 * d := Int.mul_le_mul_of_nonneg_right h2 h3
      _ ≤ 1152921504606846976 := by omega
theorem den_small {a d : Int} (h1 : 1 ≤ a) (h2 : a ≤ 1048576) (h3 : 1 ≤ d) (h4 : d ≤ 1048576) : 1 ≤ a * d ∧ a * d ≤ 1099511627776 := by
  constructor
  · calc (1 : Int) = 1 * 1 := by decide
      _ ≤ 1 * d := by omega
      _ ≤ a * d := Int.mul_le_mul_of_nonneg_right h1 (by omega)
  · calc a * d ≤ 1048576 * d := Int.mul_le_mul_of_nonneg_right h2 (by omega)
      _ ≤ 1099511627776 := by omega
end Fr

/-- Two fractions that came in and a place for the result. -/
theorem three (w : World) (an ad bn bd rn rd : Int) :
    RatAt (((w.alloc (.cells #[.int .i64 an, .int .i64 ad] 23)).alloc (.cells #[.int .i64 bn, .int .i64 bd] 23)).alloc (.cells #[.int .i64 rn, .int .i64 rd] 23)) w.heap.size an ad ∧
    RatAt (((w.alloc (.cells #[.int .i64 an, .int .i64 ad] 23)).alloc (.cells #[.int .i64 bn, .int .i64 bd] 23)).alloc (.cells #[.int .i64 rn, .int .i64 rd] 23)) (w.heap.size + 1) bn bd ∧
    RatAt (((w.alloc (.cells #[.int .i64 an, .int .i64 ad] 23)).alloc (.cells #[.int .i64 bn, .int .i64 bd] 23)).alloc (.cells #[.int .i64 rn, .int .i64 rd] 23)) (w.heap.size + 1 + 1) rn rd := by
  have h1 := ((RatAt.fresh w an ad 23).alloc (.cells #[.int .i64 bn, .int .i64 bd] 23)).alloc (.cells #[.int .i64 rn, .int .i64 rd] 23)
  have h2 := (RatAt.fresh (w.alloc (.cells #[.int .i64 an, .int .i64 ad] 23)) bn bd 23).alloc (.cells #[.int .i64 rn, .int .i64 rd] 23)
  have h3 := RatAt.fresh ((w.alloc (.cells #[.int .i64 an, .int .i64 ad] 23)).alloc (.cells #[.int .i64 bn, .int .i64 bd] 23)) rn rd 23
  rw [World.size_alloc] at h2 h3
  rw [World.size_alloc] at h3
  exact ⟨h1, h2, h3⟩

theorem below3 (w : World) (a b c : Obj) : Below w.heap.size w (((w.alloc a).alloc b).alloc c) := (((Below.refl _ _).alloc (Nat.le_refl _) _).alloc (by simp) _).alloc (by simp; omega) _


namespace Fr
def difN (an ad bn bd : Int) : Int := if both an ad bn bd = true then nu (an * bd - bn * ad) (ad * bd) else 0
def difD (an ad bn bd : Int) : Int := if both an ad bn bd = true then de (an * bd - bn * ad) (ad * bd) else 0
def difE (an ad bn bd : Int) : Int := if both an ad bn bd = true then er (an * bd - bn * ad) (ad * bd) else 1
theorem dif_not {an ad bn bd : Int} (h : both an ad bn bd = false) : difN an ad bn bd = 0 ∧ difD an ad bn bd = 0 ∧ difE an ad bn bd = 1 := by simp [difN, difD, difE, h]
theorem dif_both {an ad bn bd : Int} (h : both an ad bn bd = true) : difN an ad bn bd = nu (an * bd - bn * ad) (ad * bd) ∧ difD an ad bn bd = de (an * bd - bn * ad) (ad * bd) ∧ difE an ad bn bd = er (an * bd - bn * ad) (ad * bd) := by simp [difN, difD, difE, h]
/-- A difference is a sum with the other sign, also at the least number, which is in no valid fraction. -/
theorem dif_sum (an ad bn bd : Int) (b1 : -9223372036854775808 ≤ bn) (b2 : bn ≤ 9223372036854775807) : sumN an ad (wrap64 (-bn)) bd = difN an ad bn bd ∧ sumD an ad (wrap64 (-bn)) bd = difD an ad bn bd ∧ sumE an ad (wrap64 (-bn)) bd = difE an ad bn bd := by
  by_cases h : bn = -9223372036854775808
  · subst h
    have e : wrap64 (-(-9223372036854775808)) = -9223372036854775808 := by unfold wrap64; omega
    have hb : both an ad (-9223372036854775808) bd = false := by unfold both; rw [ok_out (n := -9223372036854775808) (d := bd) (by omega)]; simp
    rw [e]
    obtain ⟨x1, x2, x3⟩ := sum_not hb
    obtain ⟨y1, y2, y3⟩ := dif_not hb
    rw [x1, x2, x3, y1, y2, y3]; exact ⟨rfl, rfl, rfl⟩
  · have e : wrap64 (-bn) = -bn := IntWalk.wrap64_in _ ⟨by omega, by omega⟩
    have eb : both an ad (-bn) bd = both an ad bn bd := by unfold both; rw [ok_neg]
    have en : an * bd + -bn * ad = an * bd - bn * ad := by grind
    rw [e]
    unfold sumN sumD sumE difN difD difE
    rw [eb, en]; exact ⟨rfl, rfl, rfl⟩
end Fr

set_option maxRecDepth 20000 in
theorem add_any (an ad bn bd : Int) (w : World) (a1 : -9223372036854775808 ≤ an) (a2 : an ≤ 9223372036854775807) (a3 : -9223372036854775808 ≤ ad) (a4 : ad ≤ 9223372036854775807)
    (b1 : -9223372036854775808 ≤ bn) (b2 : bn ≤ 9223372036854775807) (b3 : -9223372036854775808 ≤ bd) (b4 : bd ≤ 9223372036854775807) :
    Calls Tryd.prog 20 #[rat an ad, rat bn bd] w fun e w' => e = .returned (.tuple #[rat (Fr.sumN an ad bn bd) (Fr.sumD an ad bn bd), .int .i64 (Fr.sumE an ad bn bd)]) ∧ Below w.heap.size w w' := by
  obtain ⟨ra, rb, rr⟩ := three w an ad bn bd 0 0
  have hw0 := below3 w (.cells #[.int .i64 an, .int .i64 ad] 23) (.cells #[.int .i64 bn, .int .i64 bd] 23) (.cells #[.int .i64 0, .int .i64 0] 23)
  have HR := Lib.hid (And.intro ra (And.intro rb (And.intro rr hw0)))
  clear ra rb rr hw0
  by_cases hA : Fr.ok an ad = true
  · by_cases hB : Fr.ok bn bd = true
    · obtain ⟨e1, e2, e3⟩ := Fr.sum_both (an := an) (ad := ad) (bn := bn) (bd := bd) (by simp [Fr.both, hA, hB])
      rw [e1, e2, e3]
      clear e1 e2 e3
      obtain ⟨v1, v2, v3, v4, _⟩ := Fr.ok_iff.1 hA
      obtain ⟨u1, u2, u3, u4, _⟩ := Fr.ok_iff.1 hB
      obtain ⟨p1, p2⟩ := Fr.mul_small v3 v4 (by omega) u2
      obtain ⟨p3, p4⟩ := Fr.mul_small u3 u4 (by omega) v2
      obtain ⟨p5, p6⟩ := Fr.den_small v1 v2 u1 u2
      have MK := Lib.hid (fun w => make_any (an * bd + bn * ad) (ad * bd) w (by omega) (by omega) (by omega) (by omega))
      generalize Fr.nu (an * bd + bn * ad) (ad * bd) = x at *
      generalize Fr.de (an * bd + bn * ad) (ad * bd) = y at *
      generalize Fr.er (an * bd + bn * ad) (ad * bd) = z at *
      go_enter Tryd.func20, Tryd.ntmps20
      go_wp2_with fail
      refine (valid_any an ad _ a1 a2 a3 a4).mono ?_
      rintro e w1 ⟨rfl, hb1⟩
      obtain ⟨ra, rb, rr, hw0⟩ := HR.out
      have ra1 := ra.all hb1
      have rb1 := rb.all hb1
      have rr1 := rr.all hb1
      have hw1 := hw0.trans (hb1.mono hw0.size)
      clear HR ra rb rr hw0 hb1
      have RB := Lib.hid rb1
      obtain ⟨c0, c1, _, _, hz⟩ := rb1
      go_wp2_with fail
      refine (valid_any bn bd _ b1 b2 b3 b4).mono ?_
      rintro e w2 ⟨rfl, hb2⟩
      have ra2 := ra1.all hb2
      have rb2 := RB.out.all hb2
      have rr2 := rr1.all hb2
      have hw2 := hw1.trans (hb2.mono hw1.size)
      clear ra1 rr1 hw1 hb2 c0 c1 hz RB
      have RR := Lib.hid rr2
      clear rr2
      obtain ⟨c0, c1, _, _, _⟩ := ra2
      obtain ⟨c2, c3, _, _, _⟩ := rb2
      go_wp2_with fail
      refine (MK.out _).mono ?_
      rintro e w3 ⟨rfl, hb3⟩
      have rr3 := RR.out.all hb3
      have hw3 := hw2.trans (hb3.mono hw2.size)
      clear RR hw2 hb3 c0 c1 c2 c3
      obtain ⟨c0, c1, f0, f1, hz⟩ := rr3
      go_wp2
      exact bodyPost_ret (v := .tuple #[rat x y, .int .i64 z]) (by simp [results, Tryd.results20, go_sem, c0, c1, hz]) rfl ⟨rfl, by repeat' (first | exact hw3 | refine Below.setCell ?_ (by simp; try omega) _ | refine Below.alloc ?_ (by simp; try omega) _)⟩
    · obtain ⟨e1, e2, e3⟩ := Fr.sum_not (an := an) (ad := ad) (bn := bn) (bd := bd) (by simp [Fr.both, hA, hB])
      rw [e1, e2, e3]
      clear e1 e2 e3
      have hB' : Fr.ok bn bd = false := by simpa using hB
      clear hB
      go_enter Tryd.func20, Tryd.ntmps20
      go_wp2_with fail
      refine (valid_any an ad _ a1 a2 a3 a4).mono ?_
      rintro e w1 ⟨rfl, hb1⟩
      obtain ⟨ra, rb, rr, hw0⟩ := HR.out
      have ra1 := ra.all hb1
      have rb1 := rb.all hb1
      have rr1 := rr.all hb1
      have hw1 := hw0.trans (hb1.mono hw0.size)
      clear HR ra rb rr hw0 hb1
      have RB := Lib.hid rb1
      obtain ⟨c0, c1, _, _, hz⟩ := rb1
      go_wp2_with fail
      refine (valid_any bn bd _ b1 b2 b3 b4).mono ?_
      rintro e w2 ⟨rfl, hb2⟩
      have ra2 := ra1.all hb2
      have rb2 := RB.out.all hb2
      have rr2 := rr1.all hb2
      have hw2 := hw1.trans (hb2.mono hw1.size)
      clear ra1 rr1 hw1 hb2 c0 c1 hz RB
      clear ra2 rb2
      obtain ⟨c0, c1, f0, f1, hz⟩ := rr2
      go_wp2
      exact bodyPost_ret (v := .tuple #[rat 0 0, .int .i64 1]) (by simp [results, Tryd.results20, go_sem, c0, c1, hz]) rfl ⟨rfl, by repeat' (first | exact hw2 | refine Below.setCell ?_ (by simp; try omega) _ | refine Below.alloc ?_ (by simp; try omega) _)⟩
  · obtain ⟨e1, e2, e3⟩ := Fr.sum_not (an := an) (ad := ad) (bn := bn) (bd := bd) (by simp [Fr.both, hA])
    rw [e1, e2, e3]
    clear e1 e2 e3
    have hA' : Fr.ok an ad = false := by simpa using hA
    clear hA
    go_enter Tryd.func20, Tryd.ntmps20
    go_wp2_with fail
    refine (valid_any an ad _ a1 a2 a3 a4).mono ?_
    rintro e w1 ⟨rfl, hb1⟩
    obtain ⟨ra, rb, rr, hw0⟩ := HR.out
    have ra1 := ra.all hb1
    have rb1 := rb.all hb1
    have rr1 := rr.all hb1
    have hw1 := hw0.trans (hb1.mono hw0.size)
    clear HR ra rb rr hw0 hb1
    clear ra1 rb1
    obtain ⟨c0, c1, f0, f1, hz⟩ := rr1
    go_wp2
    exact bodyPost_ret (v := .tuple #[rat 0 0, .int .i64 1]) (by simp [results, Tryd.results20, go_sem, c0, c1, hz]) rfl ⟨rfl, by repeat' (first | exact hw1 | refine Below.setCell ?_ (by simp; try omega) _ | refine Below.alloc ?_ (by simp; try omega) _)⟩

set_option maxRecDepth 20000 in
theorem ref_sum_plus (an ad bn bd : Int) (w : World) (a1 : -9223372036854775808 ≤ an) (a2 : an ≤ 9223372036854775807) (a3 : -9223372036854775808 ≤ ad) (a4 : ad ≤ 9223372036854775807)
    (b1 : -9223372036854775808 ≤ bn) (b2 : bn ≤ 9223372036854775807) (b3 : -9223372036854775808 ≤ bd) (b4 : bd ≤ 9223372036854775807) :
    Calls Tryd.prog 59 #[rat an ad, rat bn bd, .int .i64 1] w fun e w' => e = .returned (.tuple #[rat (Fr.sumN an ad bn bd) (Fr.sumD an ad bn bd), .int .i64 (Fr.sumE an ad bn bd)]) ∧ Below w.heap.size w w' := by
  obtain ⟨ra, rb, rr⟩ := three w an ad bn bd 0 0
  have hw0 := below3 w (.cells #[.int .i64 an, .int .i64 ad] 23) (.cells #[.int .i64 bn, .int .i64 bd] 23) (.cells #[.int .i64 0, .int .i64 0] 23)
  have HR := Lib.hid (And.intro ra (And.intro rb (And.intro rr hw0)))
  clear ra rb rr hw0
  by_cases hA : Fr.ok an ad = true
  · by_cases hB : Fr.ok bn bd = true
    · obtain ⟨e1, e2, e3⟩ := Fr.sum_both (an := an) (ad := ad) (bn := bn) (bd := bd) (by simp [Fr.both, hA, hB])
      rw [e1, e2, e3]
      clear e1 e2 e3
      obtain ⟨v1, v2, v3, v4, _⟩ := Fr.ok_iff.1 hA
      obtain ⟨u1, u2, u3, u4, _⟩ := Fr.ok_iff.1 hB
      obtain ⟨p1, p2⟩ := Fr.mul_small v3 v4 (by omega) u2
      obtain ⟨p3, p4⟩ := Fr.mul_small u3 u4 (by omega) v2
      obtain ⟨p5, p6⟩ := Fr.den_small v1 v2 u1 u2
      have MK := Lib.hid (fun w => ref_make_any (an * bd + bn * ad) (ad * bd) w (by omega) (by omega) (by omega) (by omega))
      generalize Fr.nu (an * bd + bn * ad) (ad * bd) = x at *
      generalize Fr.de (an * bd + bn * ad) (ad * bd) = y at *
      generalize Fr.er (an * bd + bn * ad) (ad * bd) = z at *
      go_enter Tryd.func59, Tryd.ntmps59
      go_wp2_with fail
      refine (ref_valid_any an ad _ a1 a2 a3 a4).mono ?_
      rintro e w1 ⟨rfl, hb1⟩
      obtain ⟨ra, rb, rr, hw0⟩ := HR.out
      have ra1 := ra.all hb1
      have rb1 := rb.all hb1
      have rr1 := rr.all hb1
      have hw1 := hw0.trans (hb1.mono hw0.size)
      clear HR ra rb rr hw0 hb1
      have RB := Lib.hid rb1
      obtain ⟨c0, c1, _, _, hz⟩ := rb1
      go_wp2_with fail
      refine (ref_valid_any bn bd _ b1 b2 b3 b4).mono ?_
      rintro e w2 ⟨rfl, hb2⟩
      have ra2 := ra1.all hb2
      have rb2 := RB.out.all hb2
      have rr2 := rr1.all hb2
      have hw2 := hw1.trans (hb2.mono hw1.size)
      clear ra1 rr1 hw1 hb2 c0 c1 hz RB
      have RR := Lib.hid rr2
      clear rr2
      obtain ⟨c0, c1, _, _, _⟩ := ra2
      obtain ⟨c2, c3, _, _, _⟩ := rb2
      go_wp2_with fail
      refine (MK.out _).mono ?_
      rintro e w3 ⟨rfl, hb3⟩
      have rr3 := RR.out.all hb3
      have hw3 := hw2.trans (hb3.mono hw2.size)
      clear RR hw2 hb3 c0 c1 c2 c3
      obtain ⟨c0, c1, f0, f1, hz⟩ := rr3
      go_wp2
      exact bodyPost_ret (v := .tuple #[rat x y, .int .i64 z]) (by simp [results, Tryd.results59, go_sem, c0, c1, hz]) rfl ⟨rfl, by repeat' (first | exact hw3 | refine Below.setCell ?_ (by simp; try omega) _ | refine Below.alloc ?_ (by simp; try omega) _)⟩
    · obtain ⟨e1, e2, e3⟩ := Fr.sum_not (an := an) (ad := ad) (bn := bn) (bd := bd) (by simp [Fr.both, hA, hB])
      rw [e1, e2, e3]
      clear e1 e2 e3
      have hB' : Fr.ok bn bd = false := by simpa using hB
      clear hB
      go_enter Tryd.func59, Tryd.ntmps59
      go_wp2_with fail
      refine (ref_valid_any an ad _ a1 a2 a3 a4).mono ?_
      rintro e w1 ⟨rfl, hb1⟩
      obtain ⟨ra, rb, rr, hw0⟩ := HR.out
      have ra1 := ra.all hb1
      have rb1 := rb.all hb1
      have rr1 := rr.all hb1
      have hw1 := hw0.trans (hb1.mono hw0.size)
      clear HR ra rb rr hw0 hb1
      have RB := Lib.hid rb1
      obtain ⟨c0, c1, _, _, hz⟩ := rb1
      go_wp2_with fail
      refine (ref_valid_any bn bd _ b1 b2 b3 b4).mono ?_
      rintro e w2 ⟨rfl, hb2⟩
      have ra2 := ra1.all hb2
      have rb2 := RB.out.all hb2
      have rr2 := rr1.all hb2
      have hw2 := hw1.trans (hb2.mono hw1.size)
      clear ra1 rr1 hw1 hb2 c0 c1 hz RB
      clear ra2 rb2
      obtain ⟨c0, c1, f0, f1, hz⟩ := rr2
      go_wp2
      exact bodyPost_ret (v := .tuple #[rat 0 0, .int .i64 1]) (by simp [results, Tryd.results59, go_sem, c0, c1, hz]) rfl ⟨rfl, by repeat' (first | exact hw2 | refine Below.setCell ?_ (by simp; try omega) _ | refine Below.alloc ?_ (by simp; try omega) _)⟩
  · obtain ⟨e1, e2, e3⟩ := Fr.sum_not (an := an) (ad := ad) (bn := bn) (bd := bd) (by simp [Fr.both, hA])
    rw [e1, e2, e3]
    clear e1 e2 e3
    have hA' : Fr.ok an ad = false := by simpa using hA
    clear hA
    go_enter Tryd.func59, Tryd.ntmps59
    go_wp2_with fail
    refine (ref_valid_any an ad _ a1 a2 a3 a4).mono ?_
    rintro e w1 ⟨rfl, hb1⟩
    obtain ⟨ra, rb, rr, hw0⟩ := HR.out
    have ra1 := ra.all hb1
    have rb1 := rb.all hb1
    have rr1 := rr.all hb1
    have hw1 := hw0.trans (hb1.mono hw0.size)
    clear HR ra rb rr hw0 hb1
    clear ra1 rb1
    obtain ⟨c0, c1, f0, f1, hz⟩ := rr1
    go_wp2
    exact bodyPost_ret (v := .tuple #[rat 0 0, .int .i64 1]) (by simp [results, Tryd.results59, go_sem, c0, c1, hz]) rfl ⟨rfl, by repeat' (first | exact hw1 | refine Below.setCell ?_ (by simp; try omega) _ | refine Below.alloc ?_ (by simp; try omega) _)⟩

set_option maxRecDepth 20000 in
theorem ref_sum_minus (an ad bn bd : Int) (w : World) (a1 : -9223372036854775808 ≤ an) (a2 : an ≤ 9223372036854775807) (a3 : -9223372036854775808 ≤ ad) (a4 : ad ≤ 9223372036854775807)
    (b1 : -9223372036854775808 ≤ bn) (b2 : bn ≤ 9223372036854775807) (b3 : -9223372036854775808 ≤ bd) (b4 : bd ≤ 9223372036854775807) :
    Calls Tryd.prog 59 #[rat an ad, rat bn bd, .int .i64 (-1)] w fun e w' => e = .returned (.tuple #[rat (Fr.difN an ad bn bd) (Fr.difD an ad bn bd), .int .i64 (Fr.difE an ad bn bd)]) ∧ Below w.heap.size w w' := by
  obtain ⟨ra, rb, rr⟩ := three w an ad bn bd 0 0
  have hw0 := below3 w (.cells #[.int .i64 an, .int .i64 ad] 23) (.cells #[.int .i64 bn, .int .i64 bd] 23) (.cells #[.int .i64 0, .int .i64 0] 23)
  have HR := Lib.hid (And.intro ra (And.intro rb (And.intro rr hw0)))
  clear ra rb rr hw0
  by_cases hA : Fr.ok an ad = true
  · by_cases hB : Fr.ok bn bd = true
    · obtain ⟨e1, e2, e3⟩ := Fr.dif_both (an := an) (ad := ad) (bn := bn) (bd := bd) (by simp [Fr.both, hA, hB])
      rw [e1, e2, e3]
      clear e1 e2 e3
      obtain ⟨v1, v2, v3, v4, _⟩ := Fr.ok_iff.1 hA
      obtain ⟨u1, u2, u3, u4, _⟩ := Fr.ok_iff.1 hB
      obtain ⟨p1, p2⟩ := Fr.mul_small v3 v4 (by omega) u2
      obtain ⟨p3, p4⟩ := Fr.mul_small u3 u4 (by omega) v2
      obtain ⟨p5, p6⟩ := Fr.den_small v1 v2 u1 u2
      have MK := Lib.hid (fun w => ref_make_any (an * bd - bn * ad) (ad * bd) w (by omega) (by omega) (by omega) (by omega))
      have q1 : -bn * ad = -(bn * ad) := by grind
      generalize Fr.nu (an * bd - bn * ad) (ad * bd) = x at *
      generalize Fr.de (an * bd - bn * ad) (ad * bd) = y at *
      generalize Fr.er (an * bd - bn * ad) (ad * bd) = z at *
      go_enter Tryd.func59, Tryd.ntmps59
      go_wp2_with fail
      refine (ref_valid_any an ad _ a1 a2 a3 a4).mono ?_
      rintro e w1 ⟨rfl, hb1⟩
      obtain ⟨ra, rb, rr, hw0⟩ := HR.out
      have ra1 := ra.all hb1
      have rb1 := rb.all hb1
      have rr1 := rr.all hb1
      have hw1 := hw0.trans (hb1.mono hw0.size)
      clear HR ra rb rr hw0 hb1
      have RB := Lib.hid rb1
      obtain ⟨c0, c1, _, _, hz⟩ := rb1
      go_wp2_with fail
      refine (ref_valid_any bn bd _ b1 b2 b3 b4).mono ?_
      rintro e w2 ⟨rfl, hb2⟩
      have ra2 := ra1.all hb2
      have rb2 := RB.out.all hb2
      have rr2 := rr1.all hb2
      have hw2 := hw1.trans (hb2.mono hw1.size)
      clear ra1 rr1 hw1 hb2 c0 c1 hz RB
      have RR := Lib.hid rr2
      clear rr2
      obtain ⟨c0, c1, _, _, _⟩ := ra2
      obtain ⟨c2, c3, _, _, _⟩ := rb2
      go_wp2_with fail
      rw [show an * bd + -(bn * ad) = an * bd - bn * ad from by omega]
      refine (MK.out _).mono ?_
      rintro e w3 ⟨rfl, hb3⟩
      have rr3 := RR.out.all hb3
      have hw3 := hw2.trans (hb3.mono hw2.size)
      clear RR hw2 hb3 c0 c1 c2 c3
      obtain ⟨c0, c1, f0, f1, hz⟩ := rr3
      go_wp2
      exact bodyPost_ret (v := .tuple #[rat x y, .int .i64 z]) (by simp [results, Tryd.results59, go_sem, c0, c1, hz]) rfl ⟨rfl, by repeat' (first | exact hw3 | refine Below.setCell ?_ (by simp; try omega) _ | refine Below.alloc ?_ (by simp; try omega) _)⟩
    · obtain ⟨e1, e2, e3⟩ := Fr.dif_not (an := an) (ad := ad) (bn := bn) (bd := bd) (by simp [Fr.both, hA, hB])
      rw [e1, e2, e3]
      clear e1 e2 e3
      have hB' : Fr.ok bn bd = false := by simpa using hB
      clear hB
      go_enter Tryd.func59, Tryd.ntmps59
      go_wp2_with fail
      refine (ref_valid_any an ad _ a1 a2 a3 a4).mono ?_
      rintro e w1 ⟨rfl, hb1⟩
      obtain ⟨ra, rb, rr, hw0⟩ := HR.out
      have ra1 := ra.all hb1
      have rb1 := rb.all hb1
      have rr1 := rr.all hb1
      have hw1 := hw0.trans (hb1.mono hw0.size)
      clear HR ra rb rr hw0 hb1
      have RB := Lib.hid rb1
      obtain ⟨c0, c1, _, _, hz⟩ := rb1
      go_wp2_with fail
      refine (ref_valid_any bn bd _ b1 b2 b3 b4).mono ?_
      rintro e w2 ⟨rfl, hb2⟩
      have ra2 := ra1.all hb2
      have rb2 := RB.out.all hb2
      have rr2 := rr1.all hb2
      have hw2 := hw1.trans (hb2.mono hw1.size)
      clear ra1 rr1 hw1 hb2 c0 c1 hz RB
      clear ra2 rb2
      obtain ⟨c0, c1, f0, f1, hz⟩ := rr2
      go_wp2
      exact bodyPost_ret (v := .tuple #[rat 0 0, .int .i64 1]) (by simp [results, Tryd.results59, go_sem, c0, c1, hz]) rfl ⟨rfl, by repeat' (first | exact hw2 | refine Below.setCell ?_ (by simp; try omega) _ | refine Below.alloc ?_ (by simp; try omega) _)⟩
  · obtain ⟨e1, e2, e3⟩ := Fr.dif_not (an := an) (ad := ad) (bn := bn) (bd := bd) (by simp [Fr.both, hA])
    rw [e1, e2, e3]
    clear e1 e2 e3
    have hA' : Fr.ok an ad = false := by simpa using hA
    clear hA
    go_enter Tryd.func59, Tryd.ntmps59
    go_wp2_with fail
    refine (ref_valid_any an ad _ a1 a2 a3 a4).mono ?_
    rintro e w1 ⟨rfl, hb1⟩
    obtain ⟨ra, rb, rr, hw0⟩ := HR.out
    have ra1 := ra.all hb1
    have rb1 := rb.all hb1
    have rr1 := rr.all hb1
    have hw1 := hw0.trans (hb1.mono hw0.size)
    clear HR ra rb rr hw0 hb1
    clear ra1 rb1
    obtain ⟨c0, c1, f0, f1, hz⟩ := rr1
    go_wp2
    exact bodyPost_ret (v := .tuple #[rat 0 0, .int .i64 1]) (by simp [results, Tryd.results59, go_sem, c0, c1, hz]) rfl ⟨rfl, by repeat' (first | exact hw1 | refine Below.setCell ?_ (by simp; try omega) _ | refine Below.alloc ?_ (by simp; try omega) _)⟩

theorem ref_add_any (an ad bn bd : Int) (w : World) (a1 : -9223372036854775808 ≤ an) (a2 : an ≤ 9223372036854775807) (a3 : -9223372036854775808 ≤ ad) (a4 : ad ≤ 9223372036854775807)
    (b1 : -9223372036854775808 ≤ bn) (b2 : bn ≤ 9223372036854775807) (b3 : -9223372036854775808 ≤ bd) (b4 : bd ≤ 9223372036854775807) :
    Calls Tryd.prog 21 #[rat an ad, rat bn bd] w fun e w' => e = .returned (.tuple #[rat (Fr.sumN an ad bn bd) (Fr.sumD an ad bn bd), .int .i64 (Fr.sumE an ad bn bd)]) ∧ Below w.heap.size w w' := by
  obtain ⟨ra, rb, rr⟩ := three w an ad bn bd 0 0
  have hw0 := below3 w (.cells #[.int .i64 an, .int .i64 ad] 23) (.cells #[.int .i64 bn, .int .i64 bd] 23) (.cells #[.int .i64 0, .int .i64 0] 23)
  have HR := Lib.hid (And.intro ra (And.intro rb (And.intro rr hw0)))
  clear ra rb rr hw0
  have MK := Lib.hid (fun w => ref_sum_plus an ad bn bd w a1 a2 a3 a4 b1 b2 b3 b4)
  generalize Fr.sumN an ad bn bd = x at *
  generalize Fr.sumD an ad bn bd = y at *
  generalize Fr.sumE an ad bn bd = z at *
  go_enter Tryd.func21, Tryd.ntmps21
  go_wp2_with fail
  refine (MK.out _).mono ?_
  rintro e w1 ⟨rfl, hb1⟩
  obtain ⟨ra, rb, rr, hw0⟩ := HR.out
  have rr1 := rr.all hb1
  have hw1 := hw0.trans (hb1.mono hw0.size)
  clear HR ra rb rr hw0 hb1
  obtain ⟨c0, c1, f0, f1, hz⟩ := rr1
  go_wp2
  exact bodyPost_ret (v := .tuple #[rat x y, .int .i64 z]) (by simp [results, Tryd.results21, go_sem, c0, c1, hz]) rfl ⟨rfl, by repeat' (first | exact hw1 | refine Below.setCell ?_ (by simp; try omega) _ | refine Below.alloc ?_ (by simp; try omega) _)⟩

theorem ref_sub_any (an ad bn bd : Int) (w : World) (a1 : -9223372036854775808 ≤ an) (a2 : an ≤ 9223372036854775807) (a3 : -9223372036854775808 ≤ ad) (a4 : ad ≤ 9223372036854775807)
    (b1 : -9223372036854775808 ≤ bn) (b2 : bn ≤ 9223372036854775807) (b3 : -9223372036854775808 ≤ bd) (b4 : bd ≤ 9223372036854775807) :
    Calls Tryd.prog 23 #[rat an ad, rat bn bd] w fun e w' => e = .returned (.tuple #[rat (Fr.difN an ad bn bd) (Fr.difD an ad bn bd), .int .i64 (Fr.difE an ad bn bd)]) ∧ Below w.heap.size w w' := by
  obtain ⟨ra, rb, rr⟩ := three w an ad bn bd 0 0
  have hw0 := below3 w (.cells #[.int .i64 an, .int .i64 ad] 23) (.cells #[.int .i64 bn, .int .i64 bd] 23) (.cells #[.int .i64 0, .int .i64 0] 23)
  have HR := Lib.hid (And.intro ra (And.intro rb (And.intro rr hw0)))
  clear ra rb rr hw0
  have MK := Lib.hid (fun w => ref_sum_minus an ad bn bd w a1 a2 a3 a4 b1 b2 b3 b4)
  generalize Fr.difN an ad bn bd = x at *
  generalize Fr.difD an ad bn bd = y at *
  generalize Fr.difE an ad bn bd = z at *
  go_enter Tryd.func23, Tryd.ntmps23
  go_wp2_with fail
  refine (MK.out _).mono ?_
  rintro e w1 ⟨rfl, hb1⟩
  obtain ⟨ra, rb, rr, hw0⟩ := HR.out
  have rr1 := rr.all hb1
  have hw1 := hw0.trans (hb1.mono hw0.size)
  clear HR ra rb rr hw0 hb1
  obtain ⟨c0, c1, f0, f1, hz⟩ := rr1
  go_wp2
  exact bodyPost_ret (v := .tuple #[rat x y, .int .i64 z]) (by simp [results, Tryd.results23, go_sem, c0, c1, hz]) rfl ⟨rfl, by repeat' (first | exact hw1 | refine Below.setCell ?_ (by simp; try omega) _ | refine Below.alloc ?_ (by simp; try omega) _)⟩

theorem sub_any (an ad bn bd : Int) (w : World) (a1 : -9223372036854775808 ≤ an) (a2 : an ≤ 9223372036854775807) (a3 : -9223372036854775808 ≤ ad) (a4 : ad ≤ 9223372036854775807)
    (b1 : -9223372036854775808 ≤ bn) (b2 : bn ≤ 9223372036854775807) (b3 : -9223372036854775808 ≤ bd) (b4 : bd ≤ 9223372036854775807) :
    Calls Tryd.prog 22 #[rat an ad, rat bn bd] w fun e w' => e = .returned (.tuple #[rat (Fr.difN an ad bn bd) (Fr.difD an ad bn bd), .int .i64 (Fr.difE an ad bn bd)]) ∧ Below w.heap.size w w' := by
  obtain ⟨ra, rb, rr⟩ := three w an ad bn bd 0 0
  have hw0 := below3 w (.cells #[.int .i64 an, .int .i64 ad] 23) (.cells #[.int .i64 bn, .int .i64 bd] 23) (.cells #[.int .i64 0, .int .i64 0] 23)
  have HR := Lib.hid (And.intro ra (And.intro rb (And.intro rr hw0)))
  clear ra rb rr hw0
  have MK := Lib.hid (fun w => add_any an ad (wrap64 (-bn)) bd w a1 a2 a3 a4 (by unfold wrap64; omega) (by unfold wrap64; omega) b3 b4)
  obtain ⟨s1, s2, s3⟩ := Fr.dif_sum an ad bn bd b1 b2
  rw [s1, s2, s3] at MK
  clear s1 s2 s3
  generalize Fr.difN an ad bn bd = x at *
  generalize Fr.difD an ad bn bd = y at *
  generalize Fr.difE an ad bn bd = z at *
  go_enter Tryd.func22, Tryd.ntmps22
  go_wp2_with fail
  refine (MK.out _).mono ?_
  rintro e w1 ⟨rfl, hb1⟩
  obtain ⟨ra, rb, rr, hw0⟩ := HR.out
  have rr1 := rr.all hb1
  have hw1 := hw0.trans (hb1.mono hw0.size)
  clear HR ra rb rr hw0 hb1
  obtain ⟨c0, c1, f0, f1, hz⟩ := rr1
  go_wp2
  exact bodyPost_ret (v := .tuple #[rat x y, .int .i64 z]) (by simp [results, Tryd.results22, go_sem, c0, c1, hz]) rfl ⟨rfl, by repeat' (first | exact hw1 | refine Below.setCell ?_ (by simp; try omega) _ | refine Below.alloc ?_ (by simp; try omega) _)⟩
end Go.Proofs.YtfgignbmnfeikaaDoor
