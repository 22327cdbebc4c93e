/- NumProducts and NumFields return true, whatever the fractions. -/
import Derived.Test.YtfgignbmnfeikaaDoorMul2
import Derived.Test.YtfgignbmnfeikaaDoorSumsWalk
namespace Go.Proofs.YtfgignbmnfeikaaDoor
open Go.RowKit

namespace Fr
theorem mul_cases (an ad bn bd : Int) : mulE an ad bn bd = 0 ∨ mulE an ad bn bd = 1 ∨ mulE an ad bn bd = 4 := by
  unfold mulE; split
  · exact er_cases _ _
  · exact .inr (.inl rfl)
theorem mul_bounds (an ad bn bd : Int) : (-1099511627776 ≤ mulN an ad bn bd ∧ mulN an ad bn bd ≤ 1099511627776) ∧ 0 ≤ mulD an ad bn bd ∧ mulD an ad bn bd ≤ 1048576 := by
  unfold mulN mulD; split
  · exact ⟨nu_bound _ _, de_bound _ _⟩
  · decide
/-- What a product that is made is. -/
theorem mul_ok {an ad bn bd : Int} (h : mulE an ad bn bd = 0) : both an ad bn bd = true ∧ ok (mulN an ad bn bd) (mulD an ad bn bd) = true ∧ mulN an ad bn bd * (ad * bd) = (an * bn) * mulD an ad bn bd := by
  cases hb : both an ad bn bd with
  | false => rw [(mul_not hb).2.2] at h; omega
  | true =>
    obtain ⟨e1, e2, e3⟩ := mul_both hb
    rw [e3] at h
    rw [e1, e2]
    exact ⟨rfl, ok_mk h, val_mk h⟩
theorem mul_ne {a c : Int} (ha : a ≠ 0) (hc : c ≠ 0) : a * c ≠ 0 := by
  intro h
  rcases Int.mul_eq_zero.1 h with h | h
  · exact ha h
  · exact hc h
/-- A quotient undoes a product. -/
theorem mul_back {an ad bn bd : Int} (h : mulE an ad bn bd = 0) (hN : bn ≠ 0) : divE (mulN an ad bn bd) (mulD an ad bn bd) bn bd = 0 ∧ divN (mulN an ad bn bd) (mulD an ad bn bd) bn bd = an ∧ divD (mulN an ad bn bd) (mulD an ad bn bd) bn bd = ad := by
  obtain ⟨hb, hx, hv⟩ := mul_ok h
  obtain ⟨ha, hbb⟩ := both_parts hb
  generalize mulN an ad bn bd = x at *
  generalize mulD an ad bn bd = y at *
  have hxb : apt x y bn bd = true := by simp [apt, both, hx, hbb, hN]
  obtain ⟨e1, e2, e3⟩ := div_apt hxb
  rw [e1, e2, e3]
  have hy := (ok_iff.1 hx).1
  have hd := (ok_iff.1 hbb).1
  obtain ⟨r0, r1, r2⟩ := mk_of (n := x * bd) (d := y * bn) ha (mul_ne (by omega) hN) (by grind)
  exact ⟨r0, r1, r2⟩
/-- Products are distributed over sums wherever all of them are made. -/
theorem fields {an ad bn bd cn cd : Int} (h1 : sumE bn bd cn cd = 0) (h2 : mulE an ad (sumN bn bd cn cd) (sumD bn bd cn cd) = 0) (h3 : mulE an ad bn bd = 0) (h4 : mulE an ad cn cd = 0) :
    sumE (mulN an ad bn bd) (mulD an ad bn bd) (mulN an ad cn cd) (mulD an ad cn cd) = 0 ∧
    sumN (mulN an ad bn bd) (mulD an ad bn bd) (mulN an ad cn cd) (mulD an ad cn cd) = mulN an ad (sumN bn bd cn cd) (sumD bn bd cn cd) ∧
    sumD (mulN an ad bn bd) (mulD an ad bn bd) (mulN an ad cn cd) (mulD an ad cn cd) = mulD an ad (sumN bn bd cn cd) (sumD bn bd cn cd) := by
  obtain ⟨b1, o1, v1⟩ := sum_ok h1
  obtain ⟨b2, o2, v2⟩ := mul_ok h2
  obtain ⟨b3, o3, v3⟩ := mul_ok h3
  obtain ⟨b4, o4, v4⟩ := mul_ok h4
  obtain ⟨oa, ob⟩ := both_parts b3
  obtain ⟨_, oc⟩ := both_parts b4
  generalize mulN an ad (sumN bn bd cn cd) (sumD bn bd cn cd) = x at *
  generalize mulD an ad (sumN bn bd cn cd) (sumD bn bd cn cd) = x' at *
  generalize sumN bn bd cn cd = s at *
  generalize sumD bn bd cn cd = s' at *
  generalize mulN an ad bn bd = y at *
  generalize mulD an ad bn bd = y' at *
  generalize mulN an ad cn cd = z at *
  generalize mulD an ad cn cd = z' at *
  obtain ⟨e1, e2, e3⟩ := sum_both (an := y) (ad := y') (bn := z) (bd := z') (by simp [both, o3, o4])
  rw [e1, e2, e3]
  have k1 := (ok_iff.1 oa).1
  have k2 := (ok_iff.1 ob).1
  have k3 := (ok_iff.1 oc).1
  have k4 := (ok_iff.1 o1).1
  have k5 := (ok_iff.1 o3).1
  have k6 := (ok_iff.1 o4).1
  -- x/x' = (an/ad)*(s/s'), s/s' = bn/bd + cn/cd, y/y' = an*bn/(ad*bd), z/z' = an*cn/(ad*cd)
  have key : x * (y' * z') = (y * z' + z * y') * x' := by
    have hk : (ad * s') * (ad * bd) * (ad * cd) * (bd * cd) ≠ 0 := by
      refine mul_ne (mul_ne (mul_ne ?_ ?_) ?_) ?_ <;> refine mul_ne ?_ ?_ <;> omega
    apply Int.eq_of_mul_eq_mul_right hk
    grind
  obtain ⟨r0, r1, r2⟩ := mk_of (n := y * z' + z * y') (d := y' * z') o2 (mul_ne (by omega) (by omega)) key
  exact ⟨r0, r1, r2⟩
end Fr

set_option maxRecDepth 20000 in
set_option maxHeartbeats 1000000 in
theorem products_walk (an ad bn bd : Int) (w : World) (a1 : -9223372036854775808 ≤ an) (a2 : an ≤ 9223372036854775807) (a3 : -9223372036854775808 ≤ ad) (a4 : ad ≤ 9223372036854775807)
    (b1 : -9223372036854775808 ≤ bn) (b2 : bn ≤ 9223372036854775807) (b3 : -9223372036854775808 ≤ bd) (b4 : bd ≤ 9223372036854775807) :
    Calls Tryd.prog 5 #[rat an ad, rat bn bd] w fun e w' => e = .returned (.bool true) ∧ Below w.heap.size w w' := by
  have HR := Lib.hid (two w an ad bn bd)
  have KN := Lib.hid known_any
  obtain ⟨⟨x1, x2⟩, y1, y2⟩ := Fr.mul_bounds an ad bn bd
  have AD := Lib.hid (fun w => mul_any an ad bn bd w a1 a2 a3 a4 b1 b2 b3 b4)
  have RA := Lib.hid (fun w => ref_mul_any an ad bn bd w a1 a2 a3 a4 b1 b2 b3 b4)
  have SU := Lib.hid (fun w => div_any an ad bn bd w a1 a2 a3 a4 b1 b2 b3 b4)
  have RS := Lib.hid (fun w => ref_div_any an ad bn bd w a1 a2 a3 a4 b1 b2 b3 b4)
  have BK := Lib.hid (fun w => div_any (Fr.mulN an ad bn bd) (Fr.mulD an ad bn bd) bn bd w (by omega) (by omega) (by omega) (by omega) b1 b2 b3 b4)
  have hz := Fr.mul_cases an ad bn bd
  have hk : Fr.mulE an ad bn bd = 0 → bn ≠ 0 → _ := Fr.mul_back
  generalize Fr.divN (Fr.mulN an ad bn bd) (Fr.mulD an ad bn bd) bn bd = P at *
  generalize Fr.divD (Fr.mulN an ad bn bd) (Fr.mulD an ad bn bd) bn bd = Q at *
  generalize Fr.divE (Fr.mulN an ad bn bd) (Fr.mulD an ad bn bd) bn bd = R at *
  generalize Fr.mulN an ad bn bd = X at *
  generalize Fr.mulD an ad bn bd = Y at *
  generalize Fr.mulE an ad bn bd = Z at *
  generalize Fr.divN an ad bn bd = U at *
  generalize Fr.divD an ad bn bd = V at *
  generalize Fr.divE an ad bn bd = T at *
  rcases hz with rfl | rfl | rfl
  · by_cases hN : bn = 0
    · have hN' : (bn == 0) = true := by simpa using hN
      clear hk hN
      go_enter Tryd.func5, Tryd.ntmps5
      go_wp2_with fail
      refine (AD.out _).mono ?_
      rintro e w1 ⟨rfl, hb1⟩
      obtain ⟨i_a, i_b, hw0⟩ := HR.out
      clear HR
      have r_a := i_a.all hb1
      have r_b := i_b.all hb1
      have hw1 := hw0.trans (hb1.mono hw0.size)
      clear hw0 hb1 i_a i_b
      obtain ⟨c0a, c1a, _, _, _⟩ := (r_a.alloc (.cells #[.int .i64 X, .int .i64 Y] 23))
      obtain ⟨c0b, c1b, _, _, _⟩ := (r_b.alloc (.cells #[.int .i64 X, .int .i64 Y] 23))
      go_wp2_with fail
      refine (RA.out _).mono ?_
      rintro e w2 ⟨rfl, hb2⟩
      have r_a := (r_a.alloc (.cells #[.int .i64 X, .int .i64 Y] 23)).all hb2
      have r_b := (r_b.alloc (.cells #[.int .i64 X, .int .i64 Y] 23)).all hb2
      have r_x := (RatAt.fresh w1 X Y 23).all hb2
      have hw2 := (hw1.alloc hw1.size (.cells #[.int .i64 X, .int .i64 Y] 23)).trans (hb2.mono (hw1.alloc hw1.size (.cells #[.int .i64 X, .int .i64 Y] 23)).size)
      clear hb2 hw1
      clear c0a c1a c0b c1b
      obtain ⟨c0a, c1a, _, _, _⟩ := (r_a.alloc (.cells #[.int .i64 X, .int .i64 Y] 23))
      obtain ⟨c0b, c1b, _, _, _⟩ := (r_b.alloc (.cells #[.int .i64 X, .int .i64 Y] 23))
      go_wp2_with fail
      refine (SU.out _).mono ?_
      rintro e w3 ⟨rfl, hb3⟩
      have r_a := (r_a.alloc (.cells #[.int .i64 X, .int .i64 Y] 23)).all hb3
      have r_b := (r_b.alloc (.cells #[.int .i64 X, .int .i64 Y] 23)).all hb3
      have r_x := (r_x.alloc (.cells #[.int .i64 X, .int .i64 Y] 23)).all hb3
      have r_y := (RatAt.fresh w2 X Y 23).all hb3
      have hw3 := (hw2.alloc hw2.size (.cells #[.int .i64 X, .int .i64 Y] 23)).trans (hb3.mono (hw2.alloc hw2.size (.cells #[.int .i64 X, .int .i64 Y] 23)).size)
      clear hb3 hw2
      clear c0a c1a c0b c1b
      obtain ⟨c0a, c1a, _, _, _⟩ := (r_a.alloc (.cells #[.int .i64 U, .int .i64 V] 23))
      obtain ⟨c0b, c1b, _, _, _⟩ := (r_b.alloc (.cells #[.int .i64 U, .int .i64 V] 23))
      go_wp2_with fail
      refine (RS.out _).mono ?_
      rintro e w4 ⟨rfl, hb4⟩
      have r_a := (r_a.alloc (.cells #[.int .i64 U, .int .i64 V] 23)).all hb4
      have r_b := (r_b.alloc (.cells #[.int .i64 U, .int .i64 V] 23)).all hb4
      have r_x := (r_x.alloc (.cells #[.int .i64 U, .int .i64 V] 23)).all hb4
      have r_y := (r_y.alloc (.cells #[.int .i64 U, .int .i64 V] 23)).all hb4
      have r_u := (RatAt.fresh w3 U V 23).all hb4
      have hw4 := (hw3.alloc hw3.size (.cells #[.int .i64 U, .int .i64 V] 23)).trans (hb4.mono (hw3.alloc hw3.size (.cells #[.int .i64 U, .int .i64 V] 23)).size)
      clear hb4 hw3
      clear c0a c1a c0b c1b
      obtain ⟨c0x, c1x, _, _, _⟩ := (r_x.alloc (.cells #[.int .i64 U, .int .i64 V] 23))
      obtain ⟨c0y, c1y, _, _, _⟩ := (r_y.alloc (.cells #[.int .i64 U, .int .i64 V] 23))
      obtain ⟨c0u, c1u, _, _, _⟩ := (r_u.alloc (.cells #[.int .i64 U, .int .i64 V] 23))
      obtain ⟨c0v, c1v, _, _, _⟩ := (RatAt.fresh w4 U V 23)
      obtain ⟨c0b, c1b, _, _, _⟩ := (r_b.alloc (.cells #[.int .i64 U, .int .i64 V] 23))
      go_wp2_with fail
      refine (BK.out _).mono ?_
      rintro e w5 ⟨rfl, hb5⟩
      have r_a := (r_a.alloc (.cells #[.int .i64 U, .int .i64 V] 23)).all hb5
      have r_b := (r_b.alloc (.cells #[.int .i64 U, .int .i64 V] 23)).all hb5
      have hw5 := (hw4.alloc hw4.size (.cells #[.int .i64 U, .int .i64 V] 23)).trans (hb5.mono (hw4.alloc hw4.size (.cells #[.int .i64 U, .int .i64 V] 23)).size)
      clear hb5 hw4
      clear c0x c1x c0y c1y c0u c1u c0v c1v c0b c1b
      obtain ⟨c0back, c1back, _, _, _⟩ := (RatAt.fresh w5 P Q 23)
      obtain ⟨c0a, c1a, _, _, _⟩ := (r_a.alloc (.cells #[.int .i64 P, .int .i64 Q] 23))
      obtain ⟨c0b, c1b, _, _, _⟩ := (r_b.alloc (.cells #[.int .i64 P, .int .i64 Q] 23))
      go_wp2_with fail
      refine (KN.out _).mono ?_
      rintro e w6 ⟨rfl, hb6⟩
      have hw6 := (hw5.alloc hw5.size (.cells #[.int .i64 P, .int .i64 Q] 23)).trans (hb6.mono (hw5.alloc hw5.size (.cells #[.int .i64 P, .int .i64 Q] 23)).size)
      go_wp2
      go_ret
      exact ⟨rfl, hw6⟩
    · obtain ⟨rfl, rfl, rfl⟩ := hk rfl hN
      have hN' : (bn == 0) = false := by simpa using hN
      clear hk
      go_enter Tryd.func5, Tryd.ntmps5
      go_wp2_with fail
      refine (AD.out _).mono ?_
      rintro e w1 ⟨rfl, hb1⟩
      obtain ⟨i_a, i_b, hw0⟩ := HR.out
      clear HR
      have r_a := i_a.all hb1
      have r_b := i_b.all hb1
      have hw1 := hw0.trans (hb1.mono hw0.size)
      clear hw0 hb1 i_a i_b
      obtain ⟨c0a, c1a, _, _, _⟩ := (r_a.alloc (.cells #[.int .i64 X, .int .i64 Y] 23))
      obtain ⟨c0b, c1b, _, _, _⟩ := (r_b.alloc (.cells #[.int .i64 X, .int .i64 Y] 23))
      go_wp2_with fail
      refine (RA.out _).mono ?_
      rintro e w2 ⟨rfl, hb2⟩
      have r_a := (r_a.alloc (.cells #[.int .i64 X, .int .i64 Y] 23)).all hb2
      have r_b := (r_b.alloc (.cells #[.int .i64 X, .int .i64 Y] 23)).all hb2
      have r_x := (RatAt.fresh w1 X Y 23).all hb2
      have hw2 := (hw1.alloc hw1.size (.cells #[.int .i64 X, .int .i64 Y] 23)).trans (hb2.mono (hw1.alloc hw1.size (.cells #[.int .i64 X, .int .i64 Y] 23)).size)
      clear hb2 hw1
      clear c0a c1a c0b c1b
      obtain ⟨c0a, c1a, _, _, _⟩ := (r_a.alloc (.cells #[.int .i64 X, .int .i64 Y] 23))
      obtain ⟨c0b, c1b, _, _, _⟩ := (r_b.alloc (.cells #[.int .i64 X, .int .i64 Y] 23))
      go_wp2_with fail
      refine (SU.out _).mono ?_
      rintro e w3 ⟨rfl, hb3⟩
      have r_a := (r_a.alloc (.cells #[.int .i64 X, .int .i64 Y] 23)).all hb3
      have r_b := (r_b.alloc (.cells #[.int .i64 X, .int .i64 Y] 23)).all hb3
      have r_x := (r_x.alloc (.cells #[.int .i64 X, .int .i64 Y] 23)).all hb3
      have r_y := (RatAt.fresh w2 X Y 23).all hb3
      have hw3 := (hw2.alloc hw2.size (.cells #[.int .i64 X, .int .i64 Y] 23)).trans (hb3.mono (hw2.alloc hw2.size (.cells #[.int .i64 X, .int .i64 Y] 23)).size)
      clear hb3 hw2
      clear c0a c1a c0b c1b
      obtain ⟨c0a, c1a, _, _, _⟩ := (r_a.alloc (.cells #[.int .i64 U, .int .i64 V] 23))
      obtain ⟨c0b, c1b, _, _, _⟩ := (r_b.alloc (.cells #[.int .i64 U, .int .i64 V] 23))
      go_wp2_with fail
      refine (RS.out _).mono ?_
      rintro e w4 ⟨rfl, hb4⟩
      have r_a := (r_a.alloc (.cells #[.int .i64 U, .int .i64 V] 23)).all hb4
      have r_b := (r_b.alloc (.cells #[.int .i64 U, .int .i64 V] 23)).all hb4
      have r_x := (r_x.alloc (.cells #[.int .i64 U, .int .i64 V] 23)).all hb4
      have r_y := (r_y.alloc (.cells #[.int .i64 U, .int .i64 V] 23)).all hb4
      have r_u := (RatAt.fresh w3 U V 23).all hb4
      have hw4 := (hw3.alloc hw3.size (.cells #[.int .i64 U, .int .i64 V] 23)).trans (hb4.mono (hw3.alloc hw3.size (.cells #[.int .i64 U, .int .i64 V] 23)).size)
      clear hb4 hw3
      clear c0a c1a c0b c1b
      obtain ⟨c0x, c1x, _, _, _⟩ := (r_x.alloc (.cells #[.int .i64 U, .int .i64 V] 23))
      obtain ⟨c0y, c1y, _, _, _⟩ := (r_y.alloc (.cells #[.int .i64 U, .int .i64 V] 23))
      obtain ⟨c0u, c1u, _, _, _⟩ := (r_u.alloc (.cells #[.int .i64 U, .int .i64 V] 23))
      obtain ⟨c0v, c1v, _, _, _⟩ := (RatAt.fresh w4 U V 23)
      obtain ⟨c0b, c1b, _, _, _⟩ := (r_b.alloc (.cells #[.int .i64 U, .int .i64 V] 23))
      go_wp2_with fail
      refine (BK.out _).mono ?_
      rintro e w5 ⟨rfl, hb5⟩
      have r_a := (r_a.alloc (.cells #[.int .i64 U, .int .i64 V] 23)).all hb5
      have r_b := (r_b.alloc (.cells #[.int .i64 U, .int .i64 V] 23)).all hb5
      have hw5 := (hw4.alloc hw4.size (.cells #[.int .i64 U, .int .i64 V] 23)).trans (hb5.mono (hw4.alloc hw4.size (.cells #[.int .i64 U, .int .i64 V] 23)).size)
      clear hb5 hw4
      clear c0x c1x c0y c1y c0u c1u c0v c1v c0b c1b
      obtain ⟨c0back, c1back, _, _, _⟩ := (RatAt.fresh w5 P Q 23)
      obtain ⟨c0a, c1a, _, _, _⟩ := (r_a.alloc (.cells #[.int .i64 P, .int .i64 Q] 23))
      obtain ⟨c0b, c1b, _, _, _⟩ := (r_b.alloc (.cells #[.int .i64 P, .int .i64 Q] 23))
      go_wp2_with fail
      refine (KN.out _).mono ?_
      rintro e w6 ⟨rfl, hb6⟩
      have hw6 := (hw5.alloc hw5.size (.cells #[.int .i64 P, .int .i64 Q] 23)).trans (hb6.mono (hw5.alloc hw5.size (.cells #[.int .i64 P, .int .i64 Q] 23)).size)
      go_wp2
      go_ret
      exact ⟨rfl, hw6⟩
  all_goals
    clear hk
    go_enter Tryd.func5, Tryd.ntmps5
    go_wp2_with fail
    refine (AD.out _).mono ?_
    rintro e w1 ⟨rfl, hb1⟩
    obtain ⟨i_a, i_b, hw0⟩ := HR.out
    clear HR
    have r_a := i_a.all hb1
    have r_b := i_b.all hb1
    have hw1 := hw0.trans (hb1.mono hw0.size)
    clear hw0 hb1 i_a i_b
    obtain ⟨c0a, c1a, _, _, _⟩ := (r_a.alloc (.cells #[.int .i64 X, .int .i64 Y] 23))
    obtain ⟨c0b, c1b, _, _, _⟩ := (r_b.alloc (.cells #[.int .i64 X, .int .i64 Y] 23))
    go_wp2_with fail
    refine (RA.out _).mono ?_
    rintro e w2 ⟨rfl, hb2⟩
    have r_a := (r_a.alloc (.cells #[.int .i64 X, .int .i64 Y] 23)).all hb2
    have r_b := (r_b.alloc (.cells #[.int .i64 X, .int .i64 Y] 23)).all hb2
    have r_x := (RatAt.fresh w1 X Y 23).all hb2
    have hw2 := (hw1.alloc hw1.size (.cells #[.int .i64 X, .int .i64 Y] 23)).trans (hb2.mono (hw1.alloc hw1.size (.cells #[.int .i64 X, .int .i64 Y] 23)).size)
    clear hb2 hw1
    clear c0a c1a c0b c1b
    obtain ⟨c0a, c1a, _, _, _⟩ := (r_a.alloc (.cells #[.int .i64 X, .int .i64 Y] 23))
    obtain ⟨c0b, c1b, _, _, _⟩ := (r_b.alloc (.cells #[.int .i64 X, .int .i64 Y] 23))
    go_wp2_with fail
    refine (SU.out _).mono ?_
    rintro e w3 ⟨rfl, hb3⟩
    have r_a := (r_a.alloc (.cells #[.int .i64 X, .int .i64 Y] 23)).all hb3
    have r_b := (r_b.alloc (.cells #[.int .i64 X, .int .i64 Y] 23)).all hb3
    have r_x := (r_x.alloc (.cells #[.int .i64 X, .int .i64 Y] 23)).all hb3
    have r_y := (RatAt.fresh w2 X Y 23).all hb3
    have hw3 := (hw2.alloc hw2.size (.cells #[.int .i64 X, .int .i64 Y] 23)).trans (hb3.mono (hw2.alloc hw2.size (.cells #[.int .i64 X, .int .i64 Y] 23)).size)
    clear hb3 hw2
    clear c0a c1a c0b c1b
    obtain ⟨c0a, c1a, _, _, _⟩ := (r_a.alloc (.cells #[.int .i64 U, .int .i64 V] 23))
    obtain ⟨c0b, c1b, _, _, _⟩ := (r_b.alloc (.cells #[.int .i64 U, .int .i64 V] 23))
    go_wp2_with fail
    refine (RS.out _).mono ?_
    rintro e w4 ⟨rfl, hb4⟩
    have r_a := (r_a.alloc (.cells #[.int .i64 U, .int .i64 V] 23)).all hb4
    have r_b := (r_b.alloc (.cells #[.int .i64 U, .int .i64 V] 23)).all hb4
    have r_x := (r_x.alloc (.cells #[.int .i64 U, .int .i64 V] 23)).all hb4
    have r_y := (r_y.alloc (.cells #[.int .i64 U, .int .i64 V] 23)).all hb4
    have r_u := (RatAt.fresh w3 U V 23).all hb4
    have hw4 := (hw3.alloc hw3.size (.cells #[.int .i64 U, .int .i64 V] 23)).trans (hb4.mono (hw3.alloc hw3.size (.cells #[.int .i64 U, .int .i64 V] 23)).size)
    clear hb4 hw3
    clear c0a c1a c0b c1b
    obtain ⟨c0x, c1x, _, _, _⟩ := (r_x.alloc (.cells #[.int .i64 U, .int .i64 V] 23))
    obtain ⟨c0y, c1y, _, _, _⟩ := (r_y.alloc (.cells #[.int .i64 U, .int .i64 V] 23))
    obtain ⟨c0u, c1u, _, _, _⟩ := (r_u.alloc (.cells #[.int .i64 U, .int .i64 V] 23))
    obtain ⟨c0v, c1v, _, _, _⟩ := (RatAt.fresh w4 U V 23)
    obtain ⟨c0b, c1b, _, _, _⟩ := (r_b.alloc (.cells #[.int .i64 U, .int .i64 V] 23))
    go_wp2_with fail
    refine (BK.out _).mono ?_
    rintro e w5 ⟨rfl, hb5⟩
    have r_a := (r_a.alloc (.cells #[.int .i64 U, .int .i64 V] 23)).all hb5
    have r_b := (r_b.alloc (.cells #[.int .i64 U, .int .i64 V] 23)).all hb5
    have hw5 := (hw4.alloc hw4.size (.cells #[.int .i64 U, .int .i64 V] 23)).trans (hb5.mono (hw4.alloc hw4.size (.cells #[.int .i64 U, .int .i64 V] 23)).size)
    clear hb5 hw4
    clear c0x c1x c0y c1y c0u c1u c0v c1v c0b c1b
    obtain ⟨c0back, c1back, _, _, _⟩ := (RatAt.fresh w5 P Q 23)
    obtain ⟨c0a, c1a, _, _, _⟩ := (r_a.alloc (.cells #[.int .i64 P, .int .i64 Q] 23))
    obtain ⟨c0b, c1b, _, _, _⟩ := (r_b.alloc (.cells #[.int .i64 P, .int .i64 Q] 23))
    go_wp2_with fail
    refine (KN.out _).mono ?_
    rintro e w6 ⟨rfl, hb6⟩
    have hw6 := (hw5.alloc hw5.size (.cells #[.int .i64 P, .int .i64 Q] 23)).trans (hb6.mono (hw5.alloc hw5.size (.cells #[.int .i64 P, .int .i64 Q] 23)).size)
    go_wp2
    go_ret
    exact ⟨rfl, hw6⟩

set_option maxRecDepth 20000 in
set_option maxHeartbeats 1000000 in
theorem fields_walk (an ad bn bd cn cd : Int) (w : World) (a1 : -9223372036854775808 ≤ an) (a2 : an ≤ 9223372036854775807) (a3 : -9223372036854775808 ≤ ad) (a4 : ad ≤ 9223372036854775807)
    (b1 : -9223372036854775808 ≤ bn) (b2 : bn ≤ 9223372036854775807) (b3 : -9223372036854775808 ≤ bd) (b4 : bd ≤ 9223372036854775807)
    (g1 : -9223372036854775808 ≤ cn) (g2 : cn ≤ 9223372036854775807) (g3 : -9223372036854775808 ≤ cd) (g4 : cd ≤ 9223372036854775807) :
    Calls Tryd.prog 6 #[rat an ad, rat bn bd, rat cn cd] w fun e w' => e = .returned (.bool true) ∧ Below w.heap.size w w' := by
  obtain ⟨t1, t2, t3⟩ := three w an ad bn bd cn cd
  have HR := Lib.hid (And.intro t1 (And.intro t2 (And.intro t3 (below3 w (.cells #[.int .i64 an, .int .i64 ad] 23) (.cells #[.int .i64 bn, .int .i64 bd] 23) (.cells #[.int .i64 cn, .int .i64 cd] 23)))))
  clear t1 t2 t3
  have KN := Lib.hid known_any
  obtain ⟨⟨s1, s2⟩, s3, s4⟩ := Fr.sum_bounds bn bd cn cd
  obtain ⟨⟨y1, y2⟩, y3, y4⟩ := Fr.mul_bounds an ad bn bd
  obtain ⟨⟨z1, z2⟩, z3, z4⟩ := Fr.mul_bounds an ad cn cd
  have AS := Lib.hid (fun w => add_any bn bd cn cd w b1 b2 b3 b4 g1 g2 g3 g4)
  have MX := Lib.hid (fun w => mul_any an ad (Fr.sumN bn bd cn cd) (Fr.sumD bn bd cn cd) w a1 a2 a3 a4 (by omega) (by omega) (by omega) (by omega))
  have MY := Lib.hid (fun w => mul_any an ad bn bd w a1 a2 a3 a4 b1 b2 b3 b4)
  have MZ := Lib.hid (fun w => mul_any an ad cn cd w a1 a2 a3 a4 g1 g2 g3 g4)
  have AT := Lib.hid (fun w => add_any (Fr.mulN an ad bn bd) (Fr.mulD an ad bn bd) (Fr.mulN an ad cn cd) (Fr.mulD an ad cn cd) w (by omega) (by omega) (by omega) (by omega) (by omega) (by omega) (by omega) (by omega))
  have hk : Fr.sumE bn bd cn cd = 0 → Fr.mulE an ad (Fr.sumN bn bd cn cd) (Fr.sumD bn bd cn cd) = 0 → Fr.mulE an ad bn bd = 0 → Fr.mulE an ad cn cd = 0 → _ := Fr.fields
  generalize Fr.sumN (Fr.mulN an ad bn bd) (Fr.mulD an ad bn bd) (Fr.mulN an ad cn cd) (Fr.mulD an ad cn cd) = T at *
  generalize Fr.sumD (Fr.mulN an ad bn bd) (Fr.mulD an ad bn bd) (Fr.mulN an ad cn cd) (Fr.mulD an ad cn cd) = T' at *
  generalize Fr.sumE (Fr.mulN an ad bn bd) (Fr.mulD an ad bn bd) (Fr.mulN an ad cn cd) (Fr.mulD an ad cn cd) = eT at *
  generalize Fr.mulN an ad (Fr.sumN bn bd cn cd) (Fr.sumD bn bd cn cd) = X at *
  generalize Fr.mulD an ad (Fr.sumN bn bd cn cd) (Fr.sumD bn bd cn cd) = X' at *
  generalize Fr.mulE an ad (Fr.sumN bn bd cn cd) (Fr.sumD bn bd cn cd) = eX at *
  generalize Fr.mulN an ad bn bd = Y at *
  generalize Fr.mulD an ad bn bd = Y' at *
  generalize Fr.mulE an ad bn bd = eY at *
  generalize Fr.mulN an ad cn cd = Z at *
  generalize Fr.mulD an ad cn cd = Z' at *
  generalize Fr.mulE an ad cn cd = eZ at *
  generalize Fr.sumN bn bd cn cd = S at *
  generalize Fr.sumD bn bd cn cd = S' at *
  generalize Fr.sumE bn bd cn cd = eS at *
  by_cases k1 : eS = 0
  · by_cases k2 : eX = 0
    · by_cases k3 : eY = 0
      · by_cases k4 : eZ = 0
        · subst k1 k2 k3 k4
          obtain ⟨rfl, rfl, rfl⟩ := hk rfl rfl rfl rfl
          clear hk
          go_enter Tryd.func6, Tryd.ntmps6
          go_wp2_with fail
          refine (AS.out _).mono ?_
          rintro e w1 ⟨rfl, hb1⟩
          obtain ⟨i_a, i_b, i_c, hw0⟩ := HR.out
          clear HR
          have r_a := i_a.all hb1
          have r_b := i_b.all hb1
          have r_c := i_c.all hb1
          have hw1 := hw0.trans (hb1.mono hw0.size)
          clear hw0 hb1 i_a i_b i_c
          obtain ⟨c0a, c1a, _, _, _⟩ := (r_a.alloc (.cells #[.int .i64 S, .int .i64 S'] 23))
          obtain ⟨c0s, c1s, _, _, _⟩ := (RatAt.fresh w1 S S' 23)
          go_wp2_with fail
          refine (MX.out _).mono ?_
          rintro e w2 ⟨rfl, hb2⟩
          have r_a := (r_a.alloc (.cells #[.int .i64 S, .int .i64 S'] 23)).all hb2
          have r_b := (r_b.alloc (.cells #[.int .i64 S, .int .i64 S'] 23)).all hb2
          have r_c := (r_c.alloc (.cells #[.int .i64 S, .int .i64 S'] 23)).all hb2
          have r_s := (RatAt.fresh w1 S S' 23).all hb2
          have hw2 := (hw1.alloc hw1.size (.cells #[.int .i64 S, .int .i64 S'] 23)).trans (hb2.mono (hw1.alloc hw1.size (.cells #[.int .i64 S, .int .i64 S'] 23)).size)
          clear hb2 hw1
          clear c0a c1a c0s c1s
          obtain ⟨c0a, c1a, _, _, _⟩ := (r_a.alloc (.cells #[.int .i64 T, .int .i64 T'] 23))
          obtain ⟨c0b, c1b, _, _, _⟩ := (r_b.alloc (.cells #[.int .i64 T, .int .i64 T'] 23))
          go_wp2_with fail
          refine (MY.out _).mono ?_
          rintro e w3 ⟨rfl, hb3⟩
          have r_a := (r_a.alloc (.cells #[.int .i64 T, .int .i64 T'] 23)).all hb3
          have r_b := (r_b.alloc (.cells #[.int .i64 T, .int .i64 T'] 23)).all hb3
          have r_c := (r_c.alloc (.cells #[.int .i64 T, .int .i64 T'] 23)).all hb3
          have r_s := (r_s.alloc (.cells #[.int .i64 T, .int .i64 T'] 23)).all hb3
          have r_x := (RatAt.fresh w2 T T' 23).all hb3
          have hw3 := (hw2.alloc hw2.size (.cells #[.int .i64 T, .int .i64 T'] 23)).trans (hb3.mono (hw2.alloc hw2.size (.cells #[.int .i64 T, .int .i64 T'] 23)).size)
          clear hb3 hw2
          clear c0a c1a c0b c1b
          obtain ⟨c0a, c1a, _, _, _⟩ := (r_a.alloc (.cells #[.int .i64 Y, .int .i64 Y'] 23))
          obtain ⟨c0c, c1c, _, _, _⟩ := (r_c.alloc (.cells #[.int .i64 Y, .int .i64 Y'] 23))
          go_wp2_with fail
          refine (MZ.out _).mono ?_
          rintro e w4 ⟨rfl, hb4⟩
          have r_a := (r_a.alloc (.cells #[.int .i64 Y, .int .i64 Y'] 23)).all hb4
          have r_b := (r_b.alloc (.cells #[.int .i64 Y, .int .i64 Y'] 23)).all hb4
          have r_c := (r_c.alloc (.cells #[.int .i64 Y, .int .i64 Y'] 23)).all hb4
          have r_s := (r_s.alloc (.cells #[.int .i64 Y, .int .i64 Y'] 23)).all hb4
          have r_x := (r_x.alloc (.cells #[.int .i64 Y, .int .i64 Y'] 23)).all hb4
          have r_y := (RatAt.fresh w3 Y Y' 23).all hb4
          have hw4 := (hw3.alloc hw3.size (.cells #[.int .i64 Y, .int .i64 Y'] 23)).trans (hb4.mono (hw3.alloc hw3.size (.cells #[.int .i64 Y, .int .i64 Y'] 23)).size)
          clear hb4 hw3
          clear c0a c1a c0c c1c
          obtain ⟨c0y, c1y, _, _, _⟩ := (r_y.alloc (.cells #[.int .i64 Z, .int .i64 Z'] 23))
          obtain ⟨c0z, c1z, _, _, _⟩ := (RatAt.fresh w4 Z Z' 23)
          go_wp2_with fail
          refine (AT.out _).mono ?_
          rintro e w5 ⟨rfl, hb5⟩
          have r_x := (r_x.alloc (.cells #[.int .i64 Z, .int .i64 Z'] 23)).all hb5
          have hw5 := (hw4.alloc hw4.size (.cells #[.int .i64 Z, .int .i64 Z'] 23)).trans (hb5.mono (hw4.alloc hw4.size (.cells #[.int .i64 Z, .int .i64 Z'] 23)).size)
          clear hb5 hw4
          clear c0y c1y c0z c1z
          obtain ⟨c0t, c1t, _, _, _⟩ := (RatAt.fresh w5 T T' 23)
          obtain ⟨c0x, c1x, _, _, _⟩ := (r_x.alloc (.cells #[.int .i64 T, .int .i64 T'] 23))
          go_wp2_with fail
          refine (KN.out _).mono ?_
          rintro e w6 ⟨rfl, hb6⟩
          have hw6 := (hw5.alloc hw5.size (.cells #[.int .i64 T, .int .i64 T'] 23)).trans (hb6.mono (hw5.alloc hw5.size (.cells #[.int .i64 T, .int .i64 T'] 23)).size)
          go_wp2
          go_ret
          exact ⟨rfl, hw6⟩
        · have nk4 : (eZ != 0) = true := by simpa using k4
          subst k1 k2 k3
          clear hk k4
          go_enter Tryd.func6, Tryd.ntmps6
          go_wp2_with fail
          refine (AS.out _).mono ?_
          rintro e w1 ⟨rfl, hb1⟩
          obtain ⟨i_a, i_b, i_c, hw0⟩ := HR.out
          clear HR
          have r_a := i_a.all hb1
          have r_b := i_b.all hb1
          have r_c := i_c.all hb1
          have hw1 := hw0.trans (hb1.mono hw0.size)
          clear hw0 hb1 i_a i_b i_c
          obtain ⟨c0a, c1a, _, _, _⟩ := (r_a.alloc (.cells #[.int .i64 S, .int .i64 S'] 23))
          obtain ⟨c0s, c1s, _, _, _⟩ := (RatAt.fresh w1 S S' 23)
          go_wp2_with fail
          refine (MX.out _).mono ?_
          rintro e w2 ⟨rfl, hb2⟩
          have r_a := (r_a.alloc (.cells #[.int .i64 S, .int .i64 S'] 23)).all hb2
          have r_b := (r_b.alloc (.cells #[.int .i64 S, .int .i64 S'] 23)).all hb2
          have r_c := (r_c.alloc (.cells #[.int .i64 S, .int .i64 S'] 23)).all hb2
          have r_s := (RatAt.fresh w1 S S' 23).all hb2
          have hw2 := (hw1.alloc hw1.size (.cells #[.int .i64 S, .int .i64 S'] 23)).trans (hb2.mono (hw1.alloc hw1.size (.cells #[.int .i64 S, .int .i64 S'] 23)).size)
          clear hb2 hw1
          clear c0a c1a c0s c1s
          obtain ⟨c0a, c1a, _, _, _⟩ := (r_a.alloc (.cells #[.int .i64 X, .int .i64 X'] 23))
          obtain ⟨c0b, c1b, _, _, _⟩ := (r_b.alloc (.cells #[.int .i64 X, .int .i64 X'] 23))
          go_wp2_with fail
          refine (MY.out _).mono ?_
          rintro e w3 ⟨rfl, hb3⟩
          have r_a := (r_a.alloc (.cells #[.int .i64 X, .int .i64 X'] 23)).all hb3
          have r_b := (r_b.alloc (.cells #[.int .i64 X, .int .i64 X'] 23)).all hb3
          have r_c := (r_c.alloc (.cells #[.int .i64 X, .int .i64 X'] 23)).all hb3
          have r_s := (r_s.alloc (.cells #[.int .i64 X, .int .i64 X'] 23)).all hb3
          have r_x := (RatAt.fresh w2 X X' 23).all hb3
          have hw3 := (hw2.alloc hw2.size (.cells #[.int .i64 X, .int .i64 X'] 23)).trans (hb3.mono (hw2.alloc hw2.size (.cells #[.int .i64 X, .int .i64 X'] 23)).size)
          clear hb3 hw2
          clear c0a c1a c0b c1b
          obtain ⟨c0a, c1a, _, _, _⟩ := (r_a.alloc (.cells #[.int .i64 Y, .int .i64 Y'] 23))
          obtain ⟨c0c, c1c, _, _, _⟩ := (r_c.alloc (.cells #[.int .i64 Y, .int .i64 Y'] 23))
          go_wp2_with fail
          refine (MZ.out _).mono ?_
          rintro e w4 ⟨rfl, hb4⟩
          have r_a := (r_a.alloc (.cells #[.int .i64 Y, .int .i64 Y'] 23)).all hb4
          have r_b := (r_b.alloc (.cells #[.int .i64 Y, .int .i64 Y'] 23)).all hb4
          have r_c := (r_c.alloc (.cells #[.int .i64 Y, .int .i64 Y'] 23)).all hb4
          have r_s := (r_s.alloc (.cells #[.int .i64 Y, .int .i64 Y'] 23)).all hb4
          have r_x := (r_x.alloc (.cells #[.int .i64 Y, .int .i64 Y'] 23)).all hb4
          have r_y := (RatAt.fresh w3 Y Y' 23).all hb4
          have hw4 := (hw3.alloc hw3.size (.cells #[.int .i64 Y, .int .i64 Y'] 23)).trans (hb4.mono (hw3.alloc hw3.size (.cells #[.int .i64 Y, .int .i64 Y'] 23)).size)
          clear hb4 hw3
          clear c0a c1a c0c c1c
          obtain ⟨c0y, c1y, _, _, _⟩ := (r_y.alloc (.cells #[.int .i64 Z, .int .i64 Z'] 23))
          obtain ⟨c0z, c1z, _, _, _⟩ := (RatAt.fresh w4 Z Z' 23)
          go_wp2_with fail
          refine (AT.out _).mono ?_
          rintro e w5 ⟨rfl, hb5⟩
          have r_x := (r_x.alloc (.cells #[.int .i64 Z, .int .i64 Z'] 23)).all hb5
          have hw5 := (hw4.alloc hw4.size (.cells #[.int .i64 Z, .int .i64 Z'] 23)).trans (hb5.mono (hw4.alloc hw4.size (.cells #[.int .i64 Z, .int .i64 Z'] 23)).size)
          clear hb5 hw4
          clear c0y c1y c0z c1z
          go_wp2_with fail
          refine (KN.out _).mono ?_
          rintro e w6 ⟨rfl, hb6⟩
          have hw6 := (hw5.alloc hw5.size (.cells #[.int .i64 T, .int .i64 T'] 23)).trans (hb6.mono (hw5.alloc hw5.size (.cells #[.int .i64 T, .int .i64 T'] 23)).size)
          go_wp2
          go_ret
          exact ⟨rfl, hw6⟩
      · have nk3 : (eY != 0) = true := by simpa using k3
        subst k1 k2
        clear hk k3
        go_enter Tryd.func6, Tryd.ntmps6
        go_wp2_with fail
        refine (AS.out _).mono ?_
        rintro e w1 ⟨rfl, hb1⟩
        obtain ⟨i_a, i_b, i_c, hw0⟩ := HR.out
        clear HR
        have r_a := i_a.all hb1
        have r_b := i_b.all hb1
        have r_c := i_c.all hb1
        have hw1 := hw0.trans (hb1.mono hw0.size)
        clear hw0 hb1 i_a i_b i_c
        obtain ⟨c0a, c1a, _, _, _⟩ := (r_a.alloc (.cells #[.int .i64 S, .int .i64 S'] 23))
        obtain ⟨c0s, c1s, _, _, _⟩ := (RatAt.fresh w1 S S' 23)
        go_wp2_with fail
        refine (MX.out _).mono ?_
        rintro e w2 ⟨rfl, hb2⟩
        have r_a := (r_a.alloc (.cells #[.int .i64 S, .int .i64 S'] 23)).all hb2
        have r_b := (r_b.alloc (.cells #[.int .i64 S, .int .i64 S'] 23)).all hb2
        have r_c := (r_c.alloc (.cells #[.int .i64 S, .int .i64 S'] 23)).all hb2
        have r_s := (RatAt.fresh w1 S S' 23).all hb2
        have hw2 := (hw1.alloc hw1.size (.cells #[.int .i64 S, .int .i64 S'] 23)).trans (hb2.mono (hw1.alloc hw1.size (.cells #[.int .i64 S, .int .i64 S'] 23)).size)
        clear hb2 hw1
        clear c0a c1a c0s c1s
        obtain ⟨c0a, c1a, _, _, _⟩ := (r_a.alloc (.cells #[.int .i64 X, .int .i64 X'] 23))
        obtain ⟨c0b, c1b, _, _, _⟩ := (r_b.alloc (.cells #[.int .i64 X, .int .i64 X'] 23))
        go_wp2_with fail
        refine (MY.out _).mono ?_
        rintro e w3 ⟨rfl, hb3⟩
        have r_a := (r_a.alloc (.cells #[.int .i64 X, .int .i64 X'] 23)).all hb3
        have r_b := (r_b.alloc (.cells #[.int .i64 X, .int .i64 X'] 23)).all hb3
        have r_c := (r_c.alloc (.cells #[.int .i64 X, .int .i64 X'] 23)).all hb3
        have r_s := (r_s.alloc (.cells #[.int .i64 X, .int .i64 X'] 23)).all hb3
        have r_x := (RatAt.fresh w2 X X' 23).all hb3
        have hw3 := (hw2.alloc hw2.size (.cells #[.int .i64 X, .int .i64 X'] 23)).trans (hb3.mono (hw2.alloc hw2.size (.cells #[.int .i64 X, .int .i64 X'] 23)).size)
        clear hb3 hw2
        clear c0a c1a c0b c1b
        obtain ⟨c0a, c1a, _, _, _⟩ := (r_a.alloc (.cells #[.int .i64 Y, .int .i64 Y'] 23))
        obtain ⟨c0c, c1c, _, _, _⟩ := (r_c.alloc (.cells #[.int .i64 Y, .int .i64 Y'] 23))
        go_wp2_with fail
        refine (MZ.out _).mono ?_
        rintro e w4 ⟨rfl, hb4⟩
        have r_a := (r_a.alloc (.cells #[.int .i64 Y, .int .i64 Y'] 23)).all hb4
        have r_b := (r_b.alloc (.cells #[.int .i64 Y, .int .i64 Y'] 23)).all hb4
        have r_c := (r_c.alloc (.cells #[.int .i64 Y, .int .i64 Y'] 23)).all hb4
        have r_s := (r_s.alloc (.cells #[.int .i64 Y, .int .i64 Y'] 23)).all hb4
        have r_x := (r_x.alloc (.cells #[.int .i64 Y, .int .i64 Y'] 23)).all hb4
        have r_y := (RatAt.fresh w3 Y Y' 23).all hb4
        have hw4 := (hw3.alloc hw3.size (.cells #[.int .i64 Y, .int .i64 Y'] 23)).trans (hb4.mono (hw3.alloc hw3.size (.cells #[.int .i64 Y, .int .i64 Y'] 23)).size)
        clear hb4 hw3
        clear c0a c1a c0c c1c
        obtain ⟨c0y, c1y, _, _, _⟩ := (r_y.alloc (.cells #[.int .i64 Z, .int .i64 Z'] 23))
        obtain ⟨c0z, c1z, _, _, _⟩ := (RatAt.fresh w4 Z Z' 23)
        go_wp2_with fail
        refine (AT.out _).mono ?_
        rintro e w5 ⟨rfl, hb5⟩
        have r_x := (r_x.alloc (.cells #[.int .i64 Z, .int .i64 Z'] 23)).all hb5
        have hw5 := (hw4.alloc hw4.size (.cells #[.int .i64 Z, .int .i64 Z'] 23)).trans (hb5.mono (hw4.alloc hw4.size (.cells #[.int .i64 Z, .int .i64 Z'] 23)).size)
        clear hb5 hw4
        clear c0y c1y c0z c1z
        go_wp2_with fail
        refine (KN.out _).mono ?_
        rintro e w6 ⟨rfl, hb6⟩
        have hw6 := (hw5.alloc hw5.size (.cells #[.int .i64 T, .int .i64 T'] 23)).trans (hb6.mono (hw5.alloc hw5.size (.cells #[.int .i64 T, .int .i64 T'] 23)).size)
        go_wp2
        go_ret
        exact ⟨rfl, hw6⟩
    · have nk2 : (eX != 0) = true := by simpa using k2
      subst k1
      clear hk k2
      go_enter Tryd.func6, Tryd.ntmps6
      go_wp2_with fail
      refine (AS.out _).mono ?_
      rintro e w1 ⟨rfl, hb1⟩
      obtain ⟨i_a, i_b, i_c, hw0⟩ := HR.out
      clear HR
      have r_a := i_a.all hb1
      have r_b := i_b.all hb1
      have r_c := i_c.all hb1
      have hw1 := hw0.trans (hb1.mono hw0.size)
      clear hw0 hb1 i_a i_b i_c
      obtain ⟨c0a, c1a, _, _, _⟩ := (r_a.alloc (.cells #[.int .i64 S, .int .i64 S'] 23))
      obtain ⟨c0s, c1s, _, _, _⟩ := (RatAt.fresh w1 S S' 23)
      go_wp2_with fail
      refine (MX.out _).mono ?_
      rintro e w2 ⟨rfl, hb2⟩
      have r_a := (r_a.alloc (.cells #[.int .i64 S, .int .i64 S'] 23)).all hb2
      have r_b := (r_b.alloc (.cells #[.int .i64 S, .int .i64 S'] 23)).all hb2
      have r_c := (r_c.alloc (.cells #[.int .i64 S, .int .i64 S'] 23)).all hb2
      have r_s := (RatAt.fresh w1 S S' 23).all hb2
      have hw2 := (hw1.alloc hw1.size (.cells #[.int .i64 S, .int .i64 S'] 23)).trans (hb2.mono (hw1.alloc hw1.size (.cells #[.int .i64 S, .int .i64 S'] 23)).size)
      clear hb2 hw1
      clear c0a c1a c0s c1s
      obtain ⟨c0a, c1a, _, _, _⟩ := (r_a.alloc (.cells #[.int .i64 X, .int .i64 X'] 23))
      obtain ⟨c0b, c1b, _, _, _⟩ := (r_b.alloc (.cells #[.int .i64 X, .int .i64 X'] 23))
      go_wp2_with fail
      refine (MY.out _).mono ?_
      rintro e w3 ⟨rfl, hb3⟩
      have r_a := (r_a.alloc (.cells #[.int .i64 X, .int .i64 X'] 23)).all hb3
      have r_b := (r_b.alloc (.cells #[.int .i64 X, .int .i64 X'] 23)).all hb3
      have r_c := (r_c.alloc (.cells #[.int .i64 X, .int .i64 X'] 23)).all hb3
      have r_s := (r_s.alloc (.cells #[.int .i64 X, .int .i64 X'] 23)).all hb3
      have r_x := (RatAt.fresh w2 X X' 23).all hb3
      have hw3 := (hw2.alloc hw2.size (.cells #[.int .i64 X, .int .i64 X'] 23)).trans (hb3.mono (hw2.alloc hw2.size (.cells #[.int .i64 X, .int .i64 X'] 23)).size)
      clear hb3 hw2
      clear c0a c1a c0b c1b
      obtain ⟨c0a, c1a, _, _, _⟩ := (r_a.alloc (.cells #[.int .i64 Y, .int .i64 Y'] 23))
      obtain ⟨c0c, c1c, _, _, _⟩ := (r_c.alloc (.cells #[.int .i64 Y, .int .i64 Y'] 23))
      go_wp2_with fail
      refine (MZ.out _).mono ?_
      rintro e w4 ⟨rfl, hb4⟩
      have r_a := (r_a.alloc (.cells #[.int .i64 Y, .int .i64 Y'] 23)).all hb4
      have r_b := (r_b.alloc (.cells #[.int .i64 Y, .int .i64 Y'] 23)).all hb4
      have r_c := (r_c.alloc (.cells #[.int .i64 Y, .int .i64 Y'] 23)).all hb4
      have r_s := (r_s.alloc (.cells #[.int .i64 Y, .int .i64 Y'] 23)).all hb4
      have r_x := (r_x.alloc (.cells #[.int .i64 Y, .int .i64 Y'] 23)).all hb4
      have r_y := (RatAt.fresh w3 Y Y' 23).all hb4
      have hw4 := (hw3.alloc hw3.size (.cells #[.int .i64 Y, .int .i64 Y'] 23)).trans (hb4.mono (hw3.alloc hw3.size (.cells #[.int .i64 Y, .int .i64 Y'] 23)).size)
      clear hb4 hw3
      clear c0a c1a c0c c1c
      obtain ⟨c0y, c1y, _, _, _⟩ := (r_y.alloc (.cells #[.int .i64 Z, .int .i64 Z'] 23))
      obtain ⟨c0z, c1z, _, _, _⟩ := (RatAt.fresh w4 Z Z' 23)
      go_wp2_with fail
      refine (AT.out _).mono ?_
      rintro e w5 ⟨rfl, hb5⟩
      have r_x := (r_x.alloc (.cells #[.int .i64 Z, .int .i64 Z'] 23)).all hb5
      have hw5 := (hw4.alloc hw4.size (.cells #[.int .i64 Z, .int .i64 Z'] 23)).trans (hb5.mono (hw4.alloc hw4.size (.cells #[.int .i64 Z, .int .i64 Z'] 23)).size)
      clear hb5 hw4
      clear c0y c1y c0z c1z
      go_wp2_with fail
      refine (KN.out _).mono ?_
      rintro e w6 ⟨rfl, hb6⟩
      have hw6 := (hw5.alloc hw5.size (.cells #[.int .i64 T, .int .i64 T'] 23)).trans (hb6.mono (hw5.alloc hw5.size (.cells #[.int .i64 T, .int .i64 T'] 23)).size)
      go_wp2
      go_ret
      exact ⟨rfl, hw6⟩
  · have nk1 : (eS != 0) = true := by simpa using k1
    clear hk k1
    go_enter Tryd.func6, Tryd.ntmps6
    go_wp2_with fail
    refine (AS.out _).mono ?_
    rintro e w1 ⟨rfl, hb1⟩
    obtain ⟨i_a, i_b, i_c, hw0⟩ := HR.out
    clear HR
    have r_a := i_a.all hb1
    have r_b := i_b.all hb1
    have r_c := i_c.all hb1
    have hw1 := hw0.trans (hb1.mono hw0.size)
    clear hw0 hb1 i_a i_b i_c
    obtain ⟨c0a, c1a, _, _, _⟩ := (r_a.alloc (.cells #[.int .i64 S, .int .i64 S'] 23))
    obtain ⟨c0s, c1s, _, _, _⟩ := (RatAt.fresh w1 S S' 23)
    go_wp2_with fail
    refine (MX.out _).mono ?_
    rintro e w2 ⟨rfl, hb2⟩
    have r_a := (r_a.alloc (.cells #[.int .i64 S, .int .i64 S'] 23)).all hb2
    have r_b := (r_b.alloc (.cells #[.int .i64 S, .int .i64 S'] 23)).all hb2
    have r_c := (r_c.alloc (.cells #[.int .i64 S, .int .i64 S'] 23)).all hb2
    have r_s := (RatAt.fresh w1 S S' 23).all hb2
    have hw2 := (hw1.alloc hw1.size (.cells #[.int .i64 S, .int .i64 S'] 23)).trans (hb2.mono (hw1.alloc hw1.size (.cells #[.int .i64 S, .int .i64 S'] 23)).size)
    clear hb2 hw1
    clear c0a c1a c0s c1s
    obtain ⟨c0a, c1a, _, _, _⟩ := (r_a.alloc (.cells #[.int .i64 X, .int .i64 X'] 23))
    obtain ⟨c0b, c1b, _, _, _⟩ := (r_b.alloc (.cells #[.int .i64 X, .int .i64 X'] 23))
    go_wp2_with fail
    refine (MY.out _).mono ?_
    rintro e w3 ⟨rfl, hb3⟩
    have r_a := (r_a.alloc (.cells #[.int .i64 X, .int .i64 X'] 23)).all hb3
    have r_b := (r_b.alloc (.cells #[.int .i64 X, .int .i64 X'] 23)).all hb3
    have r_c := (r_c.alloc (.cells #[.int .i64 X, .int .i64 X'] 23)).all hb3
    have r_s := (r_s.alloc (.cells #[.int .i64 X, .int .i64 X'] 23)).all hb3
    have r_x := (RatAt.fresh w2 X X' 23).all hb3
    have hw3 := (hw2.alloc hw2.size (.cells #[.int .i64 X, .int .i64 X'] 23)).trans (hb3.mono (hw2.alloc hw2.size (.cells #[.int .i64 X, .int .i64 X'] 23)).size)
    clear hb3 hw2
    clear c0a c1a c0b c1b
    obtain ⟨c0a, c1a, _, _, _⟩ := (r_a.alloc (.cells #[.int .i64 Y, .int .i64 Y'] 23))
    obtain ⟨c0c, c1c, _, _, _⟩ := (r_c.alloc (.cells #[.int .i64 Y, .int .i64 Y'] 23))
    go_wp2_with fail
    refine (MZ.out _).mono ?_
    rintro e w4 ⟨rfl, hb4⟩
    have r_a := (r_a.alloc (.cells #[.int .i64 Y, .int .i64 Y'] 23)).all hb4
    have r_b := (r_b.alloc (.cells #[.int .i64 Y, .int .i64 Y'] 23)).all hb4
    have r_c := (r_c.alloc (.cells #[.int .i64 Y, .int .i64 Y'] 23)).all hb4
    have r_s := (r_s.alloc (.cells #[.int .i64 Y, .int .i64 Y'] 23)).all hb4
    have r_x := (r_x.alloc (.cells #[.int .i64 Y, .int .i64 Y'] 23)).all hb4
    have r_y := (RatAt.fresh w3 Y Y' 23).all hb4
    have hw4 := (hw3.alloc hw3.size (.cells #[.int .i64 Y, .int .i64 Y'] 23)).trans (hb4.mono (hw3.alloc hw3.size (.cells #[.int .i64 Y, .int .i64 Y'] 23)).size)
    clear hb4 hw3
    clear c0a c1a c0c c1c
    obtain ⟨c0y, c1y, _, _, _⟩ := (r_y.alloc (.cells #[.int .i64 Z, .int .i64 Z'] 23))
    obtain ⟨c0z, c1z, _, _, _⟩ := (RatAt.fresh w4 Z Z' 23)
    go_wp2_with fail
    refine (AT.out _).mono ?_
    rintro e w5 ⟨rfl, hb5⟩
    have r_x := (r_x.alloc (.cells #[.int .i64 Z, .int .i64 Z'] 23)).all hb5
    have hw5 := (hw4.alloc hw4.size (.cells #[.int .i64 Z, .int .i64 Z'] 23)).trans (hb5.mono (hw4.alloc hw4.size (.cells #[.int .i64 Z, .int .i64 Z'] 23)).size)
    clear hb5 hw4
    clear c0y c1y c0z c1z
    go_wp2_with fail
    refine (KN.out _).mono ?_
    rintro e w6 ⟨rfl, hb6⟩
    have hw6 := (hw5.alloc hw5.size (.cells #[.int .i64 T, .int .i64 T'] 23)).trans (hb6.mono (hw5.alloc hw5.size (.cells #[.int .i64 T, .int .i64 T'] 23)).size)
    go_wp2
    go_ret
    exact ⟨rfl, hw6⟩
end Go.Proofs.YtfgignbmnfeikaaDoor
