/- NumSums returns true, whatever the fractions. -/
import Derived.Test.YtfgignbmnfeikaaDoorSum
import Derived.Test.YtfgignbmnfeikaaDoorMoney0
namespace Go.Proofs.YtfgignbmnfeikaaDoor
open Go.RowKit

namespace Fr
theorem both_parts {an ad bn bd : Int} (h : both an ad bn bd = true) : ok an ad = true ∧ ok bn bd = true := by simpa [both] using h
theorem sum_cases (an ad bn bd : Int) : sumE an ad bn bd = 0 ∨ sumE an ad bn bd = 1 ∨ sumE an ad bn bd = 4 := by
  unfold sumE; split
  · exact er_cases _ _
  · exact .inr (.inl rfl)
theorem sum_bounds (an ad bn bd : Int) : (-1099511627776 ≤ sumN an ad bn bd ∧ sumN an ad bn bd ≤ 1099511627776) ∧ 0 ≤ sumD an ad bn bd ∧ sumD an ad bn bd ≤ 1048576 := by
  unfold sumN sumD; split
  · exact ⟨nu_bound _ _, de_bound _ _⟩
  · decide
/-- What a sum that is made is: a valid fraction with the value of the sum. -/
theorem sum_ok {an ad bn bd : Int} (h : sumE an ad bn bd = 0) : both an ad bn bd = true ∧ ok (sumN an ad bn bd) (sumD an ad bn bd) = true ∧ sumN an ad bn bd * (ad * bd) = (an * bd + bn * ad) * sumD an ad bn bd := by
  cases hb : both an ad bn bd with
  | false => rw [(sum_not hb).2.2] at h; omega
  | true =>
    obtain ⟨e1, e2, e3⟩ := sum_both hb
    rw [e3] at h
    rw [e1, e2]
    exact ⟨rfl, ok_mk h, val_mk h⟩
/-- A difference undoes a sum. -/
theorem sum_back {an ad bn bd : Int} (h : sumE an ad bn bd = 0) : difE (sumN an ad bn bd) (sumD an ad bn bd) bn bd = 0 ∧ difN (sumN an ad bn bd) (sumD an ad bn bd) bn bd = an ∧ difD (sumN an ad bn bd) (sumD an ad bn bd) bn bd = ad := by
  obtain ⟨hb, hx, hv⟩ := sum_ok h
  obtain ⟨ha, hbb⟩ := both_parts hb
  generalize sumN an ad bn bd = x at *
  generalize sumD an ad bn bd = y at *
  have hxb : both x y bn bd = true := by simp [both, hx, hbb]
  obtain ⟨e1, e2, e3⟩ := dif_both hxb
  rw [e1, e2, e3]
  have hy := (ok_iff.1 hx).1
  have hd := (ok_iff.1 hbb).1
  obtain ⟨r0, r1, r2⟩ := mk_of (n := x * bd - bn * y) (d := y * bd) ha (by have := Int.mul_pos (a := y) (b := bd) (by omega) (by omega); omega) (by grind)
  exact ⟨r0, r1, r2⟩
end Fr

theorem two (w : World) (an ad bn bd : Int) :
    RatAt ((w.alloc (.cells #[.int .i64 an, .int .i64 ad] 23)).alloc (.cells #[.int .i64 bn, .int .i64 bd] 23)) w.heap.size an ad ∧
    RatAt ((w.alloc (.cells #[.int .i64 an, .int .i64 ad] 23)).alloc (.cells #[.int .i64 bn, .int .i64 bd] 23)) (w.heap.size + 1) bn bd ∧
    Below w.heap.size w ((w.alloc (.cells #[.int .i64 an, .int .i64 ad] 23)).alloc (.cells #[.int .i64 bn, .int .i64 bd] 23)) := by
  have h1 := (RatAt.fresh w an ad 23).alloc (.cells #[.int .i64 bn, .int .i64 bd] 23)
  have h2 := RatAt.fresh (w.alloc (.cells #[.int .i64 an, .int .i64 ad] 23)) bn bd 23
  rw [World.size_alloc] at h2
  exact ⟨h1, h2, ((Below.refl _ _).alloc (Nat.le_refl _) _).alloc (by simp) _⟩

set_option maxRecDepth 20000 in
set_option maxHeartbeats 1000000 in
theorem sums_walk (an ad bn bd : Int) (w : World) (a1 : -9223372036854775808 ≤ an) (a2 : an ≤ 9223372036854775807) (a3 : -9223372036854775808 ≤ ad) (a4 : ad ≤ 9223372036854775807)
    (b1 : -9223372036854775808 ≤ bn) (b2 : bn ≤ 9223372036854775807) (b3 : -9223372036854775808 ≤ bd) (b4 : bd ≤ 9223372036854775807) :
    Calls Tryd.prog 4 #[rat an ad, rat bn bd] w fun e w' => e = .returned (.bool true) ∧ Below w.heap.size w w' := by
  have HR := Lib.hid (two w an ad bn bd)
  have KN := Lib.hid known_any
  obtain ⟨⟨x1, x2⟩, y1, y2⟩ := Fr.sum_bounds an ad bn bd
  have AD := Lib.hid (fun w => add_any an ad bn bd w a1 a2 a3 a4 b1 b2 b3 b4)
  have RA := Lib.hid (fun w => ref_add_any an ad bn bd w a1 a2 a3 a4 b1 b2 b3 b4)
  have SU := Lib.hid (fun w => sub_any an ad bn bd w a1 a2 a3 a4 b1 b2 b3 b4)
  have RS := Lib.hid (fun w => ref_sub_any an ad bn bd w a1 a2 a3 a4 b1 b2 b3 b4)
  have BK := Lib.hid (fun w => sub_any (Fr.sumN an ad bn bd) (Fr.sumD an ad bn bd) bn bd w (by omega) (by omega) (by omega) (by omega) b1 b2 b3 b4)
  have hz := Fr.sum_cases an ad bn bd
  have hk : Fr.sumE an ad bn bd = 0 → _ := Fr.sum_back
  generalize Fr.difN (Fr.sumN an ad bn bd) (Fr.sumD an ad bn bd) bn bd = P at *
  generalize Fr.difD (Fr.sumN an ad bn bd) (Fr.sumD an ad bn bd) bn bd = Q at *
  generalize Fr.difE (Fr.sumN an ad bn bd) (Fr.sumD an ad bn bd) bn bd = R at *
  generalize Fr.sumN an ad bn bd = X at *
  generalize Fr.sumD an ad bn bd = Y at *
  generalize Fr.sumE an ad bn bd = Z at *
  generalize Fr.difN an ad bn bd = U at *
  generalize Fr.difD an ad bn bd = V at *
  generalize Fr.difE an ad bn bd = T at *
  rcases hz with rfl | rfl | rfl
  · obtain ⟨rfl, rfl, rfl⟩ := hk rfl
    clear hk
    go_enter Tryd.func4, Tryd.ntmps4
    go_wp2_with fail
    refine (AD.out _).mono ?_
    rintro e w1 ⟨rfl, hb1⟩
    obtain ⟨i_a, i_b, hw0⟩ := HR.out
    clear HR
    have r_a := i_a.all hb1
    have r_b := i_b.all hb1
    have hw1 := hw0.trans (hb1.mono hw0.size)
    clear hw0 hb1 i_a i_b
    obtain ⟨c0a, c1a, _, _, _⟩ := (r_a.alloc (.cells #[.int .i64 X, .int .i64 Y] 23))
    obtain ⟨c0b, c1b, _, _, _⟩ := (r_b.alloc (.cells #[.int .i64 X, .int .i64 Y] 23))
    go_wp2_with fail
    refine (RA.out _).mono ?_
    rintro e w2 ⟨rfl, hb2⟩
    have r_a := (r_a.alloc (.cells #[.int .i64 X, .int .i64 Y] 23)).all hb2
    have r_b := (r_b.alloc (.cells #[.int .i64 X, .int .i64 Y] 23)).all hb2
    have r_x := (RatAt.fresh w1 X Y 23).all hb2
    have hw2 := (hw1.alloc hw1.size (.cells #[.int .i64 X, .int .i64 Y] 23)).trans (hb2.mono (hw1.alloc hw1.size (.cells #[.int .i64 X, .int .i64 Y] 23)).size)
    clear hb2 hw1
    clear c0a c1a c0b c1b
    obtain ⟨c0a, c1a, _, _, _⟩ := (r_a.alloc (.cells #[.int .i64 X, .int .i64 Y] 23))
    obtain ⟨c0b, c1b, _, _, _⟩ := (r_b.alloc (.cells #[.int .i64 X, .int .i64 Y] 23))
    go_wp2_with fail
    refine (SU.out _).mono ?_
    rintro e w3 ⟨rfl, hb3⟩
    have r_a := (r_a.alloc (.cells #[.int .i64 X, .int .i64 Y] 23)).all hb3
    have r_b := (r_b.alloc (.cells #[.int .i64 X, .int .i64 Y] 23)).all hb3
    have r_x := (r_x.alloc (.cells #[.int .i64 X, .int .i64 Y] 23)).all hb3
    have r_y := (RatAt.fresh w2 X Y 23).all hb3
    have hw3 := (hw2.alloc hw2.size (.cells #[.int .i64 X, .int .i64 Y] 23)).trans (hb3.mono (hw2.alloc hw2.size (.cells #[.int .i64 X, .int .i64 Y] 23)).size)
    clear hb3 hw2
    clear c0a c1a c0b c1b
    obtain ⟨c0a, c1a, _, _, _⟩ := (r_a.alloc (.cells #[.int .i64 U, .int .i64 V] 23))
    obtain ⟨c0b, c1b, _, _, _⟩ := (r_b.alloc (.cells #[.int .i64 U, .int .i64 V] 23))
    go_wp2_with fail
    refine (RS.out _).mono ?_
    rintro e w4 ⟨rfl, hb4⟩
    have r_a := (r_a.alloc (.cells #[.int .i64 U, .int .i64 V] 23)).all hb4
    have r_b := (r_b.alloc (.cells #[.int .i64 U, .int .i64 V] 23)).all hb4
    have r_x := (r_x.alloc (.cells #[.int .i64 U, .int .i64 V] 23)).all hb4
    have r_y := (r_y.alloc (.cells #[.int .i64 U, .int .i64 V] 23)).all hb4
    have r_u := (RatAt.fresh w3 U V 23).all hb4
    have hw4 := (hw3.alloc hw3.size (.cells #[.int .i64 U, .int .i64 V] 23)).trans (hb4.mono (hw3.alloc hw3.size (.cells #[.int .i64 U, .int .i64 V] 23)).size)
    clear hb4 hw3
    clear c0a c1a c0b c1b
    obtain ⟨c0a, c1a, _, _, _⟩ := (r_a.alloc (.cells #[.int .i64 U, .int .i64 V] 23))
    clear c0a c1a
    obtain ⟨c0x, c1x, _, _, _⟩ := (r_x.alloc (.cells #[.int .i64 U, .int .i64 V] 23))
    obtain ⟨c0y, c1y, _, _, _⟩ := (r_y.alloc (.cells #[.int .i64 U, .int .i64 V] 23))
    obtain ⟨c0u, c1u, _, _, _⟩ := (r_u.alloc (.cells #[.int .i64 U, .int .i64 V] 23))
    obtain ⟨c0v, c1v, _, _, _⟩ := (RatAt.fresh w4 U V 23)
    obtain ⟨c0b, c1b, _, _, _⟩ := (r_b.alloc (.cells #[.int .i64 U, .int .i64 V] 23))
    go_wp2_with fail
    refine (BK.out _).mono ?_
    rintro e w5 ⟨rfl, hb5⟩
    have r_a := (r_a.alloc (.cells #[.int .i64 U, .int .i64 V] 23)).all hb5
    have hw5 := (hw4.alloc hw4.size (.cells #[.int .i64 U, .int .i64 V] 23)).trans (hb5.mono (hw4.alloc hw4.size (.cells #[.int .i64 U, .int .i64 V] 23)).size)
    clear hb5 hw4
    clear c0x c1x c0y c1y c0u c1u c0v c1v c0b c1b
    obtain ⟨c0back, c1back, _, _, _⟩ := (RatAt.fresh w5 P Q 23)
    obtain ⟨c0a, c1a, _, _, _⟩ := (r_a.alloc (.cells #[.int .i64 P, .int .i64 Q] 23))
    go_wp2_with fail
    refine (KN.out _).mono ?_
    rintro e w6 ⟨rfl, hb6⟩
    have hw6 := (hw5.alloc hw5.size (.cells #[.int .i64 P, .int .i64 Q] 23)).trans (hb6.mono (hw5.alloc hw5.size (.cells #[.int .i64 P, .int .i64 Q] 23)).size)
    go_wp2
    go_ret
    exact ⟨rfl, hw6⟩
  all_goals
    clear hk
    go_enter Tryd.func4, Tryd.ntmps4
    go_wp2_with fail
    refine (AD.out _).mono ?_
    rintro e w1 ⟨rfl, hb1⟩
    obtain ⟨i_a, i_b, hw0⟩ := HR.out
    clear HR
    have r_a := i_a.all hb1
    have r_b := i_b.all hb1
    have hw1 := hw0.trans (hb1.mono hw0.size)
    clear hw0 hb1 i_a i_b
    obtain ⟨c0a, c1a, _, _, _⟩ := (r_a.alloc (.cells #[.int .i64 X, .int .i64 Y] 23))
    obtain ⟨c0b, c1b, _, _, _⟩ := (r_b.alloc (.cells #[.int .i64 X, .int .i64 Y] 23))
    go_wp2_with fail
    refine (RA.out _).mono ?_
    rintro e w2 ⟨rfl, hb2⟩
    have r_a := (r_a.alloc (.cells #[.int .i64 X, .int .i64 Y] 23)).all hb2
    have r_b := (r_b.alloc (.cells #[.int .i64 X, .int .i64 Y] 23)).all hb2
    have r_x := (RatAt.fresh w1 X Y 23).all hb2
    have hw2 := (hw1.alloc hw1.size (.cells #[.int .i64 X, .int .i64 Y] 23)).trans (hb2.mono (hw1.alloc hw1.size (.cells #[.int .i64 X, .int .i64 Y] 23)).size)
    clear hb2 hw1
    clear c0a c1a c0b c1b
    obtain ⟨c0a, c1a, _, _, _⟩ := (r_a.alloc (.cells #[.int .i64 X, .int .i64 Y] 23))
    obtain ⟨c0b, c1b, _, _, _⟩ := (r_b.alloc (.cells #[.int .i64 X, .int .i64 Y] 23))
    go_wp2_with fail
    refine (SU.out _).mono ?_
    rintro e w3 ⟨rfl, hb3⟩
    have r_a := (r_a.alloc (.cells #[.int .i64 X, .int .i64 Y] 23)).all hb3
    have r_b := (r_b.alloc (.cells #[.int .i64 X, .int .i64 Y] 23)).all hb3
    have r_x := (r_x.alloc (.cells #[.int .i64 X, .int .i64 Y] 23)).all hb3
    have r_y := (RatAt.fresh w2 X Y 23).all hb3
    have hw3 := (hw2.alloc hw2.size (.cells #[.int .i64 X, .int .i64 Y] 23)).trans (hb3.mono (hw2.alloc hw2.size (.cells #[.int .i64 X, .int .i64 Y] 23)).size)
    clear hb3 hw2
    clear c0a c1a c0b c1b
    obtain ⟨c0a, c1a, _, _, _⟩ := (r_a.alloc (.cells #[.int .i64 U, .int .i64 V] 23))
    obtain ⟨c0b, c1b, _, _, _⟩ := (r_b.alloc (.cells #[.int .i64 U, .int .i64 V] 23))
    go_wp2_with fail
    refine (RS.out _).mono ?_
    rintro e w4 ⟨rfl, hb4⟩
    have r_a := (r_a.alloc (.cells #[.int .i64 U, .int .i64 V] 23)).all hb4
    have r_b := (r_b.alloc (.cells #[.int .i64 U, .int .i64 V] 23)).all hb4
    have r_x := (r_x.alloc (.cells #[.int .i64 U, .int .i64 V] 23)).all hb4
    have r_y := (r_y.alloc (.cells #[.int .i64 U, .int .i64 V] 23)).all hb4
    have r_u := (RatAt.fresh w3 U V 23).all hb4
    have hw4 := (hw3.alloc hw3.size (.cells #[.int .i64 U, .int .i64 V] 23)).trans (hb4.mono (hw3.alloc hw3.size (.cells #[.int .i64 U, .int .i64 V] 23)).size)
    clear hb4 hw3
    clear c0a c1a c0b c1b
    obtain ⟨c0a, c1a, _, _, _⟩ := (r_a.alloc (.cells #[.int .i64 U, .int .i64 V] 23))
    clear c0a c1a
    obtain ⟨c0x, c1x, _, _, _⟩ := (r_x.alloc (.cells #[.int .i64 U, .int .i64 V] 23))
    obtain ⟨c0y, c1y, _, _, _⟩ := (r_y.alloc (.cells #[.int .i64 U, .int .i64 V] 23))
    obtain ⟨c0u, c1u, _, _, _⟩ := (r_u.alloc (.cells #[.int .i64 U, .int .i64 V] 23))
    obtain ⟨c0v, c1v, _, _, _⟩ := (RatAt.fresh w4 U V 23)
    obtain ⟨c0b, c1b, _, _, _⟩ := (r_b.alloc (.cells #[.int .i64 U, .int .i64 V] 23))
    go_wp2_with fail
    refine (BK.out _).mono ?_
    rintro e w5 ⟨rfl, hb5⟩
    have r_a := (r_a.alloc (.cells #[.int .i64 U, .int .i64 V] 23)).all hb5
    have hw5 := (hw4.alloc hw4.size (.cells #[.int .i64 U, .int .i64 V] 23)).trans (hb5.mono (hw4.alloc hw4.size (.cells #[.int .i64 U, .int .i64 V] 23)).size)
    clear hb5 hw4
    clear c0x c1x c0y c1y c0u c1u c0v c1v c0b c1b
    obtain ⟨c0back, c1back, _, _, _⟩ := (RatAt.fresh w5 P Q 23)
    obtain ⟨c0a, c1a, _, _, _⟩ := (r_a.alloc (.cells #[.int .i64 P, .int .i64 Q] 23))
    go_wp2_with fail
    refine (KN.out _).mono ?_
    rintro e w6 ⟨rfl, hb6⟩
    have hw6 := (hw5.alloc hw5.size (.cells #[.int .i64 P, .int .i64 Q] 23)).trans (hb6.mono (hw5.alloc hw5.size (.cells #[.int .i64 P, .int .i64 Q] 23)).size)
    go_wp2
    go_ret
    exact ⟨rfl, hw6⟩
end Go.Proofs.YtfgignbmnfeikaaDoor
