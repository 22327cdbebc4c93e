/- NumCompares returns true, whatever the fractions. -/
import Derived.Test.YtfgignbmnfeikaaDoorCmp
namespace Go.Proofs.YtfgignbmnfeikaaDoor
open Go.RowKit

set_option maxRecDepth 20000 in
set_option maxHeartbeats 2000000 in
theorem compares_walk (an ad bn bd cn cd : Int) (w : World) (a1 : -9223372036854775808 ≤ an) (a2 : an ≤ 9223372036854775807) (a3 : -9223372036854775808 ≤ ad) (a4 : ad ≤ 9223372036854775807)
    (b1 : -9223372036854775808 ≤ bn) (b2 : bn ≤ 9223372036854775807) (b3 : -9223372036854775808 ≤ bd) (b4 : bd ≤ 9223372036854775807)
    (g1 : -9223372036854775808 ≤ cn) (g2 : cn ≤ 9223372036854775807) (g3 : -9223372036854775808 ≤ cd) (g4 : cd ≤ 9223372036854775807) :
    Calls Tryd.prog 7 #[rat an ad, rat bn bd, rat cn cd] w fun e w' => e = .returned (.bool true) ∧ Below w.heap.size w w' := by
  obtain ⟨t1, t2, t3⟩ := three w an ad bn bd cn cd
  have HR := Lib.hid (And.intro t1 (And.intro t2 (And.intro t3 (below3 w (.cells #[.int .i64 an, .int .i64 ad] 23) (.cells #[.int .i64 bn, .int .i64 bd] 23) (.cells #[.int .i64 cn, .int .i64 cd] 23)))))
  clear t1 t2 t3
  have KN := Lib.hid known_any
  have CA := Lib.hid (fun w => compare_any an ad bn bd w a1 a2 a3 a4 b1 b2 b3 b4)
  have CR := Lib.hid (fun w => ref_compare_any an ad bn bd w a1 a2 a3 a4 b1 b2 b3 b4)
  have CB := Lib.hid (fun w => compare_any bn bd an ad w b1 b2 b3 b4 a1 a2 a3 a4)
  have CC := Lib.hid (fun w => compare_any bn bd cn cd w b1 b2 b3 b4 g1 g2 g3 g4)
  have CD := Lib.hid (fun w => compare_any an ad cn cd w a1 a2 a3 a4 g1 g2 g3 g4)
  have SU := Lib.hid (fun w => sub_any an ad bn bd w a1 a2 a3 a4 b1 b2 b3 b4)
  have hk : Fr.cmpE an ad bn bd = 0 → Fr.cmpE bn bd cn cd = 0 → _ := Fr.cmp_law
  have hx := Fr.cmpN_cases an ad bn bd
  have he := Fr.cmpE_cases an ad bn bd
  have hg := Fr.cmpE_cases bn bd cn cd
  generalize Fr.cmpN an ad bn bd = X at *
  generalize Fr.cmpE an ad bn bd = eX at *
  generalize Fr.cmpN bn bd an ad = Y at *
  generalize Fr.cmpE bn bd an ad = eY at *
  generalize Fr.cmpN bn bd cn cd = U at *
  generalize Fr.cmpE bn bd cn cd = eU at *
  generalize Fr.cmpN an ad cn cd = V at *
  generalize Fr.cmpE an ad cn cd = eV at *
  generalize Fr.difN an ad bn bd = D at *
  generalize Fr.difD an ad bn bd = D' at *
  generalize Fr.difE an ad bn bd = eD at *
  rcases he with rfl | rfl
  · rcases hg with rfl | rfl
    · obtain ⟨rfl, rfl, h3, h4⟩ := hk rfl rfl
      clear hk
      rcases hx with rfl | rfl | rfl
      · by_cases hu : 0 < U
        · clear h3
          by_cases hz : eD = 0
          · subst hz
            have h5 := h4 rfl
            have hD : decide (D < 0) = true := by simp; omega
            have hD2 : decide (0 < D) = false := by simp; omega
            clear h4 h5
            go_enter Tryd.func7, Tryd.ntmps7
            go_wp2_with fail
            refine (CA.out _).mono ?_
            rintro e w1 ⟨rfl, hb1⟩
            obtain ⟨i_a, i_b, i_c, hw0⟩ := HR.out
            clear HR
            have r_a := i_a.all hb1
            have r_b := i_b.all hb1
            have r_c := i_c.all hb1
            have hw1 := hw0.trans (hb1.mono hw0.size)
            clear hw0 hb1 i_a i_b i_c
            obtain ⟨c0a, c1a, _, _, _⟩ := (id r_a)
            obtain ⟨c0b, c1b, _, _, _⟩ := (id r_b)
            go_wp2_with fail
            refine (CR.out _).mono ?_
            rintro e w2 ⟨rfl, hb2⟩
            have r_a := r_a.all hb2
            have r_b := r_b.all hb2
            have r_c := r_c.all hb2
            have hw2 := hw1.trans (hb2.mono hw1.size)
            clear hb2 hw1
            clear c0a c1a c0b c1b
            obtain ⟨c0b, c1b, _, _, _⟩ := (id r_b)
            obtain ⟨c0a, c1a, _, _, _⟩ := (id r_a)
            go_wp2_with fail
            refine (CB.out _).mono ?_
            rintro e w3 ⟨rfl, hb3⟩
            have r_a := r_a.all hb3
            have r_b := r_b.all hb3
            have r_c := r_c.all hb3
            have hw3 := hw2.trans (hb3.mono hw2.size)
            clear hb3 hw2
            clear c0b c1b c0a c1a
            obtain ⟨c0b, c1b, _, _, _⟩ := (id r_b)
            obtain ⟨c0c, c1c, _, _, _⟩ := (id r_c)
            go_wp2_with fail
            refine (CC.out _).mono ?_
            rintro e w4 ⟨rfl, hb4⟩
            have r_a := r_a.all hb4
            have r_b := r_b.all hb4
            have r_c := r_c.all hb4
            have hw4 := hw3.trans (hb4.mono hw3.size)
            clear hb4 hw3
            clear c0b c1b c0c c1c
            obtain ⟨c0a, c1a, _, _, _⟩ := (id r_a)
            obtain ⟨c0c, c1c, _, _, _⟩ := (id r_c)
            go_wp2_with fail
            refine (CD.out _).mono ?_
            rintro e w5 ⟨rfl, hb5⟩
            have r_a := r_a.all hb5
            have r_b := r_b.all hb5
            have r_c := r_c.all hb5
            have hw5 := hw4.trans (hb5.mono hw4.size)
            clear hb5 hw4
            clear c0a c1a c0c c1c
            obtain ⟨c0a, c1a, _, _, _⟩ := (id r_a)
            obtain ⟨c0b, c1b, _, _, _⟩ := (id r_b)
            go_wp2_with fail
            refine (SU.out _).mono ?_
            rintro e w6 ⟨rfl, hb6⟩
            have hw6 := hw5.trans (hb6.mono hw5.size)
            clear hb6 hw5
            clear c0a c1a c0b c1b
            obtain ⟨c0d, c1d, _, _, _⟩ := (RatAt.fresh w6 D D' 23)
            go_wp2_with fail
            refine (KN.out _).mono ?_
            rintro e w7 ⟨rfl, hb7⟩
            have hw7 := (hw6.alloc hw6.size (.cells #[.int .i64 D, .int .i64 D'] 23)).trans (hb7.mono (hw6.alloc hw6.size (.cells #[.int .i64 D, .int .i64 D'] 23)).size)
            go_wp2
            go_ret
            exact ⟨rfl, hw7⟩
          · have hz' : (eD != 0) = true := by simpa using hz
            clear h4 hz
            go_enter Tryd.func7, Tryd.ntmps7
            go_wp2_with fail
            refine (CA.out _).mono ?_
            rintro e w1 ⟨rfl, hb1⟩
            obtain ⟨i_a, i_b, i_c, hw0⟩ := HR.out
            clear HR
            have r_a := i_a.all hb1
            have r_b := i_b.all hb1
            have r_c := i_c.all hb1
            have hw1 := hw0.trans (hb1.mono hw0.size)
            clear hw0 hb1 i_a i_b i_c
            obtain ⟨c0a, c1a, _, _, _⟩ := (id r_a)
            obtain ⟨c0b, c1b, _, _, _⟩ := (id r_b)
            go_wp2_with fail
            refine (CR.out _).mono ?_
            rintro e w2 ⟨rfl, hb2⟩
            have r_a := r_a.all hb2
            have r_b := r_b.all hb2
            have r_c := r_c.all hb2
            have hw2 := hw1.trans (hb2.mono hw1.size)
            clear hb2 hw1
            clear c0a c1a c0b c1b
            obtain ⟨c0b, c1b, _, _, _⟩ := (id r_b)
            obtain ⟨c0a, c1a, _, _, _⟩ := (id r_a)
            go_wp2_with fail
            refine (CB.out _).mono ?_
            rintro e w3 ⟨rfl, hb3⟩
            have r_a := r_a.all hb3
            have r_b := r_b.all hb3
            have r_c := r_c.all hb3
            have hw3 := hw2.trans (hb3.mono hw2.size)
            clear hb3 hw2
            clear c0b c1b c0a c1a
            obtain ⟨c0b, c1b, _, _, _⟩ := (id r_b)
            obtain ⟨c0c, c1c, _, _, _⟩ := (id r_c)
            go_wp2_with fail
            refine (CC.out _).mono ?_
            rintro e w4 ⟨rfl, hb4⟩
            have r_a := r_a.all hb4
            have r_b := r_b.all hb4
            have r_c := r_c.all hb4
            have hw4 := hw3.trans (hb4.mono hw3.size)
            clear hb4 hw3
            clear c0b c1b c0c c1c
            obtain ⟨c0a, c1a, _, _, _⟩ := (id r_a)
            obtain ⟨c0c, c1c, _, _, _⟩ := (id r_c)
            go_wp2_with fail
            refine (CD.out _).mono ?_
            rintro e w5 ⟨rfl, hb5⟩
            have r_a := r_a.all hb5
            have r_b := r_b.all hb5
            have r_c := r_c.all hb5
            have hw5 := hw4.trans (hb5.mono hw4.size)
            clear hb5 hw4
            clear c0a c1a c0c c1c
            obtain ⟨c0a, c1a, _, _, _⟩ := (id r_a)
            obtain ⟨c0b, c1b, _, _, _⟩ := (id r_b)
            go_wp2_with fail
            refine (SU.out _).mono ?_
            rintro e w6 ⟨rfl, hb6⟩
            have hw6 := hw5.trans (hb6.mono hw5.size)
            clear hb6 hw5
            clear c0a c1a c0b c1b
            obtain ⟨c0d, c1d, _, _, _⟩ := (RatAt.fresh w6 D D' 23)
            go_wp2_with fail
            refine (KN.out _).mono ?_
            rintro e w7 ⟨rfl, hb7⟩
            have hw7 := (hw6.alloc hw6.size (.cells #[.int .i64 D, .int .i64 D'] 23)).trans (hb7.mono (hw6.alloc hw6.size (.cells #[.int .i64 D, .int .i64 D'] 23)).size)
            go_wp2
            go_ret
            exact ⟨rfl, hw7⟩
        · have hv : V ≤ 0 := by omega
          clear h3
          by_cases hz : eD = 0
          · subst hz
            have h5 := h4 rfl
            have hD : decide (D < 0) = true := by simp; omega
            have hD2 : decide (0 < D) = false := by simp; omega
            clear h4 h5
            go_enter Tryd.func7, Tryd.ntmps7
            go_wp2_with fail
            refine (CA.out _).mono ?_
            rintro e w1 ⟨rfl, hb1⟩
            obtain ⟨i_a, i_b, i_c, hw0⟩ := HR.out
            clear HR
            have r_a := i_a.all hb1
            have r_b := i_b.all hb1
            have r_c := i_c.all hb1
            have hw1 := hw0.trans (hb1.mono hw0.size)
            clear hw0 hb1 i_a i_b i_c
            obtain ⟨c0a, c1a, _, _, _⟩ := (id r_a)
            obtain ⟨c0b, c1b, _, _, _⟩ := (id r_b)
            go_wp2_with fail
            refine (CR.out _).mono ?_
            rintro e w2 ⟨rfl, hb2⟩
            have r_a := r_a.all hb2
            have r_b := r_b.all hb2
            have r_c := r_c.all hb2
            have hw2 := hw1.trans (hb2.mono hw1.size)
            clear hb2 hw1
            clear c0a c1a c0b c1b
            obtain ⟨c0b, c1b, _, _, _⟩ := (id r_b)
            obtain ⟨c0a, c1a, _, _, _⟩ := (id r_a)
            go_wp2_with fail
            refine (CB.out _).mono ?_
            rintro e w3 ⟨rfl, hb3⟩
            have r_a := r_a.all hb3
            have r_b := r_b.all hb3
            have r_c := r_c.all hb3
            have hw3 := hw2.trans (hb3.mono hw2.size)
            clear hb3 hw2
            clear c0b c1b c0a c1a
            obtain ⟨c0b, c1b, _, _, _⟩ := (id r_b)
            obtain ⟨c0c, c1c, _, _, _⟩ := (id r_c)
            go_wp2_with fail
            refine (CC.out _).mono ?_
            rintro e w4 ⟨rfl, hb4⟩
            have r_a := r_a.all hb4
            have r_b := r_b.all hb4
            have r_c := r_c.all hb4
            have hw4 := hw3.trans (hb4.mono hw3.size)
            clear hb4 hw3
            clear c0b c1b c0c c1c
            obtain ⟨c0a, c1a, _, _, _⟩ := (id r_a)
            obtain ⟨c0c, c1c, _, _, _⟩ := (id r_c)
            go_wp2_with fail
            refine (CD.out _).mono ?_
            rintro e w5 ⟨rfl, hb5⟩
            have r_a := r_a.all hb5
            have r_b := r_b.all hb5
            have r_c := r_c.all hb5
            have hw5 := hw4.trans (hb5.mono hw4.size)
            clear hb5 hw4
            clear c0a c1a c0c c1c
            obtain ⟨c0a, c1a, _, _, _⟩ := (id r_a)
            obtain ⟨c0b, c1b, _, _, _⟩ := (id r_b)
            go_wp2_with fail
            refine (SU.out _).mono ?_
            rintro e w6 ⟨rfl, hb6⟩
            have hw6 := hw5.trans (hb6.mono hw5.size)
            clear hb6 hw5
            clear c0a c1a c0b c1b
            obtain ⟨c0d, c1d, _, _, _⟩ := (RatAt.fresh w6 D D' 23)
            go_wp2_with fail
            refine (KN.out _).mono ?_
            rintro e w7 ⟨rfl, hb7⟩
            have hw7 := (hw6.alloc hw6.size (.cells #[.int .i64 D, .int .i64 D'] 23)).trans (hb7.mono (hw6.alloc hw6.size (.cells #[.int .i64 D, .int .i64 D'] 23)).size)
            go_wp2
            go_ret
            exact ⟨rfl, hw7⟩
          · have hz' : (eD != 0) = true := by simpa using hz
            clear h4 hz
            go_enter Tryd.func7, Tryd.ntmps7
            go_wp2_with fail
            refine (CA.out _).mono ?_
            rintro e w1 ⟨rfl, hb1⟩
            obtain ⟨i_a, i_b, i_c, hw0⟩ := HR.out
            clear HR
            have r_a := i_a.all hb1
            have r_b := i_b.all hb1
            have r_c := i_c.all hb1
            have hw1 := hw0.trans (hb1.mono hw0.size)
            clear hw0 hb1 i_a i_b i_c
            obtain ⟨c0a, c1a, _, _, _⟩ := (id r_a)
            obtain ⟨c0b, c1b, _, _, _⟩ := (id r_b)
            go_wp2_with fail
            refine (CR.out _).mono ?_
            rintro e w2 ⟨rfl, hb2⟩
            have r_a := r_a.all hb2
            have r_b := r_b.all hb2
            have r_c := r_c.all hb2
            have hw2 := hw1.trans (hb2.mono hw1.size)
            clear hb2 hw1
            clear c0a c1a c0b c1b
            obtain ⟨c0b, c1b, _, _, _⟩ := (id r_b)
            obtain ⟨c0a, c1a, _, _, _⟩ := (id r_a)
            go_wp2_with fail
            refine (CB.out _).mono ?_
            rintro e w3 ⟨rfl, hb3⟩
            have r_a := r_a.all hb3
            have r_b := r_b.all hb3
            have r_c := r_c.all hb3
            have hw3 := hw2.trans (hb3.mono hw2.size)
            clear hb3 hw2
            clear c0b c1b c0a c1a
            obtain ⟨c0b, c1b, _, _, _⟩ := (id r_b)
            obtain ⟨c0c, c1c, _, _, _⟩ := (id r_c)
            go_wp2_with fail
            refine (CC.out _).mono ?_
            rintro e w4 ⟨rfl, hb4⟩
            have r_a := r_a.all hb4
            have r_b := r_b.all hb4
            have r_c := r_c.all hb4
            have hw4 := hw3.trans (hb4.mono hw3.size)
            clear hb4 hw3
            clear c0b c1b c0c c1c
            obtain ⟨c0a, c1a, _, _, _⟩ := (id r_a)
            obtain ⟨c0c, c1c, _, _, _⟩ := (id r_c)
            go_wp2_with fail
            refine (CD.out _).mono ?_
            rintro e w5 ⟨rfl, hb5⟩
            have r_a := r_a.all hb5
            have r_b := r_b.all hb5
            have r_c := r_c.all hb5
            have hw5 := hw4.trans (hb5.mono hw4.size)
            clear hb5 hw4
            clear c0a c1a c0c c1c
            obtain ⟨c0a, c1a, _, _, _⟩ := (id r_a)
            obtain ⟨c0b, c1b, _, _, _⟩ := (id r_b)
            go_wp2_with fail
            refine (SU.out _).mono ?_
            rintro e w6 ⟨rfl, hb6⟩
            have hw6 := hw5.trans (hb6.mono hw5.size)
            clear hb6 hw5
            clear c0a c1a c0b c1b
            obtain ⟨c0d, c1d, _, _, _⟩ := (RatAt.fresh w6 D D' 23)
            go_wp2_with fail
            refine (KN.out _).mono ?_
            rintro e w7 ⟨rfl, hb7⟩
            have hw7 := (hw6.alloc hw6.size (.cells #[.int .i64 D, .int .i64 D'] 23)).trans (hb7.mono (hw6.alloc hw6.size (.cells #[.int .i64 D, .int .i64 D'] 23)).size)
            go_wp2
            go_ret
            exact ⟨rfl, hw7⟩
      · by_cases hu : 0 < U
        · clear h3
          by_cases hz : eD = 0
          · subst hz
            have h5 := h4 rfl
            obtain rfl : D = 0 := by omega
            clear h4 h5
            go_enter Tryd.func7, Tryd.ntmps7
            go_wp2_with fail
            refine (CA.out _).mono ?_
            rintro e w1 ⟨rfl, hb1⟩
            obtain ⟨i_a, i_b, i_c, hw0⟩ := HR.out
            clear HR
            have r_a := i_a.all hb1
            have r_b := i_b.all hb1
            have r_c := i_c.all hb1
            have hw1 := hw0.trans (hb1.mono hw0.size)
            clear hw0 hb1 i_a i_b i_c
            obtain ⟨c0a, c1a, _, _, _⟩ := (id r_a)
            obtain ⟨c0b, c1b, _, _, _⟩ := (id r_b)
            go_wp2_with fail
            refine (CR.out _).mono ?_
            rintro e w2 ⟨rfl, hb2⟩
            have r_a := r_a.all hb2
            have r_b := r_b.all hb2
            have r_c := r_c.all hb2
            have hw2 := hw1.trans (hb2.mono hw1.size)
            clear hb2 hw1
            clear c0a c1a c0b c1b
            obtain ⟨c0b, c1b, _, _, _⟩ := (id r_b)
            obtain ⟨c0a, c1a, _, _, _⟩ := (id r_a)
            go_wp2_with fail
            refine (CB.out _).mono ?_
            rintro e w3 ⟨rfl, hb3⟩
            have r_a := r_a.all hb3
            have r_b := r_b.all hb3
            have r_c := r_c.all hb3
            have hw3 := hw2.trans (hb3.mono hw2.size)
            clear hb3 hw2
            clear c0b c1b c0a c1a
            obtain ⟨c0b, c1b, _, _, _⟩ := (id r_b)
            obtain ⟨c0c, c1c, _, _, _⟩ := (id r_c)
            go_wp2_with fail
            refine (CC.out _).mono ?_
            rintro e w4 ⟨rfl, hb4⟩
            have r_a := r_a.all hb4
            have r_b := r_b.all hb4
            have r_c := r_c.all hb4
            have hw4 := hw3.trans (hb4.mono hw3.size)
            clear hb4 hw3
            clear c0b c1b c0c c1c
            obtain ⟨c0a, c1a, _, _, _⟩ := (id r_a)
            obtain ⟨c0c, c1c, _, _, _⟩ := (id r_c)
            go_wp2_with fail
            refine (CD.out _).mono ?_
            rintro e w5 ⟨rfl, hb5⟩
            have r_a := r_a.all hb5
            have r_b := r_b.all hb5
            have r_c := r_c.all hb5
            have hw5 := hw4.trans (hb5.mono hw4.size)
            clear hb5 hw4
            clear c0a c1a c0c c1c
            obtain ⟨c0a, c1a, _, _, _⟩ := (id r_a)
            obtain ⟨c0b, c1b, _, _, _⟩ := (id r_b)
            go_wp2_with fail
            refine (SU.out _).mono ?_
            rintro e w6 ⟨rfl, hb6⟩
            have hw6 := hw5.trans (hb6.mono hw5.size)
            clear hb6 hw5
            clear c0a c1a c0b c1b
            obtain ⟨c0d, c1d, _, _, _⟩ := (RatAt.fresh w6 0 D' 23)
            go_wp2_with fail
            refine (KN.out _).mono ?_
            rintro e w7 ⟨rfl, hb7⟩
            have hw7 := (hw6.alloc hw6.size (.cells #[.int .i64 0, .int .i64 D'] 23)).trans (hb7.mono (hw6.alloc hw6.size (.cells #[.int .i64 0, .int .i64 D'] 23)).size)
            go_wp2
            go_ret
            exact ⟨rfl, hw7⟩
          · have hz' : (eD != 0) = true := by simpa using hz
            clear h4 hz
            go_enter Tryd.func7, Tryd.ntmps7
            go_wp2_with fail
            refine (CA.out _).mono ?_
            rintro e w1 ⟨rfl, hb1⟩
            obtain ⟨i_a, i_b, i_c, hw0⟩ := HR.out
            clear HR
            have r_a := i_a.all hb1
            have r_b := i_b.all hb1
            have r_c := i_c.all hb1
            have hw1 := hw0.trans (hb1.mono hw0.size)
            clear hw0 hb1 i_a i_b i_c
            obtain ⟨c0a, c1a, _, _, _⟩ := (id r_a)
            obtain ⟨c0b, c1b, _, _, _⟩ := (id r_b)
            go_wp2_with fail
            refine (CR.out _).mono ?_
            rintro e w2 ⟨rfl, hb2⟩
            have r_a := r_a.all hb2
            have r_b := r_b.all hb2
            have r_c := r_c.all hb2
            have hw2 := hw1.trans (hb2.mono hw1.size)
            clear hb2 hw1
            clear c0a c1a c0b c1b
            obtain ⟨c0b, c1b, _, _, _⟩ := (id r_b)
            obtain ⟨c0a, c1a, _, _, _⟩ := (id r_a)
            go_wp2_with fail
            refine (CB.out _).mono ?_
            rintro e w3 ⟨rfl, hb3⟩
            have r_a := r_a.all hb3
            have r_b := r_b.all hb3
            have r_c := r_c.all hb3
            have hw3 := hw2.trans (hb3.mono hw2.size)
            clear hb3 hw2
            clear c0b c1b c0a c1a
            obtain ⟨c0b, c1b, _, _, _⟩ := (id r_b)
            obtain ⟨c0c, c1c, _, _, _⟩ := (id r_c)
            go_wp2_with fail
            refine (CC.out _).mono ?_
            rintro e w4 ⟨rfl, hb4⟩
            have r_a := r_a.all hb4
            have r_b := r_b.all hb4
            have r_c := r_c.all hb4
            have hw4 := hw3.trans (hb4.mono hw3.size)
            clear hb4 hw3
            clear c0b c1b c0c c1c
            obtain ⟨c0a, c1a, _, _, _⟩ := (id r_a)
            obtain ⟨c0c, c1c, _, _, _⟩ := (id r_c)
            go_wp2_with fail
            refine (CD.out _).mono ?_
            rintro e w5 ⟨rfl, hb5⟩
            have r_a := r_a.all hb5
            have r_b := r_b.all hb5
            have r_c := r_c.all hb5
            have hw5 := hw4.trans (hb5.mono hw4.size)
            clear hb5 hw4
            clear c0a c1a c0c c1c
            obtain ⟨c0a, c1a, _, _, _⟩ := (id r_a)
            obtain ⟨c0b, c1b, _, _, _⟩ := (id r_b)
            go_wp2_with fail
            refine (SU.out _).mono ?_
            rintro e w6 ⟨rfl, hb6⟩
            have hw6 := hw5.trans (hb6.mono hw5.size)
            clear hb6 hw5
            clear c0a c1a c0b c1b
            obtain ⟨c0d, c1d, _, _, _⟩ := (RatAt.fresh w6 D D' 23)
            go_wp2_with fail
            refine (KN.out _).mono ?_
            rintro e w7 ⟨rfl, hb7⟩
            have hw7 := (hw6.alloc hw6.size (.cells #[.int .i64 D, .int .i64 D'] 23)).trans (hb7.mono (hw6.alloc hw6.size (.cells #[.int .i64 D, .int .i64 D'] 23)).size)
            go_wp2
            go_ret
            exact ⟨rfl, hw7⟩
        · have hv : V ≤ 0 := by omega
          clear h3
          by_cases hz : eD = 0
          · subst hz
            have h5 := h4 rfl
            obtain rfl : D = 0 := by omega
            clear h4 h5
            go_enter Tryd.func7, Tryd.ntmps7
            go_wp2_with fail
            refine (CA.out _).mono ?_
            rintro e w1 ⟨rfl, hb1⟩
            obtain ⟨i_a, i_b, i_c, hw0⟩ := HR.out
            clear HR
            have r_a := i_a.all hb1
            have r_b := i_b.all hb1
            have r_c := i_c.all hb1
            have hw1 := hw0.trans (hb1.mono hw0.size)
            clear hw0 hb1 i_a i_b i_c
            obtain ⟨c0a, c1a, _, _, _⟩ := (id r_a)
            obtain ⟨c0b, c1b, _, _, _⟩ := (id r_b)
            go_wp2_with fail
            refine (CR.out _).mono ?_
            rintro e w2 ⟨rfl, hb2⟩
            have r_a := r_a.all hb2
            have r_b := r_b.all hb2
            have r_c := r_c.all hb2
            have hw2 := hw1.trans (hb2.mono hw1.size)
            clear hb2 hw1
            clear c0a c1a c0b c1b
            obtain ⟨c0b, c1b, _, _, _⟩ := (id r_b)
            obtain ⟨c0a, c1a, _, _, _⟩ := (id r_a)
            go_wp2_with fail
            refine (CB.out _).mono ?_
            rintro e w3 ⟨rfl, hb3⟩
            have r_a := r_a.all hb3
            have r_b := r_b.all hb3
            have r_c := r_c.all hb3
            have hw3 := hw2.trans (hb3.mono hw2.size)
            clear hb3 hw2
            clear c0b c1b c0a c1a
            obtain ⟨c0b, c1b, _, _, _⟩ := (id r_b)
            obtain ⟨c0c, c1c, _, _, _⟩ := (id r_c)
            go_wp2_with fail
            refine (CC.out _).mono ?_
            rintro e w4 ⟨rfl, hb4⟩
            have r_a := r_a.all hb4
            have r_b := r_b.all hb4
            have r_c := r_c.all hb4
            have hw4 := hw3.trans (hb4.mono hw3.size)
            clear hb4 hw3
            clear c0b c1b c0c c1c
            obtain ⟨c0a, c1a, _, _, _⟩ := (id r_a)
            obtain ⟨c0c, c1c, _, _, _⟩ := (id r_c)
            go_wp2_with fail
            refine (CD.out _).mono ?_
            rintro e w5 ⟨rfl, hb5⟩
            have r_a := r_a.all hb5
            have r_b := r_b.all hb5
            have r_c := r_c.all hb5
            have hw5 := hw4.trans (hb5.mono hw4.size)
            clear hb5 hw4
            clear c0a c1a c0c c1c
            obtain ⟨c0a, c1a, _, _, _⟩ := (id r_a)
            obtain ⟨c0b, c1b, _, _, _⟩ := (id r_b)
            go_wp2_with fail
            refine (SU.out _).mono ?_
            rintro e w6 ⟨rfl, hb6⟩
            have hw6 := hw5.trans (hb6.mono hw5.size)
            clear hb6 hw5
            clear c0a c1a c0b c1b
            obtain ⟨c0d, c1d, _, _, _⟩ := (RatAt.fresh w6 0 D' 23)
            go_wp2_with fail
            refine (KN.out _).mono ?_
            rintro e w7 ⟨rfl, hb7⟩
            have hw7 := (hw6.alloc hw6.size (.cells #[.int .i64 0, .int .i64 D'] 23)).trans (hb7.mono (hw6.alloc hw6.size (.cells #[.int .i64 0, .int .i64 D'] 23)).size)
            go_wp2
            go_ret
            exact ⟨rfl, hw7⟩
          · have hz' : (eD != 0) = true := by simpa using hz
            clear h4 hz
            go_enter Tryd.func7, Tryd.ntmps7
            go_wp2_with fail
            refine (CA.out _).mono ?_
            rintro e w1 ⟨rfl, hb1⟩
            obtain ⟨i_a, i_b, i_c, hw0⟩ := HR.out
            clear HR
            have r_a := i_a.all hb1
            have r_b := i_b.all hb1
            have r_c := i_c.all hb1
            have hw1 := hw0.trans (hb1.mono hw0.size)
            clear hw0 hb1 i_a i_b i_c
            obtain ⟨c0a, c1a, _, _, _⟩ := (id r_a)
            obtain ⟨c0b, c1b, _, _, _⟩ := (id r_b)
            go_wp2_with fail
            refine (CR.out _).mono ?_
            rintro e w2 ⟨rfl, hb2⟩
            have r_a := r_a.all hb2
            have r_b := r_b.all hb2
            have r_c := r_c.all hb2
            have hw2 := hw1.trans (hb2.mono hw1.size)
            clear hb2 hw1
            clear c0a c1a c0b c1b
            obtain ⟨c0b, c1b, _, _, _⟩ := (id r_b)
            obtain ⟨c0a, c1a, _, _, _⟩ := (id r_a)
            go_wp2_with fail
            refine (CB.out _).mono ?_
            rintro e w3 ⟨rfl, hb3⟩
            have r_a := r_a.all hb3
            have r_b := r_b.all hb3
            have r_c := r_c.all hb3
            have hw3 := hw2.trans (hb3.mono hw2.size)
            clear hb3 hw2
            clear c0b c1b c0a c1a
            obtain ⟨c0b, c1b, _, _, _⟩ := (id r_b)
            obtain ⟨c0c, c1c, _, _, _⟩ := (id r_c)
            go_wp2_with fail
            refine (CC.out _).mono ?_
            rintro e w4 ⟨rfl, hb4⟩
            have r_a := r_a.all hb4
            have r_b := r_b.all hb4
            have r_c := r_c.all hb4
            have hw4 := hw3.trans (hb4.mono hw3.size)
            clear hb4 hw3
            clear c0b c1b c0c c1c
            obtain ⟨c0a, c1a, _, _, _⟩ := (id r_a)
            obtain ⟨c0c, c1c, _, _, _⟩ := (id r_c)
            go_wp2_with fail
            refine (CD.out _).mono ?_
            rintro e w5 ⟨rfl, hb5⟩
            have r_a := r_a.all hb5
            have r_b := r_b.all hb5
            have r_c := r_c.all hb5
            have hw5 := hw4.trans (hb5.mono hw4.size)
            clear hb5 hw4
            clear c0a c1a c0c c1c
            obtain ⟨c0a, c1a, _, _, _⟩ := (id r_a)
            obtain ⟨c0b, c1b, _, _, _⟩ := (id r_b)
            go_wp2_with fail
            refine (SU.out _).mono ?_
            rintro e w6 ⟨rfl, hb6⟩
            have hw6 := hw5.trans (hb6.mono hw5.size)
            clear hb6 hw5
            clear c0a c1a c0b c1b
            obtain ⟨c0d, c1d, _, _, _⟩ := (RatAt.fresh w6 D D' 23)
            go_wp2_with fail
            refine (KN.out _).mono ?_
            rintro e w7 ⟨rfl, hb7⟩
            have hw7 := (hw6.alloc hw6.size (.cells #[.int .i64 D, .int .i64 D'] 23)).trans (hb7.mono (hw6.alloc hw6.size (.cells #[.int .i64 D, .int .i64 D'] 23)).size)
            go_wp2
            go_ret
            exact ⟨rfl, hw7⟩
      · clear h3
        by_cases hz : eD = 0
        · subst hz
          have h5 := h4 rfl
          have hD : decide (D < 0) = false := by simp; omega
          have hD2 : decide (0 < D) = true := by simp; omega
          clear h4 h5
          go_enter Tryd.func7, Tryd.ntmps7
          go_wp2_with fail
          refine (CA.out _).mono ?_
          rintro e w1 ⟨rfl, hb1⟩
          obtain ⟨i_a, i_b, i_c, hw0⟩ := HR.out
          clear HR
          have r_a := i_a.all hb1
          have r_b := i_b.all hb1
          have r_c := i_c.all hb1
          have hw1 := hw0.trans (hb1.mono hw0.size)
          clear hw0 hb1 i_a i_b i_c
          obtain ⟨c0a, c1a, _, _, _⟩ := (id r_a)
          obtain ⟨c0b, c1b, _, _, _⟩ := (id r_b)
          go_wp2_with fail
          refine (CR.out _).mono ?_
          rintro e w2 ⟨rfl, hb2⟩
          have r_a := r_a.all hb2
          have r_b := r_b.all hb2
          have r_c := r_c.all hb2
          have hw2 := hw1.trans (hb2.mono hw1.size)
          clear hb2 hw1
          clear c0a c1a c0b c1b
          obtain ⟨c0b, c1b, _, _, _⟩ := (id r_b)
          obtain ⟨c0a, c1a, _, _, _⟩ := (id r_a)
          go_wp2_with fail
          refine (CB.out _).mono ?_
          rintro e w3 ⟨rfl, hb3⟩
          have r_a := r_a.all hb3
          have r_b := r_b.all hb3
          have r_c := r_c.all hb3
          have hw3 := hw2.trans (hb3.mono hw2.size)
          clear hb3 hw2
          clear c0b c1b c0a c1a
          obtain ⟨c0b, c1b, _, _, _⟩ := (id r_b)
          obtain ⟨c0c, c1c, _, _, _⟩ := (id r_c)
          go_wp2_with fail
          refine (CC.out _).mono ?_
          rintro e w4 ⟨rfl, hb4⟩
          have r_a := r_a.all hb4
          have r_b := r_b.all hb4
          have r_c := r_c.all hb4
          have hw4 := hw3.trans (hb4.mono hw3.size)
          clear hb4 hw3
          clear c0b c1b c0c c1c
          obtain ⟨c0a, c1a, _, _, _⟩ := (id r_a)
          obtain ⟨c0c, c1c, _, _, _⟩ := (id r_c)
          go_wp2_with fail
          refine (CD.out _).mono ?_
          rintro e w5 ⟨rfl, hb5⟩
          have r_a := r_a.all hb5
          have r_b := r_b.all hb5
          have r_c := r_c.all hb5
          have hw5 := hw4.trans (hb5.mono hw4.size)
          clear hb5 hw4
          clear c0a c1a c0c c1c
          obtain ⟨c0a, c1a, _, _, _⟩ := (id r_a)
          obtain ⟨c0b, c1b, _, _, _⟩ := (id r_b)
          go_wp2_with fail
          refine (SU.out _).mono ?_
          rintro e w6 ⟨rfl, hb6⟩
          have hw6 := hw5.trans (hb6.mono hw5.size)
          clear hb6 hw5
          clear c0a c1a c0b c1b
          obtain ⟨c0d, c1d, _, _, _⟩ := (RatAt.fresh w6 D D' 23)
          go_wp2_with fail
          refine (KN.out _).mono ?_
          rintro e w7 ⟨rfl, hb7⟩
          have hw7 := (hw6.alloc hw6.size (.cells #[.int .i64 D, .int .i64 D'] 23)).trans (hb7.mono (hw6.alloc hw6.size (.cells #[.int .i64 D, .int .i64 D'] 23)).size)
          go_wp2
          go_ret
          exact ⟨rfl, hw7⟩
        · have hz' : (eD != 0) = true := by simpa using hz
          clear h4 hz
          go_enter Tryd.func7, Tryd.ntmps7
          go_wp2_with fail
          refine (CA.out _).mono ?_
          rintro e w1 ⟨rfl, hb1⟩
          obtain ⟨i_a, i_b, i_c, hw0⟩ := HR.out
          clear HR
          have r_a := i_a.all hb1
          have r_b := i_b.all hb1
          have r_c := i_c.all hb1
          have hw1 := hw0.trans (hb1.mono hw0.size)
          clear hw0 hb1 i_a i_b i_c
          obtain ⟨c0a, c1a, _, _, _⟩ := (id r_a)
          obtain ⟨c0b, c1b, _, _, _⟩ := (id r_b)
          go_wp2_with fail
          refine (CR.out _).mono ?_
          rintro e w2 ⟨rfl, hb2⟩
          have r_a := r_a.all hb2
          have r_b := r_b.all hb2
          have r_c := r_c.all hb2
          have hw2 := hw1.trans (hb2.mono hw1.size)
          clear hb2 hw1
          clear c0a c1a c0b c1b
          obtain ⟨c0b, c1b, _, _, _⟩ := (id r_b)
          obtain ⟨c0a, c1a, _, _, _⟩ := (id r_a)
          go_wp2_with fail
          refine (CB.out _).mono ?_
          rintro e w3 ⟨rfl, hb3⟩
          have r_a := r_a.all hb3
          have r_b := r_b.all hb3
          have r_c := r_c.all hb3
          have hw3 := hw2.trans (hb3.mono hw2.size)
          clear hb3 hw2
          clear c0b c1b c0a c1a
          obtain ⟨c0b, c1b, _, _, _⟩ := (id r_b)
          obtain ⟨c0c, c1c, _, _, _⟩ := (id r_c)
          go_wp2_with fail
          refine (CC.out _).mono ?_
          rintro e w4 ⟨rfl, hb4⟩
          have r_a := r_a.all hb4
          have r_b := r_b.all hb4
          have r_c := r_c.all hb4
          have hw4 := hw3.trans (hb4.mono hw3.size)
          clear hb4 hw3
          clear c0b c1b c0c c1c
          obtain ⟨c0a, c1a, _, _, _⟩ := (id r_a)
          obtain ⟨c0c, c1c, _, _, _⟩ := (id r_c)
          go_wp2_with fail
          refine (CD.out _).mono ?_
          rintro e w5 ⟨rfl, hb5⟩
          have r_a := r_a.all hb5
          have r_b := r_b.all hb5
          have r_c := r_c.all hb5
          have hw5 := hw4.trans (hb5.mono hw4.size)
          clear hb5 hw4
          clear c0a c1a c0c c1c
          obtain ⟨c0a, c1a, _, _, _⟩ := (id r_a)
          obtain ⟨c0b, c1b, _, _, _⟩ := (id r_b)
          go_wp2_with fail
          refine (SU.out _).mono ?_
          rintro e w6 ⟨rfl, hb6⟩
          have hw6 := hw5.trans (hb6.mono hw5.size)
          clear hb6 hw5
          clear c0a c1a c0b c1b
          obtain ⟨c0d, c1d, _, _, _⟩ := (RatAt.fresh w6 D D' 23)
          go_wp2_with fail
          refine (KN.out _).mono ?_
          rintro e w7 ⟨rfl, hb7⟩
          have hw7 := (hw6.alloc hw6.size (.cells #[.int .i64 D, .int .i64 D'] 23)).trans (hb7.mono (hw6.alloc hw6.size (.cells #[.int .i64 D, .int .i64 D'] 23)).size)
          go_wp2
          go_ret
          exact ⟨rfl, hw7⟩
    · clear hk hx
      go_enter Tryd.func7, Tryd.ntmps7
      go_wp2_with fail
      refine (CA.out _).mono ?_
      rintro e w1 ⟨rfl, hb1⟩
      obtain ⟨i_a, i_b, i_c, hw0⟩ := HR.out
      clear HR
      have r_a := i_a.all hb1
      have r_b := i_b.all hb1
      have r_c := i_c.all hb1
      have hw1 := hw0.trans (hb1.mono hw0.size)
      clear hw0 hb1 i_a i_b i_c
      obtain ⟨c0a, c1a, _, _, _⟩ := (id r_a)
      obtain ⟨c0b, c1b, _, _, _⟩ := (id r_b)
      go_wp2_with fail
      refine (CR.out _).mono ?_
      rintro e w2 ⟨rfl, hb2⟩
      have r_a := r_a.all hb2
      have r_b := r_b.all hb2
      have r_c := r_c.all hb2
      have hw2 := hw1.trans (hb2.mono hw1.size)
      clear hb2 hw1
      clear c0a c1a c0b c1b
      obtain ⟨c0b, c1b, _, _, _⟩ := (id r_b)
      obtain ⟨c0a, c1a, _, _, _⟩ := (id r_a)
      go_wp2_with fail
      refine (CB.out _).mono ?_
      rintro e w3 ⟨rfl, hb3⟩
      have r_a := r_a.all hb3
      have r_b := r_b.all hb3
      have r_c := r_c.all hb3
      have hw3 := hw2.trans (hb3.mono hw2.size)
      clear hb3 hw2
      clear c0b c1b c0a c1a
      obtain ⟨c0b, c1b, _, _, _⟩ := (id r_b)
      obtain ⟨c0c, c1c, _, _, _⟩ := (id r_c)
      go_wp2_with fail
      refine (CC.out _).mono ?_
      rintro e w4 ⟨rfl, hb4⟩
      have r_a := r_a.all hb4
      have r_b := r_b.all hb4
      have r_c := r_c.all hb4
      have hw4 := hw3.trans (hb4.mono hw3.size)
      clear hb4 hw3
      clear c0b c1b c0c c1c
      obtain ⟨c0a, c1a, _, _, _⟩ := (id r_a)
      obtain ⟨c0c, c1c, _, _, _⟩ := (id r_c)
      go_wp2_with fail
      refine (CD.out _).mono ?_
      rintro e w5 ⟨rfl, hb5⟩
      have r_a := r_a.all hb5
      have r_b := r_b.all hb5
      have r_c := r_c.all hb5
      have hw5 := hw4.trans (hb5.mono hw4.size)
      clear hb5 hw4
      clear c0a c1a c0c c1c
      obtain ⟨c0a, c1a, _, _, _⟩ := (id r_a)
      obtain ⟨c0b, c1b, _, _, _⟩ := (id r_b)
      go_wp2_with fail
      refine (SU.out _).mono ?_
      rintro e w6 ⟨rfl, hb6⟩
      have hw6 := hw5.trans (hb6.mono hw5.size)
      clear hb6 hw5
      clear c0a c1a c0b c1b
      go_wp2_with fail
      refine (KN.out _).mono ?_
      rintro e w7 ⟨rfl, hb7⟩
      have hw7 := (hw6.alloc hw6.size (.cells #[.int .i64 D, .int .i64 D'] 23)).trans (hb7.mono (hw6.alloc hw6.size (.cells #[.int .i64 D, .int .i64 D'] 23)).size)
      go_wp2
      go_ret
      exact ⟨rfl, hw7⟩
  · clear hk hx hg
    go_enter Tryd.func7, Tryd.ntmps7
    go_wp2_with fail
    refine (CA.out _).mono ?_
    rintro e w1 ⟨rfl, hb1⟩
    obtain ⟨i_a, i_b, i_c, hw0⟩ := HR.out
    clear HR
    have r_a := i_a.all hb1
    have r_b := i_b.all hb1
    have r_c := i_c.all hb1
    have hw1 := hw0.trans (hb1.mono hw0.size)
    clear hw0 hb1 i_a i_b i_c
    obtain ⟨c0a, c1a, _, _, _⟩ := (id r_a)
    obtain ⟨c0b, c1b, _, _, _⟩ := (id r_b)
    go_wp2_with fail
    refine (CR.out _).mono ?_
    rintro e w2 ⟨rfl, hb2⟩
    have r_a := r_a.all hb2
    have r_b := r_b.all hb2
    have r_c := r_c.all hb2
    have hw2 := hw1.trans (hb2.mono hw1.size)
    clear hb2 hw1
    clear c0a c1a c0b c1b
    obtain ⟨c0b, c1b, _, _, _⟩ := (id r_b)
    obtain ⟨c0a, c1a, _, _, _⟩ := (id r_a)
    go_wp2_with fail
    refine (CB.out _).mono ?_
    rintro e w3 ⟨rfl, hb3⟩
    have r_a := r_a.all hb3
    have r_b := r_b.all hb3
    have r_c := r_c.all hb3
    have hw3 := hw2.trans (hb3.mono hw2.size)
    clear hb3 hw2
    clear c0b c1b c0a c1a
    obtain ⟨c0b, c1b, _, _, _⟩ := (id r_b)
    obtain ⟨c0c, c1c, _, _, _⟩ := (id r_c)
    go_wp2_with fail
    refine (CC.out _).mono ?_
    rintro e w4 ⟨rfl, hb4⟩
    have r_a := r_a.all hb4
    have r_b := r_b.all hb4
    have r_c := r_c.all hb4
    have hw4 := hw3.trans (hb4.mono hw3.size)
    clear hb4 hw3
    clear c0b c1b c0c c1c
    obtain ⟨c0a, c1a, _, _, _⟩ := (id r_a)
    obtain ⟨c0c, c1c, _, _, _⟩ := (id r_c)
    go_wp2_with fail
    refine (CD.out _).mono ?_
    rintro e w5 ⟨rfl, hb5⟩
    have r_a := r_a.all hb5
    have r_b := r_b.all hb5
    have r_c := r_c.all hb5
    have hw5 := hw4.trans (hb5.mono hw4.size)
    clear hb5 hw4
    clear c0a c1a c0c c1c
    obtain ⟨c0a, c1a, _, _, _⟩ := (id r_a)
    obtain ⟨c0b, c1b, _, _, _⟩ := (id r_b)
    go_wp2_with fail
    refine (SU.out _).mono ?_
    rintro e w6 ⟨rfl, hb6⟩
    have hw6 := hw5.trans (hb6.mono hw5.size)
    clear hb6 hw5
    clear c0a c1a c0b c1b
    go_wp2_with fail
    refine (KN.out _).mono ?_
    rintro e w7 ⟨rfl, hb7⟩
    have hw7 := (hw6.alloc hw6.size (.cells #[.int .i64 D, .int .i64 D'] 23)).trans (hb7.mono (hw6.alloc hw6.size (.cells #[.int .i64 D, .int .i64 D'] 23)).size)
    go_wp2
    go_ret
    exact ⟨rfl, hw7⟩
end Go.Proofs.YtfgignbmnfeikaaDoor
