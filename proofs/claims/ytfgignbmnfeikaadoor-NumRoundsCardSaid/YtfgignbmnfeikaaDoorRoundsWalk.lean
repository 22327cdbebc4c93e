/- NumRounds returns true, whatever the fraction. -/
import Derived.Test.YtfgignbmnfeikaaDoorRound
namespace Go.Proofs.YtfgignbmnfeikaaDoor
open Go.RowKit

theorem Fr.rd_fl (n d : Int) : (Fr.rdN n d = Fr.flN n d ∨ Fr.rdN n d = Fr.flN n d + 1) ∧ -1099511627776 ≤ Fr.flN n d ∧ Fr.flN n d ≤ 1099511627776 := by
  by_cases h : Fr.ok n d = true
  · obtain ⟨e1, _, e3⟩ := Fr.fl_ok h
    rw [e1, e3]
    refine ⟨?_, Fr.fl_bound h⟩
    unfold Fr.rdI
    split
    · exact .inr rfl
    · exact .inl rfl
  · obtain ⟨e1, _, e3⟩ := Fr.fl_not (n := n) (d := d) (by simpa using h)
    rw [e1, e3]
    decide

theorem rounds_walk (n d : Int) (w : World) (n1 : -9223372036854775808 ≤ n) (n2 : n ≤ 9223372036854775807) (d1 : -9223372036854775808 ≤ d) (d2 : d ≤ 9223372036854775807) :
    Calls Tryd.prog 8 #[rat n d] w fun e w' => e = .returned (.bool true) ∧ Below w.heap.size w w' := by
  have HR := Lib.hid (And.intro (RatAt.fresh w n d 23) ((Below.refl w.heap.size w).alloc (Nat.le_refl _) (.cells #[.int .i64 n, .int .i64 d] 23)))
  have KN := Lib.hid known_any
  have CA := Lib.hid (fun w => num_floor_any n d w n1 n2 d1 d2)
  have CR := Lib.hid (fun w => ref_floor_any n d w n1 n2 d1 d2)
  have CB := Lib.hid (fun w => num_round_any n d w n1 n2 d1 d2)
  have CC := Lib.hid (fun w => ref_round_any n d w n1 n2 d1 d2)
  obtain ⟨hx, x1, x2⟩ := Fr.rd_fl n d
  generalize Fr.rdN n d = X at *
  generalize Fr.flN n d = Y at *
  generalize Fr.flE n d = Z at *
  rcases hx with rfl | rfl
  · go_enter Tryd.func8, Tryd.ntmps8
    go_wp2_with fail
    refine (CA.out _).mono ?_
    rintro e w1 ⟨rfl, hb1⟩
    obtain ⟨i_a, hw0⟩ := HR.out
    clear HR
    have r_a := i_a.all hb1
    have hw1 := hw0.trans (hb1.mono hw0.size)
    clear hw0 hb1 i_a
    obtain ⟨c0a, c1a, _, _, _⟩ := (id r_a)
    go_wp2_with fail
    refine (CR.out _).mono ?_
    rintro e w2 ⟨rfl, hb2⟩
    have r_a := r_a.all hb2
    have hw2 := hw1.trans (hb2.mono hw1.size)
    clear hb2 hw1
    clear c0a c1a
    obtain ⟨c0a, c1a, _, _, _⟩ := (id r_a)
    go_wp2_with fail
    refine (CB.out _).mono ?_
    rintro e w3 ⟨rfl, hb3⟩
    have r_a := r_a.all hb3
    have hw3 := hw2.trans (hb3.mono hw2.size)
    clear hb3 hw2
    clear c0a c1a
    obtain ⟨c0a, c1a, _, _, _⟩ := (id r_a)
    go_wp2_with fail
    refine (CC.out _).mono ?_
    rintro e w4 ⟨rfl, hb4⟩
    have hw4 := hw3.trans (hb4.mono hw3.size)
    clear hb4 hw3
    clear c0a c1a
    go_wp2_with fail
    refine (KN.out _).mono ?_
    rintro e w5 ⟨rfl, hb5⟩
    have hw5 := hw4.trans (hb5.mono hw4.size)
    go_wp2
    go_ret
    exact ⟨rfl, hw5⟩
  · have hne : (Y + 1 == Y) = false := by simp; omega
    go_enter Tryd.func8, Tryd.ntmps8
    go_wp2_with fail
    refine (CA.out _).mono ?_
    rintro e w1 ⟨rfl, hb1⟩
    obtain ⟨i_a, hw0⟩ := HR.out
    clear HR
    have r_a := i_a.all hb1
    have hw1 := hw0.trans (hb1.mono hw0.size)
    clear hw0 hb1 i_a
    obtain ⟨c0a, c1a, _, _, _⟩ := (id r_a)
    go_wp2_with fail
    refine (CR.out _).mono ?_
    rintro e w2 ⟨rfl, hb2⟩
    have r_a := r_a.all hb2
    have hw2 := hw1.trans (hb2.mono hw1.size)
    clear hb2 hw1
    clear c0a c1a
    obtain ⟨c0a, c1a, _, _, _⟩ := (id r_a)
    go_wp2_with fail
    refine (CB.out _).mono ?_
    rintro e w3 ⟨rfl, hb3⟩
    have r_a := r_a.all hb3
    have hw3 := hw2.trans (hb3.mono hw2.size)
    clear hb3 hw2
    clear c0a c1a
    obtain ⟨c0a, c1a, _, _, _⟩ := (id r_a)
    go_wp2_with fail
    refine (CC.out _).mono ?_
    rintro e w4 ⟨rfl, hb4⟩
    have hw4 := hw3.trans (hb4.mono hw3.size)
    clear hb4 hw3
    clear c0a c1a
    go_wp2_with fail
    refine (KN.out _).mono ?_
    rintro e w5 ⟨rfl, hb5⟩
    have hw5 := hw4.trans (hb5.mono hw4.size)
    go_wp2
    go_ret
    exact ⟨rfl, hw5⟩
end Go.Proofs.YtfgignbmnfeikaaDoor
