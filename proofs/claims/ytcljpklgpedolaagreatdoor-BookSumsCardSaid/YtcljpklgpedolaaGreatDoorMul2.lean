/- What the program answers for products and quotients of fractions. -/
import Derived.Test.YtcljpklgpedolaaGreatDoorMul
namespace Go.Proofs.YtcljpklgpedolaaGreatDoor
open Go.RowKit

set_option maxRecDepth 20000 in
set_option maxHeartbeats 600000 in
theorem mul_any (an ad bn bd : Int) (w : World) (a1 : -9223372036854775808 ≤ an) (a2 : an ≤ 9223372036854775807) (a3 : -9223372036854775808 ≤ ad) (a4 : ad ≤ 9223372036854775807)
    (b1 : -9223372036854775808 ≤ bn) (b2 : bn ≤ 9223372036854775807) (b3 : -9223372036854775808 ≤ bd) (b4 : bd ≤ 9223372036854775807) :
    Calls Tryz.prog 86 #[rat an ad, rat bn bd] w fun e w' => e = .returned (.tuple #[rat (Fr.mulN an ad bn bd) (Fr.mulD an ad bn bd), .int .i64 (Fr.mulE an ad bn bd)]) ∧ Below w.heap.size w w' := by
  obtain ⟨ra, rb, rr⟩ := three w an ad bn bd 0 0
  have hw0 := below3 w (.cells #[.int .i64 an, .int .i64 ad] 70) (.cells #[.int .i64 bn, .int .i64 bd] 70) (.cells #[.int .i64 0, .int .i64 0] 70)
  have HR := Lib.hid (And.intro ra (And.intro rb (And.intro rr hw0)))
  clear ra rb rr hw0
  by_cases hA : Fr.ok an ad = true
  · by_cases hB : Fr.ok bn bd = true
    · obtain ⟨e1, e2, e3⟩ := Fr.mul_both (an := an) (ad := ad) (bn := bn) (bd := bd) (by simp [Fr.both, hA, hB])
      rw [e1, e2, e3]
      clear e1 e2 e3
      have hl : Fr.er (an * bn) (ad * bd) ≠ 0 → Fr.nu (an * bn) (ad * bd) = 0 ∧ Fr.de (an * bn) (ad * bd) = 0 := fun h => ⟨Fr.nu_of h, Fr.de_of h⟩
      obtain ⟨f1, f2, f3, f4, f5⟩ := Fr.mul_facts hA hB
      obtain ⟨v1, v2, v3, v4, _⟩ := Fr.ok_iff.1 hA
      obtain ⟨u1, u2, u3, u4, _⟩ := Fr.ok_iff.1 hB
      have o1 := Fr.ok_iff.1 (Fr.ok_mk f1)
      have o2 := Fr.ok_iff.1 (Fr.ok_mk f2)
      have ML := Lib.hid (fun w => make_any an bd w (by omega) (by omega) (by omega) (by omega))
      have MR := Lib.hid (fun w => make_any bn ad w (by omega) (by omega) (by omega) (by omega))
      rw [f1] at ML
      rw [f2] at MR
      clear f1 f2
      generalize Fr.nu an bd = l at *
      generalize Fr.de an bd = p at *
      generalize Fr.nu bn ad = r at *
      generalize Fr.de bn ad = q at *
      obtain ⟨l1, l2, l3, l4, _⟩ := o1
      obtain ⟨r1, r2, r3, r4, _⟩ := o2
      by_cases hP : l.natAbs * r.natAbs ≤ 1099511627776
      · have MU := Lib.hid (fun w => mul64_any l.natAbs r.natAbs 0 (l.natAbs * r.natAbs) (by omega) (by omega) ⟨by omega, by omega⟩ w)
        have b1 : -1099511627776 ≤ l * r ∧ l * r ≤ 1099511627776 := by omega
        obtain ⟨b5, b6⟩ := b1
        obtain ⟨b7, b8⟩ := Fr.den_small l1 l2 r1 r2
        have MK := Lib.hid (fun w => make_any (l * r) (p * q) w (by omega) (by omega) (by omega) (by omega))
        rw [f5.1, f5.2.1, f5.2.2] at MK
        clear f3 f4 f5 hl
        generalize Fr.nu (an * bn) (ad * bd) = x at *
        generalize Fr.de (an * bn) (ad * bd) = y at *
        generalize Fr.er (an * bn) (ad * bd) = z at *
        generalize l.natAbs * r.natAbs = pp at *
        go_enter Tryz.func86, Tryz.ntmps86
        go_wp2_with fail
        refine (valid_any an ad _ a1 a2 a3 a4).mono ?_
        rintro e w1 ⟨rfl, hb1⟩
        obtain ⟨ra, rb, rr, hw0⟩ := HR.out
        have ra1 := ra.all hb1
        have rb1 := rb.all hb1
        have rr1 := rr.all hb1
        have hw1 := hw0.trans (hb1.mono hw0.size)
        clear HR ra rb rr hw0 hb1
        have RB := Lib.hid rb1
        obtain ⟨c0, c1, _, _, hz⟩ := rb1
        go_wp2_with fail
        refine (valid_any bn bd _ b1 b2 b3 b4).mono ?_
        rintro e w2 ⟨rfl, hb2⟩
        have ra2 := ra1.all hb2
        have rb2 := RB.out.all hb2
        have rr2 := rr1.all hb2
        have hw2 := hw1.trans (hb2.mono hw1.size)
        clear ra1 rr1 hw1 hb2 c0 c1 hz RB
        have RR := Lib.hid rr2
        have RA := Lib.hid ra2
        have RBB := Lib.hid rb2
        clear rr2
        obtain ⟨c0, c1, _, _, _⟩ := ra2
        obtain ⟨c2, c3, _, _, _⟩ := rb2
        go_wp2_with fail
        refine (ML.out _).mono ?_
        rintro e w3 ⟨rfl, hb3⟩
        have rr3 := RR.out.all hb3
        have ra3 := RA.out.all hb3
        have rb3 := RBB.out.all hb3
        have hw3 := hw2.trans (hb3.mono hw2.size)
        clear RR RA RBB hw2 hb3 c0 c1 c2 c3
        have rr4 := rr3.alloc (.cells #[.int .i64 l, .int .i64 p] 70)
        have ra4 := ra3.alloc (.cells #[.int .i64 l, .int .i64 p] 70)
        have rb4 := rb3.alloc (.cells #[.int .i64 l, .int .i64 p] 70)
        have rl4 := RatAt.fresh w3 l p 70
        have hw4 := hw3.alloc hw3.size (.cells #[.int .i64 l, .int .i64 p] 70)
        have RR := Lib.hid (And.intro rr4 (And.intro rl4 hw4))
        clear rr3 ra3 rb3 rr4 rl4 hw3 hw4
        obtain ⟨c0, c1, _, _, _⟩ := ra4
        obtain ⟨c2, c3, _, _, _⟩ := rb4
        go_wp2_with fail
        refine (MR.out _).mono ?_
        rintro e w5 ⟨rfl, hb5⟩
        obtain ⟨rr4, rl4, hw4⟩ := RR.out
        have rr5 := rr4.all hb5
        have rl5 := rl4.all hb5
        have hw5 := hw4.trans (hb5.mono hw4.size)
        clear RR rr4 rl4 hw4 hb5 c0 c1 c2 c3
        have rr6 := rr5.alloc (.cells #[.int .i64 r, .int .i64 q] 70)
        have rl6 := rl5.alloc (.cells #[.int .i64 r, .int .i64 q] 70)
        have rt6 := RatAt.fresh w5 r q 70
        have hw6 := hw5.alloc hw5.size (.cells #[.int .i64 r, .int .i64 q] 70)
        have RR := Lib.hid (And.intro rr6 (And.intro rl6 (And.intro rt6 hw6)))
        clear rr5 rl5 rr6 rt6 hw5 hw6
        obtain ⟨c0, c1, _, _, _⟩ := rl6
        go_wp2_with fail
        go_quiet ((first | (go_at_call 113; exact Calls.quiet_of_same ((magnitude_any _ _ (by omega) (by omega)).mono fun _ _ h => ⟨h.1, h.2.symm⟩)) | (go_at_call 115; exact Calls.quiet_of_same (MU.out _))))
        obtain ⟨rr6, rl6, rt6, hw6⟩ := RR.out
        clear RR
        obtain ⟨c2, c3, _, _, _⟩ := rt6
        go_wp2_with fail
        refine (MK.out _).mono ?_
        rintro e w7 ⟨rfl, hb7⟩
        have rr7 := rr6.all (below_drewN (Below.refl _ _) _ |>.trans hb7)
        have hw7 := hw6.trans ((below_drewN (Below.refl _ _) _ |>.trans hb7).mono hw6.size)
        clear hw6 rr6 hb7 c0 c1 c2 c3 rl6
        obtain ⟨c0, c1, f0, f1, hz⟩ := rr7
        go_wp2
        exact bodyPost_ret (v := .tuple #[rat x y, .int .i64 z]) (by simp [results, Tryz.results86, go_sem, c0, c1, hz]) rfl ⟨rfl, by repeat' (first | exact hw7 | refine Below.setCell ?_ (by simp; try omega) _ | refine Below.alloc ?_ (by simp; try omega) _)⟩
      · have h4 := f4 (by omega)
        obtain ⟨g1, g2⟩ := hl (by rw [h4]; decide)
        rw [h4, g1, g2]
        clear f3 f4 f5 hl h4 g1 g2
        obtain ⟨hi, lo, hhl, hq⟩ : ∃ hi lo : Nat, (l.natAbs * r.natAbs / 18446744073709551616 = hi ∧ l.natAbs * r.natAbs % 18446744073709551616 = lo) ∧ (0 < hi ∨ (hi = 0 ∧ 1099511627776 < lo)) := ⟨_, _, ⟨rfl, rfl⟩, by omega⟩
        have MU := Lib.hid (fun w => mul64_any l.natAbs r.natAbs hi lo (by omega) (by omega) hhl w)
        clear hhl hP
        rcases hq with hq | ⟨rfl, hq⟩
        all_goals
          go_enter Tryz.func86, Tryz.ntmps86
          go_wp2_with fail
          refine (valid_any an ad _ a1 a2 a3 a4).mono ?_
          rintro e w1 ⟨rfl, hb1⟩
          obtain ⟨ra, rb, rr, hw0⟩ := HR.out
          have ra1 := ra.all hb1
          have rb1 := rb.all hb1
          have rr1 := rr.all hb1
          have hw1 := hw0.trans (hb1.mono hw0.size)
          clear HR ra rb rr hw0 hb1
          have RB := Lib.hid rb1
          obtain ⟨c0, c1, _, _, hz⟩ := rb1
          go_wp2_with fail
          refine (valid_any bn bd _ b1 b2 b3 b4).mono ?_
          rintro e w2 ⟨rfl, hb2⟩
          have ra2 := ra1.all hb2
          have rb2 := RB.out.all hb2
          have rr2 := rr1.all hb2
          have hw2 := hw1.trans (hb2.mono hw1.size)
          clear ra1 rr1 hw1 hb2 c0 c1 hz RB
          have RR := Lib.hid rr2
          have RA := Lib.hid ra2
          have RBB := Lib.hid rb2
          clear rr2
          obtain ⟨c0, c1, _, _, _⟩ := ra2
          obtain ⟨c2, c3, _, _, _⟩ := rb2
          go_wp2_with fail
          refine (ML.out _).mono ?_
          rintro e w3 ⟨rfl, hb3⟩
          have rr3 := RR.out.all hb3
          have ra3 := RA.out.all hb3
          have rb3 := RBB.out.all hb3
          have hw3 := hw2.trans (hb3.mono hw2.size)
          clear RR RA RBB hw2 hb3 c0 c1 c2 c3
          have rr4 := rr3.alloc (.cells #[.int .i64 l, .int .i64 p] 70)
          have ra4 := ra3.alloc (.cells #[.int .i64 l, .int .i64 p] 70)
          have rb4 := rb3.alloc (.cells #[.int .i64 l, .int .i64 p] 70)
          have rl4 := RatAt.fresh w3 l p 70
          have hw4 := hw3.alloc hw3.size (.cells #[.int .i64 l, .int .i64 p] 70)
          have RR := Lib.hid (And.intro rr4 (And.intro rl4 hw4))
          clear rr3 ra3 rb3 rr4 rl4 hw3 hw4
          obtain ⟨c0, c1, _, _, _⟩ := ra4
          obtain ⟨c2, c3, _, _, _⟩ := rb4
          go_wp2_with fail
          refine (MR.out _).mono ?_
          rintro e w5 ⟨rfl, hb5⟩
          obtain ⟨rr4, rl4, hw4⟩ := RR.out
          have rr5 := rr4.all hb5
          have rl5 := rl4.all hb5
          have hw5 := hw4.trans (hb5.mono hw4.size)
          clear RR rr4 rl4 hw4 hb5 c0 c1 c2 c3
          have rr6 := rr5.alloc (.cells #[.int .i64 r, .int .i64 q] 70)
          have rl6 := rl5.alloc (.cells #[.int .i64 r, .int .i64 q] 70)
          have rt6 := RatAt.fresh w5 r q 70
          have hw6 := hw5.alloc hw5.size (.cells #[.int .i64 r, .int .i64 q] 70)
          have RR := Lib.hid (And.intro rr6 (And.intro rl6 (And.intro rt6 hw6)))
          clear rr5 rl5 rr6 rt6 hw5 hw6
          obtain ⟨c0, c1, _, _, _⟩ := rl6
          go_wp2_with fail
          go_quiet ((first | (go_at_call 113; exact Calls.quiet_of_same ((magnitude_any _ _ (by omega) (by omega)).mono fun _ _ h => ⟨h.1, h.2.symm⟩)) | (go_at_call 115; exact Calls.quiet_of_same (MU.out _))))
          obtain ⟨rr6, _, _, hw6⟩ := RR.out
          clear RR c0 c1
          obtain ⟨c0, c1, f0, f1, hz⟩ := rr6
          go_wp2
          exact bodyPost_ret (v := .tuple #[rat 0 0, .int .i64 4]) (by simp [results, Tryz.results86, go_sem, c0, c1, hz]) rfl ⟨rfl, by repeat' (first | exact hw6 | apply below_drewN | refine Below.setCell ?_ (by simp; try omega) _ | refine Below.alloc ?_ (by simp; try omega) _)⟩
    · obtain ⟨e1, e2, e3⟩ := Fr.mul_not (an := an) (ad := ad) (bn := bn) (bd := bd) (by simp [Fr.both, hA, hB])
      rw [e1, e2, e3]
      clear e1 e2 e3
      have hB' : Fr.ok bn bd = false := by simpa using hB
      clear hB
      go_enter Tryz.func86, Tryz.ntmps86
      go_wp2_with fail
      refine (valid_any an ad _ a1 a2 a3 a4).mono ?_
      rintro e w1 ⟨rfl, hb1⟩
      obtain ⟨ra, rb, rr, hw0⟩ := HR.out
      have ra1 := ra.all hb1
      have rb1 := rb.all hb1
      have rr1 := rr.all hb1
      have hw1 := hw0.trans (hb1.mono hw0.size)
      clear HR ra rb rr hw0 hb1
      have RB := Lib.hid rb1
      obtain ⟨c0, c1, _, _, hz⟩ := rb1
      go_wp2_with fail
      refine (valid_any bn bd _ b1 b2 b3 b4).mono ?_
      rintro e w2 ⟨rfl, hb2⟩
      have ra2 := ra1.all hb2
      have rb2 := RB.out.all hb2
      have rr2 := rr1.all hb2
      have hw2 := hw1.trans (hb2.mono hw1.size)
      clear ra1 rr1 hw1 hb2 c0 c1 hz RB
      clear ra2 rb2
      obtain ⟨c0, c1, f0, f1, hz⟩ := rr2
      go_wp2
      exact bodyPost_ret (v := .tuple #[rat 0 0, .int .i64 1]) (by simp [results, Tryz.results86, go_sem, c0, c1, hz]) rfl ⟨rfl, by repeat' (first | exact hw2 | refine Below.setCell ?_ (by simp; try omega) _ | refine Below.alloc ?_ (by simp; try omega) _)⟩
  · obtain ⟨e1, e2, e3⟩ := Fr.mul_not (an := an) (ad := ad) (bn := bn) (bd := bd) (by simp [Fr.both, hA])
    rw [e1, e2, e3]
    clear e1 e2 e3
    have hA' : Fr.ok an ad = false := by simpa using hA
    clear hA
    go_enter Tryz.func86, Tryz.ntmps86
    go_wp2_with fail
    refine (valid_any an ad _ a1 a2 a3 a4).mono ?_
    rintro e w1 ⟨rfl, hb1⟩
    obtain ⟨ra, rb, rr, hw0⟩ := HR.out
    have ra1 := ra.all hb1
    have rb1 := rb.all hb1
    have rr1 := rr.all hb1
    have hw1 := hw0.trans (hb1.mono hw0.size)
    clear HR ra rb rr hw0 hb1
    clear ra1 rb1
    obtain ⟨c0, c1, f0, f1, hz⟩ := rr1
    go_wp2
    exact bodyPost_ret (v := .tuple #[rat 0 0, .int .i64 1]) (by simp [results, Tryz.results86, go_sem, c0, c1, hz]) rfl ⟨rfl, by repeat' (first | exact hw1 | refine Below.setCell ?_ (by simp; try omega) _ | refine Below.alloc ?_ (by simp; try omega) _)⟩
end Go.Proofs.YtcljpklgpedolaaGreatDoor
