/- How the program and the reference compare fractions. -/
import Derived.Test.YtfgignbmnfeikaaDoorSumsWalk
namespace Go.Proofs.YtfgignbmnfeikaaDoor
open Go.RowKit

namespace Fr
def cmpI (x y : Int) : Int := if x < y then -1 else if y < x then 1 else 0
def cmpN (an ad bn bd : Int) : Int := if both an ad bn bd = true then cmpI (an * bd) (bn * ad) else 0
def cmpE (an ad bn bd : Int) : Int := if both an ad bn bd = true then 0 else 1
theorem cmp_not {an ad bn bd : Int} (h : both an ad bn bd = false) : cmpN an ad bn bd = 0 ∧ cmpE an ad bn bd = 1 := by simp [cmpN, cmpE, h]
theorem cmp_both {an ad bn bd : Int} (h : both an ad bn bd = true) : cmpN an ad bn bd = cmpI (an * bd) (bn * ad) ∧ cmpE an ad bn bd = 0 := by simp [cmpN, cmpE, h]
theorem cmpI_cases (x y : Int) : (cmpI x y = -1 ∧ x < y) ∨ (cmpI x y = 1 ∧ y < x) ∨ (cmpI x y = 0 ∧ x = y) := by
  unfold cmpI
  by_cases h1 : x < y
  · rw [if_pos h1]; exact .inl ⟨rfl, h1⟩
  · rw [if_neg h1]
    by_cases h2 : y < x
    · rw [if_pos h2]; exact .inr (.inl ⟨rfl, h2⟩)
    · rw [if_neg h2]; exact .inr (.inr ⟨rfl, by omega⟩)
theorem cmpE_zero {an ad bn bd : Int} (h : cmpE an ad bn bd = 0) : both an ad bn bd = true := by
  cases hb : both an ad bn bd with
  | true => rfl
  | false => rw [(cmp_not hb).2] at h; omega
theorem cmpE_cases (an ad bn bd : Int) : cmpE an ad bn bd = 0 ∨ cmpE an ad bn bd = 1 := by unfold cmpE; split <;> simp
theorem cmpN_cases (an ad bn bd : Int) : cmpN an ad bn bd = -1 ∨ cmpN an ad bn bd = 0 ∨ cmpN an ad bn bd = 1 := by
  unfold cmpN; split
  · rcases cmpI_cases (an * bd) (bn * ad) with h | h | h <;> simp [h.1]
  · simp
/-- What the law says of three fractions that are valid. -/
theorem cmp_law {an ad bn bd cn cd : Int} (h1 : cmpE an ad bn bd = 0) (h2 : cmpE bn bd cn cd = 0) :
    cmpE an ad cn cd = 0 ∧ cmpN bn bd an ad = -cmpN an ad bn bd ∧ (0 < cmpN an ad bn bd ∨ 0 < cmpN bn bd cn cd ∨ cmpN an ad cn cd ≤ 0) ∧
    (difE an ad bn bd = 0 → ((0 < difN an ad bn bd ↔ 0 < cmpN an ad bn bd) ∧ (difN an ad bn bd < 0 ↔ cmpN an ad bn bd < 0))) := by
  obtain ⟨oa, ob⟩ := both_parts (cmpE_zero h1)
  obtain ⟨_, oc⟩ := both_parts (cmpE_zero h2)
  have bab : both an ad bn bd = true := by simp [both, oa, ob]
  have bba : both bn bd an ad = true := by simp [both, oa, ob]
  have bbc : both bn bd cn cd = true := by simp [both, oc, ob]
  have bac : both an ad cn cd = true := by simp [both, oa, oc]
  have k1 := (ok_iff.1 oa).1
  have k2 := (ok_iff.1 ob).1
  have k3 := (ok_iff.1 oc).1
  rw [(cmp_both bab).1, (cmp_both bba).1, (cmp_both bbc).1, (cmp_both bac).1]
  refine ⟨(cmp_both bac).2, ?_, ?_, ?_⟩
  · rcases cmpI_cases (an * bd) (bn * ad) with h | h | h <;> rcases cmpI_cases (bn * ad) (an * bd) with g | g | g <;> omega
  · rcases cmpI_cases (an * bd) (bn * ad) with h | h | h
    · rcases cmpI_cases (bn * cd) (cn * bd) with g | g | g
      · have t : an * cd < cn * ad := by
          have e1 : (an * bd) * cd < (bn * ad) * cd := Int.mul_lt_mul_of_pos_right h.2 (by omega)
          have e2 : (bn * cd) * ad < (cn * bd) * ad := Int.mul_lt_mul_of_pos_right g.2 (by omega)
          have e3 : (an * cd) * bd < (cn * ad) * bd := by
            have : (an * cd) * bd = (an * bd) * cd := by grind
            have : (cn * ad) * bd = (cn * bd) * ad := by grind
            have : (bn * ad) * cd = (bn * cd) * ad := by grind
            omega
          exact Int.lt_of_mul_lt_mul_right e3 (by omega)
        right; right
        rcases cmpI_cases (an * cd) (cn * ad) with f | f | f <;> omega
      · right; left; omega
      · have t : an * cd < cn * ad := by
          have e1 : (an * bd) * cd < (bn * ad) * cd := Int.mul_lt_mul_of_pos_right h.2 (by omega)
          have e3 : (an * cd) * bd < (cn * ad) * bd := by
            have : (an * cd) * bd = (an * bd) * cd := by grind
            have : (cn * ad) * bd = (cn * bd) * ad := by grind
            have : (bn * ad) * cd = (bn * cd) * ad := by grind
            have : (bn * cd) * ad = (cn * bd) * ad := by rw [g.2]
            omega
          exact Int.lt_of_mul_lt_mul_right e3 (by omega)
        right; right
        rcases cmpI_cases (an * cd) (cn * ad) with f | f | f <;> omega
    · left; omega
    · rcases cmpI_cases (bn * cd) (cn * bd) with g | g | g
      · have t : an * cd < cn * ad := by
          have e2 : (bn * cd) * ad < (cn * bd) * ad := Int.mul_lt_mul_of_pos_right g.2 (by omega)
          have e3 : (an * cd) * bd < (cn * ad) * bd := by
            have : (an * cd) * bd = (an * bd) * cd := by grind
            have : (cn * ad) * bd = (cn * bd) * ad := by grind
            have : (bn * ad) * cd = (bn * cd) * ad := by grind
            have : (an * bd) * cd = (bn * ad) * cd := by rw [h.2]
            omega
          exact Int.lt_of_mul_lt_mul_right e3 (by omega)
        right; right
        rcases cmpI_cases (an * cd) (cn * ad) with f | f | f <;> omega
      · right; left; omega
      · have t : an * cd = cn * ad := by
          have e3 : (an * cd) * bd = (cn * ad) * bd := by
            have : (an * cd) * bd = (an * bd) * cd := by grind
            have : (cn * ad) * bd = (cn * bd) * ad := by grind
            have : (bn * ad) * cd = (bn * cd) * ad := by grind
            have : (an * bd) * cd = (bn * ad) * cd := by rw [h.2]
            have : (bn * cd) * ad = (cn * bd) * ad := by rw [g.2]
            omega
          exact Int.eq_of_mul_eq_mul_right (by omega) e3
        right; right
        rcases cmpI_cases (an * cd) (cn * ad) with f | f | f <;> omega
  · intro hE
    obtain ⟨e1, e2, e3⟩ := dif_both bab
    rw [e3] at hE
    rw [e1]
    have hv := val_mk hE
    have hy := (ok_iff.1 (ok_mk hE)).1
    generalize nu (an * bd - bn * ad) (ad * bd) = x at *
    generalize de (an * bd - bn * ad) (ad * bd) = y at *
    have hd : 0 < ad * bd := Int.mul_pos (by omega) (by omega)
    generalize ad * bd = dd at *
    have s1 : 0 < x ↔ 0 < an * bd - bn * ad := by
      generalize an * bd - bn * ad = t at *
      constructor
      · intro h
        have : 0 < t * y := by rw [← hv]; exact Int.mul_pos h hd
        exact Int.pos_of_mul_pos_left this (by omega)
      · intro h
        have : 0 < x * dd := by rw [hv]; exact Int.mul_pos h (by omega)
        exact Int.pos_of_mul_pos_left this (by omega)
    have s2 : x < 0 ↔ an * bd - bn * ad < 0 := by
      generalize an * bd - bn * ad = t at *
      constructor
      · intro h
        have : 0 < (-t) * y := by
          have : (-t) * y = (-x) * dd := by grind
          rw [this]; exact Int.mul_pos (by omega) hd
        have := Int.pos_of_mul_pos_left this (by omega)
        omega
      · intro h
        have : 0 < (-x) * dd := by
          have : (-x) * dd = (-t) * y := by grind
          rw [this]; exact Int.mul_pos (by omega) (by omega)
        have := Int.pos_of_mul_pos_left this (by omega)
        omega
    rcases cmpI_cases (an * bd) (bn * ad) with h | h | h <;> (rw [s1, s2]; omega)
end Fr

set_option maxRecDepth 20000 in
theorem compare_any (an ad bn bd : Int) (w : World) (a1 : -9223372036854775808 ≤ an) (a2 : an ≤ 9223372036854775807) (a3 : -9223372036854775808 ≤ ad) (a4 : ad ≤ 9223372036854775807)
    (b1 : -9223372036854775808 ≤ bn) (b2 : bn ≤ 9223372036854775807) (b3 : -9223372036854775808 ≤ bd) (b4 : bd ≤ 9223372036854775807) :
    Calls Tryd.prog 28 #[rat an ad, rat bn bd] w fun e w' => e = .returned (.tuple #[.int .i64 (Fr.cmpN an ad bn bd), .int .i64 (Fr.cmpE an ad bn bd)]) ∧ Below w.heap.size w w' := by
  have HR := Lib.hid (two w an ad bn bd)
  by_cases hA : Fr.ok an ad = true
  · by_cases hB : Fr.ok bn bd = true
    · obtain ⟨e1, e2⟩ := Fr.cmp_both (an := an) (ad := ad) (bn := bn) (bd := bd) (by simp [Fr.both, hA, hB])
      rw [e1, e2]
      clear e1 e2
      obtain ⟨v1, v2, v3, v4, _⟩ := Fr.ok_iff.1 hA
      obtain ⟨u1, u2, u3, u4, _⟩ := Fr.ok_iff.1 hB
      obtain ⟨p1, p2⟩ := Fr.mul_small v3 v4 (by omega) u2
      obtain ⟨p3, p4⟩ := Fr.mul_small u3 u4 (by omega) v2
      by_cases q1 : an * bd < bn * ad
      · rw [show Fr.cmpI (an * bd) (bn * ad) = -1 from if_pos q1]
        go_enter Tryd.func28, Tryd.ntmps28
        go_wp2_with fail
        refine (valid_any an ad _ a1 a2 a3 a4).mono ?_
        rintro e w1 ⟨rfl, hb1⟩
        obtain ⟨ra, rb, hw0⟩ := HR.out
        have ra1 := ra.all hb1
        have rb1 := rb.all hb1
        have hw1 := hw0.trans (hb1.mono hw0.size)
        clear HR ra rb hw0 hb1
        have RB := Lib.hid rb1
        obtain ⟨c0, c1, _, _, hz⟩ := rb1
        go_wp2_with fail
        refine (valid_any bn bd _ b1 b2 b3 b4).mono ?_
        rintro e w2 ⟨rfl, hb2⟩
        have ra2 := ra1.all hb2
        have rb2 := RB.out.all hb2
        have hw2 := hw1.trans (hb2.mono hw1.size)
        clear ra1 hw1 hb2 c0 c1 hz RB
        obtain ⟨c0, c1, _, _, _⟩ := ra2
        obtain ⟨c2, c3, _, _, _⟩ := rb2
        go_wp2_with fail
        go_quiet (fail)
        go_wp2
        go_ret2
        exact ⟨rfl, below_drewN hw2 _⟩
      · by_cases q2 : bn * ad < an * bd
        · rw [show Fr.cmpI (an * bd) (bn * ad) = 1 by unfold Fr.cmpI; rw [if_neg q1, if_pos q2]]
          go_enter Tryd.func28, Tryd.ntmps28
          go_wp2_with fail
          refine (valid_any an ad _ a1 a2 a3 a4).mono ?_
          rintro e w1 ⟨rfl, hb1⟩
          obtain ⟨ra, rb, hw0⟩ := HR.out
          have ra1 := ra.all hb1
          have rb1 := rb.all hb1
          have hw1 := hw0.trans (hb1.mono hw0.size)
          clear HR ra rb hw0 hb1
          have RB := Lib.hid rb1
          obtain ⟨c0, c1, _, _, hz⟩ := rb1
          go_wp2_with fail
          refine (valid_any bn bd _ b1 b2 b3 b4).mono ?_
          rintro e w2 ⟨rfl, hb2⟩
          have ra2 := ra1.all hb2
          have rb2 := RB.out.all hb2
          have hw2 := hw1.trans (hb2.mono hw1.size)
          clear ra1 hw1 hb2 c0 c1 hz RB
          obtain ⟨c0, c1, _, _, _⟩ := ra2
          obtain ⟨c2, c3, _, _, _⟩ := rb2
          go_wp2_with fail
          go_quiet (fail)
          go_wp2
          go_ret2
          exact ⟨rfl, below_drewN hw2 _⟩
        · rw [show Fr.cmpI (an * bd) (bn * ad) = 0 by unfold Fr.cmpI; rw [if_neg q1, if_neg q2]]
          go_enter Tryd.func28, Tryd.ntmps28
          go_wp2_with fail
          refine (valid_any an ad _ a1 a2 a3 a4).mono ?_
          rintro e w1 ⟨rfl, hb1⟩
          obtain ⟨ra, rb, hw0⟩ := HR.out
          have ra1 := ra.all hb1
          have rb1 := rb.all hb1
          have hw1 := hw0.trans (hb1.mono hw0.size)
          clear HR ra rb hw0 hb1
          have RB := Lib.hid rb1
          obtain ⟨c0, c1, _, _, hz⟩ := rb1
          go_wp2_with fail
          refine (valid_any bn bd _ b1 b2 b3 b4).mono ?_
          rintro e w2 ⟨rfl, hb2⟩
          have ra2 := ra1.all hb2
          have rb2 := RB.out.all hb2
          have hw2 := hw1.trans (hb2.mono hw1.size)
          clear ra1 hw1 hb2 c0 c1 hz RB
          obtain ⟨c0, c1, _, _, _⟩ := ra2
          obtain ⟨c2, c3, _, _, _⟩ := rb2
          go_wp2_with fail
          go_quiet (fail)
          go_wp2
          go_ret2
          exact ⟨rfl, below_drewN hw2 _⟩
    · obtain ⟨e1, e2⟩ := Fr.cmp_not (an := an) (ad := ad) (bn := bn) (bd := bd) (by simp [Fr.both, hA, hB])
      rw [e1, e2]
      clear e1 e2
      have hB' : Fr.ok bn bd = false := by simpa using hB
      clear hB
      go_enter Tryd.func28, Tryd.ntmps28
      go_wp2_with fail
      refine (valid_any an ad _ a1 a2 a3 a4).mono ?_
      rintro e w1 ⟨rfl, hb1⟩
      obtain ⟨ra, rb, hw0⟩ := HR.out
      have ra1 := ra.all hb1
      have rb1 := rb.all hb1
      have hw1 := hw0.trans (hb1.mono hw0.size)
      clear HR ra rb hw0 hb1
      have RB := Lib.hid rb1
      obtain ⟨c0, c1, _, _, hz⟩ := rb1
      go_wp2_with fail
      refine (valid_any bn bd _ b1 b2 b3 b4).mono ?_
      rintro e w2 ⟨rfl, hb2⟩
      have ra2 := ra1.all hb2
      have rb2 := RB.out.all hb2
      have hw2 := hw1.trans (hb2.mono hw1.size)
      clear ra1 hw1 hb2 c0 c1 hz RB
      clear ra2 rb2
      go_wp2
      go_ret2
      exact ⟨rfl, hw2⟩
  · obtain ⟨e1, e2⟩ := Fr.cmp_not (an := an) (ad := ad) (bn := bn) (bd := bd) (by simp [Fr.both, hA])
    rw [e1, e2]
    clear e1 e2
    have hA' : Fr.ok an ad = false := by simpa using hA
    clear hA
    go_enter Tryd.func28, Tryd.ntmps28
    go_wp2_with fail
    refine (valid_any an ad _ a1 a2 a3 a4).mono ?_
    rintro e w1 ⟨rfl, hb1⟩
    obtain ⟨ra, rb, hw0⟩ := HR.out
    have ra1 := ra.all hb1
    have rb1 := rb.all hb1
    have hw1 := hw0.trans (hb1.mono hw0.size)
    clear HR ra rb hw0 hb1
    clear ra1 rb1
    go_wp2
    go_ret2
    exact ⟨rfl, hw1⟩

set_option maxRecDepth 20000 in
theorem ref_compare_any (an ad bn bd : Int) (w : World) (a1 : -9223372036854775808 ≤ an) (a2 : an ≤ 9223372036854775807) (a3 : -9223372036854775808 ≤ ad) (a4 : ad ≤ 9223372036854775807)
    (b1 : -9223372036854775808 ≤ bn) (b2 : bn ≤ 9223372036854775807) (b3 : -9223372036854775808 ≤ bd) (b4 : bd ≤ 9223372036854775807) :
    Calls Tryd.prog 29 #[rat an ad, rat bn bd] w fun e w' => e = .returned (.tuple #[.int .i64 (Fr.cmpN an ad bn bd), .int .i64 (Fr.cmpE an ad bn bd)]) ∧ Below w.heap.size w w' := by
  have HR := Lib.hid (two w an ad bn bd)
  by_cases hA : Fr.ok an ad = true
  · by_cases hB : Fr.ok bn bd = true
    · obtain ⟨e1, e2⟩ := Fr.cmp_both (an := an) (ad := ad) (bn := bn) (bd := bd) (by simp [Fr.both, hA, hB])
      rw [e1, e2]
      clear e1 e2
      obtain ⟨v1, v2, v3, v4, _⟩ := Fr.ok_iff.1 hA
      obtain ⟨u1, u2, u3, u4, _⟩ := Fr.ok_iff.1 hB
      obtain ⟨p1, p2⟩ := Fr.mul_small v3 v4 (by omega) u2
      obtain ⟨p3, p4⟩ := Fr.mul_small u3 u4 (by omega) v2
      by_cases q1 : an * bd < bn * ad
      · rw [show Fr.cmpI (an * bd) (bn * ad) = -1 from if_pos q1]
        go_enter Tryd.func29, Tryd.ntmps29
        go_wp2_with fail
        refine (ref_valid_any an ad _ a1 a2 a3 a4).mono ?_
        rintro e w1 ⟨rfl, hb1⟩
        obtain ⟨ra, rb, hw0⟩ := HR.out
        have ra1 := ra.all hb1
        have rb1 := rb.all hb1
        have hw1 := hw0.trans (hb1.mono hw0.size)
        clear HR ra rb hw0 hb1
        have RB := Lib.hid rb1
        obtain ⟨c0, c1, _, _, hz⟩ := rb1
        go_wp2_with fail
        refine (ref_valid_any bn bd _ b1 b2 b3 b4).mono ?_
        rintro e w2 ⟨rfl, hb2⟩
        have ra2 := ra1.all hb2
        have rb2 := RB.out.all hb2
        have hw2 := hw1.trans (hb2.mono hw1.size)
        clear ra1 hw1 hb2 c0 c1 hz RB
        obtain ⟨c0, c1, _, _, _⟩ := ra2
        obtain ⟨c2, c3, _, _, _⟩ := rb2
        go_wp2_with fail
        go_quiet (fail)
        go_wp2
        go_ret2
        exact ⟨rfl, below_drewN hw2 _⟩
      · by_cases q2 : bn * ad < an * bd
        · rw [show Fr.cmpI (an * bd) (bn * ad) = 1 by unfold Fr.cmpI; rw [if_neg q1, if_pos q2]]
          go_enter Tryd.func29, Tryd.ntmps29
          go_wp2_with fail
          refine (ref_valid_any an ad _ a1 a2 a3 a4).mono ?_
          rintro e w1 ⟨rfl, hb1⟩
          obtain ⟨ra, rb, hw0⟩ := HR.out
          have ra1 := ra.all hb1
          have rb1 := rb.all hb1
          have hw1 := hw0.trans (hb1.mono hw0.size)
          clear HR ra rb hw0 hb1
          have RB := Lib.hid rb1
          obtain ⟨c0, c1, _, _, hz⟩ := rb1
          go_wp2_with fail
          refine (ref_valid_any bn bd _ b1 b2 b3 b4).mono ?_
          rintro e w2 ⟨rfl, hb2⟩
          have ra2 := ra1.all hb2
          have rb2 := RB.out.all hb2
          have hw2 := hw1.trans (hb2.mono hw1.size)
          clear ra1 hw1 hb2 c0 c1 hz RB
          obtain ⟨c0, c1, _, _, _⟩ := ra2
          obtain ⟨c2, c3, _, _, _⟩ := rb2
          go_wp2_with fail
          go_quiet (fail)
          go_wp2
          go_ret2
          exact ⟨rfl, below_drewN hw2 _⟩
        · rw [show Fr.cmpI (an * bd) (bn * ad) = 0 by unfold Fr.cmpI; rw [if_neg q1, if_neg q2]]
          go_enter Tryd.func29, Tryd.ntmps29
          go_wp2_with fail
          refine (ref_valid_any an ad _ a1 a2 a3 a4).mono ?_
          rintro e w1 ⟨rfl, hb1⟩
          obtain ⟨ra, rb, hw0⟩ := HR.out
          have ra1 := ra.all hb1
          have rb1 := rb.all hb1
          have hw1 := hw0.trans (hb1.mono hw0.size)
          clear HR ra rb hw0 hb1
          have RB := Lib.hid rb1
          obtain ⟨c0, c1, _, _, hz⟩ := rb1
          go_wp2_with fail
          refine (ref_valid_any bn bd _ b1 b2 b3 b4).mono ?_
          rintro e w2 ⟨rfl, hb2⟩
          have ra2 := ra1.all hb2
          have rb2 := RB.out.all hb2
          have hw2 := hw1.trans (hb2.mono hw1.size)
          clear ra1 hw1 hb2 c0 c1 hz RB
          obtain ⟨c0, c1, _, _, _⟩ := ra2
          obtain ⟨c2, c3, _, _, _⟩ := rb2
          go_wp2_with fail
          go_quiet (fail)
          go_wp2
          go_ret2
          exact ⟨rfl, below_drewN hw2 _⟩
    · obtain ⟨e1, e2⟩ := Fr.cmp_not (an := an) (ad := ad) (bn := bn) (bd := bd) (by simp [Fr.both, hA, hB])
      rw [e1, e2]
      clear e1 e2
      have hB' : Fr.ok bn bd = false := by simpa using hB
      clear hB
      go_enter Tryd.func29, Tryd.ntmps29
      go_wp2_with fail
      refine (ref_valid_any an ad _ a1 a2 a3 a4).mono ?_
      rintro e w1 ⟨rfl, hb1⟩
      obtain ⟨ra, rb, hw0⟩ := HR.out
      have ra1 := ra.all hb1
      have rb1 := rb.all hb1
      have hw1 := hw0.trans (hb1.mono hw0.size)
      clear HR ra rb hw0 hb1
      have RB := Lib.hid rb1
      obtain ⟨c0, c1, _, _, hz⟩ := rb1
      go_wp2_with fail
      refine (ref_valid_any bn bd _ b1 b2 b3 b4).mono ?_
      rintro e w2 ⟨rfl, hb2⟩
      have ra2 := ra1.all hb2
      have rb2 := RB.out.all hb2
      have hw2 := hw1.trans (hb2.mono hw1.size)
      clear ra1 hw1 hb2 c0 c1 hz RB
      clear ra2 rb2
      go_wp2
      go_ret2
      exact ⟨rfl, hw2⟩
  · obtain ⟨e1, e2⟩ := Fr.cmp_not (an := an) (ad := ad) (bn := bn) (bd := bd) (by simp [Fr.both, hA])
    rw [e1, e2]
    clear e1 e2
    have hA' : Fr.ok an ad = false := by simpa using hA
    clear hA
    go_enter Tryd.func29, Tryd.ntmps29
    go_wp2_with fail
    refine (ref_valid_any an ad _ a1 a2 a3 a4).mono ?_
    rintro e w1 ⟨rfl, hb1⟩
    obtain ⟨ra, rb, hw0⟩ := HR.out
    have ra1 := ra.all hb1
    have rb1 := rb.all hb1
    have hw1 := hw0.trans (hb1.mono hw0.size)
    clear HR ra rb hw0 hb1
    clear ra1 rb1
    go_wp2
    go_ret2
    exact ⟨rfl, hw1⟩
end Go.Proofs.YtfgignbmnfeikaaDoor
