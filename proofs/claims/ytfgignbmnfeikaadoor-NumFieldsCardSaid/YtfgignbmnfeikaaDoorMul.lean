/- What the program and the reference answer for products and quotients of fractions. -/
import Derived.Test.YtfgignbmnfeikaaDoorProduct
import Derived.Test.YtfgignbmnfeikaaDoorSeq
import Derived.Test.YtfgignbmnfeikaaDoorShelf
namespace Go.Proofs.YtfgignbmnfeikaaDoor
open Go.RowKit

namespace Fr
def mulN (an ad bn bd : Int) : Int := if both an ad bn bd = true then nu (an * bn) (ad * bd) else 0
def mulD (an ad bn bd : Int) : Int := if both an ad bn bd = true then de (an * bn) (ad * bd) else 0
def mulE (an ad bn bd : Int) : Int := if both an ad bn bd = true then er (an * bn) (ad * bd) else 1
theorem mul_not {an ad bn bd : Int} (h : both an ad bn bd = false) : mulN an ad bn bd = 0 ∧ mulD an ad bn bd = 0 ∧ mulE an ad bn bd = 1 := by simp [mulN, mulD, mulE, h]
theorem mul_both {an ad bn bd : Int} (h : both an ad bn bd = true) : mulN an ad bn bd = nu (an * bn) (ad * bd) ∧ mulD an ad bn bd = de (an * bn) (ad * bd) ∧ mulE an ad bn bd = er (an * bn) (ad * bd) := by simp [mulN, mulD, mulE, h]
/-- Whether a quotient is asked of two valid fractions, the second one not 0. -/
def apt (an ad bn bd : Int) : Bool := both an ad bn bd && decide (bn ≠ 0)
def divN (an ad bn bd : Int) : Int := if apt an ad bn bd = true then nu (an * bd) (ad * bn) else 0
def divD (an ad bn bd : Int) : Int := if apt an ad bn bd = true then de (an * bd) (ad * bn) else 0
def divE (an ad bn bd : Int) : Int := if apt an ad bn bd = true then er (an * bd) (ad * bn) else 1
theorem div_not {an ad bn bd : Int} (h : apt an ad bn bd = false) : divN an ad bn bd = 0 ∧ divD an ad bn bd = 0 ∧ divE an ad bn bd = 1 := by simp [divN, divD, divE, h]
theorem div_apt {an ad bn bd : Int} (h : apt an ad bn bd = true) : divN an ad bn bd = nu (an * bd) (ad * bn) ∧ divD an ad bn bd = de (an * bd) (ad * bn) ∧ divE an ad bn bd = er (an * bd) (ad * bn) := by simp [divN, divD, divE, h]

theorem er_small {a d : Int} (hd : d ≠ 0) (h1 : a.natAbs ≤ 1099511627776) (h2 : d.natAbs ≤ 1048576) : er a d = 0 := by
  have u1 : up a d ≤ a.natAbs := Nat.div_le_self _ _
  have u2 : dn a d ≤ d.natAbs := Nat.div_le_self _ _
  unfold er
  rw [if_neg hd, if_pos ⟨by omega, by omega⟩]

/-- Reduced crosswise first, a product is what it is. -/
theorem mul_facts {an ad bn bd : Int} (hA : ok an ad = true) (hB : ok bn bd = true) :
    er an bd = 0 ∧ er bn ad = 0 ∧ (nu an bd * nu bn ad).natAbs = (nu an bd).natAbs * (nu bn ad).natAbs ∧
    (1099511627776 < (nu an bd).natAbs * (nu bn ad).natAbs → er (an * bn) (ad * bd) = 4) ∧
    (er (nu an bd * nu bn ad) (de an bd * de bn ad) = er (an * bn) (ad * bd) ∧ nu (nu an bd * nu bn ad) (de an bd * de bn ad) = nu (an * bn) (ad * bd) ∧ de (nu an bd * nu bn ad) (de an bd * de bn ad) = de (an * bn) (ad * bd)) := by
  obtain ⟨v1, v2, v3, v4, v5⟩ := ok_iff.1 hA
  obtain ⟨u1, u2, u3, u4, u5⟩ := ok_iff.1 hB
  have e1 : er an bd = 0 := er_small (by omega) (by omega) (by omega)
  have e2 : er bn ad = 0 := er_small (by omega) (by omega) (by omega)
  have o1 := (ok_iff.1 (ok_mk e1)).1
  have o2 := (ok_iff.1 (ok_mk e2)).1
  have wD := val_mk e1
  have wE := val_mk e2
  refine ⟨e1, e2, Int.natAbs_mul _ _, fun hP => ?_, ?_⟩
  · have h1 : (nu an bd).natAbs = an.natAbs / Nat.gcd an.natAbs bd.natAbs := by rw [nu_ok e1, sg_natAbs]; rfl
    have h2 : (nu bn ad).natAbs = bn.natAbs / Nat.gcd bn.natAbs ad.natAbs := by rw [nu_ok e2, sg_natAbs]; rfl
    have hE := er_sgn (decide (an < 0) != decide (bn < 0)) (n := an.natAbs) (d := ad.natAbs) (m := bn.natAbs) (e := bd.natAbs) (by omega) (by omega) v5 u5
    rw [sgn_mul] at hE
    have hd : ((ad.natAbs * bd.natAbs : Nat) : Int) = ad * bd := by
      rw [Int.natCast_mul]
      have x1 : (ad.natAbs : Int) = ad := by omega
      have x2 : (bd.natAbs : Int) = bd := by omega
      rw [x1, x2]
    rw [hd] at hE
    rw [hE, if_neg]
    rw [h1, h2] at hP
    omega
  · have p1 := Int.mul_pos (a := de an bd) (b := de bn ad) (by omega) (by omega)
    have p2 := Int.mul_pos (a := ad) (b := bd) (by omega) (by omega)
    exact mk_congr (by omega) (by omega) (by grind)
end Fr

theorem mul64_any (x y hi lo : Nat) (hx : x < 18446744073709551616) (hy : y < 18446744073709551616) (h : x * y / 18446744073709551616 = hi ∧ x * y % 18446744073709551616 = lo) (w : World) :
    Calls Tryd.prog 60 #[.int .u64 x, .int .u64 y] w fun e w' => e = .returned (.tuple #[.int .u64 hi, .int .u64 lo]) ∧ w' = w := by
  obtain ⟨rfl, rfl⟩ := h
  exact Tryd.bits_Mul64 x y hx hy w

theorem far2 {W : World} {b c o : Nat} {v : Value} (h : W.cell? ⟨b, o, none⟩ = some v) (hne : c ≠ b) (x y : Value) : ((W.setCell ⟨c, 0, none⟩ x).setCell ⟨c, 1, none⟩ y).cell? ⟨b, o, none⟩ = some v := by
  rw [World.cell?_setCell_far _ _ _ _ hne, World.cell?_setCell_far _ _ _ _ hne, h]

namespace Fr
theorem sgn_div (a c : Int) (D E : Nat) : sgn (!(decide (a < 0) == decide (c < 0))) (a.natAbs * E) * ((D : Int) * c) = a * (E : Int) * ((D * c.natAbs : Nat) : Int) := by
  have hm := sgn_mul a c
  rw [Int.natCast_mul]
  unfold sgn
  by_cases h1 : a < 0 <;> by_cases h2 : c < 0 <;> simp [h1, h2]
  · have x1 : (a.natAbs : Int) = -a := by omega
    have x2 : (c.natAbs : Int) = -c := by omega
    rw [x1, x2]; grind
  · have x1 : (a.natAbs : Int) = -a := by omega
    have x2 : (c.natAbs : Int) = c := by omega
    rw [x1, x2]; grind
  · have x1 : (a.natAbs : Int) = a := by omega
    have x2 : (c.natAbs : Int) = -c := by omega
    rw [x1, x2]; grind
  · have x1 : (a.natAbs : Int) = a := by omega
    have x2 : (c.natAbs : Int) = c := by omega
    rw [x1, x2]
end Fr

set_option maxRecDepth 20000 in
set_option maxHeartbeats 600000 in
theorem ref_mul_any (an ad bn bd : Int) (w : World) (a1 : -9223372036854775808 ≤ an) (a2 : an ≤ 9223372036854775807) (a3 : -9223372036854775808 ≤ ad) (a4 : ad ≤ 9223372036854775807)
    (b1 : -9223372036854775808 ≤ bn) (b2 : bn ≤ 9223372036854775807) (b3 : -9223372036854775808 ≤ bd) (b4 : bd ≤ 9223372036854775807) :
    Calls Tryd.prog 25 #[rat an ad, rat bn bd] w fun e w' => e = .returned (.tuple #[rat (Fr.mulN an ad bn bd) (Fr.mulD an ad bn bd), .int .i64 (Fr.mulE an ad bn bd)]) ∧ Below w.heap.size w w' := by
  obtain ⟨ra, rb, rr⟩ := three w an ad bn bd 0 0
  have hw0 := below3 w (.cells #[.int .i64 an, .int .i64 ad] 23) (.cells #[.int .i64 bn, .int .i64 bd] 23) (.cells #[.int .i64 0, .int .i64 0] 23)
  have HR := Lib.hid (And.intro ra (And.intro rb (And.intro rr hw0)))
  clear ra rb rr hw0
  by_cases hA : Fr.ok an ad = true
  · by_cases hB : Fr.ok bn bd = true
    · obtain ⟨D, hD⟩ := Int.eq_ofNat_of_zero_le (a := ad) (by have := (Fr.ok_iff.1 hA).1; omega)
      subst hD
      obtain ⟨E, hE⟩ := Int.eq_ofNat_of_zero_le (a := bd) (by have := (Fr.ok_iff.1 hB).1; omega)
      subst hE
      obtain ⟨e1, e2, e3⟩ := Fr.mul_both (an := an) (ad := (D : Int)) (bn := bn) (bd := (E : Int)) (by simp [Fr.both, hA, hB])
      rw [e1, e2, e3]
      clear e1 e2 e3
      obtain ⟨v1, v2, v3, v4, v5⟩ := Fr.ok_iff.1 hA
      obtain ⟨u1, u2, u3, u4, u5⟩ := Fr.ok_iff.1 hB
      rw [Int.natAbs_natCast] at v5 u5
      have PK := Lib.hid (fun w => product_any (!(decide (an < 0) == decide (bn < 0))) an.natAbs D bn.natAbs E w (by omega) (by omega) (by omega) (by omega) (by omega) (by omega) v5 u5)
      have hs : Fr.sgn (!(decide (an < 0) == decide (bn < 0))) (an.natAbs * bn.natAbs) = an * bn := Fr.sgn_mul an bn
      rw [hs, Int.natCast_mul] at PK
      clear hs
      generalize Fr.nu (an * bn) ((D : Int) * (E : Int)) = x at *
      generalize Fr.de (an * bn) ((D : Int) * (E : Int)) = y at *
      generalize Fr.er (an * bn) ((D : Int) * (E : Int)) = z at *
      clear v5 u5
      have wD : IntKind.u64.wrap (D : Int) = D := by simp [IntKind.wrap, IntKind.bits, IntKind.signed]; omega
      have wE : IntKind.u64.wrap (E : Int) = E := by simp [IntKind.wrap, IntKind.bits, IntKind.signed]; omega
      go_enter Tryd.func25, Tryd.ntmps25
      go_wp2_with fail
      refine (ref_valid_any an (D : Int) _ a1 a2 a3 a4).mono ?_
      rintro e w1 ⟨rfl, hb1⟩
      obtain ⟨ra, rb, rr, hw0⟩ := HR.out
      have ra1 := ra.all hb1
      have rb1 := rb.all hb1
      have rr1 := rr.all hb1
      have hw1 := hw0.trans (hb1.mono hw0.size)
      clear HR ra rb rr hw0 hb1
      have RB := Lib.hid rb1
      obtain ⟨c0, c1, _, _, hz⟩ := rb1
      go_wp2_with fail
      refine (ref_valid_any bn (E : Int) _ b1 b2 b3 b4).mono ?_
      rintro e w2 ⟨rfl, hb2⟩
      have ra2 := ra1.all hb2
      have rb2 := RB.out.all hb2
      have rr2 := rr1.all hb2
      have hw2 := hw1.trans (hb2.mono hw1.size)
      clear ra1 rr1 hw1 hb2 c0 c1 hz RB
      have HS := Lib.hid (And.intro ra2 rb2)
      have RR := Lib.hid rr2
      clear rr2 ra2 rb2
      go_wp2_with fail
      refine wp_region_seq [(0, true), (1, true), (2, true), (3, true), (4, true), (5, true), (6, true), (7, true), (8, true), (10, true), (11, true), (12, true), (13, true), (14, true), (16, true), (17, true), (18, true), (9, false), (15, false), (19, false), (20, true), (21, true), (22, false), (23, true)] (fun W => W.cell? ⟨w.heap.size, 0, none⟩ = some (.int .i64 an) ∧ W.cell? ⟨w.heap.size, 1, none⟩ = some (.int .i64 (D : Int)) ∧ W.cell? ⟨w.heap.size + 1, 0, none⟩ = some (.int .i64 bn) ∧ W.cell? ⟨w.heap.size + 1, 1, none⟩ = some (.int .i64 (E : Int)))
        (by kernel_rfl) (by kernel_rfl) (by kernel_rfl) (by kernel_rfl) (fun d _ _ _ _ h => by cases d <;> exact h) (by obtain ⟨h1, h2⟩ := HS.out; exact ⟨h1.1, h1.2.1, h2.1, h2.2.1⟩) (fun hS => ?_)
      repeat (first
        | (refine SeqH.take (v := ?_) rfl (by rfl) ?_ ?_; rotate_left; (· intro w hSw; (try dsimp only at hSw); go_simp; (try with_reducible rfl)); simp only [Act.put, List.setIfInBounds_toArray, List.set_cons_zero, List.set_cons_succ])
        | (refine SeqH.skip rfl (by rfl) ?_; simp only [Act.put, List.setIfInBounds_toArray, List.set_cons_zero, List.set_cons_succ]))
      refine SeqH.step rfl (by rfl) (fun K hK => ?_)
      go_simp
      refine (size_any _ _ (by omega) (by omega)).mono ?_
      rintro e w3 ⟨rfl, rfl⟩
      try dsimp only
      refine hK.out _ _ hS (fun _ => ?_)
      clear hK K
      try simp only [Act.put, List.setIfInBounds_toArray, List.set_cons_zero, List.set_cons_succ]
      repeat (first
        | (refine SeqH.take (v := ?_) rfl (by rfl) ?_ ?_; rotate_left; (· intro w hSw; (try dsimp only at hSw); go_simp; (try with_reducible rfl)); simp only [Act.put, List.setIfInBounds_toArray, List.set_cons_zero, List.set_cons_succ])
        | (refine SeqH.skip rfl (by rfl) ?_; simp only [Act.put, List.setIfInBounds_toArray, List.set_cons_zero, List.set_cons_succ]))
      refine SeqH.step rfl (by rfl) (fun K hK => ?_)
      go_simp
      refine (size_any _ _ (by omega) (by omega)).mono ?_
      rintro e w3 ⟨rfl, rfl⟩
      try dsimp only
      refine hK.out _ _ hS (fun _ => ?_)
      clear hK K
      try simp only [Act.put, List.setIfInBounds_toArray, List.set_cons_zero, List.set_cons_succ]
      repeat (first
        | (refine SeqH.take (v := ?_) rfl (by rfl) ?_ ?_; rotate_left; (· intro w hSw; (try dsimp only at hSw); go_simp; (try with_reducible rfl)); simp only [Act.put, List.setIfInBounds_toArray, List.set_cons_zero, List.set_cons_succ])
        | (refine SeqH.skip rfl (by rfl) ?_; simp only [Act.put, List.setIfInBounds_toArray, List.set_cons_zero, List.set_cons_succ]))
      refine SeqH.step rfl (by rfl) (fun K hK => ?_)
      go_simp
      refine (PK.out _).mono ?_
      rintro e w3 ⟨rfl, hb3⟩
      have hb4 : Below w2.heap.size w2 w3 := ((Below.refl _ _).drew).trans hb3
      have rr3 := RR.out.all hb4
      have ra3 := HS.out.1.all hb4
      have rb3 := HS.out.2.all hb4
      have hw3 := hw2.trans (hb4.mono hw2.size)
      clear RR HS hb3 hb4 hw2 hS
      have hS : w3.cell? ⟨w.heap.size, 0, none⟩ = some (.int .i64 an) ∧ w3.cell? ⟨w.heap.size, 1, none⟩ = some (.int .i64 (D : Int)) ∧ w3.cell? ⟨w.heap.size + 1, 0, none⟩ = some (.int .i64 bn) ∧ w3.cell? ⟨w.heap.size + 1, 1, none⟩ = some (.int .i64 (E : Int)) := ⟨ra3.1, ra3.2.1, rb3.1, rb3.2.1⟩
      try dsimp only
      refine hK.out _ _ hS (fun _ => ?_)
      clear hK K ra3 rb3
      try simp only [Act.put, List.setIfInBounds_toArray, List.set_cons_zero, List.set_cons_succ]
      repeat (first
        | (refine SeqH.take (v := ?_) rfl (by rfl) ?_ ?_; rotate_left; (· intro w hSw; (try dsimp only at hSw); go_simp; (try with_reducible rfl)); simp only [Act.put, List.setIfInBounds_toArray, List.set_cons_zero, List.set_cons_succ])
        | (refine SeqH.skip rfl (by rfl) ?_; simp only [Act.put, List.setIfInBounds_toArray, List.set_cons_zero, List.set_cons_succ]))
      obtain ⟨c0, c1, f0, f1, hz⟩ := rr3
      refine SeqH.step rfl (by rfl) (fun K hK => ?_)
      go_simp
      refine hK.out _ _ ⟨far2 hS.1 (by omega) _ _, far2 hS.2.1 (by omega) _ _, far2 hS.2.2.1 (by omega) _ _, far2 hS.2.2.2 (by omega) _ _⟩ (fun _ => ?_)
      clear hK K hS
      try simp only [Act.put, List.setIfInBounds_toArray, List.set_cons_zero, List.set_cons_succ]
      repeat (first
        | (refine SeqH.take (v := ?_) rfl (by rfl) ?_ ?_; rotate_left; (· intro w hSw; (try dsimp only at hSw); go_simp; (try with_reducible rfl)); simp only [Act.put, List.setIfInBounds_toArray, List.set_cons_zero, List.set_cons_succ])
        | (refine SeqH.skip rfl (by rfl) ?_; simp only [Act.put, List.setIfInBounds_toArray, List.set_cons_zero, List.set_cons_succ]))
      refine SeqH.done ?_
      go_wp2
      exact bodyPost_ret (v := .tuple #[rat x y, .int .i64 z]) (by simp [results, Tryd.results25, go_sem, c0, c1, hz]) rfl ⟨rfl, by repeat' (first | exact hw3 | refine Below.setCell ?_ (by simp; try omega) _ | refine Below.alloc ?_ (by simp; try omega) _)⟩
    · obtain ⟨e1, e2, e3⟩ := Fr.mul_not (an := an) (ad := ad) (bn := bn) (bd := bd) (by simp [Fr.both, hA, hB])
      rw [e1, e2, e3]
      clear e1 e2 e3
      have hB' : Fr.ok bn bd = false := by simpa using hB
      clear hB
      go_enter Tryd.func25, Tryd.ntmps25
      go_wp2_with fail
      refine (ref_valid_any an ad _ a1 a2 a3 a4).mono ?_
      rintro e w1 ⟨rfl, hb1⟩
      obtain ⟨ra, rb, rr, hw0⟩ := HR.out
      have ra1 := ra.all hb1
      have rb1 := rb.all hb1
      have rr1 := rr.all hb1
      have hw1 := hw0.trans (hb1.mono hw0.size)
      clear HR ra rb rr hw0 hb1
      have RB := Lib.hid rb1
      obtain ⟨c0, c1, _, _, hz⟩ := rb1
      go_wp2_with fail
      refine (ref_valid_any bn bd _ b1 b2 b3 b4).mono ?_
      rintro e w2 ⟨rfl, hb2⟩
      have ra2 := ra1.all hb2
      have rb2 := RB.out.all hb2
      have rr2 := rr1.all hb2
      have hw2 := hw1.trans (hb2.mono hw1.size)
      clear ra1 rr1 hw1 hb2 c0 c1 hz RB
      clear ra2 rb2
      obtain ⟨c0, c1, f0, f1, hz⟩ := rr2
      go_wp2
      exact bodyPost_ret (v := .tuple #[rat 0 0, .int .i64 1]) (by simp [results, Tryd.results25, go_sem, c0, c1, hz]) rfl ⟨rfl, by repeat' (first | exact hw2 | refine Below.setCell ?_ (by simp; try omega) _ | refine Below.alloc ?_ (by simp; try omega) _)⟩
  · obtain ⟨e1, e2, e3⟩ := Fr.mul_not (an := an) (ad := ad) (bn := bn) (bd := bd) (by simp [Fr.both, hA])
    rw [e1, e2, e3]
    clear e1 e2 e3
    have hA' : Fr.ok an ad = false := by simpa using hA
    clear hA
    go_enter Tryd.func25, Tryd.ntmps25
    go_wp2_with fail
    refine (ref_valid_any an ad _ a1 a2 a3 a4).mono ?_
    rintro e w1 ⟨rfl, hb1⟩
    obtain ⟨ra, rb, rr, hw0⟩ := HR.out
    have ra1 := ra.all hb1
    have rb1 := rb.all hb1
    have rr1 := rr.all hb1
    have hw1 := hw0.trans (hb1.mono hw0.size)
    clear HR ra rb rr hw0 hb1
    clear ra1 rb1
    obtain ⟨c0, c1, f0, f1, hz⟩ := rr1
    go_wp2
    exact bodyPost_ret (v := .tuple #[rat 0 0, .int .i64 1]) (by simp [results, Tryd.results25, go_sem, c0, c1, hz]) rfl ⟨rfl, by repeat' (first | exact hw1 | refine Below.setCell ?_ (by simp; try omega) _ | refine Below.alloc ?_ (by simp; try omega) _)⟩

set_option maxRecDepth 20000 in
set_option maxHeartbeats 600000 in
theorem ref_div_any (an ad bn bd : Int) (w : World) (a1 : -9223372036854775808 ≤ an) (a2 : an ≤ 9223372036854775807) (a3 : -9223372036854775808 ≤ ad) (a4 : ad ≤ 9223372036854775807)
    (b1 : -9223372036854775808 ≤ bn) (b2 : bn ≤ 9223372036854775807) (b3 : -9223372036854775808 ≤ bd) (b4 : bd ≤ 9223372036854775807) :
    Calls Tryd.prog 27 #[rat an ad, rat bn bd] w fun e w' => e = .returned (.tuple #[rat (Fr.divN an ad bn bd) (Fr.divD an ad bn bd), .int .i64 (Fr.divE an ad bn bd)]) ∧ Below w.heap.size w w' := by
  obtain ⟨ra, rb, rr⟩ := three w an ad bn bd 0 0
  have hw0 := below3 w (.cells #[.int .i64 an, .int .i64 ad] 23) (.cells #[.int .i64 bn, .int .i64 bd] 23) (.cells #[.int .i64 0, .int .i64 0] 23)
  have HR := Lib.hid (And.intro ra (And.intro rb (And.intro rr hw0)))
  clear ra rb rr hw0
  by_cases hA : Fr.ok an ad = true
  · by_cases hB : Fr.ok bn bd = true
    · by_cases hN : bn ≠ 0
      · obtain ⟨D, hD⟩ := Int.eq_ofNat_of_zero_le (a := ad) (by have := (Fr.ok_iff.1 hA).1; omega)
        subst hD
        obtain ⟨E, hE⟩ := Int.eq_ofNat_of_zero_le (a := bd) (by have := (Fr.ok_iff.1 hB).1; omega)
        subst hE
        obtain ⟨e1, e2, e3⟩ := Fr.div_apt (an := an) (ad := (D : Int)) (bn := bn) (bd := (E : Int)) (by simp [Fr.apt, Fr.both, hA, hB, hN])
        rw [e1, e2, e3]
        clear e1 e2 e3
        obtain ⟨v1, v2, v3, v4, v5⟩ := Fr.ok_iff.1 hA
        obtain ⟨u1, u2, u3, u4, u5⟩ := Fr.ok_iff.1 hB
        rw [Int.natAbs_natCast] at v5 u5
        have PK := Lib.hid (fun w => product_any (!(decide (an < 0) == decide (bn < 0))) an.natAbs D E bn.natAbs w (by omega) (by omega) (by omega) (by omega) (by omega) (by omega) v5 (by rw [Nat.gcd_comm]; exact u5))
        have cg : _ ∧ _ ∧ _ := Fr.mk_congr (p := Fr.sgn (!(decide (an < 0) == decide (bn < 0))) (an.natAbs * E)) (q := ((D * bn.natAbs : Nat) : Int)) (n := an * (E : Int)) (d := (D : Int) * bn) (by have hq : 0 < D * bn.natAbs := Nat.mul_pos (by omega) (by omega); intro hc; exact Nat.ne_of_gt hq (Int.natCast_eq_zero.1 hc)) (by intro hc; rcases Int.mul_eq_zero.1 hc with h | h <;> omega) (Fr.sgn_div an bn D E)
        rw [cg.1, cg.2.1, cg.2.2] at PK
        clear cg
        generalize Fr.nu (an * (E : Int)) ((D : Int) * bn) = x at *
        generalize Fr.de (an * (E : Int)) ((D : Int) * bn) = y at *
        generalize Fr.er (an * (E : Int)) ((D : Int) * bn) = z at *
        clear v5 u5
        have wD : IntKind.u64.wrap (D : Int) = D := by simp [IntKind.wrap, IntKind.bits, IntKind.signed]; omega
        have wE : IntKind.u64.wrap (E : Int) = E := by simp [IntKind.wrap, IntKind.bits, IntKind.signed]; omega
        have hN' : (bn == 0) = false := by simpa using hN
        go_enter Tryd.func27, Tryd.ntmps27
        go_wp2_with fail
        refine (ref_valid_any an (D : Int) _ a1 a2 a3 a4).mono ?_
        rintro e w1 ⟨rfl, hb1⟩
        obtain ⟨ra, rb, rr, hw0⟩ := HR.out
        have ra1 := ra.all hb1
        have rb1 := rb.all hb1
        have rr1 := rr.all hb1
        have hw1 := hw0.trans (hb1.mono hw0.size)
        clear HR ra rb rr hw0 hb1
        have RB := Lib.hid rb1
        obtain ⟨c0, c1, _, _, hz⟩ := rb1
        go_wp2_with fail
        refine (ref_valid_any bn (E : Int) _ b1 b2 b3 b4).mono ?_
        rintro e w2 ⟨rfl, hb2⟩
        have ra2 := ra1.all hb2
        have rb2 := RB.out.all hb2
        have rr2 := rr1.all hb2
        have hw2 := hw1.trans (hb2.mono hw1.size)
        clear ra1 rr1 hw1 hb2 c0 c1 hz RB
        have HS := Lib.hid (And.intro ra2 rb2)
        obtain ⟨c2, c3, _, _, _⟩ := rb2
        have RR := Lib.hid rr2
        clear rr2 ra2
        go_wp2_with fail
        clear c2 c3
        refine wp_region_seq [(0, true), (1, true), (2, true), (3, true), (4, true), (5, true), (6, true), (7, true), (8, true), (10, true), (11, true), (12, true), (13, true), (14, true), (15, true), (16, true), (17, true), (9, false), (18, false), (19, false), (20, true), (21, true), (22, false), (23, true)] (fun W => W.cell? ⟨w.heap.size, 0, none⟩ = some (.int .i64 an) ∧ W.cell? ⟨w.heap.size, 1, none⟩ = some (.int .i64 (D : Int)) ∧ W.cell? ⟨w.heap.size + 1, 0, none⟩ = some (.int .i64 bn) ∧ W.cell? ⟨w.heap.size + 1, 1, none⟩ = some (.int .i64 (E : Int)))
          (by kernel_rfl) (by kernel_rfl) (by kernel_rfl) (by kernel_rfl) (fun d _ _ _ _ h => by cases d <;> exact h) (by obtain ⟨h1, h2⟩ := HS.out; exact ⟨h1.1, h1.2.1, h2.1, h2.2.1⟩) (fun hS => ?_)
        repeat (first
          | (refine SeqH.take (v := ?_) rfl (by rfl) ?_ ?_; rotate_left; (· intro w hSw; (try dsimp only at hSw); go_simp; (try with_reducible rfl)); simp only [Act.put, List.setIfInBounds_toArray, List.set_cons_zero, List.set_cons_succ])
          | (refine SeqH.skip rfl (by rfl) ?_; simp only [Act.put, List.setIfInBounds_toArray, List.set_cons_zero, List.set_cons_succ]))
        refine SeqH.step rfl (by rfl) (fun K hK => ?_)
        go_simp
        refine (size_any _ _ (by omega) (by omega)).mono ?_
        rintro e w3 ⟨rfl, rfl⟩
        try dsimp only
        refine hK.out _ _ hS (fun _ => ?_)
        clear hK K
        try simp only [Act.put, List.setIfInBounds_toArray, List.set_cons_zero, List.set_cons_succ]
        repeat (first
          | (refine SeqH.take (v := ?_) rfl (by rfl) ?_ ?_; rotate_left; (· intro w hSw; (try dsimp only at hSw); go_simp; (try with_reducible rfl)); simp only [Act.put, List.setIfInBounds_toArray, List.set_cons_zero, List.set_cons_succ])
          | (refine SeqH.skip rfl (by rfl) ?_; simp only [Act.put, List.setIfInBounds_toArray, List.set_cons_zero, List.set_cons_succ]))
        refine SeqH.step rfl (by rfl) (fun K hK => ?_)
        go_simp
        refine (size_any _ _ (by omega) (by omega)).mono ?_
        rintro e w3 ⟨rfl, rfl⟩
        try dsimp only
        refine hK.out _ _ hS (fun _ => ?_)
        clear hK K
        try simp only [Act.put, List.setIfInBounds_toArray, List.set_cons_zero, List.set_cons_succ]
        repeat (first
          | (refine SeqH.take (v := ?_) rfl (by rfl) ?_ ?_; rotate_left; (· intro w hSw; (try dsimp only at hSw); go_simp; (try with_reducible rfl)); simp only [Act.put, List.setIfInBounds_toArray, List.set_cons_zero, List.set_cons_succ])
          | (refine SeqH.skip rfl (by rfl) ?_; simp only [Act.put, List.setIfInBounds_toArray, List.set_cons_zero, List.set_cons_succ]))
        refine SeqH.step rfl (by rfl) (fun K hK => ?_)
        go_simp
        refine (PK.out _).mono ?_
        rintro e w3 ⟨rfl, hb3⟩
        have hb4 : Below w2.heap.size w2 w3 := ((Below.refl _ _).drew).trans hb3
        have rr3 := RR.out.all hb4
        have ra3 := HS.out.1.all hb4
        have rb3 := HS.out.2.all hb4
        have hw3 := hw2.trans (hb4.mono hw2.size)
        clear RR HS hb3 hb4 hw2 hS
        have hS : w3.cell? ⟨w.heap.size, 0, none⟩ = some (.int .i64 an) ∧ w3.cell? ⟨w.heap.size, 1, none⟩ = some (.int .i64 (D : Int)) ∧ w3.cell? ⟨w.heap.size + 1, 0, none⟩ = some (.int .i64 bn) ∧ w3.cell? ⟨w.heap.size + 1, 1, none⟩ = some (.int .i64 (E : Int)) := ⟨ra3.1, ra3.2.1, rb3.1, rb3.2.1⟩
        try dsimp only
        refine hK.out _ _ hS (fun _ => ?_)
        clear hK K ra3 rb3
        try simp only [Act.put, List.setIfInBounds_toArray, List.set_cons_zero, List.set_cons_succ]
        repeat (first
          | (refine SeqH.take (v := ?_) rfl (by rfl) ?_ ?_; rotate_left; (· intro w hSw; (try dsimp only at hSw); go_simp; (try with_reducible rfl)); simp only [Act.put, List.setIfInBounds_toArray, List.set_cons_zero, List.set_cons_succ])
          | (refine SeqH.skip rfl (by rfl) ?_; simp only [Act.put, List.setIfInBounds_toArray, List.set_cons_zero, List.set_cons_succ]))
        obtain ⟨c0, c1, f0, f1, hz⟩ := rr3
        refine SeqH.step rfl (by rfl) (fun K hK => ?_)
        go_simp
        refine hK.out _ _ ⟨far2 hS.1 (by omega) _ _, far2 hS.2.1 (by omega) _ _, far2 hS.2.2.1 (by omega) _ _, far2 hS.2.2.2 (by omega) _ _⟩ (fun _ => ?_)
        clear hK K hS
        try simp only [Act.put, List.setIfInBounds_toArray, List.set_cons_zero, List.set_cons_succ]
        repeat (first
          | (refine SeqH.take (v := ?_) rfl (by rfl) ?_ ?_; rotate_left; (· intro w hSw; (try dsimp only at hSw); go_simp; (try with_reducible rfl)); simp only [Act.put, List.setIfInBounds_toArray, List.set_cons_zero, List.set_cons_succ])
          | (refine SeqH.skip rfl (by rfl) ?_; simp only [Act.put, List.setIfInBounds_toArray, List.set_cons_zero, List.set_cons_succ]))
        refine SeqH.done ?_
        go_wp2
        exact bodyPost_ret (v := .tuple #[rat x y, .int .i64 z]) (by simp [results, Tryd.results27, go_sem, c0, c1, hz]) rfl ⟨rfl, by repeat' (first | exact hw3 | refine Below.setCell ?_ (by simp; try omega) _ | refine Below.alloc ?_ (by simp; try omega) _)⟩
      · obtain ⟨e1, e2, e3⟩ := Fr.div_not (an := an) (ad := ad) (bn := bn) (bd := bd) (by simp [Fr.apt, hN])
        rw [e1, e2, e3]
        clear e1 e2 e3
        have hN' : (bn == 0) = true := by simpa using hN
        clear hN
        go_enter Tryd.func27, Tryd.ntmps27
        go_wp2_with fail
        refine (ref_valid_any an ad _ a1 a2 a3 a4).mono ?_
        rintro e w1 ⟨rfl, hb1⟩
        obtain ⟨ra, rb, rr, hw0⟩ := HR.out
        have ra1 := ra.all hb1
        have rb1 := rb.all hb1
        have rr1 := rr.all hb1
        have hw1 := hw0.trans (hb1.mono hw0.size)
        clear HR ra rb rr hw0 hb1
        have RB := Lib.hid rb1
        obtain ⟨c0, c1, _, _, hz⟩ := rb1
        go_wp2_with fail
        refine (ref_valid_any bn bd _ b1 b2 b3 b4).mono ?_
        rintro e w2 ⟨rfl, hb2⟩
        have ra2 := ra1.all hb2
        have rb2 := RB.out.all hb2
        have rr2 := rr1.all hb2
        have hw2 := hw1.trans (hb2.mono hw1.size)
        clear ra1 rr1 hw1 hb2 c0 c1 hz RB
        obtain ⟨c2, c3, _, _, _⟩ := rb2
        clear ra2
        obtain ⟨c0, c1, f0, f1, hz⟩ := rr2
        go_wp2
        exact bodyPost_ret (v := .tuple #[rat 0 0, .int .i64 1]) (by simp [results, Tryd.results27, go_sem, c0, c1, hz]) rfl ⟨rfl, by repeat' (first | exact hw2 | refine Below.setCell ?_ (by simp; try omega) _ | refine Below.alloc ?_ (by simp; try omega) _)⟩
    · obtain ⟨e1, e2, e3⟩ := Fr.div_not (an := an) (ad := ad) (bn := bn) (bd := bd) (by simp [Fr.apt, Fr.both, hA, hB])
      rw [e1, e2, e3]
      clear e1 e2 e3
      have hB' : Fr.ok bn bd = false := by simpa using hB
      clear hB
      go_enter Tryd.func27, Tryd.ntmps27
      go_wp2_with fail
      refine (ref_valid_any an ad _ a1 a2 a3 a4).mono ?_
      rintro e w1 ⟨rfl, hb1⟩
      obtain ⟨ra, rb, rr, hw0⟩ := HR.out
      have ra1 := ra.all hb1
      have rb1 := rb.all hb1
      have rr1 := rr.all hb1
      have hw1 := hw0.trans (hb1.mono hw0.size)
      clear HR ra rb rr hw0 hb1
      have RB := Lib.hid rb1
      obtain ⟨c0, c1, _, _, hz⟩ := rb1
      go_wp2_with fail
      refine (ref_valid_any bn bd _ b1 b2 b3 b4).mono ?_
      rintro e w2 ⟨rfl, hb2⟩
      have ra2 := ra1.all hb2
      have rb2 := RB.out.all hb2
      have rr2 := rr1.all hb2
      have hw2 := hw1.trans (hb2.mono hw1.size)
      clear ra1 rr1 hw1 hb2 c0 c1 hz RB
      clear ra2 rb2
      obtain ⟨c0, c1, f0, f1, hz⟩ := rr2
      go_wp2
      exact bodyPost_ret (v := .tuple #[rat 0 0, .int .i64 1]) (by simp [results, Tryd.results27, go_sem, c0, c1, hz]) rfl ⟨rfl, by repeat' (first | exact hw2 | refine Below.setCell ?_ (by simp; try omega) _ | refine Below.alloc ?_ (by simp; try omega) _)⟩
  · obtain ⟨e1, e2, e3⟩ := Fr.div_not (an := an) (ad := ad) (bn := bn) (bd := bd) (by simp [Fr.apt, Fr.both, hA])
    rw [e1, e2, e3]
    clear e1 e2 e3
    have hA' : Fr.ok an ad = false := by simpa using hA
    clear hA
    go_enter Tryd.func27, Tryd.ntmps27
    go_wp2_with fail
    refine (ref_valid_any an ad _ a1 a2 a3 a4).mono ?_
    rintro e w1 ⟨rfl, hb1⟩
    obtain ⟨ra, rb, rr, hw0⟩ := HR.out
    have ra1 := ra.all hb1
    have rb1 := rb.all hb1
    have rr1 := rr.all hb1
    have hw1 := hw0.trans (hb1.mono hw0.size)
    clear HR ra rb rr hw0 hb1
    clear ra1 rb1
    obtain ⟨c0, c1, f0, f1, hz⟩ := rr1
    go_wp2
    exact bodyPost_ret (v := .tuple #[rat 0 0, .int .i64 1]) (by simp [results, Tryd.results27, go_sem, c0, c1, hz]) rfl ⟨rfl, by repeat' (first | exact hw1 | refine Below.setCell ?_ (by simp; try omega) _ | refine Below.alloc ?_ (by simp; try omega) _)⟩
end Go.Proofs.YtfgignbmnfeikaaDoor
