/- What the program and the reference answer for products and quotients of fractions. -/
import Derived.Test.YtcljpklgpedolaaGreatDoorProduct
import Derived.Test.YtcljpklgpedolaaGreatDoorSeq
import Derived.Test.YtcljpklgpedolaaGreatDoorShelf
namespace Go.Proofs.YtcljpklgpedolaaGreatDoor
open Go.RowKit

namespace Fr
def mulN (an ad bn bd : Int) : Int := if both an ad bn bd = true then nu (an * bn) (ad * bd) else 0
def mulD (an ad bn bd : Int) : Int := if both an ad bn bd = true then de (an * bn) (ad * bd) else 0
def mulE (an ad bn bd : Int) : Int := if both an ad bn bd = true then er (an * bn) (ad * bd) else 1
theorem mul_not {an ad bn bd : Int} (h : both an ad bn bd = false) : mulN an ad bn bd = 0 ∧ mulD an ad bn bd = 0 ∧ mulE an ad bn bd = 1 := by simp [mulN, mulD, mulE, h]
theorem mul_both {an ad bn bd : Int} (h : both an ad bn bd = true) : mulN an ad bn bd = nu (an * bn) (ad * bd) ∧ mulD an ad bn bd = de (an * bn) (ad * bd) ∧ mulE an ad bn bd = er (an * bn) (ad * bd) := by simp [mulN, mulD, mulE, h]
/-- Whether a quotient is asked of two valid fractions, the second one not 0. -/
def apt (an ad bn bd : Int) : Bool := both an ad bn bd && decide (bn ≠ 0)
def divN (an ad bn bd : Int) : Int := if apt an ad bn bd = true then nu (an * bd) (ad * bn) else 0
def divD (an ad bn bd : Int) : Int := if apt an ad bn bd = true then de (an * bd) (ad * bn) else 0
def divE (an ad bn bd : Int) : Int := if apt an ad bn bd = true then er (an * bd) (ad * bn) else 1
theorem div_not {an ad bn bd : Int} (h : apt an ad bn bd = false) : divN an ad bn bd = 0 ∧ divD an ad bn bd = 0 ∧ divE an ad bn bd = 1 := by simp [divN, divD, divE, h]
theorem div_apt {an ad bn bd : Int} (h : apt an ad bn bd = true) : divN an ad bn bd = nu (an * bd) (ad * bn) ∧ divD an ad bn bd = de (an * bd) (ad * bn) ∧ divE an ad bn bd = er (an * bd) (ad * bn) := by simp [divN, divD, divE, h]

theorem er_small {a d : Int} (hd : d ≠ 0) (h1 : a.natAbs ≤ 1099511627776) (h2 : d.natAbs ≤ 1048576) : er a d = 0 := by
  have u1 : up a d ≤ a.natAbs := Nat.div_le_self _ _
  have u2 : dn a d ≤ d.natAbs := Nat.div_le_self _ _
  unfold er
  rw [if_neg hd, if_pos ⟨by omega, by omega⟩]

/-- Reduced crosswise first, a product is what it is. -/
theorem mul_facts {an ad bn bd : Int} (hA : ok an ad = true) (hB : ok bn bd = true) :
    er an bd = 0 ∧ er bn ad = 0 ∧ (nu an bd * nu bn ad).natAbs = (nu an bd).natAbs * (nu bn ad).natAbs ∧
    (1099511627776 < (nu an bd).natAbs * (nu bn ad).natAbs → er (an * bn) (ad * bd) = 4) ∧
    (er (nu an bd * nu bn ad) (de an bd * de bn ad) = er (an * bn) (ad * bd) ∧ nu (nu an bd * nu bn ad) (de an bd * de bn ad) = nu (an * bn) (ad * bd) ∧ de (nu an bd * nu bn ad) (de an bd * de bn ad) = de (an * bn) (ad * bd)) := by
  obtain ⟨v1, v2, v3, v4, v5⟩ := ok_iff.1 hA
  obtain ⟨u1, u2, u3, u4, u5⟩ := ok_iff.1 hB
  have e1 : er an bd = 0 := er_small (by omega) (by omega) (by omega)
  have e2 : er bn ad = 0 := er_small (by omega) (by omega) (by omega)
  have o1 := (ok_iff.1 (ok_mk e1)).1
  have o2 := (ok_iff.1 (ok_mk e2)).1
  have wD := val_mk e1
  have wE := val_mk e2
  refine ⟨e1, e2, Int.natAbs_mul _ _, fun hP => ?_, ?_⟩
  · have h1 : (nu an bd).natAbs = an.natAbs / Nat.gcd an.natAbs bd.natAbs := by rw [nu_ok e1, sg_natAbs]; rfl
    have h2 : (nu bn ad).natAbs = bn.natAbs / Nat.gcd bn.natAbs ad.natAbs := by rw [nu_ok e2, sg_natAbs]; rfl
    have hE := er_sgn (decide (an < 0) != decide (bn < 0)) (n := an.natAbs) (d := ad.natAbs) (m := bn.natAbs) (e := bd.natAbs) (by omega) (by omega) v5 u5
    rw [sgn_mul] at hE
    have hd : ((ad.natAbs * bd.natAbs : Nat) : Int) = ad * bd := by
      rw [Int.natCast_mul]
      have x1 : (ad.natAbs : Int) = ad := by omega
      have x2 : (bd.natAbs : Int) = bd := by omega
      rw [x1, x2]
    rw [hd] at hE
    rw [hE, if_neg]
    rw [h1, h2] at hP
    omega
  · have p1 := Int.mul_pos (a := de an bd) (b := de bn ad) (by omega) (by omega)
    have p2 := Int.mul_pos (a := ad) (b := bd) (by omega) (by omega)
    exact mk_congr (by omega) (by omega) (by grind)
end Fr

theorem mul64_any (x y hi lo : Nat) (hx : x < 18446744073709551616) (hy : y < 18446744073709551616) (h : x * y / 18446744073709551616 = hi ∧ x * y % 18446744073709551616 = lo) (w : World) :
    Calls Tryz.prog 115 #[.int .u64 x, .int .u64 y] w fun e w' => e = .returned (.tuple #[.int .u64 hi, .int .u64 lo]) ∧ w' = w := by
  obtain ⟨rfl, rfl⟩ := h
  exact Tryz.bits_Mul64 x y hx hy w

theorem far2 {W : World} {b c o : Nat} {v : Value} (h : W.cell? ⟨b, o, none⟩ = some v) (hne : c ≠ b) (x y : Value) : ((W.setCell ⟨c, 0, none⟩ x).setCell ⟨c, 1, none⟩ y).cell? ⟨b, o, none⟩ = some v := by
  rw [World.cell?_setCell_far _ _ _ _ hne, World.cell?_setCell_far _ _ _ _ hne, h]

namespace Fr
theorem sgn_div (a c : Int) (D E : Nat) : sgn (!(decide (a < 0) == decide (c < 0))) (a.natAbs * E) * ((D : Int) * c) = a * (E : Int) * ((D * c.natAbs : Nat) : Int) := by
  have hm := sgn_mul a c
  rw [Int.natCast_mul]
  unfold sgn
  by_cases h1 : a < 0 <;> by_cases h2 : c < 0 <;> simp [h1, h2]
  · have x1 : (a.natAbs : Int) = -a := by omega
    have x2 : (c.natAbs : Int) = -c := by omega
    rw [x1, x2]; grind
  · have x1 : (a.natAbs : Int) = -a := by omega
    have x2 : (c.natAbs : Int) = c := by omega
    rw [x1, x2]; grind
  · have x1 : (a.natAbs : Int) = a := by omega
    have x2 : (c.natAbs : Int) = -c := by omega
    rw [x1, x2]; grind
  · have x1 : (a.natAbs : Int) = a := by omega
    have x2 : (c.natAbs : Int) = c := by omega
    rw [x1, x2]
end Fr

end Go.Proofs.YtcljpklgpedolaaGreatDoor
