/- Products and quotients of fractions, without the program: crosswise reduction. -/
import Derived.Test.YtcljpklgpedolaaGreatDoorNum
namespace Go.Proofs.YtcljpklgpedolaaGreatDoor
namespace Fr

/-- Reduced crosswise, nothing is left in common. -/
theorem cross_cop {n d m e : Nat} (hd : 0 < d) (he : 0 < e) (h1 : Nat.gcd n d = 1) (h2 : Nat.gcd m e = 1) :
    Nat.gcd ((n / Nat.gcd n e) * (m / Nat.gcd m d)) ((d / Nat.gcd m d) * (e / Nat.gcd n e)) = 1 := by
  have c1 : Nat.Coprime (n / Nat.gcd n e) (e / Nat.gcd n e) := Nat.gcd_div_gcd_div_gcd_of_pos_right he
  have c2 : Nat.Coprime (m / Nat.gcd m d) (d / Nat.gcd m d) := Nat.gcd_div_gcd_div_gcd_of_pos_right hd
  have a1 : n / Nat.gcd n e ∣ n := Nat.div_dvd_of_dvd (Nat.gcd_dvd_left _ _)
  have a2 : d / Nat.gcd m d ∣ d := Nat.div_dvd_of_dvd (Nat.gcd_dvd_right _ _)
  have a3 : m / Nat.gcd m d ∣ m := Nat.div_dvd_of_dvd (Nat.gcd_dvd_left _ _)
  have a4 : e / Nat.gcd n e ∣ e := Nat.div_dvd_of_dvd (Nat.gcd_dvd_right _ _)
  have c3 : Nat.Coprime (n / Nat.gcd n e) (d / Nat.gcd m d) := Nat.Coprime.coprime_dvd_left a1 (Nat.Coprime.coprime_dvd_right a2 h1)
  have c4 : Nat.Coprime (m / Nat.gcd m d) (e / Nat.gcd n e) := Nat.Coprime.coprime_dvd_left a3 (Nat.Coprime.coprime_dvd_right a4 h2)
  exact Nat.Coprime.mul_left (Nat.Coprime.mul_right c3 c1) (Nat.Coprime.mul_right c2 c4)

theorem cross_val (n d m e : Nat) : ((n / Nat.gcd n e) * (m / Nat.gcd m d)) * (d * e) = (n * m) * ((d / Nat.gcd m d) * (e / Nat.gcd n e)) := by
  have e1 : n / Nat.gcd n e * Nat.gcd n e = n := Nat.div_mul_cancel (Nat.gcd_dvd_left _ _)
  have e2 : e / Nat.gcd n e * Nat.gcd n e = e := Nat.div_mul_cancel (Nat.gcd_dvd_right _ _)
  have e3 : m / Nat.gcd m d * Nat.gcd m d = m := Nat.div_mul_cancel (Nat.gcd_dvd_left _ _)
  have e4 : d / Nat.gcd m d * Nat.gcd m d = d := Nat.div_mul_cancel (Nat.gcd_dvd_right _ _)
  generalize n / Nat.gcd n e = u at *
  generalize e / Nat.gcd n e = x at *
  generalize m / Nat.gcd m d = v at *
  generalize d / Nat.gcd m d = y at *
  generalize Nat.gcd n e = g at *
  generalize Nat.gcd m d = h at *
  subst e1 e2 e3 e4
  grind

/-- The reduced parts of a product of two fractions without common divisors. -/
theorem cross (b : Bool) {n d m e : Nat} (hd : 0 < d) (he : 0 < e) (h1 : Nat.gcd n d = 1) (h2 : Nat.gcd m e = 1) :
    up (sgn b (n * m)) ((d * e : Nat) : Int) = (n / Nat.gcd n e) * (m / Nat.gcd m d) ∧ dn (sgn b (n * m)) ((d * e : Nat) : Int) = (d / Nat.gcd m d) * (e / Nat.gcd n e) := by
  have hc := cross_cop hd he h1 h2
  have hv := cross_val n d m e
  have hp : 0 < (d / Nat.gcd m d) * (e / Nat.gcd n e) := Nat.mul_pos (Nat.div_gcd_pos_of_pos_right _ hd) (Nat.div_gcd_pos_of_pos_right _ he)
  have hde : 0 < d * e := Nat.mul_pos hd he
  generalize (n / Nat.gcd n e) * (m / Nat.gcd m d) = u at *
  generalize (d / Nat.gcd m d) * (e / Nat.gcd n e) = x at *
  generalize n * m = nm at *
  generalize d * e = dd at *
  have key : sgn b u * (dd : Int) = sgn b nm * (x : Int) := by
    have : ((u * dd : Nat) : Int) = ((nm * x : Nat) : Int) := by rw [hv]
    push_cast at this
    unfold sgn
    cases b <;> simp <;> grind
  obtain ⟨r1, r2⟩ := red (p := sgn b u) (q := (x : Int)) (n := sgn b nm) (d := (dd : Int)) (by omega) (by omega) (by rw [sgn_natAbs]; simpa using hc) key
  have ha := sg_natAbs (sgn b nm) (dd : Int)
  rw [r1, sgn_natAbs] at ha
  exact ⟨ha.symm, by omega⟩

/-- The product of two numbers is that of their magnitudes with the sign. -/
theorem sgn_mul (a c : Int) : sgn (decide (a < 0) != decide (c < 0)) (a.natAbs * c.natAbs) = a * c := by
  have e : ((a.natAbs * c.natAbs : Nat) : Int) = (a.natAbs : Int) * (c.natAbs : Int) := by push_cast; rfl
  unfold sgn
  by_cases h1 : a < 0 <;> by_cases h2 : c < 0 <;> simp [h1, h2]
  · have x1 : (a.natAbs : Int) = -a := by omega
    have x2 : (c.natAbs : Int) = -c := by omega
    rw [x1, x2]; grind
  · have x1 : (a.natAbs : Int) = -a := by omega
    have x2 : (c.natAbs : Int) = c := by omega
    rw [x1, x2]; grind
  · have x1 : (a.natAbs : Int) = a := by omega
    have x2 : (c.natAbs : Int) = -c := by omega
    rw [x1, x2]; grind
  · have x1 : (a.natAbs : Int) = a := by omega
    have x2 : (c.natAbs : Int) = c := by omega
    rw [x1, x2]

/-- What is made of a product, out of the crosswise reduced parts. -/
theorem er_sgn (b : Bool) {n d m e : Nat} (hd : 0 < d) (he : 0 < e) (h1 : Nat.gcd n d = 1) (h2 : Nat.gcd m e = 1) :
    er (sgn b (n * m)) ((d * e : Nat) : Int) = if (n / Nat.gcd n e) * (m / Nat.gcd m d) ≤ 1099511627776 ∧ (d / Nat.gcd m d) * (e / Nat.gcd n e) ≤ 1048576 then 0 else 4 := by
  obtain ⟨c1, c2⟩ := cross b hd he h1 h2
  have hde : 0 < d * e := Nat.mul_pos hd he
  unfold er
  rw [c1, c2, if_neg (by omega)]
theorem zero_made (d : Int) (hd : d ≠ 0) : er 0 d = 0 ∧ nu 0 d = 0 ∧ de 0 d = 1 := by
  exact mk_of (p := 0) (q := 1) (by decide) hd (by simp)
end Fr
end Go.Proofs.YtcljpklgpedolaaGreatDoor
