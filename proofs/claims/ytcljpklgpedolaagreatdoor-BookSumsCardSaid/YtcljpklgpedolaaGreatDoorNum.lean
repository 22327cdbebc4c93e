/- Exact fractions, without the program: what the reduced form of a pair is, and that only its value counts. -/
namespace Go.Proofs.YtcljpklgpedolaaGreatDoor
namespace Fr

/-- The greatest numerator and denominator. -/
def mN : Nat := 1099511627776
def mD : Nat := 1048576

/-- Which pairs are valid fractions. -/
def ok (n d : Int) : Bool := decide (1 ≤ d ∧ d ≤ 1048576 ∧ -1099511627776 ≤ n ∧ n ≤ 1099511627776 ∧ Nat.gcd n.natAbs d.natAbs = 1)

theorem ok_iff {n d : Int} : ok n d = true ↔ (1 ≤ d ∧ d ≤ 1048576 ∧ -1099511627776 ≤ n ∧ n ≤ 1099511627776 ∧ Nat.gcd n.natAbs d.natAbs = 1) := by
  unfold ok; exact decide_eq_true_iff

/-- The reduced parts. -/
def up (n d : Int) : Nat := n.natAbs / Nat.gcd n.natAbs d.natAbs
def dn (n d : Int) : Nat := d.natAbs / Nat.gcd n.natAbs d.natAbs

/-- The error of a fraction that is made. -/
def er (n d : Int) : Int := if d = 0 then 1 else if up n d ≤ 1099511627776 ∧ dn n d ≤ 1048576 then 0 else 4
/-- Its numerator with the sign. -/
def sg (n d : Int) : Int := if (n < 0 ↔ d < 0) then (up n d : Int) else -(up n d : Int)
def nu (n d : Int) : Int := if er n d = 0 then sg n d else 0
def de (n d : Int) : Int := if er n d = 0 then (dn n d : Int) else 0

theorem er_cases (n d : Int) : er n d = 0 ∨ er n d = 1 ∨ er n d = 4 := by
  unfold er; split
  · simp
  · split <;> simp

theorem er_zero {d : Int} (n : Int) (h : d = 0) : er n d = 1 := by simp [er, h]
theorem nu_of {n d : Int} (h : er n d ≠ 0) : nu n d = 0 := by simp [nu, h]
theorem de_of {n d : Int} (h : er n d ≠ 0) : de n d = 0 := by simp [de, h]
theorem nu_ok {n d : Int} (h : er n d = 0) : nu n d = sg n d := by simp [nu, h]
theorem de_ok {n d : Int} (h : er n d = 0) : de n d = dn n d := by simp [de, h]

theorem sg_natAbs (n d : Int) : (sg n d).natAbs = up n d := by
  unfold sg; split <;> simp

theorem gpos {n d : Int} (hd : d ≠ 0) : 0 < Nat.gcd n.natAbs d.natAbs := Nat.gcd_pos_of_pos_right _ (by omega)
theorem dn_pos {n d : Int} (hd : d ≠ 0) : 0 < dn n d := Nat.div_gcd_pos_of_pos_right _ (by omega)
theorem up_mul (n d : Int) : up n d * Nat.gcd n.natAbs d.natAbs = n.natAbs := Nat.div_mul_cancel (Nat.gcd_dvd_left _ _)
theorem dn_mul (n d : Int) : dn n d * Nat.gcd n.natAbs d.natAbs = d.natAbs := Nat.div_mul_cancel (Nat.gcd_dvd_right _ _)
theorem cop (n d : Int) (_hd : d ≠ 0) : Nat.gcd (up n d) (dn n d) = 1 := Nat.gcd_div_gcd_div_gcd_of_pos_right (by omega)

/-- The sign and the value of the reduced numerator. -/
theorem sg_mul (n d : Int) (hd : d ≠ 0) : sg n d * d = n * (dn n d : Int) := by
  have h1 := up_mul n d
  have h2 := dn_mul n d
  generalize hg : Nat.gcd n.natAbs d.natAbs = g at *
  unfold sg
  generalize up n d = u at *
  generalize dn n d = v at *
  have key : (u : Int) * (d.natAbs : Int) = (n.natAbs : Int) * (v : Int) := by
    rw [← h1, ← h2]; push_cast; grind
  by_cases a : n < 0 <;> by_cases b : d < 0
  · rw [if_pos (by simp [a, b])]
    have e1 : (n.natAbs : Int) = -n := by omega
    have e2 : (d.natAbs : Int) = -d := by omega
    rw [e1, e2] at key; grind
  · rw [if_neg (by simp [a, b])]
    have e1 : (n.natAbs : Int) = -n := by omega
    have e2 : (d.natAbs : Int) = d := by omega
    rw [e1, e2] at key; grind
  · rw [if_neg (by simp [a, b])]
    have e1 : (n.natAbs : Int) = n := by omega
    have e2 : (d.natAbs : Int) = -d := by omega
    rw [e1, e2] at key; grind
  · rw [if_pos (by simp [a, b])]
    have e1 : (n.natAbs : Int) = n := by omega
    have e2 : (d.natAbs : Int) = d := by omega
    rw [e1, e2] at key; grind

/-- Two pairs without a common divisor that have one value are one pair. -/
theorem uniq {p q r s : Int} (hq : 0 < q) (hs : 0 < s) (h1 : Nat.gcd p.natAbs q.natAbs = 1) (h2 : Nat.gcd r.natAbs s.natAbs = 1) (h : p * s = r * q) : p = r ∧ q = s := by
  have hn : p.natAbs * s.natAbs = r.natAbs * q.natAbs := by rw [← Int.natAbs_mul, ← Int.natAbs_mul, h]
  have d1 : q.natAbs ∣ s.natAbs := Nat.Coprime.dvd_of_dvd_mul_left (Nat.Coprime.symm h1) ⟨r.natAbs, by rw [hn, Nat.mul_comm]⟩
  have d2 : s.natAbs ∣ q.natAbs := Nat.Coprime.dvd_of_dvd_mul_left (Nat.Coprime.symm h2) ⟨p.natAbs, by rw [← hn, Nat.mul_comm]⟩
  have e : q.natAbs = s.natAbs := Nat.dvd_antisymm d1 d2
  have e' : q = s := by omega
  subst e'
  exact ⟨Int.eq_of_mul_eq_mul_right (by omega) h, rfl⟩

/-- The reduced form is the one with this value. -/
theorem red {p q n d : Int} (hq : 0 < q) (hd : d ≠ 0) (h1 : Nat.gcd p.natAbs q.natAbs = 1) (h : p * d = n * q) : sg n d = p ∧ (dn n d : Int) = q := by
  have hv := dn_pos (n := n) hd
  have hm := sg_mul n d hd
  have hc := cop n d hd
  rw [← sg_natAbs n d] at hc
  refine uniq (by omega) hq (by simpa using hc) h1 ?_
  have : (sg n d * q) * d = (p * (dn n d : Int)) * d := by grind
  exact Int.eq_of_mul_eq_mul_right hd this

theorem ok_mk {n d : Int} (h : er n d = 0) : ok (nu n d) (de n d) = true := by
  have hd : d ≠ 0 := by intro e; simp [er, e] at h
  rw [nu_ok h, de_ok h, ok_iff]
  unfold er at h
  rw [if_neg hd] at h
  have hb : up n d ≤ 1099511627776 ∧ dn n d ≤ 1048576 := by
    by_cases hb : up n d ≤ 1099511627776 ∧ dn n d ≤ 1048576
    · exact hb
    · rw [if_neg hb] at h; omega
  have hp := dn_pos (n := n) hd
  have ha := sg_natAbs n d
  have hc := cop n d hd
  refine ⟨by omega, by omega, by omega, by omega, ?_⟩
  rw [ha]; simpa using hc

theorem val_mk {n d : Int} (h : er n d = 0) : nu n d * d = n * de n d := by
  have hd : d ≠ 0 := by intro e; simp [er, e] at h
  rw [nu_ok h, de_ok h]; exact sg_mul n d hd

theorem ne_mk {n d : Int} (h : er n d = 0) : d ≠ 0 := by intro e; simp [er, e] at h

/-- LEMMA A: a valid fraction with the value n/d is what is made of n and d. -/
theorem mk_of {p q n d : Int} (hv : ok p q = true) (hd : d ≠ 0) (h : p * d = n * q) : er n d = 0 ∧ nu n d = p ∧ de n d = q := by
  obtain ⟨v1, v2, v3, v4, v5⟩ := ok_iff.1 hv
  obtain ⟨r1, r2⟩ := red (by omega) hd v5 h
  have ha := sg_natAbs n d
  have he : er n d = 0 := by
    unfold er; rw [if_neg hd, if_pos ⟨by omega, by omega⟩]
  exact ⟨he, by rw [nu_ok he, r1], by rw [de_ok he, r2]⟩

/-- LEMMA C: only the value counts. -/
theorem mk_congr {p q n d : Int} (hq : q ≠ 0) (hd : d ≠ 0) (h : p * d = n * q) : er p q = er n d ∧ nu p q = nu n d ∧ de p q = de n d := by
  have hv := dn_pos (n := p) hq
  have hm := sg_mul p q hq
  have hc := cop p q hq
  rw [← sg_natAbs p q] at hc
  have hx : sg p q * d = n * (dn p q : Int) := by
    have : (sg p q * d) * q = (n * (dn p q : Int)) * q := by grind
    exact Int.eq_of_mul_eq_mul_right hq this
  obtain ⟨r1, r2⟩ := red (p := sg p q) (q := (dn p q : Int)) (by omega) hd (by simpa using hc) hx
  have ha := sg_natAbs p q
  have hb := sg_natAbs n d
  have e1 : up p q = up n d := by rw [← ha, ← hb, r1]
  have e2 : dn p q = dn n d := by omega
  have e3 : er p q = er n d := by unfold er; rw [if_neg hq, if_neg hd, e1, e2]
  refine ⟨e3, ?_, ?_⟩
  · unfold nu; rw [e3, r1]
  · unfold de; rw [e3, e2]

/-- The pair with the sign in front and a second number above 0. -/
def sgn (b : Bool) (n : Nat) : Int := if b = true then -(n : Int) else n
theorem sgn_natAbs (b : Bool) (n : Nat) : (sgn b n).natAbs = n := by unfold sgn; split <;> simp
theorem sgn_sg (b : Bool) (n d : Nat) (hd : 0 < d) : sg (sgn b n) d = if b = true then -(up (sgn b n) d : Int) else up (sgn b n) d := by
  have hu : up (sgn b n) d = n / Nat.gcd n d := by unfold up; rw [sgn_natAbs]; rfl
  unfold sg
  rw [hu]
  cases b
  · have e : sgn false n = (n : Int) := rfl
    rw [e, if_pos (by omega)]; simp
  · have e : sgn true n = -(n : Int) := rfl
    rw [e]
    by_cases h : n = 0
    · subst h; simp
    · rw [if_neg (by omega)]; simp
theorem sgn_made (n d : Int) (hd : d ≠ 0) : er (sgn (decide (n < 0) != decide (d < 0)) n.natAbs) d.natAbs = er n d ∧ nu (sgn (decide (n < 0) != decide (d < 0)) n.natAbs) d.natAbs = nu n d ∧ de (sgn (decide (n < 0) != decide (d < 0)) n.natAbs) d.natAbs = de n d := by
  refine mk_congr (by omega) hd ?_
  unfold sgn
  by_cases a : n < 0 <;> by_cases b : d < 0 <;> simp [a, b]
  · have e1 : (n.natAbs : Int) = -n := by omega
    have e2 : (d.natAbs : Int) = -d := by omega
    rw [e1, e2]; grind
  · have e1 : (n.natAbs : Int) = -n := by omega
    have e2 : (d.natAbs : Int) = d := by omega
    rw [e1, e2]; grind
  · have e1 : (n.natAbs : Int) = n := by omega
    have e2 : (d.natAbs : Int) = -d := by omega
    rw [e1, e2]; grind
  · have e1 : (n.natAbs : Int) = n := by omega
    have e2 : (d.natAbs : Int) = d := by omega
    rw [e1, e2]

theorem nu_bound (n d : Int) : -1099511627776 ≤ nu n d ∧ nu n d ≤ 1099511627776 := by
  by_cases h : er n d = 0
  · have := ok_iff.1 (ok_mk h); omega
  · rw [nu_of h]; omega
theorem de_bound (n d : Int) : 0 ≤ de n d ∧ de n d ≤ 1048576 := by
  by_cases h : er n d = 0
  · have := ok_iff.1 (ok_mk h); omega
  · rw [de_of h]; omega
end Fr
end Go.Proofs.YtcljpklgpedolaaGreatDoor
