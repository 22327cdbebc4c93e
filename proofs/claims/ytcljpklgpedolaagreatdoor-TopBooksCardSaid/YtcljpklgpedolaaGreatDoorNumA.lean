/- Exact fractions, without the program: what the reduced form of a pair is, and that only its value counts. What the program and the reference answer for the least functions of fractions: magnitudes, divisors, valid fractions, fractions that are made. What the program and the reference answer for fractions that are made and for valid fractions. Which fractions the program and the reference call valid. What the reference answers for fractions that are made. -/
import Derived.Test.YtcljpklgpedolaaGreatDoorProg
import Derived.WalkKit
import Derived.WalkSpells
import Derived.ScopeJumps
import Derived.BigQuiet
import Derived.Deep.QuietTactic
import Derived.Outline
import Derived.Lib.Hide
import Derived.Deep.RegionWith
namespace Go.Proofs.YtcljpklgpedolaaGreatDoor
namespace Fr

/-- The greatest numerator and denominator. -/
def mN : Nat := 1099511627776
def mD : Nat := 1048576

/-- Which pairs are valid fractions. -/
def ok (n d : Int) : Bool := decide (1 ≤ d ∧ d ≤ 1048576 ∧ -1099511627776 ≤ n ∧ n ≤ 1099511627776 ∧ Nat.gcd n.natAbs d.natAbs = 1)

theorem ok_iff {n d : Int} : ok n d = true ↔ (1 ≤ d ∧ d ≤ 1048576 ∧ -1099511627776 ≤ n ∧ n ≤ 1099511627776 ∧ Nat.gcd n.natAbs d.natAbs = 1) := by
  unfold ok; exact decide_eq_true_iff

/-- The reduced parts. -/
def up (n d : Int) : Nat := n.natAbs / Nat.gcd n.natAbs d.natAbs
def dn (n d : Int) : Nat := d.natAbs / Nat.gcd n.natAbs d.natAbs

/-- The error of a fraction that is made. -/
def er (n d : Int) : Int := if d = 0 then 1 else if up n d ≤ 1099511627776 ∧ dn n d ≤ 1048576 then 0 else 4
/-- Its numerator with the sign. -/
def sg (n d : Int) : Int := if (n < 0 ↔ d < 0) then (up n d : Int) else -(up n d : Int)
def nu (n d : Int) : Int := if er n d = 0 then sg n d else 0
def de (n d : Int) : Int := if er n d = 0 then (dn n d : Int) else 0

theorem er_cases (n d : Int) : er n d = 0 ∨ er n d = 1 ∨ er n d = 4 := by
  unfold er; split
  · simp
  · split <;> simp

theorem er_zero {d : Int} (n : Int) (h : d = 0) : er n d = 1 := by simp [er, h]
theorem nu_of {n d : Int} (h : er n d ≠ 0) : nu n d = 0 := by simp [nu, h]
theorem de_of {n d : Int} (h : er n d ≠ 0) : de n d = 0 := by simp [de, h]
theorem nu_ok {n d : Int} (h : er n d = 0) : nu n d = sg n d := by simp [nu, h]
theorem de_ok {n d : Int} (h : er n d = 0) : de n d = dn n d := by simp [de, h]

theorem sg_natAbs (n d : Int) : (sg n d).natAbs = up n d := by
  unfold sg; split <;> simp

theorem gpos {n d : Int} (hd : d ≠ 0) : 0 < Nat.gcd n.natAbs d.natAbs := Nat.gcd_pos_of_pos_right _ (by omega)
theorem dn_pos {n d : Int} (hd : d ≠ 0) : 0 < dn n d := Nat.div_gcd_pos_of_pos_right _ (by omega)
theorem up_mul (n d : Int) : up n d * Nat.gcd n.natAbs d.natAbs = n.natAbs := Nat.div_mul_cancel (Nat.gcd_dvd_left _ _)
theorem dn_mul (n d : Int) : dn n d * Nat.gcd n.natAbs d.natAbs = d.natAbs := Nat.div_mul_cancel (Nat.gcd_dvd_right _ _)
theorem cop (n d : Int) (_hd : d ≠ 0) : Nat.gcd (up n d) (dn n d) = 1 := Nat.gcd_div_gcd_div_gcd_of_pos_right (by omega)

/-- The sign and the value of the reduced numerator. -/
theorem sg_mul (n d : Int) (_hd : d ≠ 0) : sg n d * d = n * (dn n d : Int) := by
  have h1 := up_mul n d
  have h2 := dn_mul n d
  generalize hg : Nat.gcd n.natAbs d.natAbs = g at *
  unfold sg
  generalize up n d = u at *
  generalize dn n d = v at *
  have key : (u : Int) * (d.natAbs : Int) = (n.natAbs : Int) * (v : Int) := by
    rw [← h1, ← h2]; push_cast; grind
  by_cases a : n < 0 <;> by_cases b : d < 0
  · rw [if_pos (by simp [a, b])]
    have e1 : (n.natAbs : Int) = -n := by omega
    have e2 : (d.natAbs : Int) = -d := by omega
    rw [e1, e2] at key; grind
  · rw [if_neg (by simp [a, b])]
    have e1 : (n.natAbs : Int) = -n := by omega
    have e2 : (d.natAbs : Int) = d := by omega
    rw [e1, e2] at key; grind
  · rw [if_neg (by simp [a, b])]
    have e1 : (n.natAbs : Int) = n := by omega
    have e2 : (d.natAbs : Int) = -d := by omega
    rw [e1, e2] at key; grind
  · rw [if_pos (by simp [a, b])]
    have e1 : (n.natAbs : Int) = n := by omega
    have e2 : (d.natAbs : Int) = d := by omega
    rw [e1, e2] at key; grind

/-- Two pairs without a common divisor that have one value are one pair. -/
theorem uniq {p q r s : Int} (hq : 0 < q) (hs : 0 < s) (h1 : Nat.gcd p.natAbs q.natAbs = 1) (h2 : Nat.gcd r.natAbs s.natAbs = 1) (h : p * s = r * q) : p = r ∧ q = s := by
  have hn : p.natAbs * s.natAbs = r.natAbs * q.natAbs := by rw [← Int.natAbs_mul, ← Int.natAbs_mul, h]
  have d1 : q.natAbs ∣ s.natAbs := Nat.Coprime.dvd_of_dvd_mul_left (Nat.Coprime.symm h1) ⟨r.natAbs, by rw [hn, Nat.mul_comm]⟩
  have d2 : s.natAbs ∣ q.natAbs := Nat.Coprime.dvd_of_dvd_mul_left (Nat.Coprime.symm h2) ⟨p.natAbs, by rw [← hn, Nat.mul_comm]⟩
  have e : q.natAbs = s.natAbs := Nat.dvd_antisymm d1 d2
  have e' : q = s := by omega
  subst e'
  exact ⟨Int.eq_of_mul_eq_mul_right (by omega) h, rfl⟩

/-- The reduced form is the one with this value. -/
theorem red {p q n d : Int} (hq : 0 < q) (hd : d ≠ 0) (h1 : Nat.gcd p.natAbs q.natAbs = 1) (h : p * d = n * q) : sg n d = p ∧ (dn n d : Int) = q := by
  have hv := dn_pos (n := n) hd
  have hm := sg_mul n d hd
  have hc := cop n d hd
  rw [← sg_natAbs n d] at hc
  refine uniq (by omega) hq (by simpa using hc) h1 ?_
  have : (sg n d * q) * d = (p * (dn n d : Int)) * d := by grind
  exact Int.eq_of_mul_eq_mul_right hd this

theorem ok_mk {n d : Int} (h : er n d = 0) : ok (nu n d) (de n d) = true := by
  have hd : d ≠ 0 := by intro e; simp [er, e] at h
  rw [nu_ok h, de_ok h, ok_iff]
  unfold er at h
  rw [if_neg hd] at h
  have hb : up n d ≤ 1099511627776 ∧ dn n d ≤ 1048576 := by
    by_cases hb : up n d ≤ 1099511627776 ∧ dn n d ≤ 1048576
    · exact hb
    · rw [if_neg hb] at h; omega
  have hp := dn_pos (n := n) hd
  have ha := sg_natAbs n d
  have hc := cop n d hd
  refine ⟨by omega, by omega, by omega, by omega, ?_⟩
  rw [ha]; simpa using hc

theorem val_mk {n d : Int} (h : er n d = 0) : nu n d * d = n * de n d := by
  have hd : d ≠ 0 := by intro e; simp [er, e] at h
  rw [nu_ok h, de_ok h]; exact sg_mul n d hd

theorem ne_mk {n d : Int} (h : er n d = 0) : d ≠ 0 := by intro e; simp [er, e] at h

/-- LEMMA A: a valid fraction with the value n/d is what is made of n and d. -/
theorem mk_of {p q n d : Int} (hv : ok p q = true) (hd : d ≠ 0) (h : p * d = n * q) : er n d = 0 ∧ nu n d = p ∧ de n d = q := by
  obtain ⟨v1, v2, v3, v4, v5⟩ := ok_iff.1 hv
  obtain ⟨r1, r2⟩ := red (by omega) hd v5 h
  have ha := sg_natAbs n d
  have he : er n d = 0 := by
    unfold er; rw [if_neg hd, if_pos ⟨by omega, by omega⟩]
  exact ⟨he, by rw [nu_ok he, r1], by rw [de_ok he, r2]⟩

/-- LEMMA C: only the value counts. -/
theorem mk_congr {p q n d : Int} (hq : q ≠ 0) (hd : d ≠ 0) (h : p * d = n * q) : er p q = er n d ∧ nu p q = nu n d ∧ de p q = de n d := by
  have hv := dn_pos (n := p) hq
  have hm := sg_mul p q hq
  have hc := cop p q hq
  rw [← sg_natAbs p q] at hc
  have hx : sg p q * d = n * (dn p q : Int) := by
    have : (sg p q * d) * q = (n * (dn p q : Int)) * q := by grind
    exact Int.eq_of_mul_eq_mul_right hq this
  obtain ⟨r1, r2⟩ := red (p := sg p q) (q := (dn p q : Int)) (by omega) hd (by simpa using hc) hx
  have ha := sg_natAbs p q
  have hb := sg_natAbs n d
  have e1 : up p q = up n d := by rw [← ha, ← hb, r1]
  have e2 : dn p q = dn n d := by omega
  have e3 : er p q = er n d := by unfold er; rw [if_neg hq, if_neg hd, e1, e2]
  refine ⟨e3, ?_, ?_⟩
  · unfold nu; rw [e3, r1]
  · unfold de; rw [e3, e2]

/-- The pair with the sign in front and a second number above 0. -/
def sgn (b : Bool) (n : Nat) : Int := if b = true then -(n : Int) else n
theorem sgn_natAbs (b : Bool) (n : Nat) : (sgn b n).natAbs = n := by unfold sgn; split <;> simp
theorem sgn_sg (b : Bool) (n d : Nat) (hd : 0 < d) : sg (sgn b n) d = if b = true then -(up (sgn b n) d : Int) else up (sgn b n) d := by
  have hu : up (sgn b n) d = n / Nat.gcd n d := by unfold up; rw [sgn_natAbs]; rfl
  unfold sg
  rw [hu]
  cases b
  · have e : sgn false n = (n : Int) := rfl
    rw [e, if_pos (by omega)]; simp
  · have e : sgn true n = -(n : Int) := rfl
    rw [e]
    by_cases h : n = 0
    · subst h; simp
    · rw [if_neg (by omega)]; simp
theorem sgn_made (n d : Int) (hd : d ≠ 0) : er (sgn (decide (n < 0) != decide (d < 0)) n.natAbs) d.natAbs = er n d ∧ nu (sgn (decide (n < 0) != decide (d < 0)) n.natAbs) d.natAbs = nu n d ∧ de (sgn (decide (n < 0) != decide (d < 0)) n.natAbs) d.natAbs = de n d := by
  refine mk_congr (by omega) hd ?_
  unfold sgn
  by_cases a : n < 0 <;> by_cases b : d < 0 <;> simp [a, b]
  · have e1 : (n.natAbs : Int) = -n := by omega
    have e2 : (d.natAbs : Int) = -d := by omega
    rw [e1, e2]; grind
  · have e1 : (n.natAbs : Int) = -n := by omega
    have e2 : (d.natAbs : Int) = d := by omega
    rw [e1, e2]; grind
  · have e1 : (n.natAbs : Int) = n := by omega
    have e2 : (d.natAbs : Int) = -d := by omega
    rw [e1, e2]; grind
  · have e1 : (n.natAbs : Int) = n := by omega
    have e2 : (d.natAbs : Int) = d := by omega
    rw [e1, e2]

theorem nu_bound (n d : Int) : -1099511627776 ≤ nu n d ∧ nu n d ≤ 1099511627776 := by
  by_cases h : er n d = 0
  · have := ok_iff.1 (ok_mk h); omega
  · rw [nu_of h]; omega
theorem de_bound (n d : Int) : 0 ≤ de n d ∧ de n d ≤ 1048576 := by
  by_cases h : er n d = 0
  · have := ok_iff.1 (ok_mk h); omega
  · rw [de_of h]; omega
end Fr
end Go.Proofs.YtcljpklgpedolaaGreatDoor
namespace Go.Proofs.YtcljpklgpedolaaGreatDoor
open Go.RowKit

theorem ret_int {k : IntKind} {a b : Int} (h : a = b) : Ending.returned (.int k a) = .returned (.int k b) := by rw [h]

theorem u64_neg (n : Int) (h1 : -9223372036854775808 ≤ n) (h2 : n < 0) : IntKind.u64.wrap (-(IntKind.u64.wrap n)) = n.natAbs := by
  simp [IntKind.wrap, IntKind.bits, IntKind.signed]
  omega

theorem magnitude_any (n : Int) (w : World) (h1 : -9223372036854775808 ≤ n) (h2 : n ≤ 9223372036854775807) :
    Calls Tryz.prog 113 #[.int .i64 n] w fun e w' => e = .returned (.int .u64 n.natAbs) ∧ w = w' := by
  by_cases h : n < 0
  · have h3 := u64_neg n h1 h
    have H3 := Lib.hid h3
    clear h3
    go_enter Tryz.func113, Tryz.ntmps113
    go_wp2
    go_ret
    exact ⟨ret_int H3.out, rfl⟩
  · have h3 : n = n.natAbs := by omega
    have H3 := Lib.hid h3
    clear h3
    go_enter Tryz.func113, Tryz.ntmps113
    go_wp2
    go_ret
    exact ⟨ret_int H3.out, rfl⟩

theorem u64_size (n : Int) (h1 : -9223372036854775808 ≤ n) (h2 : n < 0) : IntKind.u64.wrap (IntKind.u64.wrap (wrap64 (-(wrap64 (n + 1)))) + 1) = n.natAbs := by
  simp [IntKind.wrap, IntKind.bits, IntKind.signed, wrap64]
  omega

theorem size_any (n : Int) (w : World) (h1 : -9223372036854775808 ≤ n) (h2 : n ≤ 9223372036854775807) :
    Calls Tryz.prog 118 #[.int .i64 n] w fun e w' => e = .returned (.int .u64 n.natAbs) ∧ w = w' := by
  by_cases h : n < 0
  · go_enter Tryz.func118, Tryz.ntmps118
    go_wp2
    go_ret
    exact ⟨ret_int (by omega), rfl⟩
  · have h3 : n = n.natAbs := by omega
    have H3 := Lib.hid h3
    clear h3
    go_enter Tryz.func118, Tryz.ntmps118
    go_wp2
    go_ret
    exact ⟨ret_int H3.out, rfl⟩

def Drawn (w w' : World) : Prop := ∃ n, w' = w.drewN n
theorem Drawn.refl (w : World) : Drawn w w := ⟨0, rfl⟩
theorem Drawn.drew {w w' : World} (h : Drawn w w') : Drawn w w'.drew := by
  obtain ⟨n, rfl⟩ := h
  exact ⟨n + 1, rfl⟩
theorem Drawn.drewN {w w' : World} (h : Drawn w w') (k : Nat) : Drawn w (w'.drewN k) := by
  obtain ⟨n, rfl⟩ := h
  exact ⟨n + k, World.drewN_drewN _ _ _⟩

theorem gcd_step (x y : Nat) : Nat.gcd y (x % y) = Nat.gcd x y := by rw [Nat.gcd_comm, ← Nat.gcd_rec, Nat.gcd_comm]

theorem gcd_any (a b : Nat) (w : World) (ha : a < 18446744073709551616) (hb : b < 18446744073709551616) :
    Calls Tryz.prog 117 #[.int .u64 a, .int .u64 b] w fun e w' => e = .returned (.int .u64 (Nat.gcd a b)) ∧ ∃ n, w' = w.drewN n := by
  go_enter Tryz.func117, Tryz.ntmps117
  go_wp2
  go_loopw [0, 1] (fun s t wr => ∃ x y : Nat, s = .int .u64 x ∧ t = .int .u64 y ∧ Hid (Nat.gcd x y = Nat.gcd a b) ∧ x < 18446744073709551616 ∧ y < 18446744073709551616 ∧ Drawn w wr) (fun _ t _ => (intOf t).toNat)
  case atStart => exact ⟨a, b, rfl, rfl, Lib.hid rfl, ha, hb, Drawn.refl _⟩
  case round =>
    obtain ⟨x, y, rfl, rfl, hg, hx, hy, hd⟩ := hrel
    by_cases h : y = 0
    · subst h
      go_wp2
      go_ret
      exact ⟨ret_int (by have := hg.out; rw [Nat.gcd_zero_right] at this; rw [this]), hd⟩
    · have hne : ((y : Int) == 0) = false := by simp; omega
      go_wp2
      go_quiet (fail)
      go_wp2
      have hl : x % y < y := Nat.mod_lt _ (by omega)
      have hh : Hid (Nat.gcd y (x % y) = Nat.gcd a b) := Lib.hid (by rw [gcd_step]; exact hg.out)
      go_roundw
      case rel => exact ⟨y, x % y, rfl, by go_num, hh, hy, by omega, hd.drewN _⟩
      case measure => simp [intOf]; omega

theorem divisor_any (a b : Nat) (w : World) (ha : a < 18446744073709551616) (hb : b < 18446744073709551616) :
    Calls Tryz.prog 112 #[.int .u64 a, .int .u64 b] w fun e w' => e = .returned (.int .u64 (Nat.gcd a b)) ∧ ∃ n, w' = w.drewN n := by
  go_enter Tryz.func112, Tryz.ntmps112
  go_wp2
  refine wp_scope_jumps 0 (fun a' w' => Drawn w w' ∧ ∃ (x y : Nat) (u5 u6 u7 u8 u9 u10 u11 : Value), a' = { tmps := #[.int .u64 x, .int .u64 y, undef, undef, .int .u64 0, u5, u6, u7, u8, u9, u10, u11], defers := [] } ∧ Hid (Nat.gcd x y = Nat.gcd a b) ∧ x < 18446744073709551616 ∧ y < 18446744073709551616) (fun a' _ => (intOf (a'.tmps.getD 1 undef)).toNat) rfl ?_ ?_
  · by_cases h : b = 0
    · subst h
      go_wp2
      go_step3
      go_wp2
      simp only [Exit.jump]
      go_ret
      exact ⟨ret_int (by rw [Nat.gcd_zero_right]), Drawn.refl _⟩
    · have hne : ((b : Int) == 0) = false := by simp; omega
      go_wp2
      go_step3
      go_wp2
      go_quiet (fail)
      go_wp2
      go_step3
      have hl : a % b < b := Nat.mod_lt _ (by omega)
      exact ⟨rfl, ⟨_, rfl⟩, b, a % b, _, _, _, _, _, _, _, rfl, Lib.hid (gcd_step _ _), hb, by omega⟩
  · rintro a' w' ⟨hd, x, y, u5, u6, u7, u8, u9, u10, u11, rfl, hg, hx, hy⟩
    by_cases h : y = 0
    · subst h
      go_wp2
      simp only [Exit.jump]
      go_ret
      exact ⟨ret_int (by have := hg.out; rw [Nat.gcd_zero_right] at this; rw [this]), hd⟩
    · have hne : ((y : Int) == 0) = false := by simp; omega
      go_wp2
      go_quiet (fail)
      go_wp2
      go_step3
      have hl : x % y < y := Nat.mod_lt _ (by omega)
      exact ⟨rfl, ⟨hd.drewN _, y, x % y, _, _, _, _, _, _, _, rfl, Lib.hid (by rw [gcd_step]; exact hg.out), hy, by omega⟩, by simp [intOf]; omega⟩

theorem within_any (n lo hi : Int) (w : World) :
    Calls Tryz.prog 103 #[.int .i64 n, .int .i64 lo, .int .i64 hi] w fun e w' => e = .returned (.bool (decide (lo ≤ n) && decide (n ≤ hi))) ∧ w = w' := by
  by_cases h1 : lo ≤ n
  · by_cases h2 : n ≤ hi
    all_goals
      go_enter Tryz.func103, Tryz.ntmps103
      go_wp2
      go_ret
      exact ⟨by simp [h1, h2]; try omega, rfl⟩
  · go_enter Tryz.func103, Tryz.ntmps103
    go_wp2
    go_ret
    exact ⟨by simp; try omega, rfl⟩
end Go.Proofs.YtcljpklgpedolaaGreatDoor
namespace Go.Proofs.YtcljpklgpedolaaGreatDoor
open Go.RowKit

theorem below_drewN {B : Nat} {a w : World} (h : Below B a w) (n : Nat) : Below B a (w.drewN n) := ⟨h.os, h.tape, h.output, h.size, h.block⟩

/-- A fraction as a value; with an error behind it. -/
abbrev rat (n d : Int) : Value := .agg #[.int .i64 n, .int .i64 d]

/-- A fraction lies at the head of a block, and is not shut. -/
def RatAt (w : World) (b : Nat) (x y : Int) : Prop :=
  w.cell? ⟨b, 0, none⟩ = some (.int .i64 x) ∧ w.cell? ⟨b, 1, none⟩ = some (.int .i64 y) ∧ w.frozen? ⟨b, 0, none⟩ = false ∧ w.frozen? ⟨b, 1, none⟩ = false ∧ b < w.heap.size
theorem RatAt.fresh (w : World) (x y : Int) (t : TypeId) : RatAt (w.alloc (.cells #[.int .i64 x, .int .i64 y] t)) w.heap.size x y :=
  ⟨World.cell?_alloc_new _ _ _ _, World.cell?_alloc_new _ _ _ _, by simp [go_sem], by simp [go_sem], by simp⟩
theorem RatAt.keep {w w2 : World} {b : Nat} {x y : Int} {B : Nat} (h : RatAt w b x y) (hb : Below B w w2) (hB : b < B) : RatAt w2 b x y :=
  ⟨(hb.cell (p := ⟨b, 0, none⟩) hB).trans h.1, (hb.cell (p := ⟨b, 1, none⟩) hB).trans h.2.1, (hb.frozen (p := ⟨b, 0, none⟩) hB).trans h.2.2.1, (hb.frozen (p := ⟨b, 1, none⟩) hB).trans h.2.2.2.1, Nat.lt_of_lt_of_le h.2.2.2.2 hb.size⟩
theorem RatAt.all {w w2 : World} {b : Nat} {x y : Int} (h : RatAt w b x y) (hb : Below w.heap.size w w2) : RatAt w2 b x y := h.keep hb h.2.2.2.2
theorem RatAt.alloc {w : World} {b : Nat} {x y : Int} (h : RatAt w b x y) (o : Obj) : RatAt (w.alloc o) b x y :=
  h.keep ((Below.refl _ _).alloc (Nat.le_refl _) _) h.2.2.2.2
theorem RatAt.drewN {w : World} {b : Nat} {x y : Int} (h : RatAt w b x y) (n : Nat) : RatAt (w.drewN n) b x y := h

theorem u64_quo (a g u : Nat) (ha : a < 18446744073709551616) (h : a / g = u) : IntKind.u64.wrap ((a : Int) / (g : Int)) = u ∧ u ≤ a := by
  have h1 : (a : Int) / (g : Int) = u := by rw [← h]; exact (Int.natCast_ediv _ _).symm
  have h2 : u ≤ a := by rw [← h]; exact Nat.div_le_self _ _
  rw [h1]
  simp [IntKind.wrap, IntKind.bits, IntKind.signed]
  omega

/-- What is made of two numbers, the second one not 0, out of the reduced parts. -/
theorem made_large {n d : Int} (hd : d ≠ 0) (h : ¬ (Fr.up n d ≤ 1099511627776 ∧ Fr.dn n d ≤ 1048576)) : Fr.er n d = 4 ∧ Fr.nu n d = 0 ∧ Fr.de n d = 0 := by
  have e : Fr.er n d = 4 := by unfold Fr.er; rw [if_neg hd, if_neg h]
  exact ⟨e, Fr.nu_of (by rw [e]; decide), Fr.de_of (by rw [e]; decide)⟩
theorem made_fits {n d : Int} (hd : d ≠ 0) (h : Fr.up n d ≤ 1099511627776 ∧ Fr.dn n d ≤ 1048576) : Fr.er n d = 0 ∧ Fr.nu n d = Fr.sg n d ∧ Fr.de n d = Fr.dn n d := by
  have e : Fr.er n d = 0 := by unfold Fr.er; rw [if_neg hd, if_pos h]
  exact ⟨e, Fr.nu_ok e, Fr.de_ok e⟩

theorem make_any (n d : Int) (w : World) (n1 : -9223372036854775808 ≤ n) (n2 : n ≤ 9223372036854775807) (d1 : -9223372036854775808 ≤ d) (d2 : d ≤ 9223372036854775807) :
    Calls Tryz.prog 114 #[.int .i64 n, .int .i64 d] w fun e w' => e = .returned (.tuple #[rat (Fr.nu n d) (Fr.de n d), .int .i64 (Fr.er n d)]) ∧ Below w.heap.size w w' := by
  by_cases hd : d = 0
  · have he := Fr.er_zero n hd
    have h0 : (d == 0) = true := by simp [hd]
    have e1 : Fr.nu n d = 0 := Fr.nu_of (by rw [he]; decide)
    have e2 : Fr.de n d = 0 := Fr.de_of (by rw [he]; decide)
    rw [e1, e2, he]
    clear hd he e1 e2
    go_enter Tryz.func114, Tryz.ntmps114
    go_wp2
    exact bodyPost_ret (v := .tuple #[rat 0 0, .int .i64 1]) (by simp [results, Tryz.results114, go_sem]) rfl ⟨rfl, ((Below.refl _ _).alloc (Nat.le_refl _) _)⟩
  · have h0 : (d == 0) = false := by simp [hd]
    obtain ⟨qu, hu⟩ := u64_quo n.natAbs (Nat.gcd n.natAbs d.natAbs) (Fr.up n d) (by omega) rfl
    obtain ⟨qv, hv⟩ := u64_quo d.natAbs (Nat.gcd n.natAbs d.natAbs) (Fr.dn n d) (by omega) rfl
    have hp : 0 < Fr.dn n d := Fr.dn_pos hd
    have hg : 0 < Nat.gcd n.natAbs d.natAbs := Fr.gpos hd
    by_cases hf : Fr.up n d ≤ 1099511627776 ∧ Fr.dn n d ≤ 1048576
    · obtain ⟨e0, e1, e2⟩ := made_fits hd hf
      rw [e0, e1, e2]
      obtain ⟨f1, f2⟩ := hf
      have hs : Fr.sg n d = if (n < 0 ↔ d < 0) then (Fr.up n d : Int) else -(Fr.up n d : Int) := rfl
      have HS := Lib.hid hs
      clear e0 e1 e2 hs
      generalize hgg : Nat.gcd n.natAbs d.natAbs = g at *
      generalize Fr.sg n d = s at *
      generalize Fr.up n d = u at *
      generalize Fr.dn n d = v at *
      have G := Lib.hid hgg
      clear hgg
      rcases Bool.eq_false_or_eq_true (decide (n < 0)) with a' | a' <;> rcases Bool.eq_false_or_eq_true (decide (d < 0)) with b' | b'
      all_goals
        have a := a'
        have b := b'
        simp only [decide_eq_true_eq, decide_eq_false_iff_not] at a b
        go_enter Tryz.func114, Tryz.ntmps114
        go_wp2_with (first
          | (go_at_call 113; refine (magnitude_any _ _ (by assumption) (by assumption)).mono ?_; rintro e w' ⟨rfl, rfl⟩)
          | (go_at_call 112; refine (divisor_any _ _ _ (by omega) (by omega)).mono ?_; rintro e w' ⟨rfl, nq, rfl⟩; rw [G.out]))
        refine bodyPost_ret (v := .tuple #[.agg #[.int .i64 _, .int .i64 v], .int .i64 0]) (by simp [results, Tryz.results114, go_sem]; rfl) rfl ⟨?_, ?_⟩
        · rw [HS.out]
          first | rw [if_pos (by omega)] | rw [if_neg (by omega)]
        · repeat' (first | exact Below.refl _ _ | apply below_drewN | refine Below.setCell ?_ (by simp) _ | refine Below.alloc ?_ (by simp) _)
    · obtain ⟨e0, e1, e2⟩ := made_large hd hf
      rw [e0, e1, e2]
      clear e0 e1 e2
      generalize hgg : Nat.gcd n.natAbs d.natAbs = g at *
      generalize Fr.up n d = u at *
      generalize Fr.dn n d = v at *
      have G := Lib.hid hgg
      clear hgg
      by_cases f1 : u ≤ 1099511627776
      all_goals
        go_enter Tryz.func114, Tryz.ntmps114
        go_wp2_with (first
          | (go_at_call 113; refine (magnitude_any _ _ (by assumption) (by assumption)).mono ?_; rintro e w' ⟨rfl, rfl⟩)
          | (go_at_call 112; refine (divisor_any _ _ _ (by omega) (by omega)).mono ?_; rintro e w' ⟨rfl, nq, rfl⟩; rw [G.out]))
        exact bodyPost_ret (v := .tuple #[rat 0 0, .int .i64 4]) (by simp [results, Tryz.results114, go_sem]) rfl ⟨rfl, by repeat' (first | exact Below.refl _ _ | apply below_drewN | refine Below.setCell ?_ (by simp) _ | refine Below.alloc ?_ (by simp) _)⟩
end Go.Proofs.YtcljpklgpedolaaGreatDoor
namespace Go.Proofs.YtcljpklgpedolaaGreatDoor
open Go.RowKit

theorem ok_in {n d : Int} (hb : 1 ≤ d ∧ d ≤ 1048576 ∧ -1099511627776 ≤ n ∧ n ≤ 1099511627776) : Fr.ok n d = ((Nat.gcd n.natAbs d.natAbs : Int) == 1) := by
  rw [Bool.eq_iff_iff, Fr.ok_iff, beq_iff_eq]
  omega
theorem ok_out {n d : Int} (hb : ¬ (1 ≤ d ∧ d ≤ 1048576 ∧ -1099511627776 ≤ n ∧ n ≤ 1099511627776)) : Fr.ok n d = false := by
  cases h : Fr.ok n d with
  | false => rfl
  | true => have := Fr.ok_iff.1 h; omega

theorem ret_bool {a b : Bool} (h : a = b) : Ending.returned (.bool a) = .returned (.bool b) := by rw [h]

theorem valid_any (n d : Int) (w : World) (n1 : -9223372036854775808 ≤ n) (n2 : n ≤ 9223372036854775807) (d1 : -9223372036854775808 ≤ d) (d2 : d ≤ 9223372036854775807) :
    Calls Tryz.prog 85 #[rat n d] w fun e w' => e = .returned (.bool (Fr.ok n d)) ∧ Below w.heap.size w w' := by
  by_cases hb : 1 ≤ d ∧ d ≤ 1048576 ∧ -1099511627776 ≤ n ∧ n ≤ 1099511627776
  · have HO := Lib.hid (ok_in hb)
    obtain ⟨b1, b2, b3, b4⟩ := hb
    go_enter Tryz.func85, Tryz.ntmps85
    go_wp2
    go_quiet ((first | (go_at_call 113; exact Calls.quiet_of_same ((magnitude_any _ _ (by omega) (by omega)).mono fun _ _ h => ⟨h.1, h.2.symm⟩)) | (go_at_call 112; exact Calls.quiet_of (divisor_any _ _ _ (by omega) (by omega)))))
    go_wp2
    go_ret
    exact ⟨ret_bool HO.out.symm, by repeat' (first | exact Below.refl _ _ | apply below_drewN | refine Below.setCell ?_ (by simp) _ | refine Below.alloc ?_ (by simp) _)⟩
  · rw [ok_out hb]
    go_enter Tryz.func85, Tryz.ntmps85
    go_wp2
    all_goals go_ret
    all_goals exact ⟨rfl, by repeat' (first | exact Below.refl _ _ | apply below_drewN | refine Below.setCell ?_ (by simp) _ | refine Below.alloc ?_ (by simp) _)⟩

theorem within_true (n lo hi : Int) (w : World) (h : lo ≤ n ∧ n ≤ hi) :
    Calls Tryz.prog 103 #[.int .i64 n, .int .i64 lo, .int .i64 hi] w fun e w' => e = .returned (.bool true) ∧ w' = w :=
  (within_any n lo hi w).mono fun _ _ ⟨he, hw⟩ => ⟨by rw [he]; simp [h.1, h.2], hw.symm⟩
theorem within_false (n lo hi : Int) (w : World) (h : ¬ (lo ≤ n ∧ n ≤ hi)) :
    Calls Tryz.prog 103 #[.int .i64 n, .int .i64 lo, .int .i64 hi] w fun e w' => e = .returned (.bool false) ∧ w' = w :=
  (within_any n lo hi w).mono fun _ _ ⟨he, hw⟩ => ⟨by rw [he]; by_cases a : lo ≤ n <;> by_cases b : n ≤ hi <;> simp [a, b]; exact h ⟨a, b⟩, hw.symm⟩

theorem u64_of (d : Int) (h : 0 ≤ d) (h2 : d ≤ 9223372036854775807) : d = (d.natAbs : Int) := by omega

theorem ref_valid_any (n d : Int) (w : World) (n1 : -9223372036854775808 ≤ n) (n2 : n ≤ 9223372036854775807) (_d1 : -9223372036854775808 ≤ d) (_d2 : d ≤ 9223372036854775807) :
    Calls Tryz.prog 88 #[rat n d] w fun e w' => e = .returned (.bool (Fr.ok n d)) ∧ Below w.heap.size w w' := by
  by_cases hd : 1 ≤ d ∧ d ≤ 1048576
  · by_cases hn : -1099511627776 ≤ n ∧ n ≤ 1099511627776
    · have HO := Lib.hid (ok_in ⟨hd.1, hd.2, hn.1, hn.2⟩)
      obtain ⟨D, hD⟩ : ∃ D : Nat, d = D := ⟨d.toNat, by omega⟩
      subst hD
      have e1 : IntKind.u64.wrap (D : Int) = D := by simp [IntKind.wrap, IntKind.bits, IntKind.signed]; omega
      obtain ⟨b1, b2⟩ := hd
      obtain ⟨b3, b4⟩ := hn
      go_enter Tryz.func88, Tryz.ntmps88
      go_wp2
      go_quiet ((first | (go_at_call 103; exact Calls.quiet_of_same (within_true _ _ _ _ (by omega))) | (go_at_call 118; exact Calls.quiet_of_same ((size_any _ _ (by omega) (by omega)).mono fun _ _ h => ⟨h.1, h.2.symm⟩)) | (go_at_call 117; exact Calls.quiet_of (gcd_any _ _ _ (by omega) (by omega)))))
      go_wp2
      go_ret
      exact ⟨ret_bool (by rw [HO.out]; simp), by repeat' (first | exact Below.refl _ _ | apply below_drewN | refine Below.setCell ?_ (by simp) _ | refine Below.alloc ?_ (by simp) _)⟩
    · rw [ok_out (by omega)]
      go_enter Tryz.func88, Tryz.ntmps88
      go_wp2
      go_quiet ((first | (go_at_call_of 103 (Value.int IntKind.i64 d); exact Calls.quiet_of_same (within_true _ _ _ _ hd)) | (go_at_call_of 103 (Value.int IntKind.i64 n); exact Calls.quiet_of_same (within_false _ _ _ _ hn))))
      go_wp2
      go_ret
      exact ⟨rfl, by repeat' (first | exact Below.refl _ _ | apply below_drewN | refine Below.setCell ?_ (by simp) _ | refine Below.alloc ?_ (by simp) _)⟩
  · rw [ok_out (by omega)]
    go_enter Tryz.func88, Tryz.ntmps88
    go_wp2
    go_quiet ((go_at_call 103; exact Calls.quiet_of_same (within_false _ _ _ _ hd)))
    go_wp2
    go_ret
    exact ⟨rfl, by repeat' (first | exact Below.refl _ _ | apply below_drewN | refine Below.setCell ?_ (by simp) _ | refine Below.alloc ?_ (by simp) _)⟩
end Go.Proofs.YtcljpklgpedolaaGreatDoor
namespace Go.Proofs.YtcljpklgpedolaaGreatDoor
open Go.RowKit

theorem build_any (b : Bool) (n d : Nat) (w : World) (hn : n < 18446744073709551616) (hd2 : d < 18446744073709551616) (hd : 0 < d) :
    Calls Tryz.prog 119 #[.bool b, .int .u64 n, .int .u64 d] w fun e w' =>
      e = .returned (.tuple #[rat (Fr.nu (Fr.sgn b n) d) (Fr.de (Fr.sgn b n) d), .bool (decide (Fr.er (Fr.sgn b n) d = 0))]) ∧ Below w.heap.size w w' := by
  have hd0 : (d : Int) ≠ 0 := by omega
  obtain ⟨qu, hu⟩ := u64_quo n (Nat.gcd n d) (Fr.up (Fr.sgn b n) d) (by omega) (by unfold Fr.up; rw [Fr.sgn_natAbs]; rfl)
  obtain ⟨qv, hv⟩ := u64_quo d (Nat.gcd n d) (Fr.dn (Fr.sgn b n) d) (by omega) (by unfold Fr.dn; rw [Fr.sgn_natAbs]; rfl)
  have hp : 0 < Fr.dn (Fr.sgn b n) d := Fr.dn_pos hd0
  have hg : 0 < Nat.gcd n d := Nat.gcd_pos_of_pos_right _ hd
  by_cases hf : Fr.up (Fr.sgn b n) d ≤ 1099511627776 ∧ Fr.dn (Fr.sgn b n) d ≤ 1048576
  · obtain ⟨e0, e1, e2⟩ := made_fits hd0 hf
    rw [e0, e1, e2, Fr.sgn_sg b n d hd]
    obtain ⟨f1, f2⟩ := hf
    clear e0 e1 e2
    generalize hgg : Nat.gcd n d = g at *
    generalize Fr.up (Fr.sgn b n) d = u at *
    generalize Fr.dn (Fr.sgn b n) d = v at *
    have G := Lib.hid hgg
    clear hgg
    cases b
    all_goals
      go_enter Tryz.func119, Tryz.ntmps119
      go_wp2_with (go_at_call 117; refine (gcd_any _ _ _ hn hd2).mono ?_; rintro e w' ⟨rfl, nq, rfl⟩; rw [G.out])
      go_quiet (fail)
      go_wp2
      exact bodyPost_ret (v := .tuple #[.agg #[.int .i64 _, .int .i64 v], .bool true]) (by simp [results, Tryz.results119, go_sem]) rfl ⟨rfl, by repeat' (first | exact Below.refl _ _ | apply below_drewN | refine Below.setCell ?_ (by simp) _ | refine Below.alloc ?_ (by simp) _)⟩
  · obtain ⟨e0, e1, e2⟩ := made_large hd0 hf
    rw [e0, e1, e2]
    clear e0 e1 e2
    generalize hgg : Nat.gcd n d = g at *
    generalize Fr.up (Fr.sgn b n) d = u at *
    generalize Fr.dn (Fr.sgn b n) d = v at *
    have G := Lib.hid hgg
    clear hgg
    by_cases f1 : u ≤ 1099511627776
    all_goals
      go_enter Tryz.func119, Tryz.ntmps119
      go_wp2_with (go_at_call 117; refine (gcd_any _ _ _ hn hd2).mono ?_; rintro e w' ⟨rfl, nq, rfl⟩; rw [G.out])
      go_quiet (fail)
      go_wp2
      exact bodyPost_ret (v := .tuple #[rat 0 0, .bool false]) (by simp [results, Tryz.results119, go_sem]) rfl ⟨rfl, by repeat' (first | exact Below.refl _ _ | apply below_drewN | refine Below.setCell ?_ (by simp) _ | refine Below.alloc ?_ (by simp) _)⟩

theorem ref_make_any (n d : Int) (w : World) (n1 : -9223372036854775808 ≤ n) (n2 : n ≤ 9223372036854775807) (d1 : -9223372036854775808 ≤ d) (d2 : d ≤ 9223372036854775807) :
    Calls Tryz.prog 89 #[.int .i64 n, .int .i64 d] w fun e w' => e = .returned (.tuple #[rat (Fr.nu n d) (Fr.de n d), .int .i64 (Fr.er n d)]) ∧ Below w.heap.size w w' := by
  by_cases hd : d = 0
  · have he := Fr.er_zero n hd
    have h0 : (d == 0) = true := by simp [hd]
    have e1 : Fr.nu n d = 0 := Fr.nu_of (by rw [he]; decide)
    have e2 : Fr.de n d = 0 := Fr.de_of (by rw [he]; decide)
    rw [e1, e2, he]
    clear hd he e1 e2
    go_enter Tryz.func89, Tryz.ntmps89
    go_wp2
    exact bodyPost_ret (v := .tuple #[rat 0 0, .int .i64 1]) (by simp [results, Tryz.results89, go_sem]) rfl ⟨rfl, ((Below.refl _ _).alloc (Nat.le_refl _) _)⟩
  · have h0 : (d == 0) = false := by simp [hd]
    obtain ⟨m1, m2, m3⟩ := Fr.sgn_made n d hd
    have hp : 0 < d.natAbs := by omega
    have hl : Fr.er n d ≠ 0 → Fr.er n d = 4 := by
      intro h
      rcases Fr.er_cases n d with h' | h' | h'
      · exact absurd h' h
      · unfold Fr.er at h'; rw [if_neg hd] at h'; split at h' <;> omega
      · exact h'
    have hb : Calls Tryz.prog 119 #[.bool (!(decide (n < 0) == decide (d < 0))), .int .u64 n.natAbs, .int .u64 d.natAbs] (w.alloc (.cells #[.int .i64 0, .int .i64 0] 70)) fun e w' =>
      e = .returned (.tuple #[rat (Fr.nu n d) (Fr.de n d), .bool (decide (Fr.er n d = 0))]) ∧ Below (w.heap.size + 1) (w.alloc (.cells #[.int .i64 0, .int .i64 0] 70)) w' := by
      have := build_any (decide (n < 0) != decide (d < 0)) n.natAbs d.natAbs (w.alloc (.cells #[.int .i64 0, .int .i64 0] 70)) (by omega) (by omega) hp
      rw [m1, m2, m3] at this
      rw [World.size_alloc] at this
      exact this
    have hz : Fr.er n d ≠ 0 → Fr.nu n d = 0 ∧ Fr.de n d = 0 := fun h => ⟨Fr.nu_of h, Fr.de_of h⟩
    have HB := Lib.hid hb
    clear m1 m2 m3 hb
    generalize Fr.nu n d = x at *
    generalize Fr.de n d = y at *
    generalize Fr.er n d = z at *
    by_cases h : z = 0
    · subst h
      clear hl hz
      go_enter Tryz.func89, Tryz.ntmps89
      go_wp2_with (first
        | (go_at_call 118; refine (size_any _ _ (by assumption) (by assumption)).mono ?_; rintro e w' ⟨rfl, rfl⟩))
      refine HB.out.mono ?_
      rintro e w1 ⟨rfl, hb1⟩
      obtain ⟨c0, c1, f0, f1, hz⟩ := (RatAt.fresh w 0 0 70).keep hb1 (by omega)
      have hs1 : w.heap.size ≤ w1.heap.size := by omega
      go_wp2
      refine bodyPost_ret (v := .tuple #[rat x y, .int .i64 0]) (by simp [results, Tryz.results89, go_sem, c0, c1, hz]) rfl ⟨rfl, ?_⟩
      have hb : Below w.heap.size w w1 := ((Below.refl _ _).alloc (Nat.le_refl _) _).trans (hb1.mono (by omega))
      repeat' (first | exact hb | refine Below.setCell ?_ (by simp) _ | refine Below.alloc ?_ (by simp; omega) _)
    · obtain ⟨rfl, rfl⟩ := hz h
      obtain rfl := hl h
      clear hl hz h
      go_enter Tryz.func89, Tryz.ntmps89
      go_wp2_with (first
        | (go_at_call 118; refine (size_any _ _ (by assumption) (by assumption)).mono ?_; rintro e w' ⟨rfl, rfl⟩))
      refine HB.out.mono ?_
      rintro e w1 ⟨rfl, hb1⟩
      obtain ⟨c0, c1, f0, f1, hz⟩ := (RatAt.fresh w 0 0 70).keep hb1 (by omega)
      have hs1 : w.heap.size ≤ w1.heap.size := by omega
      go_wp2
      refine bodyPost_ret (v := .tuple #[rat 0 0, .int .i64 4]) (by simp [results, Tryz.results89, go_sem, c0, c1, hz]) rfl ⟨rfl, ?_⟩
      have hb : Below w.heap.size w w1 := ((Below.refl _ _).alloc (Nat.le_refl _) _).trans (hb1.mono (by omega))
      repeat' (first | exact hb | refine Below.setCell ?_ (by simp) _ | refine Below.alloc ?_ (by simp; omega) _)
end Go.Proofs.YtcljpklgpedolaaGreatDoor
