/- Discounts: of the program and of the reference. -/
import Derived.Test.YtcljpklgpedolaaGreatDoorBkM
import Derived.Test.YtcljpklgpedolaaGreatDoorMul2
import Derived.Test.YtcljpklgpedolaaGreatDoorRound
namespace Go.Proofs.YtcljpklgpedolaaGreatDoor
open Go.RowKit Go.Sort

def Bk.disOk (p n d : Int) : Bool := decide (0 ≤ p) && (decide (p ≤ 1048576) && (Fr.ok n d && (decide (0 ≤ n) && decide (n ≤ d))))
/-- What is taken off. -/
def Bk.offV (p n d : Int) : Int := Fr.rdN (Fr.nu (p * n) d) (Fr.de (p * n) d)
def Bk.disV (p n d : Int) : Int := if Bk.disOk p n d = true then p - Bk.offV p n d else 0
def Bk.disE (p n d : Int) : Int := if Bk.disOk p n d = true then 0 else 1
theorem Bk.dis_no {p n d : Int} (h : Bk.disOk p n d = false) : Bk.disV p n d = 0 ∧ Bk.disE p n d = 1 := by
  unfold Bk.disV Bk.disE; rw [h]; exact ⟨rfl, rfl⟩
theorem Bk.dis_yes {p n d : Int} (h : Bk.disOk p n d = true) : Bk.disV p n d = p - Bk.offV p n d ∧ Bk.disE p n d = 0 := by
  unfold Bk.disV Bk.disE; rw [h]; exact ⟨rfl, rfl⟩
theorem rd_bound (n d : Int) : -1099511627777 ≤ Fr.rdN n d ∧ Fr.rdN n d ≤ 1099511627777 := by
  by_cases h : Fr.ok n d = true
  · have := Fr.fl_bound h
    rw [(Fr.fl_ok h).2.2]
    unfold Fr.rdI
    split <;> omega
  · unfold Fr.rdN; rw [if_neg h]; omega
theorem dis_prod {p n d : Int} (p0 : 0 ≤ p) (p1 : p ≤ 1048576) (ok : Fr.ok n d = true) (n0 : 0 ≤ n) (n1 : n ≤ d) : 0 ≤ p * n ∧ p * n ≤ 1099511627776 := by
  obtain ⟨_, d2, _⟩ := Fr.ok_iff.1 ok
  refine ⟨Int.mul_nonneg p0 n0, ?_⟩
  have h1 : p * n ≤ 1048576 * n := Int.mul_le_mul_of_nonneg_right p1 n0
  omega
theorem dis_er {p n d : Int} (p0 : 0 ≤ p) (p1 : p ≤ 1048576) (ok : Fr.ok n d = true) (n0 : 0 ≤ n) (n1 : n ≤ d) : Fr.er (p * n) d = 0 := by
  obtain ⟨d1, d2, _⟩ := Fr.ok_iff.1 ok
  obtain ⟨h0, h1⟩ := dis_prod p0 p1 ok n0 n1
  unfold Fr.er
  rw [if_neg (by omega), if_pos]
  have a : Fr.up (p * n) d ≤ (p * n).natAbs := Nat.div_le_self _ _
  have b : Fr.dn (p * n) d ≤ d.natAbs := Nat.div_le_self _ _
  omega
theorem one_ok {p : Int} (p0 : 0 ≤ p) (p1 : p ≤ 1048576) : Fr.ok p 1 = true := Fr.ok_iff.2 ⟨by omega, by omega, by omega, by omega, by simp⟩
abbrev RatT : TypeId := 70
set_option maxRecDepth 20000 in
set_option maxHeartbeats 1000000 in
theorem discount_any (p n d : Int) (w : World) (p1 : -9223372036854775808 ≤ p) (p2 : p ≤ 9223372036854775807) (n1 : -9223372036854775808 ≤ n) (n2 : n ≤ 9223372036854775807) (d1 : -9223372036854775808 ≤ d) (d2 : d ≤ 9223372036854775807) :
    Calls Tryz.prog 53 #[.int .i64 p, rat n d] w fun e w' => e = .returned (.tuple #[.int .i64 (Bk.disV p n d), .int .i64 (Bk.disE p n d)]) ∧ Below w.heap.size w w' := by
  have hw0 := below_alloc (Below.refl w.heap.size w) (.cells #[.int .i64 n, .int .i64 d] RatT)
  have R0 := RatAt.fresh w n d RatT
  have hno : Bk.disOk p n d = false → Hid (Bk.disV p n d = 0 ∧ Bk.disE p n d = 1) := fun h => Lib.hid (Bk.dis_no h)
  have hyes : Bk.disOk p n d = true → Hid (Bk.disV p n d = p - Bk.offV p n d ∧ Bk.disE p n d = 0) := fun h => Lib.hid (Bk.dis_yes h)
  have HD : Hid (Bk.disOk p n d = (decide (0 ≤ p) && (decide (p ≤ 1048576) && (Fr.ok n d && (decide (0 ≤ n) && decide (n ≤ d)))))) := Lib.hid rfl
  have VA := Lib.hid (fun W => valid_any n d W n1 n2 d1 d2)
  generalize Bk.disV p n d = DV at *
  generalize Bk.disE p n d = DE at *
  by_cases a0 : p < 0
  · have HE := hno (by rw [HD.out, decide_eq_false (show ¬ 0 ≤ p by omega)]; rfl)
    clear hno hyes VA
    go_enter Tryz.func53, Tryz.ntmps53
    go_wp2
    go_ret2
    exact ⟨by rw [HE.out.1, HE.out.2]; rfl, hw0⟩
  by_cases a1 : 1048576 < p
  · have HE := hno (by rw [HD.out, decide_eq_false (show ¬ p ≤ 1048576 by omega)]; simp)
    clear hno hyes VA
    go_enter Tryz.func53, Tryz.ntmps53
    go_wp2
    go_ret2
    exact ⟨by rw [HE.out.1, HE.out.2]; rfl, hw0⟩
  cases hok : Fr.ok n d with
  | false =>
    have HE := hno (by rw [HD.out, hok]; simp)
    rw [hok] at VA
    clear hno hyes
    go_enter Tryz.func53, Tryz.ntmps53
    obtain ⟨c0, c1, _, _, _⟩ := id R0
    go_wp2_with fail
    refine (VA.out _).mono ?_
    rintro e w1 ⟨rfl, hb1⟩
    have R1 := R0.all hb1
    have hw1 := below_step hw0 hb1
    clear hb1 VA hw0 R0 c0 c1
    obtain ⟨c0, c1, _, _, _⟩ := id R1
    go_wp2
    go_ret2
    exact ⟨by rw [HE.out.1, HE.out.2]; rfl, hw1⟩
  | true =>
    rw [hok] at VA
    by_cases a2 : n < 0
    · have HE := hno (by rw [HD.out, decide_eq_false (show ¬ 0 ≤ n by omega)]; simp)
      clear hno hyes hok
      go_enter Tryz.func53, Tryz.ntmps53
      obtain ⟨c0, c1, _, _, _⟩ := id R0
      go_wp2_with fail
      refine (VA.out _).mono ?_
      rintro e w1 ⟨rfl, hb1⟩
      have R1 := R0.all hb1
      have hw1 := below_step hw0 hb1
      clear hb1 VA hw0 R0 c0 c1
      obtain ⟨c0, c1, _, _, _⟩ := id R1
      go_wp2
      go_ret2
      exact ⟨by rw [HE.out.1, HE.out.2]; rfl, hw1⟩
    by_cases a3 : d < n
    · have HE := hno (by rw [HD.out, decide_eq_false (show ¬ n ≤ d by omega)]; simp)
      clear hno hyes hok
      go_enter Tryz.func53, Tryz.ntmps53
      obtain ⟨c0, c1, _, _, _⟩ := id R0
      go_wp2_with fail
      refine (VA.out _).mono ?_
      rintro e w1 ⟨rfl, hb1⟩
      have R1 := R0.all hb1
      have hw1 := below_step hw0 hb1
      clear hb1 VA hw0 R0 c0 c1
      obtain ⟨c0, c1, _, _, _⟩ := id R1
      go_wp2
      go_ret2
      exact ⟨by rw [HE.out.1, HE.out.2]; rfl, hw1⟩
    have HE := hyes (by rw [HD.out, hok, decide_eq_true (show 0 ≤ p by omega), decide_eq_true (show p ≤ 1048576 by omega), decide_eq_true (show 0 ≤ n by omega), decide_eq_true (show n ≤ d by omega)]; rfl)
    have her := dis_er (show 0 ≤ p by omega) (show p ≤ 1048576 by omega) hok (show 0 ≤ n by omega) (show n ≤ d by omega)
    have hpr := dis_prod (show 0 ≤ p by omega) (show p ≤ 1048576 by omega) hok (show 0 ≤ n by omega) (show n ≤ d by omega)
    have hbn := Fr.nu_bound (p * n) d
    have hbd := Fr.de_bound (p * n) d
    have hrb := rd_bound (Fr.nu (p * n) d) (Fr.de (p * n) d)
    have hok2 := Fr.ok_mk her
    have hm := Fr.mul_both (an := p) (ad := 1) (bn := n) (bd := d) (by unfold Fr.both; rw [one_ok (by omega) (by omega), hok]; rfl)
    rw [Int.one_mul] at hm
    have MU := Lib.hid (fun W => mul_any p 1 n d W p1 p2 (by omega) (by omega) n1 n2 d1 d2)
    rw [hm.1, hm.2.1, hm.2.2, her] at MU
    have RO := Lib.hid (fun W => num_round_any (Fr.nu (p * n) d) (Fr.de (p * n) d) W (by omega) (by omega) (by omega) (by omega))
    rw [(Fr.fl_ok hok2).2.1] at RO
    have hof : Bk.offV p n d = Fr.rdN (Fr.nu (p * n) d) (Fr.de (p * n) d) := rfl
    rw [hof] at HE
    clear hno hyes hok her hbn hbd hok2 hm hof HD hpr
    generalize Fr.rdN (Fr.nu (p * n) d) (Fr.de (p * n) d) = O at *
    generalize Fr.nu (p * n) d = N at *
    generalize Fr.de (p * n) d = D at *
    go_enter Tryz.func53, Tryz.ntmps53
    obtain ⟨c0, c1, _, _, _⟩ := id R0
    go_wp2_with fail
    refine (VA.out _).mono ?_
    rintro e w1 ⟨rfl, hb1⟩
    have R1 := R0.all hb1
    have hw1 := below_step hw0 hb1
    clear hb1 VA hw0 R0 c0 c1
    obtain ⟨c0, c1, _, _, _⟩ := id R1
    go_wp2_with fail
    refine (MU.out _).mono ?_
    rintro e w2 ⟨rfl, hb2⟩
    have hw2 := below_step hw1 hb2
    have R2 := RatAt.fresh w2 N D RatT
    have hw3 := below_alloc hw2 (.cells #[.int .i64 N, .int .i64 D] RatT)
    clear hb2 MU hw1 R1 c0 c1
    obtain ⟨c0, c1, _, _, _⟩ := id R2
    go_wp2_with fail
    refine (RO.out _).mono ?_
    rintro e w4 ⟨rfl, hb4⟩
    have hw4 := below_step hw3 hb4
    clear hb4 RO hw3 hw2 R2 c0 c1
    go_wp2
    go_ret2
    exact ⟨by rw [HE.out.1, HE.out.2]; rfl, hw4⟩
set_option maxRecDepth 20000 in
set_option maxHeartbeats 1000000 in
theorem refDiscount_any (p n d : Int) (w : World) (p1 : -9223372036854775808 ≤ p) (p2 : p ≤ 9223372036854775807) (n1 : -9223372036854775808 ≤ n) (n2 : n ≤ 9223372036854775807) (d1 : -9223372036854775808 ≤ d) (d2 : d ≤ 9223372036854775807) :
    Calls Tryz.prog 54 #[.int .i64 p, rat n d] w fun e w' => e = .returned (.tuple #[.int .i64 (Bk.disV p n d), .int .i64 (Bk.disE p n d)]) ∧ Below w.heap.size w w' := by
  have hw0 := below_alloc (Below.refl w.heap.size w) (.cells #[.int .i64 n, .int .i64 d] RatT)
  have R0 := RatAt.fresh w n d RatT
  have hno : Bk.disOk p n d = false → Hid (Bk.disV p n d = 0 ∧ Bk.disE p n d = 1) := fun h => Lib.hid (Bk.dis_no h)
  have hyes : Bk.disOk p n d = true → Hid (Bk.disV p n d = p - Bk.offV p n d ∧ Bk.disE p n d = 0) := fun h => Lib.hid (Bk.dis_yes h)
  have HD : Hid (Bk.disOk p n d = (decide (0 ≤ p) && (decide (p ≤ 1048576) && (Fr.ok n d && (decide (0 ≤ n) && decide (n ≤ d)))))) := Lib.hid rfl
  have VA := Lib.hid (fun W => ref_valid_any n d W n1 n2 d1 d2)
  generalize Bk.disV p n d = DV at *
  generalize Bk.disE p n d = DE at *
  by_cases a0 : p < 0
  · have HE := hno (by rw [HD.out, decide_eq_false (show ¬ 0 ≤ p by omega)]; rfl)
    clear hno hyes VA
    go_enter Tryz.func54, Tryz.ntmps54
    go_wp2
    go_ret2
    exact ⟨by rw [HE.out.1, HE.out.2]; rfl, hw0⟩
  by_cases a1 : 1048576 < p
  · have HE := hno (by rw [HD.out, decide_eq_false (show ¬ p ≤ 1048576 by omega)]; simp)
    clear hno hyes VA
    go_enter Tryz.func54, Tryz.ntmps54
    go_wp2
    go_ret2
    exact ⟨by rw [HE.out.1, HE.out.2]; rfl, hw0⟩
  cases hok : Fr.ok n d with
  | false =>
    have HE := hno (by rw [HD.out, hok]; simp)
    rw [hok] at VA
    clear hno hyes
    go_enter Tryz.func54, Tryz.ntmps54
    obtain ⟨c0, c1, _, _, _⟩ := id R0
    go_wp2_with fail
    refine (VA.out _).mono ?_
    rintro e w1 ⟨rfl, hb1⟩
    have R1 := R0.all hb1
    have hw1 := below_step hw0 hb1
    clear hb1 VA hw0 R0 c0 c1
    obtain ⟨c0, c1, _, _, _⟩ := id R1
    go_wp2
    go_ret2
    exact ⟨by rw [HE.out.1, HE.out.2]; rfl, hw1⟩
  | true =>
    rw [hok] at VA
    by_cases a2 : n < 0
    · have HE := hno (by rw [HD.out, decide_eq_false (show ¬ 0 ≤ n by omega)]; simp)
      clear hno hyes hok
      go_enter Tryz.func54, Tryz.ntmps54
      obtain ⟨c0, c1, _, _, _⟩ := id R0
      go_wp2_with fail
      refine (VA.out _).mono ?_
      rintro e w1 ⟨rfl, hb1⟩
      have R1 := R0.all hb1
      have hw1 := below_step hw0 hb1
      clear hb1 VA hw0 R0 c0 c1
      obtain ⟨c0, c1, _, _, _⟩ := id R1
      go_wp2
      go_ret2
      exact ⟨by rw [HE.out.1, HE.out.2]; rfl, hw1⟩
    by_cases a3 : d < n
    · have HE := hno (by rw [HD.out, decide_eq_false (show ¬ n ≤ d by omega)]; simp)
      clear hno hyes hok
      go_enter Tryz.func54, Tryz.ntmps54
      obtain ⟨c0, c1, _, _, _⟩ := id R0
      go_wp2_with fail
      refine (VA.out _).mono ?_
      rintro e w1 ⟨rfl, hb1⟩
      have R1 := R0.all hb1
      have hw1 := below_step hw0 hb1
      clear hb1 VA hw0 R0 c0 c1
      obtain ⟨c0, c1, _, _, _⟩ := id R1
      go_wp2
      go_ret2
      exact ⟨by rw [HE.out.1, HE.out.2]; rfl, hw1⟩
    have HE := hyes (by rw [HD.out, hok, decide_eq_true (show 0 ≤ p by omega), decide_eq_true (show p ≤ 1048576 by omega), decide_eq_true (show 0 ≤ n by omega), decide_eq_true (show n ≤ d by omega)]; rfl)
    have her := dis_er (show 0 ≤ p by omega) (show p ≤ 1048576 by omega) hok (show 0 ≤ n by omega) (show n ≤ d by omega)
    have hpr := dis_prod (show 0 ≤ p by omega) (show p ≤ 1048576 by omega) hok (show 0 ≤ n by omega) (show n ≤ d by omega)
    have hbn := Fr.nu_bound (p * n) d
    have hbd := Fr.de_bound (p * n) d
    have hrb := rd_bound (Fr.nu (p * n) d) (Fr.de (p * n) d)
    have hok2 := Fr.ok_mk her
    have MU := Lib.hid (fun W => ref_make_any (p * n) d W (by omega) (by omega) d1 d2)
    rw [her] at MU
    have RO := Lib.hid (fun W => ref_round_any (Fr.nu (p * n) d) (Fr.de (p * n) d) W (by omega) (by omega) (by omega) (by omega))
    rw [(Fr.fl_ok hok2).2.1] at RO
    have hof : Bk.offV p n d = Fr.rdN (Fr.nu (p * n) d) (Fr.de (p * n) d) := rfl
    rw [hof] at HE
    clear hno hyes hok her hbn hbd hok2 hof HD
    generalize Fr.rdN (Fr.nu (p * n) d) (Fr.de (p * n) d) = O at *
    generalize Fr.nu (p * n) d = N at *
    generalize Fr.de (p * n) d = D at *
    have hwr : wrap64 (p * n) = p * n := IntWalk.wrap64_in _ ⟨by omega, by omega⟩
    go_enter Tryz.func54, Tryz.ntmps54
    obtain ⟨c0, c1, _, _, _⟩ := id R0
    go_wp2_with fail
    refine (VA.out _).mono ?_
    rintro e w1 ⟨rfl, hb1⟩
    have R1 := R0.all hb1
    have hw1 := below_step hw0 hb1
    clear hb1 VA hw0 R0 c0 c1
    obtain ⟨c0, c1, _, _, _⟩ := id R1
    go_wp2_with fail
    refine (MU.out _).mono ?_
    rintro e w2 ⟨rfl, hb2⟩
    have hw2 := below_step hw1 hb2
    have R2 := RatAt.fresh w2 N D RatT
    have hw3 := below_alloc hw2 (.cells #[.int .i64 N, .int .i64 D] RatT)
    clear hb2 MU hw1 R1 c0 c1
    obtain ⟨c0, c1, _, _, _⟩ := id R2
    go_wp2_with fail
    refine (RO.out _).mono ?_
    rintro e w4 ⟨rfl, hb4⟩
    have hw4 := below_step hw3 hb4
    clear hb4 RO hw3 hw2 R2 c0 c1
    go_wp2
    go_ret2
    exact ⟨by rw [HE.out.1, HE.out.2]; rfl, hw4⟩
end Go.Proofs.YtcljpklgpedolaaGreatDoor
