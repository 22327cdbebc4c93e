/- Floors and roundings of fractions: what the program and the reference answer, and the law over them. -/
import Derived.Test.YtcljpklgpedolaaGreatDoorValid
import Derived.Test.YtcljpklgpedolaaGreatDoorMoney0
namespace Go.Proofs.YtcljpklgpedolaaGreatDoor
open Go.RowKit

namespace Fr
theorem tfacts {n d : Int} (hd : 1 ≤ d) (hn : n < 0) : n.tmod d ≤ 0 ∧ -d < n.tmod d ∧ (n.tmod d < 0 → n / d = n.tdiv d - 1) ∧ (n.tmod d = 0 → n / d = n.tdiv d) ∧ n ≤ n.tdiv d ∧ n.tdiv d ≤ 0 := by
  have e1 : n.tdiv d = -((-n).tdiv d) := by rw [Int.neg_tdiv]; omega
  have e2 : n.tmod d = -((-n).tmod d) := by rw [Int.neg_tmod]; omega
  have e3 : (-n).tdiv d = (-n) / d := Int.tdiv_eq_ediv_of_nonneg (by omega)
  have e4 : (-n).tmod d = (-n) % d := Int.tmod_eq_emod_of_nonneg (by omega)
  have h1 := Int.emod_nonneg (-n) (b := d) (by omega)
  have h2 := Int.emod_lt_of_pos (-n) (b := d) (by omega)
  have h3 := Int.mul_ediv_add_emod (-n) d
  have h4 : 0 ≤ (-n) / d := Int.ediv_nonneg (by omega) (by omega)
  have h5 : (-n) / d ≤ -n := Int.ediv_le_self _ (by omega)
  rw [e1, e2, e3, e4]
  generalize (-n) / d = q at *
  generalize (-n) % d = r at *
  refine ⟨by omega, by omega, fun h => ?_, fun h => ?_, by omega, by omega⟩
  · have a1 : (-q - 1) * d ≤ n := by
      have : (-q - 1) * d = -(d * q) - d := by grind
      omega
    have a2 : n < -q * d := by
      have : -q * d = -(d * q) := by grind
      omega
    have b1 := (Int.le_ediv_iff_mul_le (c := d) (by omega)).2 a1
    have b2 := (Int.ediv_lt_iff_lt_mul (c := d) (by omega)).2 a2
    omega
  · have a1 : (-q) * d ≤ n := by
      have : (-q) * d = -(d * q) := by grind
      omega
    have a2 : n < (-q + 1) * d := by
      have : (-q + 1) * d = -(d * q) + d := by grind
      omega
    have b1 := (Int.le_ediv_iff_mul_le (c := d) (by omega)).2 a1
    have b2 := (Int.ediv_lt_iff_lt_mul (c := d) (by omega)).2 a2
    omega
def flN (n d : Int) : Int := if ok n d = true then n / d else 0
def flE (n d : Int) : Int := if ok n d = true then 0 else 1
def rdI (n d : Int) : Int := if d < 2 * (n % d) ∨ (2 * (n % d) = d ∧ (n / d).tmod 2 ≠ 0) then n / d + 1 else n / d
def rdN (n d : Int) : Int := if ok n d = true then rdI n d else 0
theorem fl_not {n d : Int} (h : ok n d = false) : flN n d = 0 ∧ flE n d = 1 ∧ rdN n d = 0 := by simp [flN, flE, rdN, h]
theorem fl_ok {n d : Int} (h : ok n d = true) : flN n d = n / d ∧ flE n d = 0 ∧ rdN n d = rdI n d := by simp [flN, flE, rdN, h]
theorem fl_bound {n d : Int} (h : ok n d = true) : -1099511627776 ≤ n / d ∧ n / d ≤ 1099511627776 := by
  obtain ⟨v1, v2, v3, v4, _⟩ := ok_iff.1 h
  constructor
  · refine (Int.le_ediv_iff_mul_le (c := d) (by omega)).2 ?_
    omega
  · have : n / d < 1099511627777 := by
      refine (Int.ediv_lt_iff_lt_mul (c := d) (by omega)).2 ?_
      omega
    omega
end Fr

theorem floor_pos (n d : Int) (w : World) (hn : 0 ≤ n) (hn2 : n ≤ 1099511627776) (hd : 1 ≤ d) (hd2 : d ≤ 1048576) (h0 : 0 ≤ n / d) (h2 : n / d ≤ 1099511627776) :
    Calls Tryz.prog 120 #[.int .i64 n, .int .i64 d] w fun e w' => e = .returned (.int .i64 (n / d)) ∧ w = w' := by
  have hm : 0 ≤ n % d := Int.emod_nonneg _ (by omega)
  have hm2 : n % d < d := Int.emod_lt_of_pos _ (by omega)
  go_enter Tryz.func120, Tryz.ntmps120
  go_wp2
  go_ret
  exact ⟨rfl, rfl⟩

theorem floor_neg (n d : Int) (w : World) (hn : n < 0) (hn2 : -1099511627776 ≤ n) (hd : 1 ≤ d) (hd2 : d ≤ 1048576) :
    Calls Tryz.prog 120 #[.int .i64 n, .int .i64 d] w fun e w' => e = .returned (.int .i64 (n / d)) ∧ w = w' := by
  obtain ⟨t1, t2, t3, t4, t5, t6⟩ := Fr.tfacts hd hn
  have HQ := Lib.hid (And.intro t3 t4)
  clear t3 t4
  generalize hq : n.tdiv d = q at *
  generalize hr : n.tmod d = r at *
  generalize n / d = f at *
  by_cases h : r < 0
  · obtain rfl := HQ.out.1 h
    go_enter Tryz.func120, Tryz.ntmps120
    go_wp2
    go_ret
    exact ⟨rfl, rfl⟩
  · obtain rfl := HQ.out.2 (by omega)
    go_enter Tryz.func120, Tryz.ntmps120
    go_wp2
    go_ret
    exact ⟨rfl, rfl⟩

theorem floor_any (n d : Int) (w : World) (h : Fr.ok n d = true) :
    Calls Tryz.prog 120 #[.int .i64 n, .int .i64 d] w fun e w' => e = .returned (.int .i64 (n / d)) ∧ w = w' := by
  obtain ⟨v1, v2, v3, v4, _⟩ := Fr.ok_iff.1 h
  obtain ⟨b1, b2⟩ := Fr.fl_bound h
  by_cases hn : n < 0
  · exact floor_neg n d w hn v3 v1 v2
  · exact floor_pos n d w (by omega) v4 v1 v2 (Int.ediv_nonneg (by omega) (by omega)) b2

theorem num_floor_any (n d : Int) (w : World) (n1 : -9223372036854775808 ≤ n) (n2 : n ≤ 9223372036854775807) (d1 : -9223372036854775808 ≤ d) (d2 : d ≤ 9223372036854775807) :
    Calls Tryz.prog 116 #[rat n d] w fun e w' => e = .returned (.tuple #[.int .i64 (Fr.flN n d), .int .i64 (Fr.flE n d)]) ∧ Below w.heap.size w w' := by
  by_cases h : Fr.ok n d = true
  · obtain ⟨e1, e2, _⟩ := Fr.fl_ok h
    rw [e1, e2]
    clear e1 e2
    obtain ⟨v1, v2, v3, v4, _⟩ := Fr.ok_iff.1 h
    obtain ⟨b1, b2⟩ := Fr.fl_bound h
    by_cases hn : n < 0
    · obtain ⟨t1, t2, t3, t4, t5, t6⟩ := Fr.tfacts v1 hn
      have HQ := Lib.hid (And.intro t3 t4)
      clear t3 t4
      generalize hq : n.tdiv d = q at *
      generalize hr : n.tmod d = r at *
      generalize n / d = f at *
      by_cases hr0 : r < 0
      · obtain rfl := HQ.out.1 hr0
        clear HQ
        go_enter Tryz.func116, Tryz.ntmps116
        go_wp2_with fail
        refine (valid_any n d _ n1 n2 d1 d2).mono ?_
        rintro e w1 ⟨rfl, hb1⟩
        obtain ⟨c0, c1, _, _, _⟩ := (RatAt.fresh w n d 70).all hb1
        have hw1 : Below w.heap.size w w1 := ((Below.refl _ _).alloc (Nat.le_refl _) _).trans (hb1.mono (by simp))
        clear hb1
        go_wp2
        go_ret2
        exact ⟨rfl, hw1⟩
      · obtain rfl := HQ.out.2 (by omega)
        clear HQ
        go_enter Tryz.func116, Tryz.ntmps116
        go_wp2_with fail
        refine (valid_any n d _ n1 n2 d1 d2).mono ?_
        rintro e w1 ⟨rfl, hb1⟩
        obtain ⟨c0, c1, _, _, _⟩ := (RatAt.fresh w n d 70).all hb1
        have hw1 : Below w.heap.size w w1 := ((Below.refl _ _).alloc (Nat.le_refl _) _).trans (hb1.mono (by simp))
        clear hb1
        go_wp2
        go_ret2
        exact ⟨rfl, hw1⟩
    · have h0 : 0 ≤ n / d := Int.ediv_nonneg (by omega) (by omega)
      have hm : 0 ≤ n % d := Int.emod_nonneg _ (by omega)
      have hm2 : n % d < d := Int.emod_lt_of_pos _ (by omega)
      go_enter Tryz.func116, Tryz.ntmps116
      go_wp2_with fail
      refine (valid_any n d _ n1 n2 d1 d2).mono ?_
      rintro e w1 ⟨rfl, hb1⟩
      obtain ⟨c0, c1, _, _, _⟩ := (RatAt.fresh w n d 70).all hb1
      have hw1 : Below w.heap.size w w1 := ((Below.refl _ _).alloc (Nat.le_refl _) _).trans (hb1.mono (by simp))
      clear hb1
      go_wp2
      go_ret2
      exact ⟨rfl, hw1⟩
  · obtain ⟨e1, e2, _⟩ := Fr.fl_not (n := n) (d := d) (by simpa using h)
    rw [e1, e2]
    clear e1 e2
    have h' : Fr.ok n d = false := by simpa using h
    · go_enter Tryz.func116, Tryz.ntmps116
      go_wp2_with fail
      refine (valid_any n d _ n1 n2 d1 d2).mono ?_
      rintro e w1 ⟨rfl, hb1⟩
      obtain ⟨c0, c1, _, _, _⟩ := (RatAt.fresh w n d 70).all hb1
      have hw1 : Below w.heap.size w w1 := ((Below.refl _ _).alloc (Nat.le_refl _) _).trans (hb1.mono (by simp))
      clear hb1
      go_wp2
      go_ret2
      exact ⟨rfl, hw1⟩

set_option maxRecDepth 20000 in
theorem num_round_any (n d : Int) (w : World) (n1 : -9223372036854775808 ≤ n) (n2 : n ≤ 9223372036854775807) (d1 : -9223372036854775808 ≤ d) (d2 : d ≤ 9223372036854775807) :
    Calls Tryz.prog 87 #[rat n d] w fun e w' => e = .returned (.tuple #[.int .i64 (Fr.rdN n d), .int .i64 (Fr.flE n d)]) ∧ Below w.heap.size w w' := by
  by_cases h : Fr.ok n d = true
  · obtain ⟨_, e2, e3⟩ := Fr.fl_ok h
    rw [e2, e3]
    clear e2 e3
    have FL := Lib.hid (fun w => num_floor_any n d w n1 n2 d1 d2)
    rw [(Fr.fl_ok h).1, (Fr.fl_ok h).2.1] at FL
    obtain ⟨v1, v2, v3, v4, _⟩ := Fr.ok_iff.1 h
    obtain ⟨b1, b2⟩ := Fr.fl_bound h
    have m1 : 0 ≤ n % d := Int.emod_nonneg _ (by omega)
    have m2 : n % d < d := Int.emod_lt_of_pos _ (by omega)
    have m3 : n / d * d = n - n % d := by have := Int.mul_ediv_add_emod n d; rw [Int.mul_comm] at this; omega
    generalize hf : n / d = f at *
    generalize hm : n % d = m at *
    have HF := Lib.hid hf
    have HM := Lib.hid hm
    clear hf hm
    by_cases k1 : d < 2 * m
    · rw [show Fr.rdI n d = f + 1 by unfold Fr.rdI; rw [if_pos (by rw [HF.out, HM.out]; omega)]; rw [HF.out]]
      go_enter Tryz.func87, Tryz.ntmps87
      go_wp2_with fail
      refine (FL.out _).mono ?_
      rintro e w1 ⟨rfl, hb1⟩
      obtain ⟨c0, c1, _, _, _⟩ := (RatAt.fresh w n d 70).all hb1
      have hw1 : Below w.heap.size w w1 := ((Below.refl _ _).alloc (Nat.le_refl _) _).trans (hb1.mono (by simp))
      clear hb1
      go_wp2
      go_ret2
      exact ⟨rfl, hw1⟩
    · by_cases k2 : 2 * m = d
      · by_cases k3 : f.tmod 2 = 0
        · rw [show Fr.rdI n d = f by unfold Fr.rdI; rw [if_neg (by rw [HF.out, HM.out]; omega)]; rw [HF.out]]
          have k4 : (f.tmod 2 != 0) = false := by simp [k3]
          clear k3
          go_enter Tryz.func87, Tryz.ntmps87
          go_wp2_with fail
          refine (FL.out _).mono ?_
          rintro e w1 ⟨rfl, hb1⟩
          obtain ⟨c0, c1, _, _, _⟩ := (RatAt.fresh w n d 70).all hb1
          have hw1 : Below w.heap.size w w1 := ((Below.refl _ _).alloc (Nat.le_refl _) _).trans (hb1.mono (by simp))
          clear hb1
          go_wp2
          go_ret2
          exact ⟨rfl, hw1⟩
        · rw [show Fr.rdI n d = f + 1 by unfold Fr.rdI; rw [if_pos (by rw [HF.out, HM.out]; omega)]; rw [HF.out]]
          have k4 : (f.tmod 2 != 0) = true := by simp [k3]
          clear k3
          go_enter Tryz.func87, Tryz.ntmps87
          go_wp2_with fail
          refine (FL.out _).mono ?_
          rintro e w1 ⟨rfl, hb1⟩
          obtain ⟨c0, c1, _, _, _⟩ := (RatAt.fresh w n d 70).all hb1
          have hw1 : Below w.heap.size w w1 := ((Below.refl _ _).alloc (Nat.le_refl _) _).trans (hb1.mono (by simp))
          clear hb1
          go_wp2
          go_ret2
          exact ⟨rfl, hw1⟩
      · rw [show Fr.rdI n d = f by unfold Fr.rdI; rw [if_neg (by rw [HF.out, HM.out]; omega)]; rw [HF.out]]
        go_enter Tryz.func87, Tryz.ntmps87
        go_wp2_with fail
        refine (FL.out _).mono ?_
        rintro e w1 ⟨rfl, hb1⟩
        obtain ⟨c0, c1, _, _, _⟩ := (RatAt.fresh w n d 70).all hb1
        have hw1 : Below w.heap.size w w1 := ((Below.refl _ _).alloc (Nat.le_refl _) _).trans (hb1.mono (by simp))
        clear hb1
        go_wp2
        go_ret2
        exact ⟨rfl, hw1⟩
  · obtain ⟨_, e2, e3⟩ := Fr.fl_not (n := n) (d := d) (by simpa using h)
    rw [e2, e3]
    clear e2 e3
    have h' : Fr.ok n d = false := by simpa using h
    · go_enter Tryz.func87, Tryz.ntmps87
      have FL := Lib.hid (fun w => num_floor_any n d w n1 n2 d1 d2)
      rw [(Fr.fl_not h').1, (Fr.fl_not h').2.1] at FL
      go_wp2_with fail
      refine (FL.out _).mono ?_
      rintro e w1 ⟨rfl, hb1⟩
      obtain ⟨c0, c1, _, _, _⟩ := (RatAt.fresh w n d 70).all hb1
      have hw1 : Below w.heap.size w w1 := ((Below.refl _ _).alloc (Nat.le_refl _) _).trans (hb1.mono (by simp))
      clear hb1
      go_wp2
      go_ret2
      exact ⟨rfl, hw1⟩

set_option maxRecDepth 20000 in
theorem ref_round_any (n d : Int) (w : World) (n1 : -9223372036854775808 ≤ n) (n2 : n ≤ 9223372036854775807) (d1 : -9223372036854775808 ≤ d) (d2 : d ≤ 9223372036854775807) :
    Calls Tryz.prog 90 #[rat n d] w fun e w' => e = .returned (.tuple #[.int .i64 (Fr.rdN n d), .int .i64 (Fr.flE n d)]) ∧ Below w.heap.size w w' := by
  by_cases h : Fr.ok n d = true
  · obtain ⟨_, e2, e3⟩ := Fr.fl_ok h
    rw [e2, e3]
    clear e2 e3
    have FL := Lib.hid (fun w => floor_any n d w h)
    obtain ⟨v1, v2, v3, v4, _⟩ := Fr.ok_iff.1 h
    obtain ⟨b1, b2⟩ := Fr.fl_bound h
    have m1 : 0 ≤ n % d := Int.emod_nonneg _ (by omega)
    have m2 : n % d < d := Int.emod_lt_of_pos _ (by omega)
    have m3 : n / d * d = n - n % d := by have := Int.mul_ediv_add_emod n d; rw [Int.mul_comm] at this; omega
    generalize hf : n / d = f at *
    generalize hm : n % d = m at *
    have HF := Lib.hid hf
    have HM := Lib.hid hm
    clear hf hm
    by_cases k1 : d < 2 * m
    · rw [show Fr.rdI n d = f + 1 by unfold Fr.rdI; rw [if_pos (by rw [HF.out, HM.out]; omega)]; rw [HF.out]]
      go_enter Tryz.func90, Tryz.ntmps90
      go_wp2_with fail
      refine (ref_valid_any n d _ n1 n2 d1 d2).mono ?_
      rintro e w1 ⟨rfl, hb1⟩
      obtain ⟨c0, c1, _, _, _⟩ := (RatAt.fresh w n d 70).all hb1
      have hw1 : Below w.heap.size w w1 := ((Below.refl _ _).alloc (Nat.le_refl _) _).trans (hb1.mono (by simp))
      clear hb1
      go_wp2_with fail
      refine (FL.out _).mono ?_
      rintro e w2 ⟨rfl, rfl⟩
      go_wp2
      go_ret2
      exact ⟨rfl, hw1⟩
    · by_cases k2 : 2 * m = d
      · by_cases k3 : f.tmod 2 = 0
        · rw [show Fr.rdI n d = f by unfold Fr.rdI; rw [if_neg (by rw [HF.out, HM.out]; omega)]; rw [HF.out]]
          have k4 : (f.tmod 2 != 0) = false := by simp [k3]
          clear k3
          go_enter Tryz.func90, Tryz.ntmps90
          go_wp2_with fail
          refine (ref_valid_any n d _ n1 n2 d1 d2).mono ?_
          rintro e w1 ⟨rfl, hb1⟩
          obtain ⟨c0, c1, _, _, _⟩ := (RatAt.fresh w n d 70).all hb1
          have hw1 : Below w.heap.size w w1 := ((Below.refl _ _).alloc (Nat.le_refl _) _).trans (hb1.mono (by simp))
          clear hb1
          go_wp2_with fail
          refine (FL.out _).mono ?_
          rintro e w2 ⟨rfl, rfl⟩
          go_wp2
          go_ret2
          exact ⟨rfl, hw1⟩
        · rw [show Fr.rdI n d = f + 1 by unfold Fr.rdI; rw [if_pos (by rw [HF.out, HM.out]; omega)]; rw [HF.out]]
          have k4 : (f.tmod 2 != 0) = true := by simp [k3]
          clear k3
          go_enter Tryz.func90, Tryz.ntmps90
          go_wp2_with fail
          refine (ref_valid_any n d _ n1 n2 d1 d2).mono ?_
          rintro e w1 ⟨rfl, hb1⟩
          obtain ⟨c0, c1, _, _, _⟩ := (RatAt.fresh w n d 70).all hb1
          have hw1 : Below w.heap.size w w1 := ((Below.refl _ _).alloc (Nat.le_refl _) _).trans (hb1.mono (by simp))
          clear hb1
          go_wp2_with fail
          refine (FL.out _).mono ?_
          rintro e w2 ⟨rfl, rfl⟩
          go_wp2
          go_ret2
          exact ⟨rfl, hw1⟩
      · rw [show Fr.rdI n d = f by unfold Fr.rdI; rw [if_neg (by rw [HF.out, HM.out]; omega)]; rw [HF.out]]
        go_enter Tryz.func90, Tryz.ntmps90
        go_wp2_with fail
        refine (ref_valid_any n d _ n1 n2 d1 d2).mono ?_
        rintro e w1 ⟨rfl, hb1⟩
        obtain ⟨c0, c1, _, _, _⟩ := (RatAt.fresh w n d 70).all hb1
        have hw1 : Below w.heap.size w w1 := ((Below.refl _ _).alloc (Nat.le_refl _) _).trans (hb1.mono (by simp))
        clear hb1
        go_wp2_with fail
        refine (FL.out _).mono ?_
        rintro e w2 ⟨rfl, rfl⟩
        go_wp2
        go_ret2
        exact ⟨rfl, hw1⟩
  · obtain ⟨_, e2, e3⟩ := Fr.fl_not (n := n) (d := d) (by simpa using h)
    rw [e2, e3]
    clear e2 e3
    have h' : Fr.ok n d = false := by simpa using h
    · go_enter Tryz.func90, Tryz.ntmps90
      go_wp2_with fail
      refine (ref_valid_any n d _ n1 n2 d1 d2).mono ?_
      rintro e w1 ⟨rfl, hb1⟩
      obtain ⟨c0, c1, _, _, _⟩ := (RatAt.fresh w n d 70).all hb1
      have hw1 : Below w.heap.size w w1 := ((Below.refl _ _).alloc (Nat.le_refl _) _).trans (hb1.mono (by simp))
      clear hb1
      go_wp2
      go_ret2
      exact ⟨rfl, hw1⟩
end Go.Proofs.YtcljpklgpedolaaGreatDoor
