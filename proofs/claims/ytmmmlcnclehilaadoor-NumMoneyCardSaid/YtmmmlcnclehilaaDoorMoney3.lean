/- Sums of money that are written: the reference's. -/
import Derived.Test.YtmmmlcnclehilaaDoorMoney2
namespace Go.Proofs.YtmmmlcnclehilaaDoor
open Go.RowKit Go.Sort
namespace Tx
theorem pre_unit_len {a : Nat} {c : UInt8} (h : a < 10000000000000000000) : (pre (unit a c)).length ≤ 21 := by
  have := dec_len19 h
  unfold pre unit
  split <;> simp
  omega
theorem pre_unit {a : Nat} {c : UInt8} (h : a ≠ 0) : pre (unit a c) = [32] ++ Lib.decDigits a ++ [c] := by
  unfold pre unit
  rw [if_neg h]; simp
end Tx
theorem bytes3 (a b c d : List UInt8) : (((⟨a.toArray⟩ : ByteArray) ++ ⟨b.toArray⟩) ++ ⟨c.toArray⟩) ++ ⟨d.toArray⟩ = ⟨(a ++ (b ++ c ++ d)).toArray⟩ := by
  rw [bytes_append, bytes_append, bytes_append]; simp

set_option maxRecDepth 20000 in
set_option maxHeartbeats 1000000 in
theorem refFormatMoney_any (p : Int) (w : World) :
    Calls Tryd.prog 16 #[.int .i64 p] w (MonSays p w) := by
  by_cases hi : Tx.inM p = true
  case neg =>
    have hlo : p < -1099511627776 ∨ 1099511627776 < p := by
      unfold Tx.inM at hi
      simp only [Bool.and_eq_true, decide_eq_true_eq] at hi
      omega
    have HI := Lib.hid hi
    clear hi
    go_enter Tryd.func16, Tryd.ntmps16
    go_wp2_with fail
    refine (within_f _ _ _ _ hlo).mono ?_
    rintro e w' ⟨rfl, rfl⟩
    go_wp2
    go_ret2
    refine ⟨?_, Below.refl _ _⟩
    rw [if_neg HI.out, if_neg HI.out]
    rfl
  obtain ⟨p1, p2⟩ := Tx.inM_of hi
  have HI := Lib.hid hi
  clear hi
  by_cases h0 : p = 0
  · subst h0
    go_enter Tryd.func16, Tryd.ntmps16
    go_wp2_with fail
    refine (within_t _ _ _ _ (by omega) (by omega)).mono ?_
    rintro e w' ⟨rfl, rfl⟩
    go_wp2
    go_ret2
    refine ⟨?_, Below.refl _ _⟩
    rw [if_pos HI.out, if_pos HI.out]
    rfl
  have hne : (p == 0) = false := beq_eq_false_iff_ne.2 h0
  obtain ⟨n, hn⟩ : ∃ n : Nat, n = p.natAbs := ⟨_, rfl⟩
  have hn0 : 0 < n := by omega
  have hn1 : n ≤ 1099511627776 := by omega
  have HJ := Lib.hid (Tx.pre_join (Tx.mW n) (Tx.mW_ne hn0))
  have HM : Hid (Tx.pre (Tx.mW n) = Tx.pre (Tx.unit (n / 240) 108) ++ (Tx.pre (Tx.unit (n / 12 % 20) 115) ++ Tx.pre (Tx.unit (n % 12) 100))) := Lib.hid (by
    unfold Tx.mW; rw [Tx.pre_append, Tx.pre_append, List.append_assoc])
  have l1 := Tx.pre_unit_len (a := n / 240) (c := 108) (by omega)
  have l2 := Tx.pre_unit_len (a := n / 12 % 20) (c := 115) (by omega)
  have l3 := Tx.pre_unit_len (a := n % 12) (c := 100) (by omega)
  have d1 := Tx.dec_len19 (a := n / 240) (by omega)
  have d2 := Tx.dec_len19 (a := n / 12 % 20) (by omega)
  have d3 := Tx.dec_len19 (a := n % 12) (by omega)
  have D1 : Hid (∀ W : World, Calls Tryd.prog 32 #[.int .i64 ((n : Int) / 240)] W fun e w' => e = .returned (.string ⟨(Lib.decDigits (n / 240)).toArray⟩) ∧ Below W.heap.size W w') := Lib.hid fun W => by
    have := digits_nat (n / 240) W (by omega); rwa [show ((n / 240 : Nat) : Int) = (n : Int) / 240 by omega] at this
  have D2 : Hid (∀ W : World, Calls Tryd.prog 32 #[.int .i64 ((n : Int) / 12 % 20)] W fun e w' => e = .returned (.string ⟨(Lib.decDigits (n / 12 % 20)).toArray⟩) ∧ Below W.heap.size W w') := Lib.hid fun W => by
    have := digits_nat (n / 12 % 20) W (by omega); rwa [show ((n / 12 % 20 : Nat) : Int) = (n : Int) / 12 % 20 by omega] at this
  have D3 : Hid (∀ W : World, Calls Tryd.prog 32 #[.int .i64 ((n : Int) % 12)] W fun e w' => e = .returned (.string ⟨(Lib.decDigits (n % 12)).toArray⟩) ∧ Below W.heap.size W w') := Lib.hid fun W => by
    have := digits_nat (n % 12) W (by omega); rwa [show ((n % 12 : Nat) : Int) = (n : Int) % 12 by omega] at this
  have U1 : Hid ((0 < (n : Int) / 240 → Tx.pre (Tx.unit (n / 240) 108) = [32] ++ Lib.decDigits (n / 240) ++ [108]) ∧ (¬ 0 < (n : Int) / 240 → Tx.pre (Tx.unit (n / 240) 108) = [])) := Lib.hid ⟨fun h => Tx.pre_unit (by omega), fun h => by unfold Tx.unit; rw [if_pos (by omega)]; rfl⟩
  have U2 : Hid ((0 < (n : Int) / 12 % 20 → Tx.pre (Tx.unit (n / 12 % 20) 115) = [32] ++ Lib.decDigits (n / 12 % 20) ++ [115]) ∧ (¬ 0 < (n : Int) / 12 % 20 → Tx.pre (Tx.unit (n / 12 % 20) 115) = [])) := Lib.hid ⟨fun h => Tx.pre_unit (by omega), fun h => by unfold Tx.unit; rw [if_pos (by omega)]; rfl⟩
  have U3 : Hid ((0 < (n : Int) % 12 → Tx.pre (Tx.unit (n % 12) 100) = [32] ++ Lib.decDigits (n % 12) ++ [100]) ∧ (¬ 0 < (n : Int) % 12 → Tx.pre (Tx.unit (n % 12) 100) = [])) := Lib.hid ⟨fun h => Tx.pre_unit (by omega), fun h => by unfold Tx.unit; rw [if_pos (by omega)]; rfl⟩
  have n0 : (0 : Int) ≤ (n : Int) := by omega
  have n2 : (n : Int) ≤ 1099511627776 := by omega
  have HFJ : Hid (Lib.join (Tx.mW n) [32] = (Tx.pre (Tx.unit (n / 240) 108) ++ (Tx.pre (Tx.unit (n / 12 % 20) 115) ++ Tx.pre (Tx.unit (n % 12) 100))).drop 1) := Lib.hid (by rw [← HM.out, HJ.out]; rfl)
  have hall : 1 ≤ (Tx.pre (Tx.unit (n / 240) 108) ++ (Tx.pre (Tx.unit (n / 12 % 20) 115) ++ Tx.pre (Tx.unit (n % 12) 100))).length := by rw [← HM.out, HJ.out]; simp
  clear HM HJ
  by_cases hs : p < 0
  · have e1 : -p = (n : Int) := by omega
    have HFM : Hid (Tx.fmtM p = [45] ++ Lib.join (Tx.mW n) [32]) := Lib.hid (by unfold Tx.fmtM; rw [if_neg (by omega), if_pos hs, ← hn])
    have HE1 := Lib.hid e1
    rw [HFJ.out] at HFM
    clear hn e1 hn0 hn1 h0 HFJ
    generalize ((n : Nat) : Int) = z at *
    generalize Lib.decDigits (n / 240) = x1 at *
    generalize Lib.decDigits (n / 12 % 20) = x2 at *
    generalize Lib.decDigits (n % 12) = x3 at *
    generalize Tx.pre (Tx.unit (n / 240) 108) = q1 at *
    generalize Tx.pre (Tx.unit (n / 12 % 20) 115) = q2 at *
    generalize Tx.pre (Tx.unit (n % 12) 100) = q3 at *
    go_enter Tryd.func16, Tryd.ntmps16
    go_wp2_with fail
    refine (within_t _ _ _ _ (by omega) (by omega)).mono ?_
    rintro e w' ⟨rfl, rfl⟩
    have HW := Lib.hid (Below.refl w.heap.size w)
    go_upto_region 9 with fail
    rw [HE1.out]
    clear hne p1 p2
    go_upto_if 18 with fail
    go_cut [5] from 16 to 25 (fun s X => s = .string ⟨(q1).toArray⟩ ∧ Hid (Below w.heap.size w X))
    case first =>
      by_cases hu : 0 < z / 240
      · have HX := Lib.hid (bytes3 [] [32] x1 [108])
        have HU := Lib.hid (U1.out.1 hu)
        go_wp2_with fail
        refine (D1.out _).mono ?_
        rintro e w2 ⟨rfl, hb2⟩
        have hw2 := Lib.hid (below_step HW.out hb2)
        clear hb2
        go_wp2
        go_meet
        refine ⟨?_, hw2⟩
        rw [HU.out]
        exact congrArg Value.string HX.out
      · have HU := Lib.hid (U1.out.2 (by omega))
        go_wp2
        go_meet
        refine ⟨?_, HW⟩
        rw [HU.out]
        try simp
    case rest =>
    obtain ⟨rfl, hw⟩ := hcut
    clear HW
    have HW := hw
    clear hw U1 D1
    go_upto_if 29 with fail
    go_cut [5] from 26 to 37 (fun s X => s = .string ⟨(q1 ++ q2).toArray⟩ ∧ Hid (Below w.heap.size w X))
    case first =>
      by_cases hu : 0 < z / 12 % 20
      · have HX := Lib.hid (bytes3 q1 [32] x2 [115])
        have HU := Lib.hid (U2.out.1 hu)
        go_wp2_with fail
        refine (D2.out _).mono ?_
        rintro e w2 ⟨rfl, hb2⟩
        have hw2 := Lib.hid (below_step HW.out hb2)
        clear hb2
        go_wp2
        go_meet
        refine ⟨?_, hw2⟩
        rw [HU.out]
        exact congrArg Value.string HX.out
      · have HU := Lib.hid (U2.out.2 (by omega))
        go_wp2
        go_meet
        refine ⟨?_, HW⟩
        rw [HU.out]
        try simp
    case rest =>
    obtain ⟨rfl, hw⟩ := hcut
    clear HW
    have HW := hw
    clear hw U2 D2
    go_upto_if 40 with fail
    go_cut [5] from 38 to 47 (fun s X => s = .string ⟨(q1 ++ (q2 ++ q3)).toArray⟩ ∧ Hid (Below w.heap.size w X))
    case first =>
      by_cases hu : 0 < z % 12
      · have HX := Lib.hid (bytes3 (q1 ++ q2) [32] x3 [100])
        have HU := Lib.hid (U3.out.1 hu)
        go_wp2_with fail
        refine (D3.out _).mono ?_
        rintro e w2 ⟨rfl, hb2⟩
        have hw2 := Lib.hid (below_step HW.out hb2)
        clear hb2
        go_wp2
        go_meet
        refine ⟨?_, hw2⟩
        rw [HU.out]
        rw [← List.append_assoc]
        exact congrArg Value.string HX.out
      · have HU := Lib.hid (U3.out.2 (by omega))
        go_wp2
        go_meet
        refine ⟨?_, HW⟩
        rw [HU.out]
        try simp
    case rest =>
    obtain ⟨rfl, hw⟩ := hcut
    clear HW
    have HW := hw
    clear hw U3 D3
    have hx0 : (⟨(q1 ++ (q2 ++ q3)).toArray⟩ : ByteArray).extract 1 (q1.length + (q2.length + q3.length)) = ⟨((q1 ++ (q2 ++ q3)).drop 1).toArray⟩ := by
      rw [extract_is]
      show (⟨(((q1 ++ (q2 ++ q3)).take _).drop 1).toArray⟩ : ByteArray) = _
      rw [List.take_of_length_le (by simp)]
    have HX := Lib.hid hx0
    simp only [List.length_append] at hall
    clear hx0
    go_wp2
    go_ret2
    refine ⟨?_, HW.out⟩
    rw [if_pos HI.out, if_pos HI.out, HFM.out]
    show Ending.returned (.tuple #[.string ((⟨[45].toArray⟩ : ByteArray) ++ (⟨(q1 ++ (q2 ++ q3)).toArray⟩ : ByteArray).extract 1 (q1.length + (q2.length + q3.length))), .int .i64 0]) = _
    rw [HX.out, bytes_append]
  · have e1 : p = (n : Int) := by omega
    subst e1
    have HFM : Hid (Tx.fmtM (n : Int) = [] ++ Lib.join (Tx.mW n) [32]) := Lib.hid (by unfold Tx.fmtM; rw [if_neg (by omega), if_neg hs, ← hn])
    rw [HFJ.out] at HFM
    clear hn hn0 hn1 h0 HFJ
    generalize ((n : Nat) : Int) = z at *
    generalize Lib.decDigits (n / 240) = x1 at *
    generalize Lib.decDigits (n / 12 % 20) = x2 at *
    generalize Lib.decDigits (n % 12) = x3 at *
    generalize Tx.pre (Tx.unit (n / 240) 108) = q1 at *
    generalize Tx.pre (Tx.unit (n / 12 % 20) 115) = q2 at *
    generalize Tx.pre (Tx.unit (n % 12) 100) = q3 at *
    go_enter Tryd.func16, Tryd.ntmps16
    go_wp2_with fail
    refine (within_t _ _ _ _ (by omega) (by omega)).mono ?_
    rintro e w' ⟨rfl, rfl⟩
    have HW := Lib.hid (Below.refl w.heap.size w)
    go_upto_region 9 with fail
    clear hne p1 p2
    go_upto_if 18 with fail
    go_cut [5] from 16 to 25 (fun s X => s = .string ⟨(q1).toArray⟩ ∧ Hid (Below w.heap.size w X))
    case first =>
      by_cases hu : 0 < z / 240
      · have HX := Lib.hid (bytes3 [] [32] x1 [108])
        have HU := Lib.hid (U1.out.1 hu)
        go_wp2_with fail
        refine (D1.out _).mono ?_
        rintro e w2 ⟨rfl, hb2⟩
        have hw2 := Lib.hid (below_step HW.out hb2)
        clear hb2
        go_wp2
        go_meet
        refine ⟨?_, hw2⟩
        rw [HU.out]
        exact congrArg Value.string HX.out
      · have HU := Lib.hid (U1.out.2 (by omega))
        go_wp2
        go_meet
        refine ⟨?_, HW⟩
        rw [HU.out]
        try simp
    case rest =>
    obtain ⟨rfl, hw⟩ := hcut
    clear HW
    have HW := hw
    clear hw U1 D1
    go_upto_if 29 with fail
    go_cut [5] from 26 to 37 (fun s X => s = .string ⟨(q1 ++ q2).toArray⟩ ∧ Hid (Below w.heap.size w X))
    case first =>
      by_cases hu : 0 < z / 12 % 20
      · have HX := Lib.hid (bytes3 q1 [32] x2 [115])
        have HU := Lib.hid (U2.out.1 hu)
        go_wp2_with fail
        refine (D2.out _).mono ?_
        rintro e w2 ⟨rfl, hb2⟩
        have hw2 := Lib.hid (below_step HW.out hb2)
        clear hb2
        go_wp2
        go_meet
        refine ⟨?_, hw2⟩
        rw [HU.out]
        exact congrArg Value.string HX.out
      · have HU := Lib.hid (U2.out.2 (by omega))
        go_wp2
        go_meet
        refine ⟨?_, HW⟩
        rw [HU.out]
        try simp
    case rest =>
    obtain ⟨rfl, hw⟩ := hcut
    clear HW
    have HW := hw
    clear hw U2 D2
    go_upto_if 40 with fail
    go_cut [5] from 38 to 47 (fun s X => s = .string ⟨(q1 ++ (q2 ++ q3)).toArray⟩ ∧ Hid (Below w.heap.size w X))
    case first =>
      by_cases hu : 0 < z % 12
      · have HX := Lib.hid (bytes3 (q1 ++ q2) [32] x3 [100])
        have HU := Lib.hid (U3.out.1 hu)
        go_wp2_with fail
        refine (D3.out _).mono ?_
        rintro e w2 ⟨rfl, hb2⟩
        have hw2 := Lib.hid (below_step HW.out hb2)
        clear hb2
        go_wp2
        go_meet
        refine ⟨?_, hw2⟩
        rw [HU.out]
        rw [← List.append_assoc]
        exact congrArg Value.string HX.out
      · have HU := Lib.hid (U3.out.2 (by omega))
        go_wp2
        go_meet
        refine ⟨?_, HW⟩
        rw [HU.out]
        try simp
    case rest =>
    obtain ⟨rfl, hw⟩ := hcut
    clear HW
    have HW := hw
    clear hw U3 D3
    have hx0 : (⟨(q1 ++ (q2 ++ q3)).toArray⟩ : ByteArray).extract 1 (q1.length + (q2.length + q3.length)) = ⟨((q1 ++ (q2 ++ q3)).drop 1).toArray⟩ := by
      rw [extract_is]
      show (⟨(((q1 ++ (q2 ++ q3)).take _).drop 1).toArray⟩ : ByteArray) = _
      rw [List.take_of_length_le (by simp)]
    have HX := Lib.hid hx0
    simp only [List.length_append] at hall
    clear hx0
    go_wp2
    go_ret2
    refine ⟨?_, HW.out⟩
    rw [if_pos HI.out, if_pos HI.out, HFM.out]
    show Ending.returned (.tuple #[.string ((⟨(q1 ++ (q2 ++ q3)).toArray⟩ : ByteArray).extract 1 (q1.length + (q2.length + q3.length))), .int .i64 0]) = _
    rw [HX.out, List.nil_append]
end Go.Proofs.YtmmmlcnclehilaaDoor
