/- The reference's reading of a number. -/
import Derived.Test.YtcljpklgpedolaaGreatDoorText2
import Derived.Test.YtcljpklgpedolaaGreatDoorWithin
namespace Go.Proofs.YtcljpklgpedolaaGreatDoor
open Go.RowKit Go.Sort

theorem toList_loop (s : ByteArray) : ∀ (k i : Nat) (r : List UInt8), s.size - i = k → ByteArray.toList.loop s i r = r.reverse ++ s.data.toList.drop i
  | 0, i, r, h => by
    rw [ByteArray.toList.loop, if_neg (by omega), List.drop_of_length_le (by show s.data.toList.length ≤ i; rw [Array.length_toList]; show s.size ≤ i; omega), List.append_nil]
  | k + 1, i, r, h => by
    have hi : i < s.size := by omega
    have hd : i < s.data.toList.length := by rw [Array.length_toList]; exact hi
    rw [ByteArray.toList.loop, if_pos hi, toList_loop s k (i + 1) _ (by omega), List.reverse_cons, List.append_assoc, List.drop_eq_getElem_cons hd]
    congr 2
    show [s.get! i] ++ _ = _
    rw [List.singleton_append]
    congr 1
    show s.data[i]! = _
    rw [getElem!_pos s.data i hi]
    simp
theorem toList_data (s : ByteArray) : s.toList = s.data.toList := by
  unfold ByteArray.toList
  rw [toList_loop s _ 0 [] rfl]; simp
theorem beq_dec (a b : List UInt8) : (a == b) = decide (a = b) := by rw [Bool.eq_iff_iff]; simp
theorem take_one (t : List UInt8) (j : Nat) (h : j < t.length) : t.take (j + 1) = t.take j ++ [t[j]] := by
  rw [List.take_succ_eq_append_getElem h]
theorem pow_le15 {j : Nat} (h : j ≤ 15) : 10 ^ j ≤ 1000000000000000 := by
  have := Nat.pow_le_pow_right (show 0 < 10 by decide) h
  have e : (10 : Nat) ^ 15 = 1000000000000000 := by decide
  omega
theorem all_no {t : List UInt8} {j : Nat} (h : j < t.length) (hc : Tx.isDig t[j] = false) : t.all Tx.isDig = false := by
  apply Bool.eq_false_iff.2
  intro ha
  have := List.all_eq_true.1 ha t[j] (List.getElem_mem h)
  rw [hc] at this
  exact absurd this (by decide)
def NumSays (l : List UInt8) (w : World) (e : Ending) (w' : World) : Prop := e = .returned (.tuple #[.int .i64 (Tx.numR l).1, .bool (Tx.numR l).2]) ∧ Below w.heap.size w w'
theorem numR_no {l : List UInt8} (h : Tx.numOk l = false) : Tx.numR l = (0, false) := by unfold Tx.numR; rw [if_neg (by rw [h]; simp)]

set_option maxRecDepth 200000 in
set_option maxHeartbeats 1000000 in
theorem number_plus (s : ByteArray) (w : World) (hs : s.size ≤ 100000) (hpos : 0 < s.size) (h45 : ((s[0].toNat : Int) == 45) = false) (hdg : Tx.digs s.data.toList = s.data.toList) (hsg : Tx.sgn s.data.toList = 1) :
    Calls Tryz.prog 110 #[.string s] w (NumSays s.data.toList w) := by
  obtain ⟨t, ht⟩ : ∃ t, t = s.data.toList := ⟨_, rfl⟩
  have hsz : s.size = t.length := by
    rw [ht]; show s.data.size = _; simp
  have hz1 : s.size ≤ t.length := by omega
  have hz2 : t.length ≤ s.size := by omega
  clear hsz
  have hat : ∀ j (h : j < t.length), t[j] = s[j]'(by omega) := by
    subst ht; intro j h; rfl
  have hok : Tx.numOk s.data.toList = (decide (1 ≤ t.length) && decide (t.length ≤ 15) && t.all Tx.isDig) := by unfold Tx.numOk; rw [hdg, ← ht]
  have hR : Tx.numOk s.data.toList = true → Tx.numR s.data.toList = (1 * (Tx.numN t : Int), decide (Lib.itoa (1 * (Tx.numN t : Int)) = s.data.toList)) := fun h => by
    unfold Tx.numR; rw [if_pos h, hdg, hsg, ← ht]
  have HAT := Lib.hid hat
  have HR := Lib.hid hR
  have HOK := Lib.hid hok
  have HP := Lib.hid hpos
  clear hat hR hok hdg hsg ht
  by_cases hl : 1 ≤ t.length ∧ t.length ≤ 15
  case neg =>
    have HF : Hid (Tx.numR s.data.toList = (0, false)) := Lib.hid (numR_no (by rw [HOK.out]; simp; omega))
    have hl' : ((s.size : Int) - 0 < 1) ∨ (15 < (s.size : Int) - 0) := by omega
    clear hl HAT HR HOK
    go_enter Tryz.func110, Tryz.ntmps110
    go_wp2_with fail
    refine (within_f _ _ _ _ (by omega)).mono ?_
    rintro e w' ⟨rfl, rfl⟩
    go_wp2
    go_ret2
    refine ⟨?_, Below.refl _ _⟩
    rw [HF.out]
    rfl
  obtain ⟨hl1, hl2⟩ := hl
  go_enter Tryz.func110, Tryz.ntmps110
  go_wp2_with fail
  refine (within_t _ _ _ _ (by omega) (by omega)).mono ?_
  rintro e w' ⟨rfl, rfl⟩
  clear h45
  go_wp2
  go_loop [5, 6] (fun i n => ∃ j : Nat, j ≤ t.length ∧ i = .int .i64 (j : Int) ∧ n = .int .i64 (Tx.numN (t.take j)) ∧ Hid ((t.take j).all Tx.isDig = true)) (fun i _ => t.length + 1 - (intOf i).toNat)
  case atStart => exact ⟨0, Nat.zero_le _, rfl, rfl, Lib.hid rfl⟩
  case round =>
    obtain ⟨j, hj, rfl, rfl, hg⟩ := hrel
    have hp := pow_le15 (j := j) (by omega)
    have hn := Tx.numN_lt j (t.take j) hg.out (by simp; omega)
    have hn1 : (0 : Int) ≤ (Tx.numN (t.take j) : Int) := by omega
    have hn2 : (Tx.numN (t.take j) : Int) < 1000000000000000 := by omega
    clear hp hn
    by_cases hlt : j < t.length
    · have hi : j < s.size := by omega
      have hc := HAT.out j hlt
      have HS : Hid (t.take (j + 1) = t.take j ++ [s[j]'hi]) := Lib.hid (by rw [take_one t j hlt, hc])
      have HD := Lib.hid (fun (h : Tx.isDig (s[j]'hi) = false) => all_no hlt (by rw [hc]; exact h))
      clear hc HAT
      by_cases hd : 48 ≤ (s[j]'hi).toNat ∧ (s[j]'hi).toNat ≤ 57
      · obtain ⟨d1, d2⟩ := hd
        have HN : Hid (((Tx.numN (t.take (j + 1)) : Nat) : Int) = 10 * (Tx.numN (t.take j) : Int) + (((s[j]'hi).toNat : Int) - 48)) := Lib.hid (by rw [HS.out, Tx.numN_snoc]; omega)
        have HA : Hid ((t.take (j + 1)).all Tx.isDig = true) := Lib.hid (by rw [HS.out, List.all_append, hg.out]; simp [Tx.isDig, d1, d2])
        have d3 : (48 : Int) ≤ ((s[j]'hi).toNat : Int) := by omega
        have d4 : ((s[j]'hi).toNat : Int) ≤ 57 := by omega
        clear HS HD hg HR HOK
        generalize ((Tx.numN (t.take j) : Nat) : Int) = n at *
        go_wp2
        go_round
        case rel => exact ⟨j + 1, by omega, by go_num, by rw [HN.out], HA⟩
        case measure => simp [intOf]; omega
      · have HF : Hid (Tx.numR s.data.toList = (0, false)) := Lib.hid (numR_no (by
          rw [HOK.out, HD.out (by simp only [Tx.isDig, Bool.and_eq_false_iff, decide_eq_false_iff_not]; omega)]; simp))
        clear HS HD hg HR HOK
        generalize ((Tx.numN (t.take j) : Nat) : Int) = n at *
        by_cases hd1 : ((s[j]'hi).toNat : Int) < 48
        · clear hd
          go_wp2
          go_ret2
          refine ⟨?_, Below.refl _ _⟩
          rw [HF.out]
          rfl
        · have hd2 : (57 : Int) < ((s[j]'hi).toNat : Int) := by omega
          clear hd
          go_wp2
          go_ret2
          refine ⟨?_, Below.refl _ _⟩
          rw [HF.out]
          rfl
    · obtain rfl : j = t.length := by omega
      rw [List.take_length] at hn1 hn2 hg ⊢
      have HF := Lib.hid (HR.out (by rw [HOK.out, hg.out]; simp; omega))
      clear HR HOK HAT hg hlt hj
      generalize ((Tx.numN t : Nat) : Int) = n at *
      go_wp2_with fail
      refine (digits_any _ _ (by omega) (by omega)).mono ?_
      rintro e w1 ⟨rfl, hb1⟩
      go_wp2
      go_ret2
      refine ⟨?_, hb1⟩
      rw [HF.out]
      show Ending.returned (.tuple #[.int .i64 n, .bool (Lib.itoa n == s.toList)]) = _
      rw [toList_data, Int.one_mul, beq_dec]

set_option maxRecDepth 200000 in
set_option maxHeartbeats 1000000 in
theorem number_minus (s : ByteArray) (w : World) (hs : s.size ≤ 100000) (hpos : 0 < s.size) (h45 : ((s[0].toNat : Int) == 45) = true) (hdg : Tx.digs s.data.toList = s.data.toList.drop 1) (hsg : Tx.sgn s.data.toList = -1) :
    Calls Tryz.prog 110 #[.string s] w (NumSays s.data.toList w) := by
  obtain ⟨t, ht⟩ : ∃ t, t = s.data.toList.drop 1 := ⟨_, rfl⟩
  have hsz : s.size = t.length + 1 := by
    have h1 : 0 < s.data.size := hpos; rw [ht, List.length_drop]; show s.data.size = s.data.toList.length - 1 + 1; rw [Array.length_toList]; omega
  have hz1 : s.size ≤ t.length + 1 := by omega
  have hz2 : t.length + 1 ≤ s.size := by omega
  clear hsz
  have hat : ∀ j (h : j < t.length), t[j] = s[j + 1]'(by omega) := by
    subst ht; intro j h; rw [List.getElem_drop]; show _ = s.data[j + 1]'(by show j + 1 < s.size; omega); simp [Nat.add_comm]
  have hok : Tx.numOk s.data.toList = (decide (1 ≤ t.length) && decide (t.length ≤ 15) && t.all Tx.isDig) := by unfold Tx.numOk; rw [hdg, ← ht]
  have hR : Tx.numOk s.data.toList = true → Tx.numR s.data.toList = (-1 * (Tx.numN t : Int), decide (Lib.itoa (-1 * (Tx.numN t : Int)) = s.data.toList)) := fun h => by
    unfold Tx.numR; rw [if_pos h, hdg, hsg, ← ht]
  have HAT := Lib.hid hat
  have HR := Lib.hid hR
  have HOK := Lib.hid hok
  have HP := Lib.hid hpos
  clear hat hR hok hdg hsg ht
  by_cases hl : 1 ≤ t.length ∧ t.length ≤ 15
  case neg =>
    have HF : Hid (Tx.numR s.data.toList = (0, false)) := Lib.hid (numR_no (by rw [HOK.out]; simp; omega))
    have hl' : ((s.size : Int) - 1 < 1) ∨ (15 < (s.size : Int) - 1) := by omega
    clear hl HAT HR HOK
    go_enter Tryz.func110, Tryz.ntmps110
    go_wp2_with fail
    refine (within_f _ _ _ _ (by omega)).mono ?_
    rintro e w' ⟨rfl, rfl⟩
    go_wp2
    go_ret2
    refine ⟨?_, Below.refl _ _⟩
    rw [HF.out]
    rfl
  obtain ⟨hl1, hl2⟩ := hl
  go_enter Tryz.func110, Tryz.ntmps110
  go_wp2_with fail
  refine (within_t _ _ _ _ (by omega) (by omega)).mono ?_
  rintro e w' ⟨rfl, rfl⟩
  clear h45
  go_wp2
  go_loop [5, 6] (fun i n => ∃ j : Nat, j ≤ t.length ∧ i = .int .i64 ((j : Int) + 1) ∧ n = .int .i64 (Tx.numN (t.take j)) ∧ Hid ((t.take j).all Tx.isDig = true)) (fun i _ => t.length + 1 - (intOf i).toNat)
  case atStart => exact ⟨0, Nat.zero_le _, rfl, rfl, Lib.hid rfl⟩
  case round =>
    obtain ⟨j, hj, rfl, rfl, hg⟩ := hrel
    have hp := pow_le15 (j := j) (by omega)
    have hn := Tx.numN_lt j (t.take j) hg.out (by simp; omega)
    have hn1 : (0 : Int) ≤ (Tx.numN (t.take j) : Int) := by omega
    have hn2 : (Tx.numN (t.take j) : Int) < 1000000000000000 := by omega
    clear hp hn
    by_cases hlt : j < t.length
    · have hi : j + 1 < s.size := by omega
      have hc := HAT.out j hlt
      have HS : Hid (t.take (j + 1) = t.take j ++ [s[j + 1]'hi]) := Lib.hid (by rw [take_one t j hlt, hc])
      have HD := Lib.hid (fun (h : Tx.isDig (s[j + 1]'hi) = false) => all_no hlt (by rw [hc]; exact h))
      clear hc HAT
      by_cases hd : 48 ≤ (s[j + 1]'hi).toNat ∧ (s[j + 1]'hi).toNat ≤ 57
      · obtain ⟨d1, d2⟩ := hd
        have HN : Hid (((Tx.numN (t.take (j + 1)) : Nat) : Int) = 10 * (Tx.numN (t.take j) : Int) + (((s[j + 1]'hi).toNat : Int) - 48)) := Lib.hid (by rw [HS.out, Tx.numN_snoc]; omega)
        have HA : Hid ((t.take (j + 1)).all Tx.isDig = true) := Lib.hid (by rw [HS.out, List.all_append, hg.out]; simp [Tx.isDig, d1, d2])
        have d3 : (48 : Int) ≤ ((s[j + 1]'hi).toNat : Int) := by omega
        have d4 : ((s[j + 1]'hi).toNat : Int) ≤ 57 := by omega
        clear HS HD hg HR HOK
        generalize ((Tx.numN (t.take j) : Nat) : Int) = n at *
        go_wp2
        go_round
        case rel => exact ⟨j + 1, by omega, by go_num, by rw [HN.out], HA⟩
        case measure => simp [intOf]; omega
      · have HF : Hid (Tx.numR s.data.toList = (0, false)) := Lib.hid (numR_no (by
          rw [HOK.out, HD.out (by simp only [Tx.isDig, Bool.and_eq_false_iff, decide_eq_false_iff_not]; omega)]; simp))
        clear HS HD hg HR HOK
        generalize ((Tx.numN (t.take j) : Nat) : Int) = n at *
        by_cases hd1 : ((s[j + 1]'hi).toNat : Int) < 48
        · clear hd
          go_wp2
          go_ret2
          refine ⟨?_, Below.refl _ _⟩
          rw [HF.out]
          rfl
        · have hd2 : (57 : Int) < ((s[j + 1]'hi).toNat : Int) := by omega
          clear hd
          go_wp2
          go_ret2
          refine ⟨?_, Below.refl _ _⟩
          rw [HF.out]
          rfl
    · obtain rfl : j = t.length := by omega
      rw [List.take_length] at hn1 hn2 hg ⊢
      have HF := Lib.hid (HR.out (by rw [HOK.out, hg.out]; simp; omega))
      clear HR HOK HAT hg hlt hj
      generalize ((Tx.numN t : Nat) : Int) = n at *
      go_wp2_with fail
      refine (digits_any _ _ (by omega) (by omega)).mono ?_
      rintro e w1 ⟨rfl, hb1⟩
      go_wp2
      go_ret2
      refine ⟨?_, hb1⟩
      rw [HF.out]
      show Ending.returned (.tuple #[.int .i64 (-n), .bool (Lib.itoa (-n) == s.toList)]) = _
      rw [toList_data, Int.neg_mul, Int.one_mul, beq_dec]

theorem number_any (s : ByteArray) (w : World) (hs : s.size ≤ 100000) :
    Calls Tryz.prog 110 #[.string s] w (NumSays s.data.toList w) := by
  by_cases hpos : 0 < s.size
  · have hdl : 0 < s.data.toList.length := by rw [Array.length_toList]; exact hpos
    have hhd : s.data.toList.head? = some (s[0]'hpos) := by
      rw [List.head?_eq_getElem?, List.getElem?_eq_getElem hdl]; rfl
    by_cases h : s[0]'hpos = 45
    · have hh : s.data.toList.head? = some 45 := by rw [hhd, h]
      exact number_minus s w hs hpos (by rw [h]; rfl) (by unfold Tx.digs; rw [if_pos hh]) (by unfold Tx.sgn; rw [if_pos hh])
    · have hh : ¬ s.data.toList.head? = some 45 := by rw [hhd]; simpa using h
      refine number_plus s w hs hpos (beq_eq_false_iff_ne.2 fun e => h ?_) (by unfold Tx.digs; rw [if_neg hh]) (by unfold Tx.sgn; rw [if_neg hh])
      have : (s[0]'hpos).toNat = 45 := by omega
      exact UInt8.toNat_inj.1 this
  · have hz : s.data.toList = [] := by
      apply List.length_eq_zero_iff.1; rw [Array.length_toList]; show s.size = 0; omega
    have HF : Hid (Tx.numR s.data.toList = (0, false)) := Lib.hid (by rw [hz]; rfl)
    have h0 : s.size < 1 := by omega
    clear hz hpos
    go_enter Tryz.func110, Tryz.ntmps110
    go_wp2_with fail
    refine (within_f _ _ _ _ (by omega)).mono ?_
    rintro e w' ⟨rfl, rfl⟩
    go_wp2
    go_ret2
    refine ⟨?_, Below.refl _ _⟩
    rw [HF.out]
    rfl
end Go.Proofs.YtcljpklgpedolaaGreatDoor
