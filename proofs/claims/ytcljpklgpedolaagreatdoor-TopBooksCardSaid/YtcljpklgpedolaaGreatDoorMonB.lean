/- Sums of money that are written: the reference's. Sums of money that are read: the reference's. -/
import Derived.Test.YtcljpklgpedolaaGreatDoorMonA
namespace Go.Proofs.YtcljpklgpedolaaGreatDoor
open Go.RowKit Go.Sort
namespace Tx
theorem pre_unit_len {a : Nat} {c : UInt8} (h : a < 10000000000000000000) : (pre (unit a c)).length ≤ 21 := by
  have := dec_len19 h
  unfold pre unit
  split <;> simp
  omega
theorem pre_unit {a : Nat} {c : UInt8} (h : a ≠ 0) : pre (unit a c) = [32] ++ Lib.decDigits a ++ [c] := by
  unfold pre unit
  rw [if_neg h]; simp
end Tx
theorem bytes3 (a b c d : List UInt8) : (((⟨a.toArray⟩ : ByteArray) ++ ⟨b.toArray⟩) ++ ⟨c.toArray⟩) ++ ⟨d.toArray⟩ = ⟨(a ++ (b ++ c ++ d)).toArray⟩ := by
  rw [bytes_append, bytes_append, bytes_append]; simp

set_option maxRecDepth 20000 in
set_option maxHeartbeats 1000000 in
theorem refFormatMoney_any (p : Int) (w : World) :
    Calls Tryz.prog 80 #[.int .i64 p] w (MonSays p w) := by
  by_cases hi : Tx.inM p = true
  case neg =>
    have hlo : p < -1099511627776 ∨ 1099511627776 < p := by
      unfold Tx.inM at hi
      simp only [Bool.and_eq_true, decide_eq_true_eq] at hi
      omega
    have HI := Lib.hid hi
    clear hi
    go_enter Tryz.func80, Tryz.ntmps80
    go_wp2_with fail
    refine (within_f _ _ _ _ hlo).mono ?_
    rintro e w' ⟨rfl, rfl⟩
    go_wp2
    go_ret2
    refine ⟨?_, Below.refl _ _⟩
    rw [if_neg HI.out, if_neg HI.out]
    rfl
  obtain ⟨p1, p2⟩ := Tx.inM_of hi
  have HI := Lib.hid hi
  clear hi
  by_cases h0 : p = 0
  · subst h0
    go_enter Tryz.func80, Tryz.ntmps80
    go_wp2_with fail
    refine (within_t _ _ _ _ (by omega) (by omega)).mono ?_
    rintro e w' ⟨rfl, rfl⟩
    go_wp2
    go_ret2
    refine ⟨?_, Below.refl _ _⟩
    rw [if_pos HI.out, if_pos HI.out]
    rfl
  have hne : (p == 0) = false := beq_eq_false_iff_ne.2 h0
  obtain ⟨n, hn⟩ : ∃ n : Nat, n = p.natAbs := ⟨_, rfl⟩
  have hn0 : 0 < n := by omega
  have hn1 : n ≤ 1099511627776 := by omega
  have HJ := Lib.hid (Tx.pre_join (Tx.mW n) (Tx.mW_ne hn0))
  have HM : Hid (Tx.pre (Tx.mW n) = Tx.pre (Tx.unit (n / 240) 108) ++ (Tx.pre (Tx.unit (n / 12 % 20) 115) ++ Tx.pre (Tx.unit (n % 12) 100))) := Lib.hid (by
    unfold Tx.mW; rw [Tx.pre_append, Tx.pre_append, List.append_assoc])
  have l1 := Tx.pre_unit_len (a := n / 240) (c := 108) (by omega)
  have l2 := Tx.pre_unit_len (a := n / 12 % 20) (c := 115) (by omega)
  have l3 := Tx.pre_unit_len (a := n % 12) (c := 100) (by omega)
  have d1 := Tx.dec_len19 (a := n / 240) (by omega)
  have d2 := Tx.dec_len19 (a := n / 12 % 20) (by omega)
  have d3 := Tx.dec_len19 (a := n % 12) (by omega)
  have D1 : Hid (∀ W : World, Calls Tryz.prog 104 #[.int .i64 ((n : Int) / 240)] W fun e w' => e = .returned (.string ⟨(Lib.decDigits (n / 240)).toArray⟩) ∧ Below W.heap.size W w') := Lib.hid fun W => by
    have := digits_nat (n / 240) W (by omega); rwa [show ((n / 240 : Nat) : Int) = (n : Int) / 240 by omega] at this
  have D2 : Hid (∀ W : World, Calls Tryz.prog 104 #[.int .i64 ((n : Int) / 12 % 20)] W fun e w' => e = .returned (.string ⟨(Lib.decDigits (n / 12 % 20)).toArray⟩) ∧ Below W.heap.size W w') := Lib.hid fun W => by
    have := digits_nat (n / 12 % 20) W (by omega); rwa [show ((n / 12 % 20 : Nat) : Int) = (n : Int) / 12 % 20 by omega] at this
  have D3 : Hid (∀ W : World, Calls Tryz.prog 104 #[.int .i64 ((n : Int) % 12)] W fun e w' => e = .returned (.string ⟨(Lib.decDigits (n % 12)).toArray⟩) ∧ Below W.heap.size W w') := Lib.hid fun W => by
    have := digits_nat (n % 12) W (by omega); rwa [show ((n % 12 : Nat) : Int) = (n : Int) % 12 by omega] at this
  have U1 : Hid ((0 < (n : Int) / 240 → Tx.pre (Tx.unit (n / 240) 108) = [32] ++ Lib.decDigits (n / 240) ++ [108]) ∧ (¬ 0 < (n : Int) / 240 → Tx.pre (Tx.unit (n / 240) 108) = [])) := Lib.hid ⟨fun h => Tx.pre_unit (by omega), fun h => by unfold Tx.unit; rw [if_pos (by omega)]; rfl⟩
  have U2 : Hid ((0 < (n : Int) / 12 % 20 → Tx.pre (Tx.unit (n / 12 % 20) 115) = [32] ++ Lib.decDigits (n / 12 % 20) ++ [115]) ∧ (¬ 0 < (n : Int) / 12 % 20 → Tx.pre (Tx.unit (n / 12 % 20) 115) = [])) := Lib.hid ⟨fun h => Tx.pre_unit (by omega), fun h => by unfold Tx.unit; rw [if_pos (by omega)]; rfl⟩
  have U3 : Hid ((0 < (n : Int) % 12 → Tx.pre (Tx.unit (n % 12) 100) = [32] ++ Lib.decDigits (n % 12) ++ [100]) ∧ (¬ 0 < (n : Int) % 12 → Tx.pre (Tx.unit (n % 12) 100) = [])) := Lib.hid ⟨fun h => Tx.pre_unit (by omega), fun h => by unfold Tx.unit; rw [if_pos (by omega)]; rfl⟩
  have n0 : (0 : Int) ≤ (n : Int) := by omega
  have n2 : (n : Int) ≤ 1099511627776 := by omega
  have HFJ : Hid (Lib.join (Tx.mW n) [32] = (Tx.pre (Tx.unit (n / 240) 108) ++ (Tx.pre (Tx.unit (n / 12 % 20) 115) ++ Tx.pre (Tx.unit (n % 12) 100))).drop 1) := Lib.hid (by rw [← HM.out, HJ.out]; rfl)
  have hall : 1 ≤ (Tx.pre (Tx.unit (n / 240) 108) ++ (Tx.pre (Tx.unit (n / 12 % 20) 115) ++ Tx.pre (Tx.unit (n % 12) 100))).length := by rw [← HM.out, HJ.out]; simp
  clear HM HJ
  by_cases hs : p < 0
  · have e1 : -p = (n : Int) := by omega
    have HFM : Hid (Tx.fmtM p = [45] ++ Lib.join (Tx.mW n) [32]) := Lib.hid (by unfold Tx.fmtM; rw [if_neg (by omega), if_pos hs, ← hn])
    have HE1 := Lib.hid e1
    rw [HFJ.out] at HFM
    clear hn e1 hn0 hn1 h0 HFJ
    generalize ((n : Nat) : Int) = z at *
    generalize Lib.decDigits (n / 240) = x1 at *
    generalize Lib.decDigits (n / 12 % 20) = x2 at *
    generalize Lib.decDigits (n % 12) = x3 at *
    generalize Tx.pre (Tx.unit (n / 240) 108) = q1 at *
    generalize Tx.pre (Tx.unit (n / 12 % 20) 115) = q2 at *
    generalize Tx.pre (Tx.unit (n % 12) 100) = q3 at *
    go_enter Tryz.func80, Tryz.ntmps80
    go_wp2_with fail
    refine (within_t _ _ _ _ (by omega) (by omega)).mono ?_
    rintro e w' ⟨rfl, rfl⟩
    have HW := Lib.hid (Below.refl w.heap.size w)
    go_upto_region 9 with fail
    rw [HE1.out]
    clear hne p1 p2
    go_upto_if 18 with fail
    go_cut [5] from 16 to 25 (fun s X => s = .string ⟨(q1).toArray⟩ ∧ Hid (Below w.heap.size w X))
    case first =>
      by_cases hu : 0 < z / 240
      · have HX := Lib.hid (bytes3 [] [32] x1 [108])
        have HU := Lib.hid (U1.out.1 hu)
        go_wp2_with fail
        refine (D1.out _).mono ?_
        rintro e w2 ⟨rfl, hb2⟩
        have hw2 := Lib.hid (below_step HW.out hb2)
        clear hb2
        go_wp2
        go_meet
        refine ⟨?_, hw2⟩
        rw [HU.out]
        exact congrArg Value.string HX.out
      · have HU := Lib.hid (U1.out.2 (by omega))
        go_wp2
        go_meet
        refine ⟨?_, HW⟩
        rw [HU.out]
        try simp
    case rest =>
    obtain ⟨rfl, hw⟩ := hcut
    clear HW
    have HW := hw
    clear hw U1 D1
    go_upto_if 29 with fail
    go_cut [5] from 26 to 37 (fun s X => s = .string ⟨(q1 ++ q2).toArray⟩ ∧ Hid (Below w.heap.size w X))
    case first =>
      by_cases hu : 0 < z / 12 % 20
      · have HX := Lib.hid (bytes3 q1 [32] x2 [115])
        have HU := Lib.hid (U2.out.1 hu)
        go_wp2_with fail
        refine (D2.out _).mono ?_
        rintro e w2 ⟨rfl, hb2⟩
        have hw2 := Lib.hid (below_step HW.out hb2)
        clear hb2
        go_wp2
        go_meet
        refine ⟨?_, hw2⟩
        rw [HU.out]
        exact congrArg Value.string HX.out
      · have HU := Lib.hid (U2.out.2 (by omega))
        go_wp2
        go_meet
        refine ⟨?_, HW⟩
        rw [HU.out]
        try simp
    case rest =>
    obtain ⟨rfl, hw⟩ := hcut
    clear HW
    have HW := hw
    clear hw U2 D2
    go_upto_if 40 with fail
    go_cut [5] from 38 to 47 (fun s X => s = .string ⟨(q1 ++ (q2 ++ q3)).toArray⟩ ∧ Hid (Below w.heap.size w X))
    case first =>
      by_cases hu : 0 < z % 12
      · have HX := Lib.hid (bytes3 (q1 ++ q2) [32] x3 [100])
        have HU := Lib.hid (U3.out.1 hu)
        go_wp2_with fail
        refine (D3.out _).mono ?_
        rintro e w2 ⟨rfl, hb2⟩
        have hw2 := Lib.hid (below_step HW.out hb2)
        clear hb2
        go_wp2
        go_meet
        refine ⟨?_, hw2⟩
        rw [HU.out]
        rw [← List.append_assoc]
        exact congrArg Value.string HX.out
      · have HU := Lib.hid (U3.out.2 (by omega))
        go_wp2
        go_meet
        refine ⟨?_, HW⟩
        rw [HU.out]
        try simp
    case rest =>
    obtain ⟨rfl, hw⟩ := hcut
    clear HW
    have HW := hw
    clear hw U3 D3
    have hx0 : (⟨(q1 ++ (q2 ++ q3)).toArray⟩ : ByteArray).extract 1 (q1.length + (q2.length + q3.length)) = ⟨((q1 ++ (q2 ++ q3)).drop 1).toArray⟩ := by
      rw [extract_is]
      show (⟨(((q1 ++ (q2 ++ q3)).take _).drop 1).toArray⟩ : ByteArray) = _
      rw [List.take_of_length_le (by simp)]
    have HX := Lib.hid hx0
    simp only [List.length_append] at hall
    clear hx0
    go_wp2
    go_ret2
    refine ⟨?_, HW.out⟩
    rw [if_pos HI.out, if_pos HI.out, HFM.out]
    show Ending.returned (.tuple #[.string ((⟨[45].toArray⟩ : ByteArray) ++ (⟨(q1 ++ (q2 ++ q3)).toArray⟩ : ByteArray).extract 1 (q1.length + (q2.length + q3.length))), .int .i64 0]) = _
    rw [HX.out, bytes_append]
  · have e1 : p = (n : Int) := by omega
    subst e1
    have HFM : Hid (Tx.fmtM (n : Int) = [] ++ Lib.join (Tx.mW n) [32]) := Lib.hid (by unfold Tx.fmtM; rw [if_neg (by omega), if_neg hs, ← hn])
    rw [HFJ.out] at HFM
    clear hn hn0 hn1 h0 HFJ
    generalize ((n : Nat) : Int) = z at *
    generalize Lib.decDigits (n / 240) = x1 at *
    generalize Lib.decDigits (n / 12 % 20) = x2 at *
    generalize Lib.decDigits (n % 12) = x3 at *
    generalize Tx.pre (Tx.unit (n / 240) 108) = q1 at *
    generalize Tx.pre (Tx.unit (n / 12 % 20) 115) = q2 at *
    generalize Tx.pre (Tx.unit (n % 12) 100) = q3 at *
    go_enter Tryz.func80, Tryz.ntmps80
    go_wp2_with fail
    refine (within_t _ _ _ _ (by omega) (by omega)).mono ?_
    rintro e w' ⟨rfl, rfl⟩
    have HW := Lib.hid (Below.refl w.heap.size w)
    go_upto_region 9 with fail
    clear hne p1 p2
    go_upto_if 18 with fail
    go_cut [5] from 16 to 25 (fun s X => s = .string ⟨(q1).toArray⟩ ∧ Hid (Below w.heap.size w X))
    case first =>
      by_cases hu : 0 < z / 240
      · have HX := Lib.hid (bytes3 [] [32] x1 [108])
        have HU := Lib.hid (U1.out.1 hu)
        go_wp2_with fail
        refine (D1.out _).mono ?_
        rintro e w2 ⟨rfl, hb2⟩
        have hw2 := Lib.hid (below_step HW.out hb2)
        clear hb2
        go_wp2
        go_meet
        refine ⟨?_, hw2⟩
        rw [HU.out]
        exact congrArg Value.string HX.out
      · have HU := Lib.hid (U1.out.2 (by omega))
        go_wp2
        go_meet
        refine ⟨?_, HW⟩
        rw [HU.out]
        try simp
    case rest =>
    obtain ⟨rfl, hw⟩ := hcut
    clear HW
    have HW := hw
    clear hw U1 D1
    go_upto_if 29 with fail
    go_cut [5] from 26 to 37 (fun s X => s = .string ⟨(q1 ++ q2).toArray⟩ ∧ Hid (Below w.heap.size w X))
    case first =>
      by_cases hu : 0 < z / 12 % 20
      · have HX := Lib.hid (bytes3 q1 [32] x2 [115])
        have HU := Lib.hid (U2.out.1 hu)
        go_wp2_with fail
        refine (D2.out _).mono ?_
        rintro e w2 ⟨rfl, hb2⟩
        have hw2 := Lib.hid (below_step HW.out hb2)
        clear hb2
        go_wp2
        go_meet
        refine ⟨?_, hw2⟩
        rw [HU.out]
        exact congrArg Value.string HX.out
      · have HU := Lib.hid (U2.out.2 (by omega))
        go_wp2
        go_meet
        refine ⟨?_, HW⟩
        rw [HU.out]
        try simp
    case rest =>
    obtain ⟨rfl, hw⟩ := hcut
    clear HW
    have HW := hw
    clear hw U2 D2
    go_upto_if 40 with fail
    go_cut [5] from 38 to 47 (fun s X => s = .string ⟨(q1 ++ (q2 ++ q3)).toArray⟩ ∧ Hid (Below w.heap.size w X))
    case first =>
      by_cases hu : 0 < z % 12
      · have HX := Lib.hid (bytes3 (q1 ++ q2) [32] x3 [100])
        have HU := Lib.hid (U3.out.1 hu)
        go_wp2_with fail
        refine (D3.out _).mono ?_
        rintro e w2 ⟨rfl, hb2⟩
        have hw2 := Lib.hid (below_step HW.out hb2)
        clear hb2
        go_wp2
        go_meet
        refine ⟨?_, hw2⟩
        rw [HU.out]
        rw [← List.append_assoc]
        exact congrArg Value.string HX.out
      · have HU := Lib.hid (U3.out.2 (by omega))
        go_wp2
        go_meet
        refine ⟨?_, HW⟩
        rw [HU.out]
        try simp
    case rest =>
    obtain ⟨rfl, hw⟩ := hcut
    clear HW
    have HW := hw
    clear hw U3 D3
    have hx0 : (⟨(q1 ++ (q2 ++ q3)).toArray⟩ : ByteArray).extract 1 (q1.length + (q2.length + q3.length)) = ⟨((q1 ++ (q2 ++ q3)).drop 1).toArray⟩ := by
      rw [extract_is]
      show (⟨(((q1 ++ (q2 ++ q3)).take _).drop 1).toArray⟩ : ByteArray) = _
      rw [List.take_of_length_le (by simp)]
    have HX := Lib.hid hx0
    simp only [List.length_append] at hall
    clear hx0
    go_wp2
    go_ret2
    refine ⟨?_, HW.out⟩
    rw [if_pos HI.out, if_pos HI.out, HFM.out]
    show Ending.returned (.tuple #[.string ((⟨(q1 ++ (q2 ++ q3)).toArray⟩ : ByteArray).extract 1 (q1.length + (q2.length + q3.length))), .int .i64 0]) = _
    rw [HX.out, List.nil_append]
end Go.Proofs.YtcljpklgpedolaaGreatDoor
namespace Go.Proofs.YtcljpklgpedolaaGreatDoor
open Go.RowKit Go.Sort
theorem read_same {f : List UInt8 → Option Int} {l : List UInt8} {z : Int} (h : f l = some z) (hi : ¬ Tx.okM l z = true) : Tx.ansM l (f l) = (0, 3) := by
  rw [h]
  show (if Tx.okM l z = true then _ else _) = _
  rw [if_neg hi]
theorem read_good {f : List UInt8 → Option Int} {l : List UInt8} {z : Int} (h : f l = some z) (hi : Tx.okM l z = true) : Tx.ansM l (f l) = (z, 0) := by
  rw [h]
  show (if Tx.okM l z = true then _ else _) = _
  rw [if_pos hi]

set_option maxRecDepth 20000 in
set_option maxHeartbeats 4000000 in
theorem refMoney_minus (s : ByteArray) (w : World) (hs : s.size ≤ 100000) (hpos : 0 < s.size) (h45 : ((s[0].toNat : Int) == 45) = true) (hdg : (s.extract 1 s.size).data.toList = Tx.digs s.data.toList) (hsg : Tx.sgn s.data.toList = -1) :
    Calls Tryz.prog 83 #[.string s] w (ReadSays (Tx.ansM s.data.toList (Tx.rT s.data.toList)) w) := by
  have hsz : s.data.toList.length = s.size := by rw [Array.length_toList]; rfl
  have hal : (Tx.digs s.data.toList).length ≤ s.data.toList.length := by unfold Tx.digs; split <;> simp
  have h0s : (s.extract 1 s.size).size ≤ 100000 := by
    have : (s.extract 1 s.size).data.toList.length = (s.extract 1 s.size).size := by rw [Array.length_toList]; rfl
    rw [hdg] at this; omega
  have HS := Lib.hid (split_any (s.extract 1 s.size) 32 w h0s)
  rw [hdg] at HS
  have hbd := spl_bd 32 (Tx.digs s.data.toList)
  have hln := Tx.spl_len 32 (Tx.digs s.data.toList)
  have hne := Tx.spl_ne 32 (Tx.digs s.data.toList)
  have hT : Tx.rT s.data.toList = (Tx.rSum 0 ((Tx.spl 32 (Tx.digs s.data.toList)).take 4)).map fun v => -1 * v := by unfold Tx.rT; rw [hsg]
  unfold SplSays at HS
  generalize Tx.spl 32 (Tx.digs s.data.toList) = ws at *
  have hn : ws.length ≤ 100001 := by omega
  have hn0 : 0 < ws.length := List.length_pos_iff.2 hne
  have HBD := Lib.hid (fun k (hk : k < ws.length) => (show ws[k].length ≤ 100000 by have := hbd ws[k] (List.getElem_mem hk); omega))
  have HT := Lib.hid hT
  clear hsz hal hbd hln hT hs hdg hsg hne h0s
  go_enter Tryz.func83, Tryz.ntmps83
  go_wp2_with fail
  refine HS.out.mono ?_
  rintro e w1 ⟨u, rfl, hown, hb1⟩
  obtain ⟨g, cp, rfl, hcp, hg1, hg2, hcell⟩ := hown.form hn0
  have HB := Lib.hid (And.intro hcell (And.intro hg2 hb1))
  clear hcell hb1 HS hg1 hg2 hcp hown
  try clear h45
  try clear hpos
  try clear hz
  go_wp2
  go_loopw [7, 8] (fun p t wr => ∃ (k : Nat) (acc : Int), k ≤ ws.length ∧ k ≤ 4 ∧ t = .int .i64 k ∧ p = .int .i64 acc ∧ 0 ≤ acc ∧ acc ≤ 263882790666240 * (k : Int) ∧ Hid (Tx.rSum 0 (ws.take 4) = Tx.rSum acc ((ws.take 4).drop k) ∧ Below w.heap.size w wr ∧ Below w1.heap.size w1 wr)) (fun _ t _ => ws.length - (intOf t).toNat)
  case atStart => exact ⟨0, 0, Nat.zero_le _, by omega, rfl, rfl, by omega, by omega, Lib.hid ⟨rfl, HB.out.2.2, Below.refl _ _⟩⟩
  case round =>
    obtain ⟨k, acc, hk, hk4, rfl, rfl, ha0, ha1, hg⟩ := hrel
    by_cases hlt : k < ws.length ∧ k < 4
    · obtain ⟨hlt, hlt4⟩ := hlt
      have hdr : (ws.take 4).drop k = ws[k] :: (ws.take 4).drop (k + 1) := by
        rw [List.drop_eq_getElem_cons (by simp; omega)]; simp
      have c0 := (hg.out.2.2.cell (p := ⟨g, k, none⟩) HB.out.2.1).trans (HB.out.1 k hlt)
      have hx5 := HBD.out k hlt
      have ht4 : decide ((k : Int) < 4) = true := decide_eq_true (by omega)
      have ht5 : decide (k < 4) = true := decide_eq_true hlt4
      obtain ⟨b, hb⟩ : ∃ b : ByteArray, b = ⟨ws[k].toArray⟩ := ⟨_, rfl⟩
      have hbl : b.data.toList = ws[k] := by rw [hb]
      have hbs : b.size = ws[k].length := by rw [← hbl, Array.length_toList]; rfl
      rw [← hb] at c0
      rw [← hbl] at hdr
      have hb1 : b.size ≤ 100000 := by omega
      have HSTEP : Hid (Tx.rSum 0 (ws.take 4) = match Tx.rV b.data.toList with
          | none => none
          | some v => Tx.rSum (acc + v) ((ws.take 4).drop (k + 1))) := Lib.hid (by rw [hg.out.1, hdr, Tx.rSum]; cases Tx.rV b.data.toList <;> rfl)
      have HWW := Lib.hid hg.out.2.1
      have HW2 := Lib.hid hg.out.2.2
      have hdl : b.data.toList.length = b.size := by rw [Array.length_toList]; rfl
      have hno : Tx.rV b.data.toList = none → Tx.ansM s.data.toList (Tx.rT s.data.toList) = (0, 3) := fun h => by
        rw [HT.out, HSTEP.out, h]; rfl
      have HNO := Lib.hid hno
      clear hdr hb hbl hbs hg hno hx5 HB HBD
      by_cases h2 : b.size < 2
      · have HN := Lib.hid (HNO.out (by unfold Tx.rV; rw [if_pos (by omega)]))
        clear hdl HNO HSTEP HT
        go_wp2
        go_ret2
        refine ⟨?_, HWW.out⟩
        rw [HN.out]
        rfl
      have hlast : b.size - 1 < b.size := by omega
      have hlb : Tx.lastB b.data.toList = b[b.size - 1]'hlast := by
        unfold Tx.lastB
        rw [hdl, List.getD_eq_getElem?_getD, List.getElem?_eq_getElem (by rw [hdl]; exact hlast)]; rfl
      have hx : b.extract 0 (b.size - 1) = ⟨(Tx.headW b.data.toList).toArray⟩ := by
        rw [extract_is]; unfold Tx.headW; rw [hdl]; simp
      have hhs : (⟨(Tx.headW b.data.toList).toArray⟩ : ByteArray).size ≤ 100000 := by
        show (Tx.headW b.data.toList).toArray.size ≤ _; unfold Tx.headW; simp; omega
      have hbk : (⟨(Tx.headW b.data.toList).toArray⟩ : ByteArray).data.toList = Tx.headW b.data.toList := by simp
      have C := Lib.hid (fun W => number_any ⟨(Tx.headW b.data.toList).toArray⟩ W hhs)
      unfold NumSays at C
      rw [← hx] at C
      have hbk2 : (b.extract 0 (b.size - 1)).data.toList = Tx.headW b.data.toList := by rw [hx]
      rw [hbk2] at C
      have hrV : Tx.rV b.data.toList = if (Tx.numR (Tx.headW b.data.toList)).2 = false ∨ (Tx.numR (Tx.headW b.data.toList)).1 < 0 ∨ 1099511627776 < (Tx.numR (Tx.headW b.data.toList)).1 then none else (Tx.unitV (b[b.size - 1]'hlast)).map fun k => k * (Tx.numR (Tx.headW b.data.toList)).1 := by
        unfold Tx.rV; rw [if_neg (by omega), hlb]
      have HV := Lib.hid hrV
      clear hlb hx hhs hbk hbk2 hrV hdl
      generalize Tx.numR (Tx.headW b.data.toList) = nr at *
      obtain ⟨n, ok⟩ := nr
      dsimp only at C HV
      by_cases hbad : ok = false ∨ n < 0 ∨ 1099511627776 < n
      · have HN := Lib.hid (HNO.out (by rw [HV.out, if_pos hbad]))
        clear HNO HSTEP HT HV
        rcases hbad with hbad | hbad
        · subst hbad
          go_wp2_with fail
          refine (C.out _).mono ?_
          rintro e w2 ⟨rfl, hb2⟩
          have HW3 := Lib.hid (below_step HWW.out hb2)
          clear hb2 HWW
          have HWW := HW3
          go_wp2
          go_ret2
          refine ⟨?_, HWW.out⟩
          rw [HN.out]
          rfl
        · cases ok with
          | false =>
            go_wp2_with fail
            refine (C.out _).mono ?_
            rintro e w2 ⟨rfl, hb2⟩
            have HW3 := Lib.hid (below_step HWW.out hb2)
            clear hb2 HWW
            have HWW := HW3
            go_wp2
            go_ret2
            refine ⟨?_, HWW.out⟩
            rw [HN.out]
            rfl
          | true =>
            rcases hbad with hbad | hbad
            · have hd : decide (n < 0) = true := decide_eq_true hbad
              go_wp2_with fail
              refine (C.out _).mono ?_
              rintro e w2 ⟨rfl, hb2⟩
              have HW3 := Lib.hid (below_step HWW.out hb2)
              clear hb2 HWW
              have HWW := HW3
              go_wp2
              go_ret2
              refine ⟨?_, HWW.out⟩
              rw [HN.out]
              rfl
            · have hd : decide (n < 0) = false := decide_eq_false (by omega)
              have hd2 : decide (1099511627776 < n) = true := decide_eq_true hbad
              go_wp2_with fail
              refine (C.out _).mono ?_
              rintro e w2 ⟨rfl, hb2⟩
              have HW3 := Lib.hid (below_step HWW.out hb2)
              clear hb2 HWW
              have HWW := HW3
              go_wp2
              go_ret2
              refine ⟨?_, HWW.out⟩
              rw [HN.out]
              rfl
      have hokt : ok = true := by
        cases ok with
        | false => exact absurd (.inl rfl) hbad
        | true => rfl
      subst hokt
      have hn1 : 0 ≤ n := by omega
      have hn2 : n ≤ 1099511627776 := by omega
      have HV2 := Lib.hid (HV.out.trans (if_neg hbad))
      have hd : decide (n < 0) = false := decide_eq_false (by omega)
      have hd2 : decide (1099511627776 < n) = false := decide_eq_false (by omega)
      have ha2 : acc + 240 * n ≤ 263882790666240 * ((k : Int) + 1) := by omega
      have ha3 : acc + 12 * n ≤ 263882790666240 * ((k : Int) + 1) := by omega
      have ha4 : acc + n ≤ 263882790666240 * ((k : Int) + 1) := by omega
      have HA := Lib.hid (And.intro ha2 (And.intro ha3 ha4))
      have hmax : acc ≤ 791648371998720 := by omega
      clear hbad HV ha1 ha2 ha3 ha4
      by_cases hc : b[b.size - 1]'hlast = 108
      · have f1 : (((b[b.size - 1]'hlast).toNat : Int) == 108) = true := beq_iff_eq.2 (by rw [hc]; rfl)
        have HST : Hid (Tx.rSum 0 (ws.take 4) = Tx.rSum (acc + 240 * n) ((ws.take 4).drop (k + 1))) := Lib.hid (by rw [HSTEP.out, HV2.out, hc]; rfl)
        clear hc HSTEP HV2 HNO HT
        go_wp2_with fail
        refine (C.out _).mono ?_
        rintro e w2 ⟨rfl, hb2⟩
        have HW3 := Lib.hid (And.intro (below_step HWW.out hb2) (below_step HW2.out hb2))
        clear hb2 HWW HW2 c0
        go_wp2
        go_roundw
        case rel => exact ⟨k + 1, acc + 240 * n, by omega, by omega, by go_num, by go_num, by omega, by have := HA.out.1; push_cast; omega, Lib.hid ⟨HST.out, HW3.out.1, HW3.out.2⟩⟩
        case measure => simp [intOf]; omega
      have f1 : (((b[b.size - 1]'hlast).toNat : Int) == 108) = false := beq_eq_false_iff_ne.2 fun e => hc (UInt8.toNat_inj.1 (by show _ = 108; omega))
      by_cases hc2 : b[b.size - 1]'hlast = 115
      · have f2 : (((b[b.size - 1]'hlast).toNat : Int) == 115) = true := beq_iff_eq.2 (by rw [hc2]; rfl)
        have HST : Hid (Tx.rSum 0 (ws.take 4) = Tx.rSum (acc + 12 * n) ((ws.take 4).drop (k + 1))) := Lib.hid (by rw [HSTEP.out, HV2.out, hc2]; rfl)
        clear hc hc2 HSTEP HV2 HNO HT
        go_wp2_with fail
        refine (C.out _).mono ?_
        rintro e w2 ⟨rfl, hb2⟩
        have HW3 := Lib.hid (And.intro (below_step HWW.out hb2) (below_step HW2.out hb2))
        clear hb2 HWW HW2 c0
        go_wp2
        go_roundw
        case rel => exact ⟨k + 1, acc + 12 * n, by omega, by omega, by go_num, by go_num, by omega, by have := HA.out.2.1; push_cast; omega, Lib.hid ⟨HST.out, HW3.out.1, HW3.out.2⟩⟩
        case measure => simp [intOf]; omega
      have f2 : (((b[b.size - 1]'hlast).toNat : Int) == 115) = false := beq_eq_false_iff_ne.2 fun e => hc2 (UInt8.toNat_inj.1 (by show _ = 115; omega))
      by_cases hc3 : b[b.size - 1]'hlast = 100
      · have f3 : (((b[b.size - 1]'hlast).toNat : Int) == 100) = true := beq_iff_eq.2 (by rw [hc3]; rfl)
        have HST : Hid (Tx.rSum 0 (ws.take 4) = Tx.rSum (acc + n) ((ws.take 4).drop (k + 1))) := Lib.hid (by rw [HSTEP.out, HV2.out, hc3]; show Tx.rSum (acc + 1 * n) _ = _; rw [Int.one_mul])
        clear hc hc2 hc3 HSTEP HV2 HNO HT
        go_wp2_with fail
        refine (C.out _).mono ?_
        rintro e w2 ⟨rfl, hb2⟩
        have HW3 := Lib.hid (And.intro (below_step HWW.out hb2) (below_step HW2.out hb2))
        clear hb2 HWW HW2 c0
        go_wp2
        go_roundw
        case rel => exact ⟨k + 1, acc + n, by omega, by omega, by go_num, by go_num, by omega, by have := HA.out.2.2; push_cast; omega, Lib.hid ⟨HST.out, HW3.out.1, HW3.out.2⟩⟩
        case measure => simp [intOf]; omega
      have f3 : (((b[b.size - 1]'hlast).toNat : Int) == 100) = false := beq_eq_false_iff_ne.2 fun e => hc3 (UInt8.toNat_inj.1 (by show _ = 100; omega))
      have HN := Lib.hid (HNO.out (by rw [HV2.out]; unfold Tx.unitV; rw [if_neg hc, if_neg hc2, if_neg hc3]; rfl))
      clear hc hc2 hc3 HSTEP HV2 HNO HT
      go_wp2_with fail
      refine (C.out _).mono ?_
      rintro e w2 ⟨rfl, hb2⟩
      have HW3 := Lib.hid (below_step HWW.out hb2)
      clear hb2 HWW
      have HWW := HW3
      go_wp2
      go_ret2
      refine ⟨?_, HWW.out⟩
      rw [HN.out]
      rfl
    · have hnd : ws.length ≤ k ∨ k = 4 := by omega
      have hsum : Tx.rSum 0 (ws.take 4) = some acc := by
        rw [hg.out.1, List.drop_of_length_le (by simp; omega), Tx.rSum]
      have HRT : Hid (Tx.rT s.data.toList = some (-1 * acc)) := Lib.hid (by rw [HT.out, hsum]; rfl)
      have HWW := Lib.hid hg.out.2.1
      have hmx : acc ≤ 1055531162664960 := by omega
      have hguard : (¬ (k : Int) < (ws.length : Int)) ∨ (((k : Int) < (ws.length : Int)) ∧ ¬ (k : Int) < 4) := by omega
      clear hsum hg HT HB HBD hnd hlt ha1
      have C := Lib.hid (fun W => refFormatMoney_any (-acc) W)
      unfold MonSays at C
      have HP2 : Hid (Tx.rT s.data.toList = some (-acc)) := Lib.hid (by rw [HRT.out]; congr 1; omega)
      clear HRT
      rcases hguard with hk1 | ⟨hk1, hk2⟩
      all_goals
        by_cases hi : Tx.inM (-acc) = true
        case neg =>
          rw [if_neg hi, if_neg hi] at C
          have HN := Lib.hid (read_same (f := Tx.rT) HP2.out (by unfold Tx.okM; simp [hi]))
          clear hi HP2
          go_wp2_with fail
          refine (C.out _).mono ?_
          rintro e w2 ⟨rfl, hb2⟩
          have hw2 := below_step HWW.out hb2
          clear hb2
          go_wp2
          go_ret2
          refine ⟨?_, hw2⟩
          rw [HN.out]
          rfl
        rw [if_pos hi, if_pos hi] at C
        by_cases he : Tx.fmtM (-acc) = s.data.toList
        case neg =>
          have HN := Lib.hid (read_same (f := Tx.rT) HP2.out (by unfold Tx.okM; simp [he]))
          have q1 : (Tx.fmtM (-acc) == s.toList) = false := by rw [toList_data]; simpa using he
          have q2 : (Tx.fmtM (-acc) != s.toList) = true := by rw [toList_data]; simpa using he
          clear hi he HP2
          generalize Tx.fmtM (-acc) = tx at *
          go_wp2_with fail
          refine (C.out _).mono ?_
          rintro e w2 ⟨rfl, hb2⟩
          have hw2 := below_step HWW.out hb2
          clear hb2
          go_wp2
          go_ret2
          refine ⟨?_, hw2⟩
          rw [HN.out]
          rfl
        have HN := Lib.hid (read_good (f := Tx.rT) HP2.out (by unfold Tx.okM; simp [he, hi]))
        have q1 : (Tx.fmtM (-acc) == s.toList) = true := by rw [toList_data]; simpa using he
        have q2 : (Tx.fmtM (-acc) != s.toList) = false := by rw [toList_data]; simpa using he
        clear hi he HP2
        generalize Tx.fmtM (-acc) = tx at *
        go_wp2_with fail
        refine (C.out _).mono ?_
        rintro e w2 ⟨rfl, hb2⟩
        have hw2 := below_step HWW.out hb2
        clear hb2
        go_wp2
        go_ret2
        refine ⟨?_, hw2⟩
        rw [HN.out]
        rfl

set_option maxRecDepth 20000 in
set_option maxHeartbeats 4000000 in
theorem refMoney_plus (s : ByteArray) (w : World) (hs : s.size ≤ 100000) (h45 : (hpos : 0 < s.size) → ((s[0].toNat : Int) == 45) = false) (hdg : (s).data.toList = Tx.digs s.data.toList) (hsg : Tx.sgn s.data.toList = 1) :
    Calls Tryz.prog 83 #[.string s] w (ReadSays (Tx.ansM s.data.toList (Tx.rT s.data.toList)) w) := by
  have hsz : s.data.toList.length = s.size := by rw [Array.length_toList]; rfl
  have hal : (Tx.digs s.data.toList).length ≤ s.data.toList.length := by unfold Tx.digs; split <;> simp
  have h0s : (s).size ≤ 100000 := by
    have : (s).data.toList.length = (s).size := by rw [Array.length_toList]; rfl
    rw [hdg] at this; omega
  have HS := Lib.hid (split_any (s) 32 w h0s)
  rw [hdg] at HS
  have hbd := spl_bd 32 (Tx.digs s.data.toList)
  have hln := Tx.spl_len 32 (Tx.digs s.data.toList)
  have hne := Tx.spl_ne 32 (Tx.digs s.data.toList)
  have hT : Tx.rT s.data.toList = (Tx.rSum 0 ((Tx.spl 32 (Tx.digs s.data.toList)).take 4)).map fun v => 1 * v := by unfold Tx.rT; rw [hsg]
  unfold SplSays at HS
  generalize Tx.spl 32 (Tx.digs s.data.toList) = ws at *
  have hn : ws.length ≤ 100001 := by omega
  have hn0 : 0 < ws.length := List.length_pos_iff.2 hne
  have HBD := Lib.hid (fun k (hk : k < ws.length) => (show ws[k].length ≤ 100000 by have := hbd ws[k] (List.getElem_mem hk); omega))
  have HT := Lib.hid hT
  clear hsz hal hbd hln hT hs hdg hsg hne h0s
  have hz : (¬ 0 < s.size) ∨ (∃ h : 0 < s.size, ((s[0].toNat : Int) == 45) = false) := by
    by_cases h : 0 < s.size
    · exact .inr ⟨h, h45 h⟩
    · exact .inl h
  clear h45
  rcases hz with hz | ⟨hpos, h45⟩
  all_goals
    go_enter Tryz.func83, Tryz.ntmps83
    go_wp2_with fail
    refine HS.out.mono ?_
    rintro e w1 ⟨u, rfl, hown, hb1⟩
    obtain ⟨g, cp, rfl, hcp, hg1, hg2, hcell⟩ := hown.form hn0
    have HB := Lib.hid (And.intro hcell (And.intro hg2 hb1))
    clear hcell hb1 HS hg1 hg2 hcp hown
    try clear h45
    try clear hpos
    try clear hz
    go_wp2
    go_loopw [7, 8] (fun p t wr => ∃ (k : Nat) (acc : Int), k ≤ ws.length ∧ k ≤ 4 ∧ t = .int .i64 k ∧ p = .int .i64 acc ∧ 0 ≤ acc ∧ acc ≤ 263882790666240 * (k : Int) ∧ Hid (Tx.rSum 0 (ws.take 4) = Tx.rSum acc ((ws.take 4).drop k) ∧ Below w.heap.size w wr ∧ Below w1.heap.size w1 wr)) (fun _ t _ => ws.length - (intOf t).toNat)
    case atStart => exact ⟨0, 0, Nat.zero_le _, by omega, rfl, rfl, by omega, by omega, Lib.hid ⟨rfl, HB.out.2.2, Below.refl _ _⟩⟩
    case round =>
      obtain ⟨k, acc, hk, hk4, rfl, rfl, ha0, ha1, hg⟩ := hrel
      by_cases hlt : k < ws.length ∧ k < 4
      · obtain ⟨hlt, hlt4⟩ := hlt
        have hdr : (ws.take 4).drop k = ws[k] :: (ws.take 4).drop (k + 1) := by
          rw [List.drop_eq_getElem_cons (by simp; omega)]; simp
        have c0 := (hg.out.2.2.cell (p := ⟨g, k, none⟩) HB.out.2.1).trans (HB.out.1 k hlt)
        have hx5 := HBD.out k hlt
        have ht4 : decide ((k : Int) < 4) = true := decide_eq_true (by omega)
        have ht5 : decide (k < 4) = true := decide_eq_true hlt4
        obtain ⟨b, hb⟩ : ∃ b : ByteArray, b = ⟨ws[k].toArray⟩ := ⟨_, rfl⟩
        have hbl : b.data.toList = ws[k] := by rw [hb]
        have hbs : b.size = ws[k].length := by rw [← hbl, Array.length_toList]; rfl
        rw [← hb] at c0
        rw [← hbl] at hdr
        have hb1 : b.size ≤ 100000 := by omega
        have HSTEP : Hid (Tx.rSum 0 (ws.take 4) = match Tx.rV b.data.toList with
            | none => none
            | some v => Tx.rSum (acc + v) ((ws.take 4).drop (k + 1))) := Lib.hid (by rw [hg.out.1, hdr, Tx.rSum]; cases Tx.rV b.data.toList <;> rfl)
        have HWW := Lib.hid hg.out.2.1
        have HW2 := Lib.hid hg.out.2.2
        have hdl : b.data.toList.length = b.size := by rw [Array.length_toList]; rfl
        have hno : Tx.rV b.data.toList = none → Tx.ansM s.data.toList (Tx.rT s.data.toList) = (0, 3) := fun h => by
          rw [HT.out, HSTEP.out, h]; rfl
        have HNO := Lib.hid hno
        clear hdr hb hbl hbs hg hno hx5 HB HBD
        by_cases h2 : b.size < 2
        · have HN := Lib.hid (HNO.out (by unfold Tx.rV; rw [if_pos (by omega)]))
          clear hdl HNO HSTEP HT
          go_wp2
          go_ret2
          refine ⟨?_, HWW.out⟩
          rw [HN.out]
          rfl
        have hlast : b.size - 1 < b.size := by omega
        have hlb : Tx.lastB b.data.toList = b[b.size - 1]'hlast := by
          unfold Tx.lastB
          rw [hdl, List.getD_eq_getElem?_getD, List.getElem?_eq_getElem (by rw [hdl]; exact hlast)]; rfl
        have hx : b.extract 0 (b.size - 1) = ⟨(Tx.headW b.data.toList).toArray⟩ := by
          rw [extract_is]; unfold Tx.headW; rw [hdl]; simp
        have hhs : (⟨(Tx.headW b.data.toList).toArray⟩ : ByteArray).size ≤ 100000 := by
          show (Tx.headW b.data.toList).toArray.size ≤ _; unfold Tx.headW; simp; omega
        have hbk : (⟨(Tx.headW b.data.toList).toArray⟩ : ByteArray).data.toList = Tx.headW b.data.toList := by simp
        have C := Lib.hid (fun W => number_any ⟨(Tx.headW b.data.toList).toArray⟩ W hhs)
        unfold NumSays at C
        rw [← hx] at C
        have hbk2 : (b.extract 0 (b.size - 1)).data.toList = Tx.headW b.data.toList := by rw [hx]
        rw [hbk2] at C
        have hrV : Tx.rV b.data.toList = if (Tx.numR (Tx.headW b.data.toList)).2 = false ∨ (Tx.numR (Tx.headW b.data.toList)).1 < 0 ∨ 1099511627776 < (Tx.numR (Tx.headW b.data.toList)).1 then none else (Tx.unitV (b[b.size - 1]'hlast)).map fun k => k * (Tx.numR (Tx.headW b.data.toList)).1 := by
          unfold Tx.rV; rw [if_neg (by omega), hlb]
        have HV := Lib.hid hrV
        clear hlb hx hhs hbk hbk2 hrV hdl
        generalize Tx.numR (Tx.headW b.data.toList) = nr at *
        obtain ⟨n, ok⟩ := nr
        dsimp only at C HV
        by_cases hbad : ok = false ∨ n < 0 ∨ 1099511627776 < n
        · have HN := Lib.hid (HNO.out (by rw [HV.out, if_pos hbad]))
          clear HNO HSTEP HT HV
          rcases hbad with hbad | hbad
          · subst hbad
            go_wp2_with fail
            refine (C.out _).mono ?_
            rintro e w2 ⟨rfl, hb2⟩
            have HW3 := Lib.hid (below_step HWW.out hb2)
            clear hb2 HWW
            have HWW := HW3
            go_wp2
            go_ret2
            refine ⟨?_, HWW.out⟩
            rw [HN.out]
            rfl
          · cases ok with
            | false =>
              go_wp2_with fail
              refine (C.out _).mono ?_
              rintro e w2 ⟨rfl, hb2⟩
              have HW3 := Lib.hid (below_step HWW.out hb2)
              clear hb2 HWW
              have HWW := HW3
              go_wp2
              go_ret2
              refine ⟨?_, HWW.out⟩
              rw [HN.out]
              rfl
            | true =>
              rcases hbad with hbad | hbad
              · have hd : decide (n < 0) = true := decide_eq_true hbad
                go_wp2_with fail
                refine (C.out _).mono ?_
                rintro e w2 ⟨rfl, hb2⟩
                have HW3 := Lib.hid (below_step HWW.out hb2)
                clear hb2 HWW
                have HWW := HW3
                go_wp2
                go_ret2
                refine ⟨?_, HWW.out⟩
                rw [HN.out]
                rfl
              · have hd : decide (n < 0) = false := decide_eq_false (by omega)
                have hd2 : decide (1099511627776 < n) = true := decide_eq_true hbad
                go_wp2_with fail
                refine (C.out _).mono ?_
                rintro e w2 ⟨rfl, hb2⟩
                have HW3 := Lib.hid (below_step HWW.out hb2)
                clear hb2 HWW
                have HWW := HW3
                go_wp2
                go_ret2
                refine ⟨?_, HWW.out⟩
                rw [HN.out]
                rfl
        have hokt : ok = true := by
          cases ok with
          | false => exact absurd (.inl rfl) hbad
          | true => rfl
        subst hokt
        have hn1 : 0 ≤ n := by omega
        have hn2 : n ≤ 1099511627776 := by omega
        have HV2 := Lib.hid (HV.out.trans (if_neg hbad))
        have hd : decide (n < 0) = false := decide_eq_false (by omega)
        have hd2 : decide (1099511627776 < n) = false := decide_eq_false (by omega)
        have ha2 : acc + 240 * n ≤ 263882790666240 * ((k : Int) + 1) := by omega
        have ha3 : acc + 12 * n ≤ 263882790666240 * ((k : Int) + 1) := by omega
        have ha4 : acc + n ≤ 263882790666240 * ((k : Int) + 1) := by omega
        have HA := Lib.hid (And.intro ha2 (And.intro ha3 ha4))
        have hmax : acc ≤ 791648371998720 := by omega
        clear hbad HV ha1 ha2 ha3 ha4
        by_cases hc : b[b.size - 1]'hlast = 108
        · have f1 : (((b[b.size - 1]'hlast).toNat : Int) == 108) = true := beq_iff_eq.2 (by rw [hc]; rfl)
          have HST : Hid (Tx.rSum 0 (ws.take 4) = Tx.rSum (acc + 240 * n) ((ws.take 4).drop (k + 1))) := Lib.hid (by rw [HSTEP.out, HV2.out, hc]; rfl)
          clear hc HSTEP HV2 HNO HT
          go_wp2_with fail
          refine (C.out _).mono ?_
          rintro e w2 ⟨rfl, hb2⟩
          have HW3 := Lib.hid (And.intro (below_step HWW.out hb2) (below_step HW2.out hb2))
          clear hb2 HWW HW2 c0
          go_wp2
          go_roundw
          case rel => exact ⟨k + 1, acc + 240 * n, by omega, by omega, by go_num, by go_num, by omega, by have := HA.out.1; push_cast; omega, Lib.hid ⟨HST.out, HW3.out.1, HW3.out.2⟩⟩
          case measure => simp [intOf]; omega
        have f1 : (((b[b.size - 1]'hlast).toNat : Int) == 108) = false := beq_eq_false_iff_ne.2 fun e => hc (UInt8.toNat_inj.1 (by show _ = 108; omega))
        by_cases hc2 : b[b.size - 1]'hlast = 115
        · have f2 : (((b[b.size - 1]'hlast).toNat : Int) == 115) = true := beq_iff_eq.2 (by rw [hc2]; rfl)
          have HST : Hid (Tx.rSum 0 (ws.take 4) = Tx.rSum (acc + 12 * n) ((ws.take 4).drop (k + 1))) := Lib.hid (by rw [HSTEP.out, HV2.out, hc2]; rfl)
          clear hc hc2 HSTEP HV2 HNO HT
          go_wp2_with fail
          refine (C.out _).mono ?_
          rintro e w2 ⟨rfl, hb2⟩
          have HW3 := Lib.hid (And.intro (below_step HWW.out hb2) (below_step HW2.out hb2))
          clear hb2 HWW HW2 c0
          go_wp2
          go_roundw
          case rel => exact ⟨k + 1, acc + 12 * n, by omega, by omega, by go_num, by go_num, by omega, by have := HA.out.2.1; push_cast; omega, Lib.hid ⟨HST.out, HW3.out.1, HW3.out.2⟩⟩
          case measure => simp [intOf]; omega
        have f2 : (((b[b.size - 1]'hlast).toNat : Int) == 115) = false := beq_eq_false_iff_ne.2 fun e => hc2 (UInt8.toNat_inj.1 (by show _ = 115; omega))
        by_cases hc3 : b[b.size - 1]'hlast = 100
        · have f3 : (((b[b.size - 1]'hlast).toNat : Int) == 100) = true := beq_iff_eq.2 (by rw [hc3]; rfl)
          have HST : Hid (Tx.rSum 0 (ws.take 4) = Tx.rSum (acc + n) ((ws.take 4).drop (k + 1))) := Lib.hid (by rw [HSTEP.out, HV2.out, hc3]; show Tx.rSum (acc + 1 * n) _ = _; rw [Int.one_mul])
          clear hc hc2 hc3 HSTEP HV2 HNO HT
          go_wp2_with fail
          refine (C.out _).mono ?_
          rintro e w2 ⟨rfl, hb2⟩
          have HW3 := Lib.hid (And.intro (below_step HWW.out hb2) (below_step HW2.out hb2))
          clear hb2 HWW HW2 c0
          go_wp2
          go_roundw
          case rel => exact ⟨k + 1, acc + n, by omega, by omega, by go_num, by go_num, by omega, by have := HA.out.2.2; push_cast; omega, Lib.hid ⟨HST.out, HW3.out.1, HW3.out.2⟩⟩
          case measure => simp [intOf]; omega
        have f3 : (((b[b.size - 1]'hlast).toNat : Int) == 100) = false := beq_eq_false_iff_ne.2 fun e => hc3 (UInt8.toNat_inj.1 (by show _ = 100; omega))
        have HN := Lib.hid (HNO.out (by rw [HV2.out]; unfold Tx.unitV; rw [if_neg hc, if_neg hc2, if_neg hc3]; rfl))
        clear hc hc2 hc3 HSTEP HV2 HNO HT
        go_wp2_with fail
        refine (C.out _).mono ?_
        rintro e w2 ⟨rfl, hb2⟩
        have HW3 := Lib.hid (below_step HWW.out hb2)
        clear hb2 HWW
        have HWW := HW3
        go_wp2
        go_ret2
        refine ⟨?_, HWW.out⟩
        rw [HN.out]
        rfl
      · have hnd : ws.length ≤ k ∨ k = 4 := by omega
        have hsum : Tx.rSum 0 (ws.take 4) = some acc := by
          rw [hg.out.1, List.drop_of_length_le (by simp; omega), Tx.rSum]
        have HRT : Hid (Tx.rT s.data.toList = some (1 * acc)) := Lib.hid (by rw [HT.out, hsum]; rfl)
        have HWW := Lib.hid hg.out.2.1
        have hmx : acc ≤ 1055531162664960 := by omega
        have hguard : (¬ (k : Int) < (ws.length : Int)) ∨ (((k : Int) < (ws.length : Int)) ∧ ¬ (k : Int) < 4) := by omega
        clear hsum hg HT HB HBD hnd hlt ha1
        have C := Lib.hid (fun W => refFormatMoney_any acc W)
        unfold MonSays at C
        have HP2 : Hid (Tx.rT s.data.toList = some acc) := Lib.hid (by rw [HRT.out]; congr 1; omega)
        clear HRT
        rcases hguard with hk1 | ⟨hk1, hk2⟩
        all_goals
          by_cases hi : Tx.inM acc = true
          case neg =>
            rw [if_neg hi, if_neg hi] at C
            have HN := Lib.hid (read_same (f := Tx.rT) HP2.out (by unfold Tx.okM; simp [hi]))
            clear hi HP2
            go_wp2_with fail
            refine (C.out _).mono ?_
            rintro e w2 ⟨rfl, hb2⟩
            have hw2 := below_step HWW.out hb2
            clear hb2
            go_wp2
            go_ret2
            refine ⟨?_, hw2⟩
            rw [HN.out]
            rfl
          rw [if_pos hi, if_pos hi] at C
          by_cases he : Tx.fmtM acc = s.data.toList
          case neg =>
            have HN := Lib.hid (read_same (f := Tx.rT) HP2.out (by unfold Tx.okM; simp [he]))
            have q1 : (Tx.fmtM acc == s.toList) = false := by rw [toList_data]; simpa using he
            have q2 : (Tx.fmtM acc != s.toList) = true := by rw [toList_data]; simpa using he
            clear hi he HP2
            generalize Tx.fmtM acc = tx at *
            go_wp2_with fail
            refine (C.out _).mono ?_
            rintro e w2 ⟨rfl, hb2⟩
            have hw2 := below_step HWW.out hb2
            clear hb2
            go_wp2
            go_ret2
            refine ⟨?_, hw2⟩
            rw [HN.out]
            rfl
          have HN := Lib.hid (read_good (f := Tx.rT) HP2.out (by unfold Tx.okM; simp [he, hi]))
          have q1 : (Tx.fmtM acc == s.toList) = true := by rw [toList_data]; simpa using he
          have q2 : (Tx.fmtM acc != s.toList) = false := by rw [toList_data]; simpa using he
          clear hi he HP2
          generalize Tx.fmtM acc = tx at *
          go_wp2_with fail
          refine (C.out _).mono ?_
          rintro e w2 ⟨rfl, hb2⟩
          have hw2 := below_step HWW.out hb2
          clear hb2
          go_wp2
          go_ret2
          refine ⟨?_, hw2⟩
          rw [HN.out]
          rfl

theorem refParseMoney_any (s : ByteArray) (w : World) (hs : s.size ≤ 100000) :
    Calls Tryz.prog 83 #[.string s] w (ReadSays (Tx.ansM s.data.toList (Tx.rT s.data.toList)) w) := by
  have hsz : s.data.toList.length = s.size := by rw [Array.length_toList]; rfl
  by_cases hh : s.data.toList.head? = some 45
  · have hpos : 0 < s.size := by
      cases hl : s.data.toList with
      | nil => rw [hl] at hh; simp at hh
      | cons x r => rw [← hsz, hl]; simp
    have hhd : s.data.toList.head? = some (s[0]'hpos) := by
      rw [List.head?_eq_getElem?, List.getElem?_eq_getElem (by rw [hsz]; exact hpos)]; rfl
    refine refMoney_minus s w hs hpos (beq_iff_eq.2 ?_) ?_ (by unfold Tx.sgn; rw [if_pos hh])
    · rw [hhd] at hh
      simp only [Option.some.injEq] at hh
      rw [hh]; rfl
    · rw [extract_is, ← hsz, List.take_length]
      unfold Tx.digs
      rw [if_pos hh]
  · refine refMoney_plus s w hs (fun hpos => beq_eq_false_iff_ne.2 fun e => hh ?_) (by unfold Tx.digs; rw [if_neg hh]) (by unfold Tx.sgn; rw [if_neg hh])
    have hhd : s.data.toList.head? = some (s[0]'hpos) := by
      rw [List.head?_eq_getElem?, List.getElem?_eq_getElem (by rw [hsz]; exact hpos)]; rfl
    rw [hhd]
    have h45 : s[0]'hpos = 45 := UInt8.toNat_inj.1 (by show _ = 45; omega)
    rw [h45]
end Go.Proofs.YtcljpklgpedolaaGreatDoor
