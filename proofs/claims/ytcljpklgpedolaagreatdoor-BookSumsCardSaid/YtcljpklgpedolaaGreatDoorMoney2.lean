/- Sums of money that are written: the program's and the reference's. -/
import Derived.Test.YtcljpklgpedolaaGreatDoorMoney1
namespace Go.Proofs.YtcljpklgpedolaaGreatDoor
open Go.RowKit Go.Sort

theorem strs_back (l : List (List UInt8)) : (l.map fun x => (⟨x.toArray⟩ : ByteArray)).map (·.data.toList) = l := by
  rw [List.map_map]
  conv => rhs; rw [← List.map_id l]
  refine List.map_congr_left fun x _ => ?_
  simp

set_option maxRecDepth 20000 in
set_option maxHeartbeats 1000000 in
theorem formatMoney_any (p : Int) (w : World) (hE : Env w) :
    Calls Tryz.prog 78 #[.int .i64 p] w (MonSays p w) := by
  by_cases hi : Tx.inM p = true
  case neg =>
    have hlo : p < -1099511627776 ∨ 1099511627776 < p := by
      unfold Tx.inM at hi
      simp only [Bool.and_eq_true, decide_eq_true_eq] at hi
      omega
    have HI := Lib.hid hi
    rcases hlo with hlo | hlo
    · have hd : decide (p < -1099511627776) = true := decide_eq_true hlo
      clear hi hE
      go_enter Tryz.func78, Tryz.ntmps78
      go_wp2
      go_ret2
      refine ⟨?_, Below.refl _ _⟩
      rw [if_neg HI.out, if_neg HI.out]
      rfl
    · have hd : decide (p < -1099511627776) = false := decide_eq_false (by omega)
      have hd2 : decide (1099511627776 < p) = true := decide_eq_true hlo
      clear hi hE
      go_enter Tryz.func78, Tryz.ntmps78
      go_wp2
      go_ret2
      refine ⟨?_, Below.refl _ _⟩
      rw [if_neg HI.out, if_neg HI.out]
      rfl
  obtain ⟨p1, p2⟩ := Tx.inM_of hi
  have HI := Lib.hid hi
  clear hi
  have hda : decide (p < -1099511627776) = false := decide_eq_false (by omega)
  have hdb : decide (1099511627776 < p) = false := decide_eq_false (by omega)
  by_cases h0 : p = 0
  · subst h0
    go_enter Tryz.func78, Tryz.ntmps78
    go_wp2
    go_ret2
    refine ⟨?_, Below.refl _ _⟩
    rw [if_pos HI.out, if_pos HI.out]
    rfl
  have hne : (p == 0) = false := beq_eq_false_iff_ne.2 h0
  obtain ⟨n, hn⟩ : ∃ n : Nat, n = p.natAbs := ⟨_, rfl⟩
  have hn0 : 0 < n := by omega
  have hn1 : n ≤ 1099511627776 := by omega
  have HW := Lib.hid (Tx.mW_ne hn0)
  have HM : Hid (Tx.mW n = (([] ++ Tx.unit (n / 240) 108) ++ Tx.unit (n % 240 / 12) 115) ++ Tx.unit (n % 12) 100) := Lib.hid (by
    rw [show n % 240 / 12 = n / 12 % 20 by omega]; rfl)
  have hlen := Tx.mW_join_len (n := n) (by omega)
  have u1 : (Tx.unit (n / 240) 108).length ≤ 1 := by unfold Tx.unit; split <;> simp
  have u2 : (Tx.unit (n % 240 / 12) 115).length ≤ 1 := by unfold Tx.unit; split <;> simp
  have u3 : (Tx.unit (n % 12) 100).length ≤ 1 := by unfold Tx.unit; split <;> simp
  have HE := Lib.hid hE
  have A1 := Lib.hid (unit_any (.slice none 0 0) [] (n / 240) 108 w w.heap.size hE (Nat.le_refl _) (OwnS.nil _ _) (by omega) (by simp))
  have A2 := Lib.hid (fun v W (hb : Below w.heap.size w W) (ho : OwnS w.heap.size W v ([] ++ Tx.unit (n / 240) 108)) => unit_any v _ (n % 240 / 12) 115 W w.heap.size (HE.out.all hb) hb.size ho (by omega) (by simp; omega))
  have A3 := Lib.hid (fun v W (hb : Below w.heap.size w W) (ho : OwnS w.heap.size W v (([] ++ Tx.unit (n / 240) 108) ++ Tx.unit (n % 240 / 12) 115)) => unit_any v _ (n % 12) 100 W w.heap.size (HE.out.all hb) hb.size ho (by omega) (by simp; omega))
  have A1' : Hid (Calls Tryz.prog 101 #[.slice none 0 0, .int .i64 ((n : Int) / 240), .string ⟨#[108]⟩] w fun e w' => ∃ v', e = .returned v' ∧ OwnS w.heap.size w' v' ([] ++ Tx.unit (n / 240) 108) ∧ Below w.heap.size w w') := Lib.hid (by
    have := A1.out; rwa [show ((n / 240 : Nat) : Int) = (n : Int) / 240 by omega] at this)
  have A2' : Hid (∀ v W, Below w.heap.size w W → OwnS w.heap.size W v ([] ++ Tx.unit (n / 240) 108) → Calls Tryz.prog 101 #[v, .int .i64 ((n : Int) % 240 / 12), .string ⟨#[115]⟩] W fun e w' => ∃ v', e = .returned v' ∧ OwnS w.heap.size w' v' (([] ++ Tx.unit (n / 240) 108) ++ Tx.unit (n % 240 / 12) 115) ∧ Below w.heap.size W w') := Lib.hid (fun v W hb ho => by
    have := A2.out v W hb ho; rwa [show ((n % 240 / 12 : Nat) : Int) = (n : Int) % 240 / 12 by omega] at this)
  have A3' : Hid (∀ v W, Below w.heap.size w W → OwnS w.heap.size W v (([] ++ Tx.unit (n / 240) 108) ++ Tx.unit (n % 240 / 12) 115) → Calls Tryz.prog 101 #[v, .int .i64 ((n : Int) % 12), .string ⟨#[100]⟩] W fun e w' => ∃ v', e = .returned v' ∧ OwnS w.heap.size w' v' (Tx.mW n) ∧ Below w.heap.size W w') := Lib.hid (fun v W hb ho => by
    have := A3.out v W hb ho; rwa [show ((n % 12 : Nat) : Int) = (n : Int) % 12 by omega, ← HM.out] at this)
  have hL3 : (Tx.mW n).length ≤ 3 := Tx.mW_len n
  have hL0 : 0 < (Tx.mW n).length := List.length_pos_iff.2 HW.out
  clear A1 A2 A3 u1 u2 u3 hE HM HW h0 hn1
  have HN := Lib.hid hn
  by_cases hs : p < 0
  · have e1 : -p = (n : Int) := by omega
    have HFM : Hid (Tx.fmtM p = [45] ++ Lib.join (Tx.mW n) [32]) := Lib.hid (by unfold Tx.fmtM; rw [if_neg (by omega), if_pos hs, ← hn])
    have HX := Lib.hid (bytes_append [45] (Lib.join (Tx.mW n) [32]))
    have HE1 := Lib.hid e1
    have n0 : (0 : Int) ≤ (n : Int) := by omega
    have n2 : (n : Int) ≤ 1099511627776 := by omega
    clear hn e1 HN hn0
    generalize Tx.mW n = ss at *
    generalize ((n : Nat) : Int) = z at *
    go_enter Tryz.func78, Tryz.ntmps78
    go_upto_region 9 with fail
    rw [HE1.out]
    clear hs hda hdb hne p1 p2
    go_wp2_with fail
    refine A1'.out.mono ?_
    rintro e w1 ⟨v1, rfl, ho1, hb1⟩
    go_wp2_with fail
    refine (A2'.out _ _ hb1 ho1).mono ?_
    rintro e w2 ⟨v2, rfl, ho2, hb2⟩
    have hw2 := hb1.trans hb2
    clear hb1 hb2 ho1
    go_wp2_with fail
    refine (A3'.out _ _ hw2 ho2).mono ?_
    rintro e w3 ⟨v3, rfl, ho3, hb3⟩
    have hw3 := hw2.trans hb3
    clear hw2 hb3 ho2 A1' A2' A3'
    obtain ⟨g, cap, rfl, hcap, hg1, hg2, hcell⟩ := ho3.form hL0
    have J := Lib.hid (Tryz.strings_Join g 0 cap (ss.map fun x => (⟨x.toArray⟩ : ByteArray)) ⟨#[32]⟩ w3 (fun j x hx => by
      rw [List.getElem?_map] at hx
      cases hj : ss[j]? with
      | none => rw [hj] at hx; simp at hx
      | some y =>
        rw [hj] at hx
        simp only [Option.map_some, Option.some.injEq] at hx
        obtain ⟨hj1, hj2⟩ := List.getElem?_eq_some_iff.1 hj
        rw [Nat.zero_add, hcell j hj1, hj2, ← hx]) hg2 (by simp; omega) (by simpa using hcap) (by rw [strs_back]; show (Lib.join ss [32]).length ≤ _; omega))
    rw [strs_back, List.length_map] at J
    clear hcell
    go_wp2_with fail
    refine J.out.mono ?_
    rintro e w4 ⟨rfl, hb4⟩
    have hw4 := hw3.trans (hb4.mono (by omega))
    have hlen' : (Lib.join ss [32]).length ≤ 63 := hlen
    clear hb4 hw3 J ho3
    have hj : Lib.join ss (⟨#[32]⟩ : ByteArray).data.toList = Lib.join ss [32] := rfl
    rw [hj]
    clear hj
    generalize Lib.join ss [32] = x at *
    go_wp2
    go_ret2
    refine ⟨?_, hw4⟩
    rw [if_pos HI.out, if_pos HI.out, HFM.out, ← HX.out]
    rfl
  · have e1 : p = (n : Int) := by omega
    subst e1
    have HFM : Hid (Tx.fmtM (n : Int) = [] ++ Lib.join (Tx.mW n) [32]) := Lib.hid (by unfold Tx.fmtM; rw [if_neg (by omega), if_neg hs, ← hn])
    have HX := Lib.hid (bytes_append [] (Lib.join (Tx.mW n) [32]))
    have n0 : (0 : Int) ≤ (n : Int) := by omega
    have n2 : (n : Int) ≤ 1099511627776 := by omega
    clear hn HN hn0
    generalize Tx.mW n = ss at *
    generalize ((n : Nat) : Int) = z at *
    go_enter Tryz.func78, Tryz.ntmps78
    go_upto_region 9 with fail
    clear hs hda hdb hne p1 p2
    go_wp2_with fail
    refine A1'.out.mono ?_
    rintro e w1 ⟨v1, rfl, ho1, hb1⟩
    go_wp2_with fail
    refine (A2'.out _ _ hb1 ho1).mono ?_
    rintro e w2 ⟨v2, rfl, ho2, hb2⟩
    have hw2 := hb1.trans hb2
    clear hb1 hb2 ho1
    go_wp2_with fail
    refine (A3'.out _ _ hw2 ho2).mono ?_
    rintro e w3 ⟨v3, rfl, ho3, hb3⟩
    have hw3 := hw2.trans hb3
    clear hw2 hb3 ho2 A1' A2' A3'
    obtain ⟨g, cap, rfl, hcap, hg1, hg2, hcell⟩ := ho3.form hL0
    have J := Lib.hid (Tryz.strings_Join g 0 cap (ss.map fun x => (⟨x.toArray⟩ : ByteArray)) ⟨#[32]⟩ w3 (fun j x hx => by
      rw [List.getElem?_map] at hx
      cases hj : ss[j]? with
      | none => rw [hj] at hx; simp at hx
      | some y =>
        rw [hj] at hx
        simp only [Option.map_some, Option.some.injEq] at hx
        obtain ⟨hj1, hj2⟩ := List.getElem?_eq_some_iff.1 hj
        rw [Nat.zero_add, hcell j hj1, hj2, ← hx]) hg2 (by simp; omega) (by simpa using hcap) (by rw [strs_back]; show (Lib.join ss [32]).length ≤ _; omega))
    rw [strs_back, List.length_map] at J
    clear hcell
    go_wp2_with fail
    refine J.out.mono ?_
    rintro e w4 ⟨rfl, hb4⟩
    have hw4 := hw3.trans (hb4.mono (by omega))
    clear hb4 hw3 J ho3
    have hj : Lib.join ss (⟨#[32]⟩ : ByteArray).data.toList = Lib.join ss [32] := rfl
    rw [hj]
    clear hj
    generalize Lib.join ss [32] = x at *
    go_wp2
    go_ret2
    refine ⟨?_, hw4⟩
    rw [if_pos HI.out, if_pos HI.out, HFM.out, ← HX.out]
    rfl
end Go.Proofs.YtcljpklgpedolaaGreatDoor
