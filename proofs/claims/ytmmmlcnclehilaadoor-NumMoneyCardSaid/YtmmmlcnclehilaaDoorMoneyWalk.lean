/- NumMoney returns true, whatever the sum and the text. -/
import Derived.Test.YtmmmlcnclehilaaDoorMoney6
import Derived.Test.YtmmmlcnclehilaaDoorMoney0
namespace Go.Proofs.YtmmmlcnclehilaaDoor
open Go.RowKit Go.Sort

set_option maxRecDepth 20000 in
set_option maxHeartbeats 2000000 in
theorem money_walk (p : Int) (s : ByteArray) (w : World) (h : Env w) (hms : s.size ≤ 9223372036854775807) :
    Calls Tryd.prog 6 #[.int .i64 p, .string s] w fun e w' => e = .returned (.bool true) ∧ Below w.heap.size w w' := by
  have b0 := Lib.hid (Below.refl w.heap.size w)
  by_cases hl : 1000 < s.size
  · have hl' : (1000 : Int) < (s.size : Int) := by omega
    clear hl h
    go_enter Tryd.func6, Tryd.ntmps6
    go_wp2_with fail
    refine (known_any _).mono ?_
    rintro e w1 ⟨rfl, hb1⟩
    go_wp2
    go_ret
    exact ⟨rfl, hb1⟩
  have hl' : ¬ (1000 : Int) < (s.size : Int) := by omega
  have hs : s.size ≤ 100000 := by omega
  have CF := Lib.hid (fun W (hW : Below w.heap.size w W) => formatMoney_any p W (h.all hW))
  have DF := Lib.hid (fun W => refFormatMoney_any p W)
  have CP := Lib.hid (fun W (hW : Below w.heap.size w W) => parseMoney_any s W (h.all hW) hs)
  have DP := Lib.hid (fun W => refParseMoney_any s W hs)
  have hsz : (⟨(if Tx.inM p = true then Tx.fmtM p else []).toArray⟩ : ByteArray).size ≤ 100000 := by
    show (if Tx.inM p = true then Tx.fmtM p else []).toArray.size ≤ _
    simp only [List.size_toArray]
    split
    · rename_i hi
      have := Tx.inM_of hi
      have hj := Tx.mW_join_len (n := p.natAbs) (by omega)
      unfold Tx.fmtM
      split
      · simp
      · rw [List.length_append]
        split <;> simp <;> omega
    · simp
  have CB := Lib.hid (fun W (hW : Below w.heap.size w W) => parseMoney_any ⟨(if Tx.inM p = true then Tx.fmtM p else []).toArray⟩ W (h.all hW) hsz)
  unfold ReadSays at CP DP CB
  unfold MonSays at CF DF
  rw [← Tx.money_same fits64] at DP
  generalize Tx.ansM s.data.toList (Tx.pT wrap64 s.data.toList) = X at *
  obtain ⟨xn, xe⟩ := X
  dsimp only at CP DP
  have e1 : (xn != xn) = false := by simp
  have e3 : (xe != xe) = false := by simp
  clear hsz hs hl h
  cases hk : Tx.inM p with
  | false =>
    rw [hk] at CF DF CB
    simp only [Bool.false_eq_true, if_false] at CF DF CB
    generalize Tx.ansM _ (Tx.pT wrap64 _) = Y at CB
    obtain ⟨yn, ye⟩ := Y
    dsimp only at CB
    clear hk
    go_enter Tryd.func6, Tryd.ntmps6
    go_wp2_with fail
    refine (CF.out _ b0.out).mono ?_
    rintro e w1 ⟨rfl, hw1⟩
    go_wp2_with fail
    refine (DF.out _).mono ?_
    rintro e w2 ⟨rfl, hb2⟩
    have hw2 := below_step hw1 hb2
    clear hb2 hw1
    go_wp2_with fail
    refine (CP.out _ hw2).mono ?_
    rintro e w3 ⟨rfl, hb3⟩
    have hw3 := below_step hw2 hb3
    clear hb3 hw2
    go_wp2_with fail
    refine (DP.out _).mono ?_
    rintro e w4 ⟨rfl, hb4⟩
    have hw4 := below_step hw3 hb4
    clear hb4 hw3
    go_wp2_with fail
    refine (CB.out _ hw4).mono ?_
    rintro e w5 ⟨rfl, hb5⟩
    have hw5 := below_step hw4 hb5
    clear hb5 hw4
    go_wp2_with fail
    refine (known_any _).mono ?_
    rintro e w6 ⟨rfl, hb6⟩
    have hw6 := below_step hw5 hb6
    clear hb6 hw5
    go_wp2
    go_ret
    exact ⟨rfl, hw6⟩
  | true =>
    rw [hk] at CF DF CB
    simp only [if_true] at CF DF CB
    rw [Tx.money_back fits64 hk] at CB
    dsimp only at CB
    generalize Tx.fmtM p = tx at *
    have q0 : (tx != tx) = false := by simp
    have q1 : (p == p) = true := by simp
    clear hk
    go_enter Tryd.func6, Tryd.ntmps6
    go_wp2_with fail
    refine (CF.out _ b0.out).mono ?_
    rintro e w1 ⟨rfl, hw1⟩
    go_wp2_with fail
    refine (DF.out _).mono ?_
    rintro e w2 ⟨rfl, hb2⟩
    have hw2 := below_step hw1 hb2
    clear hb2 hw1
    go_wp2_with fail
    refine (CP.out _ hw2).mono ?_
    rintro e w3 ⟨rfl, hb3⟩
    have hw3 := below_step hw2 hb3
    clear hb3 hw2
    go_wp2_with fail
    refine (DP.out _).mono ?_
    rintro e w4 ⟨rfl, hb4⟩
    have hw4 := below_step hw3 hb4
    clear hb4 hw3
    go_wp2_with fail
    refine (CB.out _ hw4).mono ?_
    rintro e w5 ⟨rfl, hb5⟩
    have hw5 := below_step hw4 hb5
    clear hb5 hw4
    go_wp2_with fail
    refine (known_any _).mono ?_
    rintro e w6 ⟨rfl, hb6⟩
    have hw6 := below_step hw5 hb6
    clear hb6 hw5
    go_wp2
    go_ret
    exact ⟨rfl, hw6⟩
end Go.Proofs.YtmmmlcnclehilaaDoor
