/- NumTexts returns true, whatever the fraction and the text. -/
import Derived.Test.YtmmmlcnclehilaaDoorText6
import Derived.Test.YtmmmlcnclehilaaDoorMoney0
namespace Go.Proofs.YtmmmlcnclehilaaDoor
open Go.RowKit Go.Sort

set_option maxRecDepth 20000 in
set_option maxHeartbeats 2000000 in
theorem texts_walk (n d : Int) (s : ByteArray) (w : World) (h : Env w) (n1 : -9223372036854775808 ≤ n) (n2 : n ≤ 9223372036854775807) (d1 : -9223372036854775808 ≤ d) (d2 : d ≤ 9223372036854775807) (hms : s.size ≤ 9223372036854775807) :
    Calls Tryd.prog 5 #[rat n d, .string s] w fun e w' => e = .returned (.bool true) ∧ Below w.heap.size w w' := by
  have b0 := (below_alloc (Below.refl w.heap.size w) (.cells #[.int .i64 n, .int .i64 d] 29))
  have R0 := RatAt.fresh w n d 29
  by_cases hl : 1000 < s.size
  · have hl' : (1000 : Int) < (s.size : Int) := by omega
    clear hl h
    go_enter Tryd.func5, Tryd.ntmps5
    go_wp2_with fail
    refine (known_any _).mono ?_
    rintro e w1 ⟨rfl, hb1⟩
    have hw1 := below_step b0 hb1
    clear hb1 b0 R0
    go_wp2
    go_ret
    exact ⟨rfl, hw1⟩
  have hl' : ¬ (1000 : Int) < (s.size : Int) := by omega
  have hs : s.size ≤ 100000 := by omega
  have CF := Lib.hid (fun W (hW : Below w.heap.size w W) => formatRat_any n d W (h.all hW) n1 n2 d1 d2)
  have DF := Lib.hid (fun W => refFormatRat_any n d W n1 n2 d1 d2)
  have CP := Lib.hid (fun W (hW : Below w.heap.size w W) => parseRat_any s W (h.all hW) hs)
  have DP := Lib.hid (fun W => refParseRat_any s W hs)
  have L1 := itoa_len n1 n2
  have L2 := itoa_len d1 d2
  have hsz : (⟨(if Fr.ok n d = true then Tx.fmtR n d else []).toArray⟩ : ByteArray).size ≤ 100000 := by
    show (if Fr.ok n d = true then Tx.fmtR n d else []).toArray.size ≤ _
    simp only [List.size_toArray]
    split
    · unfold Tx.fmtR
      rw [List.length_append]
      split
      · simp; omega
      · rw [List.length_cons]; omega
    · simp
  have CB := Lib.hid (fun W (hW : Below w.heap.size w W) => parseRat_any ⟨(if Fr.ok n d = true then Tx.fmtR n d else []).toArray⟩ W (h.all hW) hsz)
  unfold RatSays at CP DP CB
  rw [← Tx.ansR_same Tx.near_ok] at DP
  generalize Tx.ansR Fr.ok s.data.toList (Tx.pR s.data.toList) = X at *
  obtain ⟨⟨xn, xd⟩, xe⟩ := X
  dsimp only at CP DP
  have e1 : (xn == xn) = true := by simp
  have e2 : (xd == xd) = true := by simp
  have e3 : (xe != xe) = false := by simp
  have e4 : (xn != xn) = false := by simp
  have e5 : (xd != xd) = false := by simp
  clear L1 L2 hsz hs hl h n1 n2 d1 d2
  cases hk : Fr.ok n d with
  | false =>
    rw [hk] at CF DF CB
    simp only [Bool.false_eq_true, if_false] at CF DF CB
    generalize Tx.ansR Fr.ok _ (Tx.pR _) = Y at CB
    obtain ⟨⟨yn, yd⟩, ye⟩ := Y
    dsimp only at CB
    clear hk
    go_enter Tryd.func5, Tryd.ntmps5
    go_wp2_with fail
    refine (CF.out _ b0).mono ?_
    rintro e w1 ⟨rfl, hb1⟩
    have R1 := R0.all hb1
    have hw1 := below_step b0 hb1
    obtain ⟨c0, c1, _, _, _⟩ := id R1
    clear hb1 R0 b0
    go_wp2_with fail
    refine (DF.out _).mono ?_
    rintro e w2 ⟨rfl, hb2⟩
    have R2 := R1.all hb2
    have hw2 := below_step hw1 hb2
    clear hb2 R1 hw1 c0 c1
    go_wp2_with fail
    refine (CP.out _ hw2).mono ?_
    rintro e w3 ⟨rfl, hb3⟩
    have hw3 := below_alloc (below_step hw2 hb3) (.cells #[.int .i64 xn, .int .i64 xd] 29)
    have X3 := RatAt.fresh w3 xn xd 29
    clear hb3 R2 hw2
    go_wp2_with fail
    refine (DP.out _).mono ?_
    rintro e w4 ⟨rfl, hb4⟩
    have hb4' := below_alloc hb4 (.cells #[.int .i64 xn, .int .i64 xd] 29)
    have X4 := X3.all hb4'
    have Y4 := RatAt.fresh w4 xn xd 29
    have hw4 := below_step hw3 hb4'
    obtain ⟨c0, c1, _, _, _⟩ := id X4
    obtain ⟨y0, y1, _, _, _⟩ := id Y4
    clear hb4 hb4' X3 hw3 X4 Y4
    go_wp2_with fail
    refine (CB.out _ hw4).mono ?_
    rintro e w5 ⟨rfl, hb5⟩
    have hw5 := below_alloc (below_step hw4 hb5) (.cells #[.int .i64 yn, .int .i64 yd] 29)
    clear hb5 hw4 c0 c1 y0 y1
    go_wp2_with fail
    refine (known_any _).mono ?_
    rintro e w6 ⟨rfl, hb6⟩
    have hw6 := below_step hw5 hb6
    clear hb6 hw5
    go_wp2
    go_ret
    exact ⟨rfl, hw6⟩
  | true =>
    rw [hk] at CF DF CB
    simp only [if_true] at CF DF CB
    rw [Tx.ansR_back Tx.near_ok hk] at CB
    dsimp only at CB
    generalize Tx.fmtR n d = tx at *
    have q0 : (tx != tx) = false := by simp
    have q1 : (n == n) = true := by simp
    have q2 : (d == d) = true := by simp
    clear hk
    go_enter Tryd.func5, Tryd.ntmps5
    go_wp2_with fail
    refine (CF.out _ b0).mono ?_
    rintro e w1 ⟨rfl, hb1⟩
    have R1 := R0.all hb1
    have hw1 := below_step b0 hb1
    obtain ⟨c0, c1, _, _, _⟩ := id R1
    clear hb1 R0 b0
    go_wp2_with fail
    refine (DF.out _).mono ?_
    rintro e w2 ⟨rfl, hb2⟩
    have R2 := R1.all hb2
    have hw2 := below_step hw1 hb2
    clear hb2 R1 hw1 c0 c1
    go_wp2_with fail
    refine (CP.out _ hw2).mono ?_
    rintro e w3 ⟨rfl, hb3⟩
    have hb3' := below_alloc hb3 (.cells #[.int .i64 xn, .int .i64 xd] 29)
    have R3 := R2.all hb3'
    have hw3 := below_step hw2 hb3'
    have X3 := RatAt.fresh w3 xn xd 29
    clear hb3 hb3' R2 hw2
    go_wp2_with fail
    refine (DP.out _).mono ?_
    rintro e w4 ⟨rfl, hb4⟩
    have hb4' := below_alloc hb4 (.cells #[.int .i64 xn, .int .i64 xd] 29)
    have R4 := R3.all hb4'
    have X4 := X3.all hb4'
    have Y4 := RatAt.fresh w4 xn xd 29
    have hw4 := below_step hw3 hb4'
    obtain ⟨c0, c1, _, _, _⟩ := id X4
    obtain ⟨y0, y1, _, _, _⟩ := id Y4
    clear hb4 hb4' X3 hw3 X4 Y4 R3
    go_wp2_with fail
    refine (CB.out _ hw4).mono ?_
    rintro e w5 ⟨rfl, hb5⟩
    have hb5' := below_alloc hb5 (.cells #[.int .i64 n, .int .i64 d] 29)
    have R5 := R4.all hb5'
    have Z5 := RatAt.fresh w5 n d 29
    have hw5 := below_step hw4 hb5'
    clear hb5 hb5' hw4 c0 c1 y0 y1 R4
    obtain ⟨c0, c1, _, _, _⟩ := id R5
    obtain ⟨y0, y1, _, _, _⟩ := id Z5
    clear R5 Z5
    go_wp2_with fail
    refine (known_any _).mono ?_
    rintro e w6 ⟨rfl, hb6⟩
    have hw6 := below_step hw5 hb6
    clear hb6 hw5
    go_wp2
    go_ret
    exact ⟨rfl, hw6⟩
end Go.Proofs.YtmmmlcnclehilaaDoor
