/- The sanity check of the chapter's examples. -/
import Derived.Test.YtcljpklgpedolaaGreatDoorBk11
import Derived.Test.YtcljpklgpedolaaGreatDoorBk12
namespace Go.Proofs.YtcljpklgpedolaaGreatDoor
open Go.RowKit Go.Sort

theorem sane_tx : Bk.tx [] = [] := Bk.tx_txt (ts := []) (fun t h => by cases h) (by decide)
theorem sane_rest : Bk.rest [] = [] := Bk.rest_txt (ts := []) (fun t h => by cases h) (by decide)
theorem sane_appE : Bk.appE [] [97] = 0 := by
  unfold Bk.appE
  rw [if_neg (by rw [sane_rest]; simp), if_neg (by decide), sane_tx, if_neg (by decide)]
theorem sane_appS : Bk.appS [] [97] = Bk.wr 1 0 [97] := by
  unfold Bk.appS
  rw [if_pos sane_appE, sane_tx]; rfl
theorem sane_whole : Bk.rest (Bk.wr 1 0 [97]) = [] := by
  have h := Bk.rest_txt (ts := [[97]]) (fun t h => by
    have : t = [97] := by simpa using h
    subst this; decide) (by decide)
  rwa [Bk.txt, Bk.txt, List.append_nil] at h
theorem sane_fmt : Tx.fmtM 270 = [49, 108, 32, 50, 115, 32, 54, 100] := by
  have h1 : Lib.decDigits 1 = [49] := by rw [Tx.dec_small (by decide)]; rfl
  have h2 : Lib.decDigits 2 = [50] := by rw [Tx.dec_small (by decide)]; rfl
  have h6 : Lib.decDigits 6 = [54] := by rw [Tx.dec_small (by decide)]; rfl
  have hw : Tx.mW 270 = [[49, 108], [50, 115], [54, 100]] := by
    unfold Tx.mW Tx.unit
    rw [show 270 / 240 = 1 by decide, show 270 / 12 % 20 = 2 by decide, show 270 % 12 = 6 by decide, h1, h2, h6]; rfl
  unfold Tx.fmtM
  rw [if_neg (by decide), if_neg (by decide), show (270 : Int).natAbs = 270 from rfl, hw]; rfl
abbrev saneT : List UInt8 := [112, 111, 115, 116, 32, 115, 116, 111, 99, 107, 32, 99, 97, 115, 104, 32, 49, 108, 32, 50, 115, 32, 54, 100]
theorem sane_mon : Bk.monP saneT = (270, 0) := by
  have h : Bk.aft (Bk.thd saneT) = Tx.fmtM 270 := by rw [sane_fmt]; decide
  unfold Bk.monP
  rw [h]
  exact Tx.ans_back (fun p hp => Tx.rT_fmt (Tx.inM_of hp).1 (Tx.inM_of hp).2) (by decide)
theorem sane_prs : Bk.prs saneT = some ([115, 116, 111, 99, 107], [99, 97, 115, 104], 270) := by
  unfold Bk.prs
  rw [sane_mon, if_pos ⟨by decide, by decide, rfl, by decide⟩]
  decide
set_option maxRecDepth 20000 in
set_option maxHeartbeats 1000000 in
theorem sane_any (w : World) (hE : EnvB w) : Calls Tryz.prog 16 #[] w fun e w' => e = .returned (.bool true) ∧ Below w.heap.size w w' := by
  have HE := Lib.hid hE
  have A := Lib.hid (fun W hW => append_any ⟨#[]⟩ [97] W hW (by decide) (by decide))
  have h0 : (⟨#[]⟩ : ByteArray).data.toList = [] := rfl
  rw [h0, sane_appS, sane_appE] at A
  have D := Lib.hid (fun W => discount_any 101 1 40 W (by decide) (by decide) (by decide) (by decide) (by decide) (by decide))
  have hd1 : Bk.disV 101 1 40 = 98 := by decide +kernel
  have hd2 : Bk.disE 101 1 40 = 0 := by decide +kernel
  rw [hd1, hd2] at D
  have P := Lib.hid (fun W hW => parsePosting_any ⟨saneT.toArray⟩ W hW (by decide))
  unfold PrsSays at P
  have h1 : (⟨saneT.toArray⟩ : ByteArray).data.toList = saneT := rfl
  rw [h1, sane_prs] at P
  have S1 := Lib.hid (fun W hW => sum_any 0 ⟨#[97]⟩ W hW (by decide) (by decide) (by decide))
  have S2 := Lib.hid (fun W hW => sum_any 98 ⟨#[98]⟩ W hW (by decide) (by decide) (by decide))
  have hs1 : Bk.sum 0 (⟨#[97]⟩ : ByteArray).data.toList = 98 := by decide +kernel
  have hs2 : Bk.sum 98 (⟨#[98]⟩ : ByteArray).data.toList = 25285 := by decide +kernel
  rw [hs1] at S1
  rw [hs2] at S2
  have hwl := Bk.wr_short (n := 1) 0 (t := [97]) (by decide) (by decide)
  have WH := Lib.hid (fun W hW => isWhole_any ⟨(Bk.wr 1 0 [97]).toArray⟩ W hW (by show (Bk.wr 1 0 [97]).toArray.size ≤ _; rw [List.size_toArray]; omega))
  have h2 : (⟨(Bk.wr 1 0 [97]).toArray⟩ : ByteArray).data.toList = Bk.wr 1 0 [97] := rfl
  rw [h2, sane_whole] at WH
  have hne := Bk.wr_ne 1 0 [97]
  clear hE h0 hd1 hd2 h1 hs1 hs2 h2 hwl
  generalize Bk.wr 1 0 [97] = b at *
  have q1 : (b == []) = false := by simpa using hne
  have q2 : (b != []) = true := by simpa using hne
  have q3 : b.isEmpty = false := by simpa using hne
  clear hne
  have hw0 := Below.refl w.heap.size w
  go_enter Tryz.func16, Tryz.ntmps16
  go_wp2_with fail
  refine (A.out _ HE.out).mono ?_
  rintro e w1 ⟨rfl, hb1⟩
  have hw1 := below_step hw0 hb1
  clear A hb1 hw0
  go_wp2_with fail
  refine (D.out _).mono ?_
  rintro e w2 ⟨rfl, hb2⟩
  have hw2 := below_step hw1 hb2
  clear D hb2 hw1
  go_wp2_with fail
  refine (P.out _ (HE.out.all hw2)).mono ?_
  rintro e w3 ⟨rfl, hb3⟩
  have hw3 := below_alloc (below_step hw2 hb3) (.cells (poA ([115, 116, 111, 99, 107], [99, 97, 115, 104], 270)) PostT)
  have hB3 := BlockAt.new w3 (poA ([115, 116, 111, 99, 107], [99, 97, 115, 104], 270)) PostT
  clear P hb3 hw2
  go_wp2_with fail
  refine (S1.out _ (HE.out.all hw3)).mono ?_
  rintro e w4 ⟨rfl, hb4⟩
  have hB4 := hB3.below hb4 hB3.lt
  have hw4 := below_step hw3 hb4
  clear S1 hb4 hw3 hB3
  go_wp2_with fail
  refine (S2.out _ (HE.out.all hw4)).mono ?_
  rintro e w5 ⟨rfl, hb5⟩
  have hB5 := hB4.below hb5 hB4.lt
  have hw5 := below_step hw4 hb5
  clear S2 hb5 hw4 hB4
  go_wp2_with fail
  refine (WH.out _ (HE.out.all hw5)).mono ?_
  rintro e w6 ⟨rfl, hb6⟩
  have hB6 := hB5.below hb6 hB5.lt
  have hw6 := below_step hw5 hb6
  clear WH hb6 hw5 hB5
  obtain ⟨c0, c1, c2⟩ : _ ∧ _ ∧ _ := ⟨hB6.cell 0, hB6.cell 1, hB6.cell 2⟩
  go_wp2
  go_ret
  exact ⟨rfl, hw6⟩
end Go.Proofs.YtcljpklgpedolaaGreatDoor
