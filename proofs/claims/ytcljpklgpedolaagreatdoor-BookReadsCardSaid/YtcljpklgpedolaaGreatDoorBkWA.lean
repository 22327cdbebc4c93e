/- The law on reading. -/
import Derived.Test.YtcljpklgpedolaaGreatDoorBkQG
namespace Go.Proofs.YtcljpklgpedolaaGreatDoor
open Go.RowKit Go.Sort

set_option maxRecDepth 20000 in
set_option maxHeartbeats 2000000 in
theorem reads_walk (a : ByteArray) (w : World) (hE : EnvB w) (ha : a.size ≤ 9223372036854775807) :
    Calls Tryz.prog 4 #[.string a] w fun e w' => e = .returned (.bool true) ∧ Below w.heap.size w w' := by
  have HE := Lib.hid hE
  have SA := Lib.hid (fun W hW => sane_any W hW)
  have hw0 := below_alloc (Below.refl w.heap.size w) (.cells #[.string a] 9)
  have LG := Lib.hid (long_one a w ha)
  clear hE
  by_cases hs : a.size ≤ 30000
  · rw [decide_eq_false (show ¬ 30000 < a.size by omega)] at LG
    have P := Lib.hid (fun W hW => read_any a W hW (by omega))
    have Q := Lib.hid (fun W hW => refRead_any a W hW (by omega))
    unfold BookSays at P Q
    have WH := Lib.hid (fun W hW => isWhole_any a W hW (by omega))
    have RP := Lib.hid (fun W hW => repair_any a W hW (by omega))
    obtain ⟨h1, h2⟩ := rest_len a.data.toList
    have HX : Hid (a.extract 0 (a.size - (Bk.rest a.data.toList).length) = ⟨(Bk.txt 1 0 (Bk.tx a.data.toList)).toArray⟩) := Lib.hid (by
      rw [extract_is, List.drop_zero, ← len_size, h2])
    rw [len_size] at h1
    have hln := Bk.ln_len a.data.toList
    have htl := Bk.tx_len a.data.toList
    have HSM := Lib.hid (fun u v W hu hv => sameLines_any u v (Bk.ln a.data.toList) W hu hv (by omega))
    clear h2 hln htl
    generalize Bk.txt 1 0 (Bk.tx a.data.toList) = T at *
    generalize Bk.rest a.data.toList = R at *
    generalize Bk.ln a.data.toList = L at *
    have q9 : (T == (a.extract 0 (a.size - R.length)).toList) = true := by rw [toList_data, HX.out]; simp
    have hwr : IntKind.i64.wrap ((a.size : Int) - (R.length : Int)) = (a.size : Int) - (R.length : Int) := IntWalk.i64_in _ ⟨by omega, by omega⟩
    have hcase : (R = [] ∨ R ≠ []) := by by_cases h : R = [] <;> simp [h]
    rcases hcase with h0 | h0
    · have q1 : (R == []) = true := by rw [h0]; rfl
      have q2 : R.isEmpty = true := by rw [h0]; rfl
      rw [decide_eq_true h0] at WH
      clear h0 HX
      go_enter Tryz.func4, Tryz.ntmps4
      go_wp2_with fail
      refine LG.out.mono ?_
      rintro e w1 ⟨rfl, hb1⟩
      have hw1 := below_step hw0 hb1
      clear hb1 hw0 LG
      go_wp2_with fail
      refine (P.out _ (HE.out.all hw1)).mono ?_
      rintro e w2 ⟨u, rfl, ho, hb2⟩
      have hw2 := below_step hw1 hb2
      have hr := ho.rows lnC_len
      obtain ⟨ua, uc, rfl⟩ := hr.form
      have HR1 := Lib.hid hr
      clear hb2 hw1 ho P hr
      go_wp2_with fail
      refine (Q.out _ (HE.out.all hw2)).mono ?_
      rintro e w3 ⟨v, rfl, ho, hb3⟩
      have hw3 := below_step hw2 hb3
      have hr := ho.rows lnC_len
      obtain ⟨va, vc, rfl⟩ := hr.form
      have HSE := Lib.hid (HSM.out _ _ w3.drew (HR1.out.all (hb3.drew)) (hr.all (Below.refl _ _).drew))
      clear hb3 hw2 ho Q HR1 hr HSM
      go_upto_region 5 with fail
      refine wp_region_seq [(0, true), (1, true), (2, false), (3, true), (4, true), (5, true), (6, true), (7, true), (8, true), (9, true), (11, true), (12, true), (10, false), (13, true), (14, true), (15, true), (16, true), (18, true), (19, true), (20, true), (21, true), (22, true), (23, true), (24, true), (17, false), (25, true), (26, true), (27, true), (28, false), (29, true), (30, true)] (fun W => Below w.heap.size w W)
        (by kernel_rfl) (by kernel_rfl) (by kernel_rfl) (by kernel_rfl) (fun d _ _ _ _ h => by cases d <;> exact h) hw3.drew (fun hS0 => ?_)
      repeat (first
        | (refine SeqH.take (v := ?_) rfl (by rfl) ?_ ?_; rotate_left; (· intro w hSw; go_simp; (try rw [if_pos (by omega)]); (try with_reducible rfl)); simp only [Act.put, List.setIfInBounds_toArray, List.set_cons_zero, List.set_cons_succ])
        | (refine SeqH.skip rfl (by rfl) ?_; simp only [Act.put, List.setIfInBounds_toArray, List.set_cons_zero, List.set_cons_succ]))
      refine SeqH.step rfl (by rfl) (fun K hK => ?_)
      go_simp
      go_at_call 21
      refine (HSE.out).mono ?_
      rintro e9 y1 ⟨rfl, hb1⟩
      try dsimp only
      refine hK.out _ _ (hS0.trans (hb1.mono hS0.size)) (fun hS1 => ?_)
      clear hK K
      try simp only [Act.put, List.setIfInBounds_toArray, List.set_cons_zero, List.set_cons_succ]
      repeat (first
        | (refine SeqH.take (v := ?_) rfl (by rfl) ?_ ?_; rotate_left; (· intro w hSw; go_simp; (try rw [if_pos (by omega)]); (try with_reducible rfl)); simp only [Act.put, List.setIfInBounds_toArray, List.set_cons_zero, List.set_cons_succ])
        | (refine SeqH.skip rfl (by rfl) ?_; simp only [Act.put, List.setIfInBounds_toArray, List.set_cons_zero, List.set_cons_succ]))
      refine SeqH.step rfl (by rfl) (fun K hK => ?_)
      go_simp
      go_at_call 22
      refine (WH.out _ (HE.out.all hS1)).mono ?_
      rintro e9 y2 ⟨rfl, hb2⟩
      try dsimp only
      refine hK.out _ _ (hS1.trans (hb2.mono hS1.size)) (fun hS2 => ?_)
      clear hK K
      try simp only [Act.put, List.setIfInBounds_toArray, List.set_cons_zero, List.set_cons_succ]
      repeat (first
        | (refine SeqH.take (v := ?_) rfl (by rfl) ?_ ?_; rotate_left; (· intro w hSw; go_simp; (try rw [if_pos (by omega)]); (try with_reducible rfl)); simp only [Act.put, List.setIfInBounds_toArray, List.set_cons_zero, List.set_cons_succ])
        | (refine SeqH.skip rfl (by rfl) ?_; simp only [Act.put, List.setIfInBounds_toArray, List.set_cons_zero, List.set_cons_succ]))
      refine SeqH.step rfl (by rfl) (fun K hK => ?_)
      go_simp
      go_at_call 23
      refine (RP.out _ (HE.out.all hS2)).mono ?_
      rintro e9 y3 ⟨rfl, hb3⟩
      try dsimp only
      refine hK.out _ _ (hS2.trans (hb3.mono hS2.size)) (fun hS3 => ?_)
      clear hK K
      try simp only [Act.put, List.setIfInBounds_toArray, List.set_cons_zero, List.set_cons_succ]
      repeat (first
        | (refine SeqH.take (v := ?_) rfl (by rfl) ?_ ?_; rotate_left; (· intro w hSw; go_simp; (try rw [if_pos (by omega)]); (try with_reducible rfl)); simp only [Act.put, List.setIfInBounds_toArray, List.set_cons_zero, List.set_cons_succ])
        | (refine SeqH.skip rfl (by rfl) ?_; simp only [Act.put, List.setIfInBounds_toArray, List.set_cons_zero, List.set_cons_succ]))
      refine SeqH.step rfl (by rfl) (fun K hK => ?_)
      go_simp
      go_at_call 16
      refine (SA.out _ (HE.out.all hS3)).mono ?_
      rintro e9 y4 ⟨rfl, hb4⟩
      try dsimp only
      refine hK.out _ _ (hS3.trans (hb4.mono hS3.size)) (fun hS4 => ?_)
      clear hK K
      try simp only [Act.put, List.setIfInBounds_toArray, List.set_cons_zero, List.set_cons_succ]
      repeat (first
        | (refine SeqH.take (v := ?_) rfl (by rfl) ?_ ?_; rotate_left; (· intro w hSw; go_simp; (try rw [if_pos (by omega)]); (try with_reducible rfl)); simp only [Act.put, List.setIfInBounds_toArray, List.set_cons_zero, List.set_cons_succ])
        | (refine SeqH.skip rfl (by rfl) ?_; simp only [Act.put, List.setIfInBounds_toArray, List.set_cons_zero, List.set_cons_succ]))
      refine SeqH.done ?_
      go_wp2
      go_ret
      exact ⟨rfl, hS4⟩
    · have q1 : (R == []) = false := by simpa using h0
      have q2 : R.isEmpty = false := by simpa using h0
      rw [decide_eq_false h0] at WH
      clear h0 HX
      go_enter Tryz.func4, Tryz.ntmps4
      go_wp2_with fail
      refine LG.out.mono ?_
      rintro e w1 ⟨rfl, hb1⟩
      have hw1 := below_step hw0 hb1
      clear hb1 hw0 LG
      go_wp2_with fail
      refine (P.out _ (HE.out.all hw1)).mono ?_
      rintro e w2 ⟨u, rfl, ho, hb2⟩
      have hw2 := below_step hw1 hb2
      have hr := ho.rows lnC_len
      obtain ⟨ua, uc, rfl⟩ := hr.form
      have HR1 := Lib.hid hr
      clear hb2 hw1 ho P hr
      go_wp2_with fail
      refine (Q.out _ (HE.out.all hw2)).mono ?_
      rintro e w3 ⟨v, rfl, ho, hb3⟩
      have hw3 := below_step hw2 hb3
      have hr := ho.rows lnC_len
      obtain ⟨va, vc, rfl⟩ := hr.form
      have HSE := Lib.hid (HSM.out _ _ w3.drew (HR1.out.all (hb3.drew)) (hr.all (Below.refl _ _).drew))
      clear hb3 hw2 ho Q HR1 hr HSM
      go_upto_region 5 with fail
      refine wp_region_seq [(0, true), (1, true), (2, false), (3, true), (4, true), (5, true), (6, true), (7, true), (8, true), (9, true), (11, true), (12, true), (10, false), (13, true), (14, true), (15, true), (16, true), (18, true), (19, true), (20, true), (21, true), (22, true), (23, true), (24, true), (17, false), (25, true), (26, true), (27, true), (28, false), (29, true), (30, true)] (fun W => Below w.heap.size w W)
        (by kernel_rfl) (by kernel_rfl) (by kernel_rfl) (by kernel_rfl) (fun d _ _ _ _ h => by cases d <;> exact h) hw3.drew (fun hS0 => ?_)
      repeat (first
        | (refine SeqH.take (v := ?_) rfl (by rfl) ?_ ?_; rotate_left; (· intro w hSw; go_simp; (try rw [if_pos (by omega)]); (try with_reducible rfl)); simp only [Act.put, List.setIfInBounds_toArray, List.set_cons_zero, List.set_cons_succ])
        | (refine SeqH.skip rfl (by rfl) ?_; simp only [Act.put, List.setIfInBounds_toArray, List.set_cons_zero, List.set_cons_succ]))
      refine SeqH.step rfl (by rfl) (fun K hK => ?_)
      go_simp
      go_at_call 21
      refine (HSE.out).mono ?_
      rintro e9 y1 ⟨rfl, hb1⟩
      try dsimp only
      refine hK.out _ _ (hS0.trans (hb1.mono hS0.size)) (fun hS1 => ?_)
      clear hK K
      try simp only [Act.put, List.setIfInBounds_toArray, List.set_cons_zero, List.set_cons_succ]
      repeat (first
        | (refine SeqH.take (v := ?_) rfl (by rfl) ?_ ?_; rotate_left; (· intro w hSw; go_simp; (try rw [if_pos (by omega)]); (try with_reducible rfl)); simp only [Act.put, List.setIfInBounds_toArray, List.set_cons_zero, List.set_cons_succ])
        | (refine SeqH.skip rfl (by rfl) ?_; simp only [Act.put, List.setIfInBounds_toArray, List.set_cons_zero, List.set_cons_succ]))
      refine SeqH.step rfl (by rfl) (fun K hK => ?_)
      go_simp
      go_at_call 22
      refine (WH.out _ (HE.out.all hS1)).mono ?_
      rintro e9 y2 ⟨rfl, hb2⟩
      try dsimp only
      refine hK.out _ _ (hS1.trans (hb2.mono hS1.size)) (fun hS2 => ?_)
      clear hK K
      try simp only [Act.put, List.setIfInBounds_toArray, List.set_cons_zero, List.set_cons_succ]
      repeat (first
        | (refine SeqH.take (v := ?_) rfl (by rfl) ?_ ?_; rotate_left; (· intro w hSw; go_simp; (try rw [if_pos (by omega)]); (try with_reducible rfl)); simp only [Act.put, List.setIfInBounds_toArray, List.set_cons_zero, List.set_cons_succ])
        | (refine SeqH.skip rfl (by rfl) ?_; simp only [Act.put, List.setIfInBounds_toArray, List.set_cons_zero, List.set_cons_succ]))
      refine SeqH.step rfl (by rfl) (fun K hK => ?_)
      go_simp
      go_at_call 23
      refine (RP.out _ (HE.out.all hS2)).mono ?_
      rintro e9 y3 ⟨rfl, hb3⟩
      try dsimp only
      refine hK.out _ _ (hS2.trans (hb3.mono hS2.size)) (fun hS3 => ?_)
      clear hK K
      try simp only [Act.put, List.setIfInBounds_toArray, List.set_cons_zero, List.set_cons_succ]
      repeat (first
        | (refine SeqH.take (v := ?_) rfl (by rfl) ?_ ?_; rotate_left; (· intro w hSw; go_simp; (try rw [if_pos (by omega)]); (try with_reducible rfl)); simp only [Act.put, List.setIfInBounds_toArray, List.set_cons_zero, List.set_cons_succ])
        | (refine SeqH.skip rfl (by rfl) ?_; simp only [Act.put, List.setIfInBounds_toArray, List.set_cons_zero, List.set_cons_succ]))
      refine SeqH.step rfl (by rfl) (fun K hK => ?_)
      go_simp
      go_at_call 16
      refine (SA.out _ (HE.out.all hS3)).mono ?_
      rintro e9 y4 ⟨rfl, hb4⟩
      try dsimp only
      refine hK.out _ _ (hS3.trans (hb4.mono hS3.size)) (fun hS4 => ?_)
      clear hK K
      try simp only [Act.put, List.setIfInBounds_toArray, List.set_cons_zero, List.set_cons_succ]
      repeat (first
        | (refine SeqH.take (v := ?_) rfl (by rfl) ?_ ?_; rotate_left; (· intro w hSw; go_simp; (try rw [if_pos (by omega)]); (try with_reducible rfl)); simp only [Act.put, List.setIfInBounds_toArray, List.set_cons_zero, List.set_cons_succ])
        | (refine SeqH.skip rfl (by rfl) ?_; simp only [Act.put, List.setIfInBounds_toArray, List.set_cons_zero, List.set_cons_succ]))
      refine SeqH.done ?_
      go_wp2
      go_ret
      exact ⟨rfl, hS4⟩
  · rw [decide_eq_true (show 30000 < a.size by omega)] at LG
    clear hs
    go_enter Tryz.func4, Tryz.ntmps4
    go_wp2_with fail
    refine LG.out.mono ?_
    rintro e w1 ⟨rfl, hb1⟩
    have hw1 := below_step hw0 hb1
    clear hb1 hw0 LG
    go_wp2_with fail
    refine (SA.out _ (HE.out.all hw1)).mono ?_
    rintro e w2 ⟨rfl, hb2⟩
    have hw2 := below_step hw1 hb2
    clear hb2 hw1
    go_wp2
    go_ret
    exact ⟨rfl, hw2⟩
end Go.Proofs.YtcljpklgpedolaaGreatDoor
