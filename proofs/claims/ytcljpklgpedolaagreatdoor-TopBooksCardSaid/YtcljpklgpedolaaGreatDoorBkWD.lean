/- The law on postings' texts. -/
import Derived.Test.YtcljpklgpedolaaGreatDoorBkQJ
import Derived.Test.YtcljpklgpedolaaGreatDoorBkQG
namespace Go.Proofs.YtcljpklgpedolaaGreatDoor
open Go.RowKit Go.Sort

/-- What a posting's text is read as. -/
theorem Bk.prs_back {x : Bk.Po} (h : Bk.valE [x] = 0) : Bk.prs (Bk.fmtP x) = some x := by
  obtain ⟨h1, h2, _, h4, h5⟩ := Bk.val_one h
  obtain ⟨e1, e2, e3, e4, e5, e6⟩ := Bk.fmtP_parts h1 h2
  have hin : Tx.inM x.2.2 = true := by unfold Tx.inM; simp only [Bool.and_eq_true, decide_eq_true_eq]; omega
  have hm : Bk.monP (Bk.fmtP x) = (x.2.2, 0) := by
    unfold Bk.monP
    rw [e6]
    exact Tx.ans_back (fun p hp => Tx.rT_fmt (Tx.inM_of hp).1 (Tx.inM_of hp).2) hin
  have hp : Bk.parP (Bk.fmtP x) (Bk.monP (Bk.fmtP x)).1 = x := by
    rw [hm]; unfold Bk.parP; rw [e3, e5]
  unfold Bk.prs
  rw [hp, if_pos ⟨by rw [e4]; simp, e1, by rw [hm], h⟩]
/-- What a text is read as, as a value. -/
def prsV (l : List UInt8) : Value := match Bk.prs l with | none => poV ([], [], 0) | some x => poV x
def prsE (l : List UInt8) : Int := match Bk.prs l with | none => 3 | some _ => 0
theorem prs_says {l : List UInt8} {w : World} {e : Ending} {w' : World} (h : PrsSays l w e w') : e = .returned (.tuple #[prsV l, .int .i64 (prsE l)]) ∧ Below w.heap.size w w' := by
  obtain ⟨h1, h2⟩ := h
  refine ⟨h1.trans ?_, h2⟩
  unfold prsV prsE
  cases Bk.prs l <;> rfl
theorem prsV_form (l : List UInt8) : ∃ d c p, prsV l = poV (d, c, p) := by
  unfold prsV
  cases Bk.prs l with
  | none => exact ⟨[], [], 0, rfl⟩
  | some x => exact ⟨x.1, x.2.1, x.2.2, rfl⟩
set_option maxRecDepth 20000 in
set_option maxHeartbeats 2000000 in
theorem posts_walk (x : Bk.Po) (a : ByteArray) (w : World) (hE : EnvB w) (hwd : Bk.wide x) (ha : a.size ≤ 9223372036854775807) :
    Calls Tryz.prog 11 #[poV x, .string a] w fun e w' => e = .returned (.bool true) ∧ Below w.heap.size w w' := by
  have HE := Lib.hid hE
  have SA := Lib.hid (fun W hW => sane_any W hW)
  have LG := Lib.hid (long_one a (w.alloc (.cells (poA x) PostT)) ha)
  rw [show (w.alloc (.cells (poA x) PostT)).heap.size = w.heap.size + 1 from World.size_alloc _ _] at LG
  have hw0 := below_alloc (below_alloc (Below.refl w.heap.size w) (.cells (poA x) PostT)) (.cells #[.string a] 9)
  have hB0 : BlockAt (w.alloc (.cells (poA x) PostT)) w.heap.size (poA x) PostT := BlockAt.new w (poA x) PostT
  have hB1 := BlockAt.alloc hB0 (.cells #[.string a] 9)
  clear hE
  by_cases hs : a.size ≤ 30000
  case neg =>
    rw [decide_eq_true (show 30000 < a.size by omega)] at LG
    clear hs
    obtain ⟨xd, xc, xp⟩ := x
    go_enter Tryz.func11, Tryz.ntmps11
    go_wp2_with fail
    refine LG.out.mono ?_
    rintro e w1 ⟨rfl, hb1⟩
    have hw1 := below_step hw0 hb1
    clear hb1 hw0 LG
    go_wp2_with fail
    refine (SA.out _ (HE.out.all hw1)).mono ?_
    rintro e w2 ⟨rfl, hb2⟩
    have hw2 := below_step hw1 hb2
    clear hb2 hw1
    go_wp2
    go_ret
    exact ⟨rfl, hw2⟩
  rw [decide_eq_false (show ¬ 30000 < a.size by omega)] at LG
  have F1 := Lib.hid (fun W hW => formatPosting_any x W hW hwd)
  have F2 := Lib.hid (fun W => refFormatPosting_any x W hwd)
  unfold FpSays at F1 F2
  have P1 := Lib.hid (fun W hW => (parsePosting_any a W hW (by omega)).mono (fun e w' h => prs_says h))
  have P2 := Lib.hid (fun W => (refParsePosting_any a W (by omega)).mono (fun e w' h => prs_says h))
  obtain ⟨yd, yc, yp, hy⟩ := prsV_form a.data.toList
  rw [hy] at P1 P2
  generalize prsE a.data.toList = PE at *
  clear hy
  by_cases hv : Bk.valE [x] = 0
  case neg =>
    generalize Bk.fpS x = S at *
    generalize Bk.valE [x] = E at *
    have q1 : (E == 0) = false := by simpa using hv
    have q2 : (E != 0) = true := by simpa using hv
    obtain ⟨xd, xc, xp⟩ := x
    obtain ⟨b0, b1, b2⟩ : _ ∧ _ ∧ _ := ⟨hB0.cell 0, hB0.cell 1, hB0.cell 2⟩
    clear hv hwd
    go_enter Tryz.func11, Tryz.ntmps11
    go_wp2_with fail
    refine LG.out.mono ?_
    rintro e w1 ⟨rfl, hb1⟩
    have hw1 := below_step hw0 hb1
    have hB2 := hB1.below hb1 hB1.lt
    clear hb1 hw0 LG hB0 hB1 b0 b1 b2
    obtain ⟨b0, b1, b2⟩ : _ ∧ _ ∧ _ := ⟨hB2.cell 0, hB2.cell 1, hB2.cell 2⟩
    go_wp2_with fail
    refine (F1.out _ (HE.out.all hw1)).mono ?_
    rintro e w2 ⟨rfl, hb2⟩
    have hw2 := below_step hw1 hb2
    have hB3 := hB2.below hb2 hB2.lt
    clear hb2 hw1 hB2 b0 b1 b2
    obtain ⟨b0, b1, b2⟩ : _ ∧ _ ∧ _ := ⟨hB3.cell 0, hB3.cell 1, hB3.cell 2⟩
    go_wp2_with fail
    refine (F2.out _).mono ?_
    rintro e w3 ⟨rfl, hb3⟩
    have hw3 := below_step hw2 hb3
    clear hb3 hw2 hB3 b0 b1 b2
    go_wp2_with fail
    refine (P1.out _ (HE.out.all hw3)).mono ?_
    rintro e w4 ⟨rfl, hb4⟩
    have hw4 := below_alloc (below_step hw3 hb4) (.cells (poA (yd, yc, yp)) PostT)
    have hY := BlockAt.new w4 (poA (yd, yc, yp)) PostT
    clear hb4 hw3
    go_wp2_with fail
    refine (P2.out _).mono ?_
    rintro e w5 ⟨rfl, hb5⟩
    have hw5 := below_alloc (below_step hw4 hb5) (.cells (poA (yd, yc, yp)) PostT)
    have hY2 := (hY.below hb5 hY.lt).alloc (.cells (poA (yd, yc, yp)) PostT)
    have hZ := BlockAt.new w5 (poA (yd, yc, yp)) PostT
    clear hb5 hw4 hY
    obtain ⟨b0, b1, b2⟩ : _ ∧ _ ∧ _ := ⟨BlockAt.cell hY2 0, BlockAt.cell hY2 1, BlockAt.cell hY2 2⟩
    obtain ⟨d0, d1, d2⟩ : _ ∧ _ ∧ _ := ⟨hZ.cell 0, hZ.cell 1, hZ.cell 2⟩
    go_wp2_with fail
    refine (SA.out _ (HE.out.all hw5)).mono ?_
    rintro e w6 ⟨rfl, hb6⟩
    have hw6 := below_step hw5 hb6
    clear hb6 hw5
    go_wp2
    go_ret
    exact ⟨rfl, hw6⟩
  have hfl := Bk.fmtP_len hv
  have hpb := Bk.prs_back hv
  have hfp := Bk.fp_yes hv
  rw [hfp, hv] at F1 F2
  have P3 := Lib.hid (fun W hW => (parsePosting_any ⟨(Bk.fmtP x).toArray⟩ W hW (by show (Bk.fmtP x).toArray.size ≤ _; rw [List.size_toArray]; omega)).mono (fun e w' h => prs_says h))
  have hpv : prsV (⟨(Bk.fmtP x).toArray⟩ : ByteArray).data.toList = poV x := by
    show prsV (Bk.fmtP x) = _
    unfold prsV; rw [hpb]
  have hpe : prsE (⟨(Bk.fmtP x).toArray⟩ : ByteArray).data.toList = 0 := by
    show prsE (Bk.fmtP x) = _
    unfold prsE; rw [hpb]
  rw [hpv, hpe] at P3
  clear hv hfl hpb hfp hpv hpe hwd
  generalize Bk.fmtP x = S at *
  obtain ⟨xd, xc, xp⟩ := x
  obtain ⟨b0, b1, b2⟩ : _ ∧ _ ∧ _ := ⟨hB0.cell 0, hB0.cell 1, hB0.cell 2⟩
  go_enter Tryz.func11, Tryz.ntmps11
  go_wp2_with fail
  refine LG.out.mono ?_
  rintro e w1 ⟨rfl, hb1⟩
  have hw1 := below_step hw0 hb1
  have hB2 := hB1.below hb1 hB1.lt
  clear hb1 hw0 LG hB0 hB1 b0 b1 b2
  obtain ⟨b0, b1, b2⟩ : _ ∧ _ ∧ _ := ⟨hB2.cell 0, hB2.cell 1, hB2.cell 2⟩
  go_wp2_with fail
  refine (F1.out _ (HE.out.all hw1)).mono ?_
  rintro e w2 ⟨rfl, hb2⟩
  have hw2 := below_step hw1 hb2
  have hB3 := hB2.below hb2 hB2.lt
  clear hb2 hw1 hB2 b0 b1 b2
  obtain ⟨b0, b1, b2⟩ : _ ∧ _ ∧ _ := ⟨hB3.cell 0, hB3.cell 1, hB3.cell 2⟩
  go_wp2_with fail
  refine (F2.out _).mono ?_
  rintro e w3 ⟨rfl, hb3⟩
  have hw3 := below_step hw2 hb3
  have hB4 := hB3.below hb3 hB3.lt
  clear hb3 hw2 hB3 b0 b1 b2
  go_wp2_with fail
  refine (P1.out _ (HE.out.all hw3)).mono ?_
  rintro e w4 ⟨rfl, hb4⟩
  have hw4 := below_alloc (below_step hw3 hb4) (.cells (poA (yd, yc, yp)) PostT)
  have hY := BlockAt.new w4 (poA (yd, yc, yp)) PostT
  have hB5 := (hB4.below hb4 hB4.lt).alloc (.cells (poA (yd, yc, yp)) PostT)
  clear hb4 hw3 hB4
  go_wp2_with fail
  refine (P2.out _).mono ?_
  rintro e w5 ⟨rfl, hb5⟩
  have hw5 := below_alloc (below_step hw4 hb5) (.cells (poA (yd, yc, yp)) PostT)
  have hY2 := (hY.below hb5 hY.lt).alloc (.cells (poA (yd, yc, yp)) PostT)
  have hZ := BlockAt.new w5 (poA (yd, yc, yp)) PostT
  have hB6 := (BlockAt.below hB5 hb5 (BlockAt.lt hB5)).alloc (.cells (poA (yd, yc, yp)) PostT)
  clear hb5 hw4 hY hB5
  obtain ⟨b0, b1, b2⟩ : _ ∧ _ ∧ _ := ⟨BlockAt.cell hY2 0, BlockAt.cell hY2 1, BlockAt.cell hY2 2⟩
  obtain ⟨d0, d1, d2⟩ : _ ∧ _ ∧ _ := ⟨hZ.cell 0, hZ.cell 1, hZ.cell 2⟩
  go_wp2_with fail
  refine (P3.out _ (HE.out.all hw5)).mono ?_
  rintro e w6 ⟨rfl, hb6⟩
  have hw6 := below_alloc (below_step hw5 hb6) (.cells (poA (xd, xc, xp)) PostT)
  have hX := BlockAt.new w6 (poA (xd, xc, xp)) PostT
  have hB7 := (BlockAt.below hB6 hb6 (BlockAt.lt hB6)).alloc (.cells (poA (xd, xc, xp)) PostT)
  clear hb6 hw5 hY2 hZ hB6 b0 b1 b2 d0 d1 d2
  obtain ⟨b0, b1, b2⟩ : _ ∧ _ ∧ _ := ⟨BlockAt.cell hB7 0, BlockAt.cell hB7 1, BlockAt.cell hB7 2⟩
  obtain ⟨d0, d1, d2⟩ : _ ∧ _ ∧ _ := ⟨hX.cell 0, hX.cell 1, hX.cell 2⟩
  go_wp2_with fail
  refine (SA.out _ (HE.out.all hw6)).mono ?_
  rintro e w7 ⟨rfl, hb7⟩
  have hw7 := below_step hw6 hb7
  clear hb7 hw6
  go_wp2
  go_ret
  exact ⟨rfl, hw7⟩
end Go.Proofs.YtcljpklgpedolaaGreatDoor
