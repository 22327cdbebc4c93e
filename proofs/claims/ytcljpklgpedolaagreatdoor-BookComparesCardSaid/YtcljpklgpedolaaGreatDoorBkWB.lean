/- The law on comparing. -/
import Derived.Test.YtcljpklgpedolaaGreatDoorBkQH
namespace Go.Proofs.YtcljpklgpedolaaGreatDoor
open Go.RowKit Go.Sort

set_option maxRecDepth 20000 in
set_option maxHeartbeats 2000000 in
theorem compares_walk (a b : ByteArray) (w : World) (hE : EnvB w) (ha : a.size ≤ 9223372036854775807) (hb : b.size ≤ 9223372036854775807) :
    Calls Tryz.prog 7 #[.string a, .string b] w fun e w' => e = .returned (.bool true) ∧ Below w.heap.size w w' := by
  have HE := Lib.hid hE
  have SA := Lib.hid (fun W hW => sane_any W hW)
  have hw0 := below_alloc (Below.refl w.heap.size w) (.cells #[.string a, .string b] 9)
  have LG := Lib.hid (long_two a b w ha hb)
  clear hE
  by_cases hs : a.size ≤ 30000 ∧ b.size ≤ 30000
  · obtain ⟨s1, s2⟩ := hs
    rw [decide_eq_false (show ¬ 30000 < a.size by omega), decide_eq_false (show ¬ 30000 < b.size by omega)] at LG
    have P1 := Lib.hid (fun W hW => relation_any a b W hW (by omega) (by omega))
    have P2 := Lib.hid (fun W hW => refRelation_any a b W hW (by omega) (by omega))
    unfold RelSays at P1 P2
    have P3 := Lib.hid (fun W hW => merge_any a b W hW (by omega) (by omega))
    have P4 := Lib.hid (fun W hW => refMerge_any a b W hW (by omega) (by omega))
    have P5 := Lib.hid (fun W hW => extend_any a b W hW (by omega) (by omega))
    have P6 := Lib.hid (fun W hW => refExtend_any a b W hW (by omega) (by omega))
    generalize Bk.mrgS a.data.toList b.data.toList = MS at *
    generalize Bk.mrgE a.data.toList b.data.toList = ME at *
    generalize Bk.relE a.data.toList b.data.toList = RE at *
    generalize Bk.relN a.data.toList b.data.toList = RN at *
    generalize Bk.relK a.data.toList b.data.toList = RK at *
    generalize Bk.extS a.data.toList b.data.toList = XS at *
    generalize Bk.extE a.data.toList b.data.toList = XE at *
    go_enter Tryz.func7, Tryz.ntmps7
    go_wp2_with fail
    refine LG.out.mono ?_
    rintro e w1 ⟨rfl, hb1⟩
    have hw1 := below_step hw0 hb1
    clear hb1 hw0 LG
    go_wp2_with fail
    refine (P1.out _ (HE.out.all hw1)).mono ?_
    rintro e w2 ⟨rfl, hb2⟩
    have hw2 := below_step hw1 hb2
    clear hb2 hw1 P1
    go_wp2_with fail
    refine (P2.out _ (HE.out.all hw2)).mono ?_
    rintro e w3 ⟨rfl, hb3⟩
    have hw3 := below_step hw2 hb3
    clear hb3 hw2 P2
    go_wp2_with fail
    refine (P3.out _ (HE.out.all hw3)).mono ?_
    rintro e w4 ⟨rfl, hb4⟩
    have hw4 := below_step hw3 hb4
    clear hb4 hw3 P3
    go_wp2_with fail
    refine (P4.out _ (HE.out.all hw4)).mono ?_
    rintro e w5 ⟨rfl, hb5⟩
    have hw5 := below_step hw4 hb5
    clear hb5 hw4 P4
    go_wp2_with fail
    refine (P5.out _ (HE.out.all hw5)).mono ?_
    rintro e w6 ⟨rfl, hb6⟩
    have hw6 := below_step hw5 hb6
    clear hb6 hw5 P5
    go_wp2_with fail
    refine (P6.out _ (HE.out.all hw6)).mono ?_
    rintro e w7 ⟨rfl, hb7⟩
    have hw7 := below_step hw6 hb7
    clear hb7 hw6 P6
    go_wp2_with fail
    refine (SA.out _ (HE.out.all hw7)).mono ?_
    rintro e w8 ⟨rfl, hb8⟩
    have hw8 := below_step hw7 hb8
    clear hb8 hw7
    go_wp2
    go_ret
    exact ⟨rfl, hw8⟩
  · have hT : (decide (30000 < a.size) || decide (30000 < b.size)) = true := by
      rw [Bool.or_eq_true, decide_eq_true_eq, decide_eq_true_eq]; omega
    rw [hT] at LG
    clear hs hT
    go_enter Tryz.func7, Tryz.ntmps7
    go_wp2_with fail
    refine LG.out.mono ?_
    rintro e w1 ⟨rfl, hb1⟩
    have hw1 := below_step hw0 hb1
    clear hb1 hw0 LG
    go_wp2_with fail
    refine (SA.out _ (HE.out.all hw1)).mono ?_
    rintro e w2 ⟨rfl, hb2⟩
    have hw2 := below_step hw1 hb2
    clear hb2 hw1
    go_wp2
    go_ret
    exact ⟨rfl, hw2⟩
end Go.Proofs.YtcljpklgpedolaaGreatDoor
