/- The checking of postings: of the program. -/
import Derived.Test.YtcljpklgpedolaaGreatDoorBk9
namespace Go.Proofs.YtcljpklgpedolaaGreatDoor
open Go.RowKit Go.Sort

/-- Texts that are no longer than a machine's, and a sum that is one. -/
def Bk.wide (x : Bk.Po) : Prop := x.1.length ≤ 9223372036854775807 ∧ x.2.1.length ≤ 9223372036854775807 ∧ -9223372036854775808 ≤ x.2.2 ∧ x.2.2 ≤ 9223372036854775807
theorem isName_list (l : List UInt8) (w : World) (hs : l.length ≤ 9223372036854775807) :
    Calls Tryz.prog 76 #[sv l] w fun e w' => e = .returned (.bool (Bk.name l)) ∧ Below w.heap.size w w' :=
  isName_any ⟨l.toArray⟩ w (by show l.toArray.size ≤ _; rw [List.size_toArray]; exact hs)
set_option maxRecDepth 20000 in
set_option maxHeartbeats 1000000 in
theorem validate_any (v : Value) (xs : List Bk.Po) (w : World) (hv : Posts w v xs) (hl : xs.length ≤ 1000000) (hz : ∀ k (hk : k < xs.length), Bk.wide xs[k]) :
    Calls Tryz.prog 43 #[v] w fun e w' => e = .returned (.int .i64 (Bk.valE xs)) ∧ Below w.heap.size w w' := by
  obtain ⟨va, vc, rfl, _, hvk⟩ := hv
  by_cases h64 : 64 < xs.length
  · have hE : Bk.valE xs = 4 := by unfold Bk.valE; rw [if_pos h64]
    rw [hE]
    clear hvk hz hE
    go_enter Tryz.func43, Tryz.ntmps43
    go_wp2
    go_ret
    exact ⟨rfl, Below.refl _ _⟩
  have H2 : Hid (xs.all Bk.nms = false → Bk.valE xs = 2) := Lib.hid (fun h => by unfold Bk.valE; rw [if_neg h64, if_pos h])
  have H1 : Hid (xs.all Bk.nms = true → xs.all Bk.fit = false → Bk.valE xs = 1) := Lib.hid (fun h h' => by unfold Bk.valE; rw [if_neg h64, if_neg (by rw [h]; simp), if_pos h'])
  have H0 : Hid (xs.all Bk.nms = true → xs.all Bk.fit = true → Bk.valE xs = 0) := Lib.hid (fun h h' => by unfold Bk.valE; rw [if_neg h64, if_neg (by rw [h]; simp), if_neg (by rw [h']; simp)])
  have HN := Lib.hid (fun k (h : k < xs.length) => Bk.all_next Bk.nms h)
  have HNF := Lib.hid (fun k (h : k < xs.length) hf => Bk.all_no Bk.nms h hf)
  have HM := Lib.hid (fun k (h : k < xs.length) => Bk.all_next Bk.fit h)
  have HMF := Lib.hid (fun k (h : k < xs.length) hf => Bk.all_no Bk.fit h hf)
  have HZ := Lib.hid hz
  have HV := Lib.hid hvk
  generalize Bk.valE xs = E at *
  clear hvk hz
  go_enter Tryz.func43, Tryz.ntmps43
  go_wp2
  go_loopw [12] (fun t wr => ∃ k : Nat, k ≤ xs.length ∧ t = .int .i64 (k : Int) ∧ Hid ((xs.take k).all Bk.nms = true ∧ Below w.heap.size w wr)) (fun t _ => xs.length - (intOf t).toNat)
  case atStart => exact ⟨0, Nat.zero_le _, rfl, Lib.hid ⟨rfl, Below.refl _ _⟩⟩
  case round =>
    obtain ⟨k, hk, rfl, hg⟩ := hrel
    by_cases hlt : k < xs.length
    · obtain ⟨b, off, rfl, hb, hr⟩ := HV.out k hlt
      obtain ⟨c0, c1, c2⟩ := po_at (hr.below hg.out.2 hb)
      have hx : (xs.take (k + 1)).all Bk.nms = ((xs.take k).all Bk.nms && Bk.nms xs[k]) := HN.out k hlt
      rw [hg.out.1, Bool.true_and] at hx
      have HX := Lib.hid hx
      have HF := Lib.hid (fun (h : Bk.nms xs[k] = false) => H2.out (HNF.out k hlt h))
      have hzk := HZ.out k hlt
      have HB := Lib.hid hg.out.2
      clear hr hg hx
      generalize xs[k] = x at *
      obtain ⟨xd, xc, xp⟩ := x
      obtain ⟨z1, z2, z3, z4⟩ : xd.length ≤ 9223372036854775807 ∧ xc.length ≤ 9223372036854775807 ∧ -9223372036854775808 ≤ xp ∧ xp ≤ 9223372036854775807 := hzk
      have C1 := Lib.hid (fun W => isName_list xd W z1)
      have C2 := Lib.hid (fun W => isName_list xc W z2)
      have hn : Bk.nms (xd, xc, xp) = (Bk.name xd && Bk.name xc) := rfl
      rw [hn] at HX HF
      clear z1 z2 hn
      have hB := BlockAt.new wr (poA (xd, xc, xp)) PostT
      have hw1 := below_alloc HB.out (.cells (poA (xd, xc, xp)) PostT)
      obtain ⟨d0, d1, d2⟩ : _ ∧ _ ∧ _ := ⟨hB.cell 0, hB.cell 1, hB.cell 2⟩
      cases hn1 : Bk.name xd with
      | false =>
        rw [hn1] at C1 HX HF
        go_wp2_with fail
        refine (C1.out _).mono ?_
        rintro e w2 ⟨rfl, hb2⟩
        have hw2 := below_step hw1 hb2
        clear C1 C2 hb2 hw1 hB d0 d1 d2 c0 c1 c2
        go_wp2
        go_ret
        exact ⟨by rw [HF.out rfl]; rfl, hw2⟩
      | true =>
        rw [hn1] at C1 HX HF
        go_wp2_with fail
        refine (C1.out _).mono ?_
        rintro e w2 ⟨rfl, hb2⟩
        have hB2 := hB.below hb2 hB.lt
        have hw2 := below_step hw1 hb2
        clear C1 hb2 hw1 hB d0 d1 d2 c0 c1 c2
        obtain ⟨d0, d1, d2⟩ : _ ∧ _ ∧ _ := ⟨hB2.cell 0, hB2.cell 1, hB2.cell 2⟩
        cases hn2 : Bk.name xc with
        | false =>
          rw [hn2] at C2 HX HF
          go_wp2_with fail
          refine (C2.out _).mono ?_
          rintro e w3 ⟨rfl, hb3⟩
          have hw3 := below_step hw2 hb3
          clear C2 hb3 hw2 hB2 d0 d1 d2
          go_wp2
          go_ret
          exact ⟨by rw [HF.out rfl]; rfl, hw3⟩
        | true =>
          rw [hn2] at C2 HX HF
          go_wp2_with fail
          refine (C2.out _).mono ?_
          rintro e w3 ⟨rfl, hb3⟩
          have hw3 := below_step hw2 hb3
          clear C2 hb3 hw2 hB2 d0 d1 d2
          go_wp2
          go_roundw
          case rel => exact ⟨k + 1, by omega, by go_num, Lib.hid ⟨by rw [HX.out]; rfl, hw3⟩⟩
          case measure => simp [intOf]; omega
    · have hall : xs.all Bk.nms = true := by have := hg.out.1; rwa [show k = xs.length by omega, List.take_length] at this
      have H1' := Lib.hid (H1.out hall)
      have H0' := Lib.hid (H0.out hall)
      have HB := Lib.hid hg.out.2
      clear hall hg H1 H0 H2 HN HNF
      go_wp2
      go_loopw [29] (fun t w2 => ∃ k : Nat, k ≤ xs.length ∧ t = .int .i64 (k : Int) ∧ Hid ((xs.take k).all Bk.fit = true ∧ Below w.heap.size w w2)) (fun t _ => xs.length - (intOf t).toNat)
      case atStart => exact ⟨0, Nat.zero_le _, rfl, Lib.hid ⟨rfl, HB.out⟩⟩
      case round =>
        obtain ⟨k, hk, rfl, hg⟩ := hrel
        by_cases hlt : k < xs.length
        · obtain ⟨b, off, rfl, hb, hr⟩ := HV.out k hlt
          obtain ⟨c0, c1, c2⟩ := po_at (hr.below hg.out.2 hb)
          have hx : (xs.take (k + 1)).all Bk.fit = ((xs.take k).all Bk.fit && Bk.fit xs[k]) := HM.out k hlt
          rw [hg.out.1, Bool.true_and] at hx
          have HX := Lib.hid hx
          have HF := Lib.hid (fun (h : Bk.fit xs[k] = false) => H1'.out (HMF.out k hlt h))
          have hzk := HZ.out k hlt
          have HB2 := Lib.hid hg.out.2
          clear hr hg hx
          generalize xs[k] = x at *
          obtain ⟨xd, xc, xp⟩ := x
          obtain ⟨z1, z2, z3, z4⟩ : xd.length ≤ 9223372036854775807 ∧ xc.length ≤ 9223372036854775807 ∧ -9223372036854775808 ≤ xp ∧ xp ≤ 9223372036854775807 := hzk
          have hn : Bk.fit (xd, xc, xp) = (decide (xd ≠ xc) && (decide (1 ≤ xp) && decide (xp ≤ 1099511627776))) := rfl
          rw [hn] at HX HF
          clear z1 z2 hn
          have HB3 := Lib.hid (below_alloc HB2.out (.cells (poA (xd, xc, xp)) PostT))
          clear HB2
          have hc : (xd = xc) ∨ (xd ≠ xc ∧ xp < 1) ∨ (xd ≠ xc ∧ ¬ xp < 1 ∧ 1099511627776 < xp) ∨ (xd ≠ xc ∧ ¬ xp < 1 ∧ ¬ 1099511627776 < xp) := by
            by_cases h1 : xd = xc
            · exact .inl h1
            · by_cases h2 : xp < 1
              · exact .inr (.inl ⟨h1, h2⟩)
              · by_cases h3 : 1099511627776 < xp
                · exact .inr (.inr (.inl ⟨h1, h2, h3⟩))
                · exact .inr (.inr (.inr ⟨h1, h2, h3⟩))
          rcases hc with h1 | ⟨h1, h2⟩ | ⟨h1, h2, h3⟩ | ⟨h1, h2, h3⟩
          · have q1 : (xd == xc) = true := by simpa using h1
            have HE := Lib.hid (HF.out (by simp [h1]))
            clear h1 HX HF
            go_wp2
            go_ret
            exact ⟨by rw [HE.out]; rfl, HB3.out⟩
          · have q1 : (xd == xc) = false := by simpa using h1
            have HE := Lib.hid (HF.out (by rw [decide_eq_false (show ¬ 1 ≤ xp by omega)]; simp))
            clear h1 HX HF
            go_wp2
            go_ret
            exact ⟨by rw [HE.out]; rfl, HB3.out⟩
          · have q1 : (xd == xc) = false := by simpa using h1
            have HE := Lib.hid (HF.out (by rw [decide_eq_false (show ¬ xp ≤ 1099511627776 by omega)]; simp))
            clear h1 HX HF
            go_wp2
            go_ret
            exact ⟨by rw [HE.out]; rfl, HB3.out⟩
          · have q1 : (xd == xc) = false := by simpa using h1
            have HX2 : Hid ((xs.take (k + 1)).all Bk.fit = true) := Lib.hid (by rw [HX.out, decide_eq_true h1, decide_eq_true (show 1 ≤ xp by omega), decide_eq_true (show xp ≤ 1099511627776 by omega)]; rfl)
            clear h1 HX HF
            go_wp2
            go_roundw
            case rel => exact ⟨k + 1, by omega, by go_num, Lib.hid ⟨HX2.out, HB3.out⟩⟩
            case measure => simp [intOf]; omega
        · have hall2 : xs.all Bk.fit = true := by have := hg.out.1; rwa [show k = xs.length by omega, List.take_length] at this
          have HE := Lib.hid (H0'.out hall2)
          have HB2 := Lib.hid hg.out.2
          clear hall2 hg
          go_wp2
          go_ret
          exact ⟨by rw [HE.out]; rfl, HB2.out⟩
end Go.Proofs.YtcljpklgpedolaaGreatDoor
