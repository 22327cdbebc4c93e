/- Names and the checking of postings: of the reference. The checking of postings: of the reference. The text of a posting: of both sides. -/
import Derived.Test.YtcljpklgpedolaaGreatDoorBkQC
import Derived.Test.YtcljpklgpedolaaGreatDoorSeqA
import Derived.Test.YtcljpklgpedolaaGreatDoorMonB
namespace Go.Proofs.YtcljpklgpedolaaGreatDoor
open Go.RowKit Go.Sort

set_option maxRecDepth 20000 in
set_option maxHeartbeats 1000000 in
theorem refName_any (s : ByteArray) (w : World) (hs : s.size ≤ 9223372036854775807) :
    Calls Tryz.prog 77 #[.string s] w fun e w' => e = .returned (.bool (Bk.name s.data.toList)) ∧ w' = w := by
  have hl := len_size s
  by_cases h0 : s.size < 1
  · have HR : Hid (Bk.name s.data.toList = false) := Lib.hid (by
      have : s.data.toList = [] := List.length_eq_zero_iff.1 (by omega)
      rw [this]; rfl)
    clear hl
    generalize Bk.name s.data.toList = R at *
    go_enter Tryz.func77, Tryz.ntmps77
    go_wp2
    go_ret
    exact ⟨by rw [HR.out]; rfl, rfl⟩
  by_cases h1 : 8 < s.size
  · have HR : Hid (Bk.name s.data.toList = false) := Lib.hid (by
      have h2 : ¬ s.data.toList.length ≤ 8 := by omega
      unfold Bk.name; rw [decide_eq_false h2, Bool.false_and, Bool.and_false])
    have q3 : decide ((8 : Int) < (s.size : Int)) = true := by rw [decide_eq_true_eq]; omega
    clear hl
    generalize Bk.name s.data.toList = R at *
    go_enter Tryz.func77, Tryz.ntmps77
    go_wp2
    go_ret
    exact ⟨by rw [HR.out]; rfl, rfl⟩
  have hne : s.data.toList ≠ [] := fun e => by rw [e] at hl; simp at hl; omega
  have HT : Hid ((∀ j, j < s.size → Bk.okn j (s.data.toList.getD j 0) = true) → Bk.name s.data.toList = true) := Lib.hid (fun h => by
    unfold Bk.name
    rw [decide_eq_true hne, decide_eq_true (show s.data.toList.length ≤ 8 by omega), Bk.oks_iff.2 (fun j hj => h j (by omega))]; rfl)
  have HF := Lib.hid (fun k (h : k < s.size) hf => Bk.name_no (s := s.data.toList) (k := k) (by omega) hf)
  have HG := Lib.hid (fun k (h : k < s.size) => byteD_at s h)
  clear hne hl
  generalize Bk.name s.data.toList = R at *
  go_enter Tryz.func77, Tryz.ntmps77
  go_wp2
  go_loopw [3] (fun t wr => ∃ k : Nat, k ≤ s.size ∧ t = .int .i64 (k : Int) ∧ Hid ((∀ j, j < k → Bk.okn j (s.data.toList.getD j 0) = true) ∧ w = wr)) (fun t _ => s.size - (intOf t).toNat)
  case atStart => exact ⟨0, Nat.zero_le _, rfl, Lib.hid ⟨fun j hj => absurd hj (Nat.not_lt_zero _), rfl⟩⟩
  case round =>
    obtain ⟨pos, hk, rfl, hg⟩ := hrel
    obtain rfl := hg.out.2
    by_cases hp : pos < s.size
    · have HO := Lib.hid (fun (hok : Bk.okn pos (s[pos]'hp) = true) => show ∀ j, j < pos + 1 → Bk.okn j (s.data.toList.getD j 0) = true from fun j hj => by
        by_cases e : j < pos
        · exact hg.out.1 j e
        · obtain rfl : j = pos := by omega
          rw [HG.out j hp]; exact hok)
      have HN := Lib.hid (fun (hok : ¬ Bk.okn pos (s[pos]'hp) = true) => HF.out pos hp (by rw [HG.out pos hp]; exact Bool.not_eq_true _ ▸ hok))
      clear hg
      have hc : ((97 ≤ (s[pos]'hp).toNat ∧ (s[pos]'hp).toNat ≤ 122) ∨ ((48 ≤ (s[pos]'hp).toNat ∧ (s[pos]'hp).toNat ≤ 57) ∧ pos ≠ 0)) ∨ ((48 ≤ (s[pos]'hp).toNat ∧ (s[pos]'hp).toNat ≤ 57) ∧ pos = 0) ∨ (s[pos]'hp).toNat < 48 ∨ (57 < (s[pos]'hp).toNat ∧ (s[pos]'hp).toNat < 97) ∨ 122 < (s[pos]'hp).toNat := by omega
      have hc2 : pos = 0 ∨ pos ≠ 0 := by omega
      rcases hc with (⟨c1, c2⟩ | ⟨⟨c1, c2⟩, c3⟩) | ⟨⟨c1, c2⟩, c3⟩ | c1 | ⟨c1, c2⟩ | c1
      · have HX := Lib.hid (HO.out (Bk.okn_iff.2 (.inl ⟨c1, c2⟩)))
        clear HO HN
        go_wp2
        go_roundw
        case rel => exact ⟨pos + 1, by omega, by go_num, Lib.hid ⟨HX.out, by first | rfl | trivial⟩⟩
        case measure => simp [intOf]; omega
      · have HX := Lib.hid (HO.out (Bk.okn_iff.2 (.inr ⟨⟨c1, c2⟩, c3⟩)))
        have q3 : ((pos : Int) == 0) = false := by rw [beq_eq_false_iff_ne]; omega
        clear HO HN
        go_wp2
        go_roundw
        case rel => exact ⟨pos + 1, by omega, by go_num, Lib.hid ⟨HX.out, by first | rfl | trivial⟩⟩
        case measure => simp [intOf]; omega
      · have HX := Lib.hid (HN.out (by rw [Bk.okn_iff]; omega))
        have q3 : ((pos : Int) == 0) = true := by rw [c3]; rfl
        clear HO HN c3 hc2
        go_wp2
        go_ret
        exact ⟨by rw [HX.out]; rfl, rfl⟩
      · have HX := Lib.hid (HN.out (by rw [Bk.okn_iff]; omega))
        clear HO HN
        have hq3 : ((pos : Int) == 0) = true ∨ ((pos : Int) == 0) = false := by cases ((pos : Int) == 0) <;> simp
        clear hc2
        rcases hq3 with q3 | q3
        all_goals (
          go_wp2
          go_ret
          exact ⟨by rw [HX.out]; rfl, rfl⟩)
      · have HX := Lib.hid (HN.out (by rw [Bk.okn_iff]; omega))
        clear HO HN
        have hq3 : ((pos : Int) == 0) = true ∨ ((pos : Int) == 0) = false := by cases ((pos : Int) == 0) <;> simp
        clear hc2
        rcases hq3 with q3 | q3
        all_goals (
          go_wp2
          go_ret
          exact ⟨by rw [HX.out]; rfl, rfl⟩)
      · have HX := Lib.hid (HN.out (by rw [Bk.okn_iff]; omega))
        clear HO HN
        have q5 : decide (((s[pos]'hp).toNat : Int) ≤ 122) = false := by rw [decide_eq_false_iff_not]; omega
        have hq3 : ((pos : Int) == 0) = true ∨ ((pos : Int) == 0) = false := by cases ((pos : Int) == 0) <;> simp
        clear hc2
        rcases hq3 with q3 | q3
        all_goals (
          go_wp2
          go_ret
          exact ⟨by rw [HX.out]; rfl, rfl⟩)
    · obtain rfl : pos = s.size := by omega
      have HX : Hid (R = true) := Lib.hid (HT.out hg.out.1)
      clear hg
      go_wp2
      go_ret
      exact ⟨by rw [HX.out]; rfl, rfl⟩
theorem refName_list (l : List UInt8) (w : World) (hs : l.length ≤ 9223372036854775807) :
    Calls Tryz.prog 77 #[sv l] w fun e w' => e = .returned (.bool (Bk.name l)) ∧ w' = w :=
  refName_any ⟨l.toArray⟩ w (by show l.toArray.size ≤ _; rw [List.size_toArray]; exact hs)
end Go.Proofs.YtcljpklgpedolaaGreatDoor
namespace Go.Proofs.YtcljpklgpedolaaGreatDoor
open Go.RowKit Go.Sort

set_option maxRecDepth 20000 in
set_option maxHeartbeats 1000000 in
theorem refValidate_any (v : Value) (xs : List Bk.Po) (w : World) (hv : Posts w v xs) (hl : xs.length ≤ 1000000) (hz : ∀ k (hk : k < xs.length), Bk.wide xs[k]) :
    Calls Tryz.prog 44 #[v] w fun e w' => e = .returned (.int .i64 (Bk.valE xs)) ∧ Below w.heap.size w w' := by
  obtain ⟨va, vc, rfl, _, hvk⟩ := hv
  by_cases h64 : 64 < xs.length
  · have hE : Bk.valE xs = 4 := by unfold Bk.valE; rw [if_pos h64]
    rw [hE]
    clear hvk hz hE
    go_enter Tryz.func44, Tryz.ntmps44
    go_wp2
    go_ret
    exact ⟨rfl, Below.refl _ _⟩
  have H2 : Hid (xs.all Bk.nms = false → Bk.valE xs = 2) := Lib.hid (fun h => by unfold Bk.valE; rw [if_neg h64, if_pos h])
  have H1 : Hid (xs.all Bk.nms = true → xs.all Bk.fit = false → Bk.valE xs = 1) := Lib.hid (fun h h' => by unfold Bk.valE; rw [if_neg h64, if_neg (by rw [h]; simp), if_pos h'])
  have H0 : Hid (xs.all Bk.nms = true → xs.all Bk.fit = true → Bk.valE xs = 0) := Lib.hid (fun h h' => by unfold Bk.valE; rw [if_neg h64, if_neg (by rw [h]; simp), if_neg (by rw [h']; simp)])
  have HN := Lib.hid (fun k (h : k < xs.length) => Bk.all_next Bk.nms h)
  have HNF := Lib.hid (fun k (h : k < xs.length) hf => Bk.all_no Bk.nms h hf)
  have HM := Lib.hid (fun k (h : k < xs.length) => Bk.all_next Bk.fit h)
  have HMF := Lib.hid (fun k (h : k < xs.length) hf => Bk.all_no Bk.fit h hf)
  have HZ := Lib.hid hz
  have HV := Lib.hid hvk
  generalize Bk.valE xs = E at *
  clear hvk hz
  go_enter Tryz.func44, Tryz.ntmps44
  go_wp2
  go_loopw [3] (fun t wr => ∃ k : Nat, k ≤ xs.length ∧ t = .int .i64 (k : Int) ∧ Hid ((xs.take k).all Bk.nms = true ∧ Below w.heap.size w wr)) (fun t _ => xs.length - (intOf t).toNat)
  case atStart => exact ⟨0, Nat.zero_le _, rfl, Lib.hid ⟨rfl, Below.refl _ _⟩⟩
  case round =>
    obtain ⟨k, hk, rfl, hg⟩ := hrel
    by_cases hlt : k < xs.length
    · obtain ⟨b, off, rfl, hb, hr⟩ := HV.out k hlt
      obtain ⟨c0, c1, c2⟩ := po_at (hr.below hg.out.2 hb)
      have hx : (xs.take (k + 1)).all Bk.nms = ((xs.take k).all Bk.nms && Bk.nms xs[k]) := HN.out k hlt
      rw [hg.out.1, Bool.true_and] at hx
      have HX := Lib.hid hx
      have HF := Lib.hid (fun (h : Bk.nms xs[k] = false) => H2.out (HNF.out k hlt h))
      have hzk := HZ.out k hlt
      have HB := Lib.hid hg.out.2
      clear hr hg hx
      generalize xs[k] = x at *
      obtain ⟨xd, xc, xp⟩ := x
      obtain ⟨z1, z2, z3, z4⟩ : xd.length ≤ 9223372036854775807 ∧ xc.length ≤ 9223372036854775807 ∧ -9223372036854775808 ≤ xp ∧ xp ≤ 9223372036854775807 := hzk
      have C1 := Lib.hid (fun W => refName_list xd W z1)
      have C2 := Lib.hid (fun W => refName_list xc W z2)
      have hn : Bk.nms (xd, xc, xp) = (Bk.name xd && Bk.name xc) := rfl
      rw [hn] at HX HF
      clear z1 z2 hn
      have hw1 := HB.out
      cases hn1 : Bk.name xd with
      | false =>
        rw [hn1] at C1 HX HF
        go_wp2_with fail
        refine (C1.out _).mono ?_
        rintro e w2 ⟨rfl, rfl⟩
        have hw2 := hw1
        clear C1 C2 hw1 c0 c1 c2
        go_wp2
        go_ret
        exact ⟨by rw [HF.out rfl]; rfl, hw2⟩
      | true =>
        rw [hn1] at C1 HX HF
        go_wp2_with fail
        refine (C1.out _).mono ?_
        rintro e w2 ⟨rfl, rfl⟩
        have hw2 := hw1
        clear C1 hw1
        cases hn2 : Bk.name xc with
        | false =>
          rw [hn2] at C2 HX HF
          go_wp2_with fail
          refine (C2.out _).mono ?_
          rintro e w3 ⟨rfl, rfl⟩
          have hw3 := hw2
          clear C2 hw2 c0 c1 c2
          go_wp2
          go_ret
          exact ⟨by rw [HF.out rfl]; rfl, hw3⟩
        | true =>
          rw [hn2] at C2 HX HF
          go_wp2_with fail
          refine (C2.out _).mono ?_
          rintro e w3 ⟨rfl, rfl⟩
          have hw3 := hw2
          clear C2 hw2 c0 c1 c2
          go_wp2
          go_roundw
          case rel => exact ⟨k + 1, by omega, by go_num, Lib.hid ⟨by rw [HX.out]; rfl, hw3⟩⟩
          case measure => simp [intOf]; omega
    · have hall : xs.all Bk.nms = true := by have := hg.out.1; rwa [show k = xs.length by omega, List.take_length] at this
      have H1' := Lib.hid (H1.out hall)
      have H0' := Lib.hid (H0.out hall)
      have HB := Lib.hid hg.out.2
      clear hall hg H1 H0 H2 HN HNF
      go_wp2
      go_loopw [4] (fun t w2 => ∃ k : Nat, k ≤ xs.length ∧ t = .int .i64 (k : Int) ∧ Hid ((xs.take k).all Bk.fit = true ∧ Below w.heap.size w w2)) (fun t _ => xs.length - (intOf t).toNat)
      case atStart => exact ⟨0, Nat.zero_le _, rfl, Lib.hid ⟨rfl, HB.out⟩⟩
      case round =>
        obtain ⟨k, hk, rfl, hg⟩ := hrel
        by_cases hlt : k < xs.length
        · obtain ⟨b, off, rfl, hb, hr⟩ := HV.out k hlt
          obtain ⟨c0, c1, c2⟩ := po_at (hr.below hg.out.2 hb)
          have hx : (xs.take (k + 1)).all Bk.fit = ((xs.take k).all Bk.fit && Bk.fit xs[k]) := HM.out k hlt
          rw [hg.out.1, Bool.true_and] at hx
          have HX := Lib.hid hx
          have HF := Lib.hid (fun (h : Bk.fit xs[k] = false) => H1'.out (HMF.out k hlt h))
          have hzk := HZ.out k hlt
          have HB2 := Lib.hid hg.out.2
          clear hr hg hx
          generalize xs[k] = x at *
          obtain ⟨xd, xc, xp⟩ := x
          obtain ⟨z1, z2, z3, z4⟩ : xd.length ≤ 9223372036854775807 ∧ xc.length ≤ 9223372036854775807 ∧ -9223372036854775808 ≤ xp ∧ xp ≤ 9223372036854775807 := hzk
          have hn : Bk.fit (xd, xc, xp) = (decide (xd ≠ xc) && (decide (1 ≤ xp) && decide (xp ≤ 1099511627776))) := rfl
          rw [hn] at HX HF
          clear z1 z2 hn
          have HB3 := HB2
          clear HB2
          have hc : (xd = xc) ∨ (xd ≠ xc ∧ xp < 1) ∨ (xd ≠ xc ∧ ¬ xp < 1 ∧ 1099511627776 < xp) ∨ (xd ≠ xc ∧ ¬ xp < 1 ∧ ¬ 1099511627776 < xp) := by
            by_cases h1 : xd = xc
            · exact .inl h1
            · by_cases h2 : xp < 1
              · exact .inr (.inl ⟨h1, h2⟩)
              · by_cases h3 : 1099511627776 < xp
                · exact .inr (.inr (.inl ⟨h1, h2, h3⟩))
                · exact .inr (.inr (.inr ⟨h1, h2, h3⟩))
          rcases hc with h1 | ⟨h1, h2⟩ | ⟨h1, h2, h3⟩ | ⟨h1, h2, h3⟩
          · have q1 : (xd == xc) = true := by simpa using h1
            have HE := Lib.hid (HF.out (by simp [h1]))
            clear h1 HX HF
            go_upto_region 11 with fail
            refine wp_region_seq [(0, true), (1, true), (2, true), (3, true), (4, true), (5, true), (6, true), (7, true), (8, true), (9, true), (10, true), (11, true), (12, true), (13, true), (14, true), (15, true), (16, true), (17, true), (18, true), (19, true), (20, true), (21, true), (22, true), (23, true), (24, true), (25, true), (26, true)] (fun W => W.cell? ⟨b, off + k * 3, none⟩ = some (sv xd) ∧ W.cell? ⟨b, off + k * 3 + 1, none⟩ = some (sv xc) ∧ W.cell? ⟨b, off + k * 3 + 2, none⟩ = some (.int .i64 xp) ∧ Below w.heap.size w W)
              (by kernel_rfl) (by kernel_rfl) (by kernel_rfl) (by kernel_rfl) (fun d _ _ _ _ h => by cases d <;> exact h) ⟨c0, c1, c2, HB3.out.drew⟩ (fun hS0 => ?_)
            repeat (first
              | (refine SeqH.take (v := ?_) rfl (by rfl) ?_ ?_; rotate_left; (· intro w hSw; obtain ⟨c0, c1, c2, _⟩ := hSw; go_simp; (try with_reducible rfl)); simp only [Act.put, List.setIfInBounds_toArray, List.set_cons_zero, List.set_cons_succ])
              | (refine SeqH.skip rfl (by rfl) ?_; simp only [Act.put, List.setIfInBounds_toArray, List.set_cons_zero, List.set_cons_succ]))
            refine SeqH.done ?_
            go_wp2
            go_ret
            exact ⟨by rw [HE.out]; rfl, hS0.2.2.2⟩
          · have q1 : (xd == xc) = false := by simpa using h1
            have HE := Lib.hid (HF.out (by rw [decide_eq_false (show ¬ 1 ≤ xp by omega)]; simp))
            clear h1 HX HF
            go_upto_region 11 with fail
            refine wp_region_seq [(0, true), (1, true), (2, true), (3, true), (4, true), (5, true), (6, true), (7, true), (8, true), (9, true), (10, true), (11, true), (12, true), (13, true), (14, true), (15, true), (16, true), (17, true), (18, true), (19, true), (20, true), (21, true), (22, true), (23, true), (24, true), (25, true), (26, true)] (fun W => W.cell? ⟨b, off + k * 3, none⟩ = some (sv xd) ∧ W.cell? ⟨b, off + k * 3 + 1, none⟩ = some (sv xc) ∧ W.cell? ⟨b, off + k * 3 + 2, none⟩ = some (.int .i64 xp) ∧ Below w.heap.size w W)
              (by kernel_rfl) (by kernel_rfl) (by kernel_rfl) (by kernel_rfl) (fun d _ _ _ _ h => by cases d <;> exact h) ⟨c0, c1, c2, HB3.out.drew⟩ (fun hS0 => ?_)
            repeat (first
              | (refine SeqH.take (v := ?_) rfl (by rfl) ?_ ?_; rotate_left; (· intro w hSw; obtain ⟨c0, c1, c2, _⟩ := hSw; go_simp; (try with_reducible rfl)); simp only [Act.put, List.setIfInBounds_toArray, List.set_cons_zero, List.set_cons_succ])
              | (refine SeqH.skip rfl (by rfl) ?_; simp only [Act.put, List.setIfInBounds_toArray, List.set_cons_zero, List.set_cons_succ]))
            refine SeqH.done ?_
            go_wp2
            go_ret
            exact ⟨by rw [HE.out]; rfl, hS0.2.2.2⟩
          · have q1 : (xd == xc) = false := by simpa using h1
            have HE := Lib.hid (HF.out (by rw [decide_eq_false (show ¬ xp ≤ 1099511627776 by omega)]; simp))
            clear h1 HX HF
            go_upto_region 11 with fail
            refine wp_region_seq [(0, true), (1, true), (2, true), (3, true), (4, true), (5, true), (6, true), (7, true), (8, true), (9, true), (10, true), (11, true), (12, true), (13, true), (14, true), (15, true), (16, true), (17, true), (18, true), (19, true), (20, true), (21, true), (22, true), (23, true), (24, true), (25, true), (26, true)] (fun W => W.cell? ⟨b, off + k * 3, none⟩ = some (sv xd) ∧ W.cell? ⟨b, off + k * 3 + 1, none⟩ = some (sv xc) ∧ W.cell? ⟨b, off + k * 3 + 2, none⟩ = some (.int .i64 xp) ∧ Below w.heap.size w W)
              (by kernel_rfl) (by kernel_rfl) (by kernel_rfl) (by kernel_rfl) (fun d _ _ _ _ h => by cases d <;> exact h) ⟨c0, c1, c2, HB3.out.drew⟩ (fun hS0 => ?_)
            repeat (first
              | (refine SeqH.take (v := ?_) rfl (by rfl) ?_ ?_; rotate_left; (· intro w hSw; obtain ⟨c0, c1, c2, _⟩ := hSw; go_simp; (try with_reducible rfl)); simp only [Act.put, List.setIfInBounds_toArray, List.set_cons_zero, List.set_cons_succ])
              | (refine SeqH.skip rfl (by rfl) ?_; simp only [Act.put, List.setIfInBounds_toArray, List.set_cons_zero, List.set_cons_succ]))
            refine SeqH.done ?_
            go_wp2
            go_ret
            exact ⟨by rw [HE.out]; rfl, hS0.2.2.2⟩
          · have q1 : (xd == xc) = false := by simpa using h1
            have HX2 : Hid ((xs.take (k + 1)).all Bk.fit = true) := Lib.hid (by rw [HX.out, decide_eq_true h1, decide_eq_true (show 1 ≤ xp by omega), decide_eq_true (show xp ≤ 1099511627776 by omega)]; rfl)
            clear h1 HX HF
            go_upto_region 11 with fail
            refine wp_region_seq [(0, true), (1, true), (2, true), (3, true), (4, true), (5, true), (6, true), (7, true), (8, true), (9, true), (10, true), (11, true), (12, true), (13, true), (14, true), (15, true), (16, true), (17, true), (18, true), (19, true), (20, true), (21, true), (22, true), (23, true), (24, true), (25, true), (26, true)] (fun W => W.cell? ⟨b, off + k * 3, none⟩ = some (sv xd) ∧ W.cell? ⟨b, off + k * 3 + 1, none⟩ = some (sv xc) ∧ W.cell? ⟨b, off + k * 3 + 2, none⟩ = some (.int .i64 xp) ∧ Below w.heap.size w W)
              (by kernel_rfl) (by kernel_rfl) (by kernel_rfl) (by kernel_rfl) (fun d _ _ _ _ h => by cases d <;> exact h) ⟨c0, c1, c2, HB3.out.drew⟩ (fun hS0 => ?_)
            repeat (first
              | (refine SeqH.take (v := ?_) rfl (by rfl) ?_ ?_; rotate_left; (· intro w hSw; obtain ⟨c0, c1, c2, _⟩ := hSw; go_simp; (try with_reducible rfl)); simp only [Act.put, List.setIfInBounds_toArray, List.set_cons_zero, List.set_cons_succ])
              | (refine SeqH.skip rfl (by rfl) ?_; simp only [Act.put, List.setIfInBounds_toArray, List.set_cons_zero, List.set_cons_succ]))
            refine SeqH.done ?_
            go_wp2
            go_roundw
            case rel => exact ⟨k + 1, by omega, by go_num, Lib.hid ⟨HX2.out, hS0.2.2.2⟩⟩
            case measure => simp [intOf]; omega
        · have hall2 : xs.all Bk.fit = true := by have := hg.out.1; rwa [show k = xs.length by omega, List.take_length] at this
          have HE := Lib.hid (H0'.out hall2)
          have HB2 := Lib.hid hg.out.2
          clear hall2 hg
          go_wp2
          go_ret
          exact ⟨by rw [HE.out]; rfl, HB2.out⟩
end Go.Proofs.YtcljpklgpedolaaGreatDoor
namespace Go.Proofs.YtcljpklgpedolaaGreatDoor
open Go.RowKit Go.Sort

def Bk.fpS (x : Bk.Po) : List UInt8 := if Bk.valE [x] = 0 then Bk.fmtP x else []
theorem Bk.fp_no {x : Bk.Po} (h : Bk.valE [x] ≠ 0) : Bk.fpS x = [] := by unfold Bk.fpS; rw [if_neg h]
theorem Bk.fp_yes {x : Bk.Po} (h : Bk.valE [x] = 0) : Bk.fpS x = Bk.fmtP x := by unfold Bk.fpS; rw [if_pos h]
/-- What a posting that is accepted alone is. -/
theorem Bk.val_one {x : Bk.Po} (h : Bk.valE [x] = 0) : Bk.name x.1 = true ∧ Bk.name x.2.1 = true ∧ x.1 ≠ x.2.1 ∧ 1 ≤ x.2.2 ∧ x.2.2 ≤ 1099511627776 := by
  unfold Bk.valE at h
  rw [if_neg (by simp)] at h
  by_cases h1 : ([x].all Bk.nms) = false
  · rw [if_pos h1] at h; exact absurd h (by decide)
  · rw [if_neg h1] at h
    by_cases h2 : ([x].all Bk.fit) = false
    · rw [if_pos h2] at h; exact absurd h (by decide)
    · have a : Bk.nms x = true := by
        cases hn : Bk.nms x with
        | true => rfl
        | false => exact absurd (by simp [hn]) h1
      have b : Bk.fit x = true := by
        cases hn : Bk.fit x with
        | true => rfl
        | false => exact absurd (by simp [hn]) h2
      unfold Bk.nms at a
      unfold Bk.fit at b
      simp only [Bool.and_eq_true, decide_eq_true_eq] at a b
      exact ⟨a.1, a.2, b.1, b.2.1, b.2.2⟩
theorem Bk.name_len {l : List UInt8} (h : Bk.name l = true) : l.length ≤ 8 := by
  unfold Bk.name at h
  simp only [Bool.and_eq_true, decide_eq_true_eq] at h
  exact h.2.1
theorem Bk.fmtM_len {p : Int} (h1 : 1 ≤ p) (h2 : p ≤ 1099511627776) : (Tx.fmtM p).length ≤ 64 := by
  unfold Tx.fmtM
  rw [if_neg (by omega), if_neg (by omega), List.nil_append]
  have := Tx.mW_join_len (n := p.natAbs) (by omega)
  omega
theorem Bk.fmtP_join (x : Bk.Po) : Bk.fmtP x = Lib.join [[112, 111, 115, 116], x.1, x.2.1, Tx.fmtM x.2.2] [32] := by
  unfold Bk.fmtP Lib.join List.intercalate
  simp
theorem Bk.fmtP_len {x : Bk.Po} (h : Bk.valE [x] = 0) : (Bk.fmtP x).length ≤ 90 := by
  obtain ⟨h1, h2, _, h3, h4⟩ := Bk.val_one h
  have a := Bk.name_len h1
  have b := Bk.name_len h2
  have c := Bk.fmtM_len h3 h4
  unfold Bk.fmtP
  simp only [List.length_append, List.length_cons, List.length_nil]
  omega
/-- What is told of a posting that is written. -/
def FpSays (x : Bk.Po) (w : World) (e : Ending) (w' : World) : Prop := e = .returned (.tuple #[sv (Bk.fpS x), .int .i64 (Bk.valE [x])]) ∧ Below w.heap.size w w'
theorem posts_wide {x : Bk.Po} (hx : Bk.wide x) : ∀ k (hk : k < [x].length), Bk.wide [x][k] := fun k hk => by
  obtain rfl : k = 0 := by simp at hk; exact hk
  exact hx
set_option maxRecDepth 20000 in
set_option maxHeartbeats 1000000 in
theorem formatPosting_any (x : Bk.Po) (w : World) (hE : EnvB w) (hx : Bk.wide x) :
    Calls Tryz.prog 46 #[poV x] w (FpSays x w) := by
  have HV := Lib.hid (fun (W : World) B (hB : W.heap[B]? = some (.cells (poA x) PostT (0, 0))) => validate_any (.slice (some ⟨B, 0, none⟩) 1 1) [x] W (posts_at hB) (by simp) (posts_wide hx))
  have HE := Lib.hid hE
  unfold FpSays
  have hw0 := below_alloc (below_alloc (Below.refl w.heap.size w) (.cells (poA x) PostT)) (.cells (poA x) PostT)
  have hB0 := BlockAt.new w (poA x) PostT
  have hbs : ((w.alloc (.cells (poA x) PostT)).alloc (.cells (poA x) PostT)).heap[w.heap.size + 1]? = some (.cells (poA x) PostT (0, 0)) := by
    have h := BlockAt.new (w.alloc (.cells (poA x) PostT)) (poA x) PostT
    rw [World.size_alloc] at h
    exact h
  have hB1 : BlockAt ((w.alloc (.cells (poA x) PostT)).alloc (.cells (poA x) PostT)) w.heap.size (poA x) PostT := BlockAt.alloc hB0 _
  have C := Lib.hid (HV.out _ _ hbs)
  obtain ⟨d, c, p⟩ := x
  obtain ⟨b0, b1, b2⟩ : _ ∧ _ ∧ _ := ⟨hB0.cell 0, hB0.cell 1, hB0.cell 2⟩
  clear hE hbs HV
  by_cases hv : Bk.valE [(d, c, p)] = 0
  case neg =>
    have HR := Lib.hid (Bk.fp_no hv)
    generalize Bk.fpS (d, c, p) = S at *
    generalize Bk.valE [(d, c, p)] = E at *
    have q1 : (E == 0) = false := by simpa using hv
    have q2 : (E != 0) = true := by simpa using hv
    go_enter Tryz.func46, Tryz.ntmps46
    go_wp2_with fail
    refine C.out.mono ?_
    rintro e w1 ⟨rfl, hb1⟩
    have hw1 := below_step hw0 hb1
    clear hb1 hw0 hB0 hB1 C hv b0 b1 b2
    go_wp2
    go_ret2
    exact ⟨by rw [HR.out]; rfl, hw1⟩
  have HR := Lib.hid (Bk.fp_yes hv)
  obtain ⟨v1, v2, _, v3, v4⟩ : Bk.name d = true ∧ Bk.name c = true ∧ d ≠ c ∧ 1 ≤ p ∧ p ≤ 1099511627776 := Bk.val_one hv
  have hin : Tx.inM p = true := by unfold Tx.inM; simp only [Bool.and_eq_true, decide_eq_true_eq]; omega
  have HM := Lib.hid (fun W hW => formatMoney_any p W hW)
  unfold MonSays at HM
  rw [if_pos hin, if_pos hin] at HM
  have hjn := Bk.fmtP_join (d, c, p)
  have hlen := Bk.fmtP_len hv
  rw [hjn] at hlen
  have HJ := Lib.hid (fun (W : World) => Tryz.strings_Join W.heap.size 0 4 ([[112, 111, 115, 116], d, c, Tx.fmtM p].map fun x => (⟨x.toArray⟩ : ByteArray)) ⟨#[32]⟩ (W.alloc (.cells #[sv [112, 111, 115, 116], sv d, sv c, sv (Tx.fmtM p)] 9)) (fun j y hy => by
    have h := (BlockAt.new W #[sv [112, 111, 115, 116], sv d, sv c, sv (Tx.fmtM p)] 9).cell j
    rw [Nat.zero_add, h]
    match j, hy with
    | 0, hy => simp at hy; subst hy; rfl
    | 1, hy => simp at hy; subst hy; rfl
    | 2, hy => simp at hy; subst hy; rfl
    | 3, hy => simp at hy; subst hy; rfl) (by simp) (by simp) (by simp) (by
      rw [strs_back]
      show (Lib.join _ [32]).length ≤ _
      have e : ([[112, 111, 115, 116], d, c, Tx.fmtM p] : List (List UInt8)) = [[112, 111, 115, 116], (d, c, p).1, (d, c, p).2.1, Tx.fmtM (d, c, p).2.2] := rfl
      rw [e]; omega))
  rw [strs_back] at HJ
  have hsp : (⟨#[32]⟩ : ByteArray).data.toList = [32] := rfl
  rw [hsp] at HJ
  have hj2 : Lib.join [[112, 111, 115, 116], d, c, Tx.fmtM p] [32] = Bk.fmtP (d, c, p) := hjn.symm
  rw [hj2] at HJ
  have hln4 : ([[112, 111, 115, 116], d, c, Tx.fmtM p].map fun x => (⟨x.toArray⟩ : ByteArray)).length = 4 := rfl
  rw [hln4] at HJ
  rw [hv] at C
  rw [hv]
  clear hjn hlen hsp hj2 hln4 hin hv v1 v2 v3 v4 hx
  generalize Bk.fpS (d, c, p) = S at *
  generalize Bk.fmtP (d, c, p) = F at *
  generalize Tx.fmtM p = M at *
  go_enter Tryz.func46, Tryz.ntmps46
  go_wp2_with fail
  refine C.out.mono ?_
  rintro e w1 ⟨rfl, hb1⟩
  have hw1 := below_step hw0 hb1
  have hB2 := hB1.below hb1 hB1.lt
  clear hb1 hw0 hB0 hB1 C b0 b1 b2
  obtain ⟨b0, b1, b2⟩ : _ ∧ _ ∧ _ := ⟨hB2.cell 0, hB2.cell 1, hB2.cell 2⟩
  go_wp2_with fail
  refine (HM.out _ (HE.out.all hw1).1).mono ?_
  rintro e w2 ⟨rfl, hb2⟩
  have hw2 := below_step hw1 hb2
  have hB3 := hB2.below hb2 hB2.lt
  clear hb2 hw1 hB2 HM b0 b1 b2
  obtain ⟨b0, b1, b2⟩ : _ ∧ _ ∧ _ := ⟨hB3.cell 0, hB3.cell 1, hB3.cell 2⟩
  go_wp2_with fail
  refine (HJ.out w2).mono ?_
  rintro e w3 ⟨rfl, hb3⟩
  have hw3 := below_step (below_alloc hw2 (.cells #[sv [112, 111, 115, 116], sv d, sv c, sv M] 9)) hb3
  clear hb3 hw2 HJ
  go_wp2
  go_ret2
  exact ⟨by rw [HR.out]; rfl, hw3⟩
set_option maxRecDepth 20000 in
set_option maxHeartbeats 1000000 in
theorem refFormatPosting_any (x : Bk.Po) (w : World) (hx : Bk.wide x) :
    Calls Tryz.prog 47 #[poV x] w (FpSays x w) := by
  have HV := Lib.hid (fun (W : World) B (hB : W.heap[B]? = some (.cells (poA x) PostT (0, 0))) => refValidate_any (.slice (some ⟨B, 0, none⟩) 1 1) [x] W (posts_at hB) (by simp) (posts_wide hx))
  unfold FpSays
  have hw0 := below_alloc (below_alloc (Below.refl w.heap.size w) (.cells (poA x) PostT)) (.cells (poA x) PostT)
  have hB0 := BlockAt.new w (poA x) PostT
  have hbs : ((w.alloc (.cells (poA x) PostT)).alloc (.cells (poA x) PostT)).heap[w.heap.size + 1]? = some (.cells (poA x) PostT (0, 0)) := by
    have h := BlockAt.new (w.alloc (.cells (poA x) PostT)) (poA x) PostT
    rw [World.size_alloc] at h
    exact h
  have hB1 : BlockAt ((w.alloc (.cells (poA x) PostT)).alloc (.cells (poA x) PostT)) w.heap.size (poA x) PostT := BlockAt.alloc hB0 _
  have C := Lib.hid (HV.out _ _ hbs)
  obtain ⟨d, c, p⟩ := x
  obtain ⟨b0, b1, b2⟩ : _ ∧ _ ∧ _ := ⟨hB0.cell 0, hB0.cell 1, hB0.cell 2⟩
  clear hbs HV
  by_cases hv : Bk.valE [(d, c, p)] = 0
  case neg =>
    have HR := Lib.hid (Bk.fp_no hv)
    generalize Bk.fpS (d, c, p) = S at *
    generalize Bk.valE [(d, c, p)] = E at *
    have q1 : (E == 0) = false := by simpa using hv
    have q2 : (E != 0) = true := by simpa using hv
    go_enter Tryz.func47, Tryz.ntmps47
    go_wp2_with fail
    refine C.out.mono ?_
    rintro e w1 ⟨rfl, hb1⟩
    have hw1 := below_step hw0 hb1
    clear hb1 hw0 hB0 hB1 C hv b0 b1 b2
    go_wp2
    go_ret2
    exact ⟨by rw [HR.out]; rfl, hw1⟩
  have HR := Lib.hid (Bk.fp_yes hv)
  obtain ⟨v1, v2, _, v3, v4⟩ : Bk.name d = true ∧ Bk.name c = true ∧ d ≠ c ∧ 1 ≤ p ∧ p ≤ 1099511627776 := Bk.val_one hv
  have hin : Tx.inM p = true := by unfold Tx.inM; simp only [Bool.and_eq_true, decide_eq_true_eq]; omega
  have HM := Lib.hid (fun W => refFormatMoney_any p W)
  unfold MonSays at HM
  rw [if_pos hin, if_pos hin] at HM
  have l1 : d.length ≤ 8 := Bk.name_len v1
  have l2 : c.length ≤ 8 := Bk.name_len v2
  have l3 := Bk.fmtM_len v3 v4
  have hC : (⟨[(112 : UInt8), 111, 115, 116, 32].toArray⟩ : ByteArray) ++ (⟨d.toArray⟩ : ByteArray) ++ (⟨#[32]⟩ : ByteArray) ++ (⟨c.toArray⟩ : ByteArray) ++ (⟨#[32]⟩ : ByteArray) ++ (⟨(Tx.fmtM p).toArray⟩ : ByteArray) = ⟨(Bk.fmtP (d, c, p)).toArray⟩ := by
    rw [show (⟨#[32]⟩ : ByteArray) = ⟨[(32 : UInt8)].toArray⟩ from rfl, bytes_append, bytes_append, bytes_append, bytes_append, bytes_append]
    unfold Bk.fmtP; simp
  have HC := Lib.hid hC
  rw [hv] at C
  rw [hv]
  clear hin hv v1 v2 v3 v4 hx hC
  have hsv : sv (Bk.fmtP (d, c, p)) = .string ⟨(Bk.fmtP (d, c, p)).toArray⟩ := rfl
  have HS : Hid (sv (Bk.fpS (d, c, p)) = .string ⟨(Bk.fmtP (d, c, p)).toArray⟩) := Lib.hid (by rw [HR.out])
  clear hsv HR
  generalize sv (Bk.fpS (d, c, p)) = S at *
  generalize Bk.fmtP (d, c, p) = F at *
  generalize Tx.fmtM p = M at *
  go_enter Tryz.func47, Tryz.ntmps47
  go_wp2_with fail
  refine C.out.mono ?_
  rintro e w1 ⟨rfl, hb1⟩
  have hw1 := below_step hw0 hb1
  have hB2 := hB1.below hb1 hB1.lt
  clear hb1 hw0 hB0 hB1 C b0 b1 b2
  obtain ⟨b0, b1, b2⟩ : _ ∧ _ ∧ _ := ⟨hB2.cell 0, hB2.cell 1, hB2.cell 2⟩
  go_wp2_with fail
  refine (HM.out _).mono ?_
  rintro e w2 ⟨rfl, hb2⟩
  have hw2 := below_step hw1 hb2
  have hB3 := hB2.below hb2 hB2.lt
  clear hb2 hw1 hB2 HM b0 b1 b2
  obtain ⟨b0, b1, b2⟩ : _ ∧ _ ∧ _ := ⟨hB3.cell 0, hB3.cell 1, hB3.cell 2⟩
  go_wp2
  go_ret2
  exact ⟨by rw [HS.out, ← HC.out]; rfl, hw2⟩
end Go.Proofs.YtcljpklgpedolaaGreatDoor
