/- Which parts a lot can have, and whether it keeps the rule: the program's. -/
import Derived.Test.YtakccghmlcehnaaTaken
namespace Go.Proofs.Ytakccghmlcehnaa
open Go.RowKit

theorem isKind_any (n : Int) (w : World) :
    Calls Try.prog 68 #[.int .i64 n] w fun e w' => e = .returned (.bool (Lt.okK n)) ∧ w = w' := by
  by_cases h1 : 0 ≤ n
  · by_cases h2 : n < 8
    all_goals
      go_enter Try.func68, Try.ntmps68
      go_wp2
      go_ret
      exact ⟨by simp [Lt.okK, h1, h2]; try omega, rfl⟩
  · go_enter Try.func68, Try.ntmps68
    go_wp2
    go_ret
    exact ⟨by simp [Lt.okK, h1]; try omega, rfl⟩
theorem isMass_any (n : Int) (w : World) :
    Calls Try.prog 90 #[.int .i64 n] w fun e w' => e = .returned (.bool (Lt.okM n)) ∧ w = w' := by
  by_cases h1 : 1 ≤ n
  · by_cases h2 : n ≤ 100000
    all_goals
      go_enter Try.func90, Try.ntmps90
      go_wp2
      go_ret
      exact ⟨by simp [Lt.okM, h1, h2]; try omega, rfl⟩
  · go_enter Try.func90, Try.ntmps90
    go_wp2
    go_ret
    exact ⟨by simp [Lt.okM, h1]; try omega, rfl⟩

namespace Lt
theorem okPs_bad {n : Int} {ps : List P} {k : Nat} (h : k < ps.length) (hb : okPart n (ps.take k) ps[k] = false) : okPs n ps = false := by
  cases ho : okPs n ps with
  | false => rfl
  | true => have := okPs_iff.1 ho k h; rw [show ps.getD k default = ps[k] by simp [h], hb] at this; cases this
theorem okPs_good {n : Int} {ps : List P} (h : ∀ k, (hk : k < ps.length) → okPart n (ps.take k) ps[k] = true) : okPs n ps = true :=
  okPs_iff.2 fun k hk => by rw [show ps.getD k default = ps[k] by simp [hk]]; exact h k hk
theorem okPart_low {n : Int} {b : List P} {p : P} (h : p.l < 0 ∨ n ≤ p.l ∨ okM p.m = false) : okPart n b p = false := by
  unfold okPart
  rcases h with h | h | h
  · simp; intro h1; omega
  · simp; intro h1 h2; omega
  · simp [h]
theorem okPart_same {n : Int} {b : List P} {p : P} {j : Nat} (hj : j < b.length) (h : b[j].l = p.l) : okPart n b p = false := by
  cases ho : okPart n b p with
  | false => rfl
  | true => exact absurd h ((okPart_iff.1 ho).2 _ (List.getElem_mem hj))
theorem okPart_good {n : Int} {b : List P} {p : P} (h1 : 0 ≤ p.l) (h2 : p.l < n) (h3 : okM p.m = true) (h : ∀ j, (hj : j < b.length) → b[j].l ≠ p.l) : okPart n b p = true := by
  obtain ⟨h4, h5⟩ := okM_iff.1 h3
  refine okPart_iff.2 ⟨⟨h1, h2, h4, h5⟩, fun q hq => ?_⟩
  obtain ⟨j, hj, rfl⟩ := List.getElem_of_mem hq
  exact h j hj
end Lt

set_option maxRecDepth 20000 in
set_option maxHeartbeats 1000000 in
theorem areParts_any (v : Value) (ps : List Lt.P) (n : Int) (w : World) (hp : Parts w v ps) (hl : ps.length ≤ 1000) :
    Calls Try.prog 91 #[v, .int .i64 n] w fun e w' => e = .returned (.bool (Lt.okPs n ps)) ∧ Below w.heap.size w w' := by
  obtain ⟨a, c, rfl, hk⟩ := hp.look
  have hcap : ps.length ≤ c ∨ ps.length = 0 := by
    rcases hp with ⟨a', c', e, rfl, _⟩ | ⟨b, off, cap, e, hc, _⟩
    · exact .inr rfl
    · simp only [Value.slice.injEq] at e; exact .inl (by omega)
  have HK := Lib.hid hk
  have H0 := Lib.hid (Below.refl w.heap.size w)
  generalize hR : Lt.okPs n ps = R
  have HR := Lib.hid hR
  clear hk hp hR
  go_enter Try.func91, Try.ntmps91
  go_wp2
  go_loopw [11] (fun t wr => ∃ k : Nat, k ≤ ps.length ∧ t = .int .i64 k ∧ Hid (Below w.heap.size w wr ∧ ∀ j, (hj : j < ps.length) → j < k → Lt.okPart n (ps.take j) ps[j] = true)) (fun t _ => ps.length - (intOf t).toNat)
  case atStart => exact ⟨0, Nat.zero_le _, rfl, Lib.hid ⟨H0.out, fun j _ h => absurd h (Nat.not_lt_zero _)⟩⟩
  case round =>
    obtain ⟨k, hk, rfl, hg⟩ := hrel
    obtain ⟨hw, hpre⟩ := hg.out
    clear H0 hg
    have HPRE := Lib.hid hpre
    clear hpre
    by_cases hlt : k < ps.length
    · obtain ⟨b, off, rfl, hb, hpt⟩ := HK.out k hlt
      rw [getD_P hlt] at hpt
      obtain ⟨c0, c1⟩ := hpt.below hw hb
      have HBAD := Lib.hid (fun h => (Lt.okPs_bad (n := n) hlt h).symm.trans HR.out)
      have HGOOD := Lib.hid (Lt.okPart_good (n := n) (b := ps.take k) (p := ps[k]))
      have HSAME := Lib.hid (fun j hj => Lt.okPart_same (n := n) (b := ps.take k) (p := ps[k]) (j := j) hj)
      have HLOW := Lib.hid (Lt.okPart_low (n := n) (b := ps.take k) (p := ps[k]))
      have hcc : (k : Int) ≤ (c : Int) := by omega
      have hw1 := below_alloc hw (.cells #[.int .i64 ps[k].l, .int .i64 ps[k].m] 35)
      have hw1s := hw.size
      have HW := Lib.hid hw1
      have HKK := HK
      clear hpt hw1 hw
      generalize hpk : ps[k] = p at *
      have HPK := Lib.hid hpk
      clear hpk
      obtain ⟨pl, pm⟩ := p
      dsimp only at *
      by_cases h1 : pl < 0
      · go_wp2
        go_ret
        exact ⟨ret_bool (HBAD.out (HLOW.out (.inl h1))), HW.out⟩
      · by_cases h2 : n ≤ pl
        · go_wp2
          go_ret
          exact ⟨ret_bool (HBAD.out (HLOW.out (.inr (.inl h2)))), HW.out⟩
        · cases h3 : Lt.okM pm with
          | false =>
            have HM := Lib.hid h3
            clear h3
            go_wp2_with fail
            refine (isMass_any pm _).mono ?_
            rw [HM.out]
            rintro e w1 ⟨rfl, rfl⟩
            go_wp2
            go_ret
            exact ⟨ret_bool (HBAD.out (HLOW.out (.inr (.inr HM.out)))), HW.out⟩
          | true =>
            have HM := Lib.hid h3
            clear h3
            have hp0 : 0 ≤ pl := by omega
            have hpn : pl < n := by omega
            have hbx := BlockAt.new wr #[.int .i64 pl, .int .i64 pm] 35
            have HBX := Lib.hid hbx
            clear hbx h1 h2
            go_wp2_with fail
            refine (isMass_any pm _).mono ?_
            rw [HM.out]
            rintro e w1 ⟨rfl, rfl⟩
            obtain ⟨wo, hwo⟩ : ∃ wo, wr.alloc (.cells #[.int .i64 pl, .int .i64 pm] 35) = wo := ⟨_, rfl⟩
            rw [hwo] at HW HBX
            go_wp2_with fail
            have hlen2 : (ps.take k).length = k := by simp; omega
            go_loopw [35] (fun t w2 => ∃ j : Nat, j ≤ k ∧ t = .int .i64 j ∧ Hid (Below wo.heap.size wo w2 ∧ ∀ l, (hl : l < ps.length) → l < j → ps[l].l ≠ pl)) (fun t _ => k - (intOf t).toNat)
            case atStart => exact ⟨0, Nat.zero_le _, rfl, Lib.hid ⟨Below.refl _ _, fun l _ h => absurd h (Nat.not_lt_zero _)⟩⟩
            case round =>
              obtain ⟨j, hj, rfl, hg⟩ := hrel
              obtain ⟨hw2, hpre⟩ := hg.out
              have HP2 := Lib.hid hpre
              clear hg hpre
              have hbx2 := HBX.out.below hw2 HBX.out.lt
              have e0 := hbx2.cell 0
              have hsz := hbx2.lt
              have hbw : b < wo.heap.size := by have := HW.out.size; omega
              have hww := below_step HW.out hw2
              by_cases hjl : j < k
              · obtain ⟨b', off', hbo, hb', hpt⟩ := HK.out j (by omega)
                simp only [Option.some.injEq, Addr.mk.injEq, and_true] at hbo
                obtain ⟨rfl, rfl⟩ := hbo
                rw [getD_P (by omega)] at hpt
                obtain ⟨c0, c1⟩ := hpt.below hww hb
                have hjp : j < ps.length := by omega
                by_cases hsm : ps[j].l = pl
                · have HS := Lib.hid (HSAME.out j (by rw [hlen2]; exact hjl) (by simp only [List.getElem_take]; exact hsm))
                  rw [hsm] at c0
                  have hpl : (pl == pl) = true := by simp
                  have HWW := Lib.hid hww
                  clear hpt hbx2 hw2 hsm hww
                  generalize ps[j] = pj at *
                  go_wp2
                  go_ret
                  exact ⟨ret_bool (HBAD.out HS.out), below_alloc HWW.out _⟩
                · have hne : (ps[j].l == pl) = false := by simpa using hsm
                  have HNE := Lib.hid hsm
                  have HW2 := Lib.hid hw2
                  clear hpt hbx2 hw2 hsm hww
                  go_wp2
                  go_roundw
                  case rel =>
                    refine ⟨j + 1, by omega, by go_num, Lib.hid ⟨below_alloc HW2.out _, fun l hl hlj => ?_⟩⟩
                    by_cases e : l = j
                    · subst e; exact HNE.out
                    · exact HP2.out l hl (by omega)
                  case measure => simp [intOf]; omega
              · obtain rfl : j = k := by omega
                have HG := Lib.hid (HGOOD.out hp0 hpn HM.out (fun l hl => by
                  have hl' : l < j := by rw [hlen2] at hl; exact hl
                  simp only [List.getElem_take]; exact HP2.out l (by omega) hl'))
                have HWW := Lib.hid hww
                clear hbx2 hw2 hww e0
                go_wp2
                go_roundw
                case rel =>
                  refine ⟨j + 1, by omega, by go_num, Lib.hid ⟨HWW.out, fun l hl hlj => ?_⟩⟩
                  by_cases e : l = j
                  · subst e; rw [HPK.out]; exact HG.out
                  · exact HPRE.out l hl (by omega)
                case measure => simp [intOf]; omega
    · obtain rfl : k = ps.length := by omega
      have hR : R = true := by rw [← HR.out]; exact Lt.okPs_good fun j hj => HPRE.out j hj hj
      have HRT := Lib.hid hR
      clear hR
      go_wp2
      go_ret
      exact ⟨ret_bool HRT.out.symm, hw⟩
end Go.Proofs.Ytakccghmlcehnaa
