/- The first error of a lot: the reference's. What is left of a lot, and whether a genealogy is valid: the reference's. Whether a genealogy is valid, and the numbers of some lots: the reference's. -/
import Derived.Test.YtccjbefmcifaeaaVals
namespace Go.Proofs.Ytccjbefmcifaeaa
open Go.RowKit

theorem within_iff_any (n lo hi : Int) (w : World) :
    Calls Try.prog 70 #[.int .i64 n, .int .i64 lo, .int .i64 hi] w fun e w' => e = .returned (.bool (decide (lo ≤ n) && decide (n ≤ hi))) ∧ w = w' := by
  by_cases h1 : lo ≤ n
  · by_cases h2 : n ≤ hi
    all_goals
      go_enter Try.func70, Try.ntmps70
      go_wp2
      go_ret
      exact ⟨by simp [h1, h2]; try omega, rfl⟩
  · go_enter Try.func70, Try.ntmps70
    go_wp2
    go_ret
    exact ⟨by simp [h1]; try omega, rfl⟩
theorem withinK_any (n : Int) (w : World) : Calls Try.prog 70 #[.int .i64 n, .int .i64 0, .int .i64 7] w fun e w' => e = .returned (.bool (Lt.okK n)) ∧ w = w' :=
  (within_iff_any n 0 7 w).mono fun e w' ⟨h1, h2⟩ => ⟨by rw [h1]; unfold Lt.okK; rw [show decide (n ≤ 7) = decide (n < 8) by rw [decide_eq_decide]; omega], h2⟩
theorem withinM_any (n : Int) (w : World) : Calls Try.prog 70 #[.int .i64 n, .int .i64 1, .int .i64 100000] w fun e w' => e = .returned (.bool (Lt.okM n)) ∧ w = w' :=
  (within_iff_any n 1 100000 w).mono fun e w' ⟨h1, h2⟩ => ⟨by rw [h1]; rfl, h2⟩
theorem oil_succ (ls : List Lt.L) {ps : List Lt.P} {k : Nat} (h : k < ps.length) : Lt.oil ls (ps.take (k + 1)) = (Lt.oil ls (ps.take k) || Lt.kindAt ls ps[k].l == 0) := by
  unfold Lt.oil; rw [Lt.take_P h, List.any_append]; simp

set_option maxRecDepth 100000 in
set_option maxHeartbeats 4000000 in
theorem wrong_any (v : Value) (ls : List Lt.L) (i : Nat) (w : World) (hv : Lots w v ls) (hsh : short ls) (hi : i < ls.length) :
    Calls Try.prog 63 #[v, .int .i64 i] w fun e w' => e = .returned (.int .i64 (Lt.errAt ls i)) ∧ Below w.heap.size w w' := by
  obtain ⟨la, lc, hvv, hlk⟩ := hv.look
  obtain ⟨b, off, u, rfl, hb, c0, c1, c2, hps⟩ := hlk i hi
  subst hvv
  have hl20 := hsh.2 i hi
  have hE : Lt.errAt ls i = (let x := ls.getD i default; if (Lt.okK x.k && Lt.okM x.m) = false then 1 else if 6 < x.ps.length then 4 else if Lt.okPs i x.ps = false then 1 else if Lt.ruleOk ls x = false then 9 else 0) := rfl
  have HKND := Lib.hid (fun (j : Nat) (hj : j < ls.length) => show ∃ c, w.cell? ⟨b, off + j * 3, none⟩ = some (.int .i64 c) ∧ c = Lt.kindAt ls (j : Int) from by
    obtain ⟨b', off', u', hbo, _, d0, _⟩ := hlk j hj
    simp only [Option.some.injEq, Addr.mk.injEq, and_true] at hbo
    obtain ⟨rfl, rfl⟩ := hbo
    exact ⟨_, d0, by simp [Lt.kindAt]⟩)
  generalize hx : ls.getD i default = x at *
  obtain ⟨kk, mm, ps⟩ := x
  dsimp only at *
  obtain ⟨a, c, rfl, hpk⟩ := hps.look
  have HPK := Lib.hid hpk
  have hw1 := below_alloc (Below.refl w.heap.size w) (.cells #[.int .i64 kk, .int .i64 mm, .slice a ps.length c] 25)
  have bX := BlockAt.new w #[.int .i64 kk, .int .i64 mm, .slice a ps.length c] 25
  have KIND := Lib.hid (fun W => withinK_any kk W)
  have MASS := Lib.hid (fun W => withinM_any mm W)
  have H0 := Lib.hid (And.intro hw1 bX)
  have HPV := Lib.hid hps
  have HE := Lib.hid hE
  clear hlk hw1 bX hps hv hsh hE hx hpk
  cases hk : Lt.okK kk with
  | false =>
    have HX := Lib.hid (show Lt.errAt ls i = 1 by rw [HE.out, hk]; rfl)
    rw [hk] at KIND
    clear hk HE
    go_enter Try.func63, Try.ntmps63
    go_wp2_with fail
    refine (KIND.out _).mono ?_
    rintro e w1 ⟨rfl, rfl⟩
    go_wp2
    go_ret
    exact ⟨ret_int HX.out.symm, H0.out.1⟩
  | true =>
    rw [hk] at KIND
    cases hm : Lt.okM mm with
    | false =>
      have HX := Lib.hid (show Lt.errAt ls i = 1 by rw [HE.out, hk, hm]; rfl)
      rw [hm] at MASS
      clear hk hm HE
      go_enter Try.func63, Try.ntmps63
      go_wp2_with fail
      refine (KIND.out _).mono ?_
      rintro e w1 ⟨rfl, rfl⟩
      go_wp2_with fail
      refine (MASS.out _).mono ?_
      rintro e w1 ⟨rfl, rfl⟩
      go_wp2
      go_ret
      exact ⟨ret_int HX.out.symm, H0.out.1⟩
    | true =>
      rw [hm] at MASS
      have hE2 := HE.out
      rw [hk, hm] at hE2
      simp only [Bool.and_true, Bool.true_eq_false, if_false] at hE2
      have HE2 := Lib.hid hE2
      clear hk hm HE hE2
      by_cases h6 : 6 < ps.length
      · have HX := Lib.hid (show Lt.errAt ls i = 4 by rw [HE2.out, if_pos h6])
        go_enter Try.func63, Try.ntmps63
        go_wp2_with fail
        refine (KIND.out _).mono ?_
        rintro e w1 ⟨rfl, rfl⟩
        go_wp2_with fail
        refine (MASS.out _).mono ?_
        rintro e w1 ⟨rfl, rfl⟩
        go_wp2
        go_ret
        exact ⟨ret_int HX.out.symm, H0.out.1⟩
      · have HE3 := Lib.hid (show Lt.errAt ls i = (if Lt.okPs i ps = false then 1 else if Lt.ruleOk ls ⟨kk, mm, ps⟩ = false then 9 else 0) by rw [HE2.out, if_neg h6])
        have h6b : decide (6 < (ps.length : Int)) = false := by simp; omega
        clear HE2
        go_enter Try.func63, Try.ntmps63
        go_wp2_with fail
        refine (KIND.out _).mono ?_
        rintro e w1 ⟨rfl, rfl⟩
        go_wp2_with fail
        refine (MASS.out _).mono ?_
        rintro e w1 ⟨rfl, rfl⟩
        clear c0 c1 c2
        go_wp2
        go_loopw [6, 7] (fun o t wr => ∃ k : Nat, k ≤ ps.length ∧ t = .int .i64 k ∧ o = .bool (Lt.oil ls (ps.take k)) ∧ Hid ((Below w.heap.size w wr ∧ BlockAt wr w.heap.size #[.int .i64 kk, .int .i64 mm, .slice a ps.length c] 25) ∧ ∀ j, (hj : j < ps.length) → j < k → Lt.okPart i (ps.take j) ps[j] = true)) (fun _ t _ => ps.length - (intOf t).toNat)
        case atStart => exact ⟨0, Nat.zero_le _, rfl, rfl, Lib.hid ⟨H0.out, fun j _ h => absurd h (Nat.not_lt_zero _)⟩⟩
        case round =>
          obtain ⟨k, hk, rfl, rfl, hg⟩ := hrel
          have x2 := hg.out.1.2.cell 2
          clear H0
          by_cases hlt : k < ps.length
          · obtain ⟨pb, poff, rfl, hpb, hpt⟩ := HPK.out k hlt
            rw [getD_P hlt] at hpt
            obtain ⟨c0, c1⟩ := hpt.below hg.out.1.1 hpb
            have HBAD := Lib.hid (fun h => (show Lt.errAt ls i = 1 by rw [HE3.out, Lt.okPs_bad (n := (i : Int)) hlt h]; rfl))
            have HGOOD := Lib.hid (Lt.okPart_good (n := (i : Int)) (b := ps.take k) (p := ps[k]))
            have HSAME := Lib.hid (fun j hj => Lt.okPart_same (n := (i : Int)) (b := ps.take k) (p := ps[k]) (j := j) hj)
            have HLOW := Lib.hid (Lt.okPart_low (n := (i : Int)) (b := ps.take k) (p := ps[k]))
            have HOIL := Lib.hid (oil_succ ls hlt)
            clear hpt
            generalize hpk : ps[k] = p at *
            have HPKK := Lib.hid hpk
            clear hpk
            obtain ⟨pl, pm⟩ := p
            dsimp only at *
            generalize Lt.oil ls (ps.take k) = ob at *
            have HG := hg
            clear hg
            by_cases h1 : pl < 0
            · have HX := Lib.hid (HBAD.out (HLOW.out (.inl h1)))
              go_wp2
              go_ret
              exact ⟨ret_int HX.out.symm, HG.out.1.1⟩
            · by_cases h2 : (i : Int) ≤ pl
              · have HX := Lib.hid (HBAD.out (HLOW.out (.inr (.inl h2))))
                go_wp2
                go_ret
                exact ⟨ret_int HX.out.symm, HG.out.1.1⟩
              · cases h3 : Lt.okM pm with
                | false =>
                  have HM := Lib.hid h3
                  have HX := Lib.hid (HBAD.out (HLOW.out (.inr (.inr h3))))
                  clear h3
                  go_wp2_with fail
                  refine (withinM_any pm _).mono ?_
                  rw [HM.out]
                  rintro e w1 ⟨rfl, rfl⟩
                  go_wp2
                  go_ret
                  exact ⟨ret_int HX.out.symm, HG.out.1.1⟩
                | true =>
                  have HM := Lib.hid h3
                  have hp0 : 0 ≤ pl := by omega
                  have hpn : pl < (i : Int) := by omega
                  clear h3 h1 h2
                  obtain ⟨pj, rfl⟩ : ∃ pj : Nat, pl = (pj : Int) := ⟨pl.toNat, by omega⟩
                  have hd1 : decide (i ≤ pj) = false := by simp; omega
                  have hd2 : decide ((pj : Int) < 0) = false := by simp
                  go_wp2_with fail
                  refine (withinM_any pm _).mono ?_
                  rw [HM.out]
                  rintro e w1 ⟨rfl, rfl⟩
                  have hlen2 : (ps.take k).length = k := by simp; omega
                  clear c0 c1 x2
                  go_wp2
                  obtain ⟨wo, hwo⟩ : ∃ wo : World, wo = wr := ⟨_, rfl⟩
                  subst hwo
                  go_loopw [8] (fun t w2 => ∃ j : Nat, j ≤ k ∧ t = .int .i64 j ∧ Hid (Below wo.heap.size wo w2 ∧ ∀ l, (hl : l < ps.length) → l < j → ps[l].l ≠ (pj : Int))) (fun t _ => k - (intOf t).toNat)
                  case atStart => exact ⟨0, Nat.zero_le _, rfl, Lib.hid ⟨Below.refl _ _, fun l _ h => absurd h (Nat.not_lt_zero _)⟩⟩
                  case round =>
                    obtain ⟨j, hj, rfl, hh⟩ := hrel
                    have hww := below_step HG.out.1.1 hh.out.1
                    have bx := HG.out.1.2.below hh.out.1 HG.out.1.2.lt
                    have x2 := bx.cell 2
                    obtain ⟨b1', off1', hbo1, hb1', hpt1⟩ := HPK.out k hlt
                    simp only [Option.some.injEq, Addr.mk.injEq, and_true] at hbo1
                    obtain ⟨rfl, rfl⟩ := hbo1
                    rw [getD_P hlt, HPKK.out] at hpt1
                    obtain ⟨c0, c1⟩ := hpt1.below hww hpb
                    by_cases hjl : j < k
                    · obtain ⟨b', off', hbo, hb', hpt⟩ := HPK.out j (by omega)
                      simp only [Option.some.injEq, Addr.mk.injEq, and_true] at hbo
                      obtain ⟨rfl, rfl⟩ := hbo
                      rw [getD_P (by omega)] at hpt
                      obtain ⟨e0, e1⟩ := hpt.below hww hpb
                      have hjp : j < ps.length := by omega
                      by_cases hsm : ps[j].l = (pj : Int)
                      · have HX := Lib.hid (HBAD.out (HSAME.out j (by rw [hlen2]; exact hjl) (by simp only [List.getElem_take]; exact hsm)))
                        rw [hsm] at e0
                        have HWW := Lib.hid hww
                        clear hpt hpt1 bx hsm hww
                        generalize ps[j] = pjj at *
                        go_wp2_with fail
                        go_quiet (fail)
                        go_wp2
                        go_ret
                        exact ⟨ret_int HX.out.symm, below_drewN HWW.out _⟩
                      · have hne : (ps[j].l == (pj : Int)) = false := by simpa using hsm
                        have HNE := Lib.hid hsm
                        clear hpt hpt1 bx hsm hww
                        go_wp2_with fail
                        go_quiet (fail)
                        go_wp2
                        go_roundw
                        case rel =>
                          refine ⟨j + 1, by omega, by go_num, Lib.hid ⟨below_drewN hh.out.1 _, fun l hl hlj => ?_⟩⟩
                          by_cases e : l = j
                          · subst e; exact HNE.out
                          · exact hh.out.2 l hl (by omega)
                        case measure => simp [intOf]; omega
                    · obtain rfl : j = k := by omega
                      have HGD := Lib.hid (HGOOD.out hp0 hpn HM.out (fun l hl => by
                        have hl' : l < j := by rw [hlen2] at hl; exact hl
                        simp only [List.getElem_take]; exact hh.out.2 l (by omega) hl'))
                      obtain ⟨kd, hkd, hkk⟩ := HKND.out pj (by omega)
                      have hkc := (hww.cell (p := ⟨b, off + pj * 3, none⟩) hb).trans hkd
                      have HKK := Lib.hid hkk
                      have HB2 := Lib.hid (And.intro hww bx)
                      have hpjl : pj < ls.length := by omega
                      clear hpt1 bx hww hkd hkk
                      cases ob with
                      | true =>
                        go_wp2
                        go_roundw
                        case rel =>
                          refine ⟨j + 1, by omega, by go_num, by rw [HOIL.out]; rfl, Lib.hid ⟨HB2.out, fun l hl hlj => ?_⟩⟩
                          by_cases e : l = j
                          · subst e; rw [HPKK.out]; exact HGD.out
                          · exact HG.out.2 l hl (by omega)
                        case measure => simp [intOf]; omega
                      | false =>
                        go_wp2
                        go_roundw
                        case rel =>
                          refine ⟨j + 1, by omega, by go_num, by rw [HOIL.out, ← HKK.out]; rfl, Lib.hid ⟨HB2.out, fun l hl hlj => ?_⟩⟩
                          by_cases e : l = j
                          · subst e; rw [HPKK.out]; exact HGD.out
                          · exact HG.out.2 l hl (by omega)
                        case measure => simp [intOf]; omega
          · obtain rfl : k = ps.length := by omega
            rw [List.take_length]
            have hok : Lt.okPs i ps = true := Lt.okPs_good fun j hj => hg.out.2 j hj hj
            have HE4 := Lib.hid (show Lt.errAt ls i = (if Lt.ruleOk ls ⟨kk, mm, ps⟩ = false then 9 else 0) by rw [HE3.out, hok]; rfl)
            have hb0 := hg.out.1.1
            have hbX := hg.out.1.2
            have x0 := hbX.cell 0
            have x1 := hbX.cell 1
            have HW := Lib.hid hb0
            by_cases h0 : ps.length = 0
            · have HR : Hid (Lt.ruleOk ls ⟨kk, mm, ps⟩ = (!(kk == 5) && !(kk == 6) && !(kk == 7))) := Lib.hid (by unfold Lt.ruleOk; dsimp only; rw [if_pos h0])
              have G := Lib.hid (fun (b5 b6 b7 : Bool) (h1 : (kk == 5) = b5) (h2 : (kk == 6) = b6) (h3 : (kk == 7) = b7) => show Lt.errAt ls i = (if (!b5 && !b6 && !b7) = false then 9 else 0) by rw [HE4.out, HR.out, h1, h2, h3])
              have h00 : ((ps.length : Int) == 0) = true := by simp [h0]
              clear HR hok hg hb0 hbX h0 HE4 HE3
              by_cases k5 : kk = 5
              · have e5 : (kk == 5) = true := by simp [k5]
                have e6 : (kk == 6) = false := by simp [k5]
                have e7 : (kk == 7) = false := by simp; omega
                have HG := Lib.hid (G.out _ _ _ e5 e6 e7)
                clear G k5
                go_wp2
                go_ret
                exact ⟨ret_int (by rw [HG.out]; rfl), HW.out⟩
              · by_cases k6 : kk = 6
                · have e5 : (kk == 5) = false := by simp; omega
                  have e6 : (kk == 6) = true := by simp [k6]
                  have e7 : (kk == 7) = false := by simp; omega
                  have HG := Lib.hid (G.out _ _ _ e5 e6 e7)
                  clear G k5 k6
                  go_wp2
                  go_ret
                  exact ⟨ret_int (by rw [HG.out]; rfl), HW.out⟩
                · have e5 : (kk == 5) = false := by simp; omega
                  have e6 : (kk == 6) = false := by simp; omega
                  cases e7 : (kk == 7)
                  all_goals
                    have HG := Lib.hid (G.out _ _ _ e5 e6 e7)
                    clear G k5 k6
                    go_wp2
                    go_ret
                    exact ⟨ret_int (by rw [HG.out]; rfl), HW.out⟩
            · have HR : Hid (Lt.ruleOk ls ⟨kk, mm, ps⟩ = (decide (mm ≤ Lt.takes ps) || (kk == 5 && Lt.oil ls ps))) := Lib.hid (by unfold Lt.ruleOk; dsimp only; rw [if_neg h0])
              have h00 : ((ps.length : Int) == 0) = false := by rw [beq_eq_false_iff_ne]; omega
              have T := Lib.hid (ref_takes_any ⟨kk, mm, ps⟩ (.slice a ps.length c) wr.drew (HPV.out.all hb0.drew) ⟨hl20, fun p hp => (Lt.okPs_mem hok p hp).2.2⟩)
              dsimp only at T
              have hS0 : lot3 wr.drew w.heap.size kk mm (.slice a ps.length c) := ⟨hbX.cell 0, hbX.cell 1, hbX.cell 2⟩
              have HX := Lib.hid hbX
              generalize hob : Lt.oil ls ps = ob at *
              clear hok hg hb0 hbX h0 HE3 hob
              have GO : ∀ (bm b5 : Bool), decide (mm ≤ Lt.takes ps) = bm → (kk == 5) = b5 → Hid (Lt.errAt ls i = if (bm || (b5 && ob)) = false then 9 else 0) := fun bm b5 h1 h2 => Lib.hid (by rw [HE4.out, HR.out, h1, h2])
              have G := Lib.hid GO
              clear GO HE4 HR
              have main : ∀ (bm b5 : Bool), decide (Lt.takes ps < mm) = !bm → (kk == 5) = b5 → Hid (Lt.errAt ls i = if (bm || (b5 && ob)) = false then 9 else 0) → True := fun _ _ _ _ _ => trivial
              clear main
              by_cases hm : mm ≤ Lt.takes ps
              all_goals
                obtain ⟨bd, hdm, hdb⟩ : ∃ b, decide (Lt.takes ps < mm) = b ∧ b = decide (¬ mm ≤ Lt.takes ps) := ⟨_, rfl, by rw [decide_eq_decide]; omega⟩
                simp only [hm, not_true_eq_false, not_false_eq_true, decide_true, decide_false] at hdb
                subst hdb
                by_cases k5 : kk = 5
                all_goals
                  have e5 : ∃ b5, (kk == 5) = b5 ∧ b5 = decide (kk = 5) := ⟨_, rfl, by rw [Bool.eq_iff_iff]; simp⟩
                  obtain ⟨b5, e5, e5b⟩ := e5
                  have HG := G.out _ _ rfl e5
                  simp only [hm, k5, decide_true, decide_false] at HG e5b
                  subst e5b
                  cases ob
                  all_goals
                    clear k5 G
                    go_wp2_with fail
                    refine wp_region_seq [(0, true), (1, true), (2, true), (3, false), (4, true), (5, true), (6, true), (7, true), (8, true), (9, true), (10, true), (11, true), (12, true), (13, true)] (fun W => lot3 W w.heap.size kk mm (.slice a ps.length c))
                      (by kernel_rfl) (by kernel_rfl) (by kernel_rfl) (by kernel_rfl) (fun d _ _ _ _ h => by cases d <;> exact h) hS0 (fun hS => ?_)
                    repeat (first
                      | (refine SeqH.take (v := ?_) rfl (by rfl) ?_ ?_; rotate_left; (· intro w hSw; (try dsimp only at hSw); obtain ⟨q0, q1, q2⟩ := hSw; go_simp; (try with_reducible rfl)); simp only [Act.put, List.setIfInBounds_toArray, List.set_cons_zero, List.set_cons_succ])
                      | (refine SeqH.skip rfl (by rfl) ?_; simp only [Act.put, List.setIfInBounds_toArray, List.set_cons_zero, List.set_cons_succ]))
                    refine SeqH.step rfl (by rfl) (fun K hK => ?_)
                    go_simp
                    refine T.out.mono ?_
                    rintro e w2 ⟨rfl, hb2⟩
                    have bX2 := HX.out.drew.below hb2 HX.out.lt
                    have hSn : lot3 w2 w.heap.size kk mm (.slice a ps.length c) := ⟨bX2.cell 0, bX2.cell 1, bX2.cell 2⟩
                    try dsimp only
                    refine hK.out _ _ hSn (fun _ => ?_)
                    clear hK K hSn hS bX2
                    try simp only [Act.put, List.setIfInBounds_toArray, List.set_cons_zero, List.set_cons_succ]
                    have HB2 := Lib.hid (below_step HW.out.drew hb2)
                    clear hb2
                    repeat (first
                      | (refine SeqH.take (v := ?_) rfl (by rfl) ?_ ?_; rotate_left; (· intro w hSw; (try dsimp only at hSw); obtain ⟨q0, q1, q2⟩ := hSw; go_simp; (try with_reducible rfl)); simp only [Act.put, List.setIfInBounds_toArray, List.set_cons_zero, List.set_cons_succ])
                      | (refine SeqH.skip rfl (by rfl) ?_; simp only [Act.put, List.setIfInBounds_toArray, List.set_cons_zero, List.set_cons_succ]))
                    refine SeqH.done ?_
                    go_wp2
                    go_ret
                    exact ⟨ret_int (by rw [HG.out]; rfl), HB2.out⟩
end Go.Proofs.Ytccjbefmcifaeaa
namespace Go.Proofs.Ytccjbefmcifaeaa
open Go.RowKit

set_option maxRecDepth 20000 in
set_option maxHeartbeats 1000000 in
theorem ref_left_any (v : Value) (ls : List Lt.L) (i : Nat) (w : World) (hv : Lots w v ls) (hl : ls.length ≤ 24) (hf : ∀ j, j < ls.length → Lt.fine (ls.getD j default)) (hi : i < ls.length) :
    Calls Try.prog 64 #[v, .int .i64 i] w fun e w' => e = .returned (.int .i64 (Lt.left ls i)) ∧ Below w.heap.size w w' := by
  obtain ⟨la, lc, rfl, hlk⟩ := hv.look
  obtain ⟨b, off, u, rfl, hb, c0, c1, c2, hps⟩ := hlk i hi
  have hLE : Lt.left ls i = (ls.getD i default).m - Lt.used (i : Int) ls := rfl
  have hfi := (hf i hi).1
  have HLK := Lib.hid hlk
  have HF := Lib.hid hf
  have HU := Lib.hid (left_bd hf hl (i : Int))
  have H0 := Lib.hid (Below.refl w.heap.size w)
  generalize hM : (ls.getD i default).m = M at *
  have HL := Lib.hid hLE
  clear hlk hf hv c0 c2 hps hLE hM
  go_enter Try.func64, Try.ntmps64
  go_wp2
  clear c1
  go_loopw [5, 6] (fun s t wr => ∃ k : Nat, k ≤ ls.length ∧ t = .int .i64 k ∧ s = .int .i64 (M - Lt.used i (ls.take k)) ∧ Below w.heap.size w wr) (fun _ t _ => ls.length - (intOf t).toNat)
  case atStart => exact ⟨0, Nat.zero_le _, rfl, by simp [Lt.used], H0.out⟩
  case round =>
    obtain ⟨k, hk, rfl, rfl, hw⟩ := hrel
    clear H0
    by_cases hlt : k < ls.length
    · obtain ⟨b', off', u, hbo, hb', hlot⟩ := HLK.out k hlt
      simp only [Option.some.injEq, Addr.mk.injEq, and_true] at hbo
      obtain ⟨rfl, rfl⟩ := hbo
      have hlot' := hlot.below hw hb
      have hfx := HF.out k hlt
      have hus := Lt.used_succ (i : Int) hlt
      rw [getD_L hlt] at hlot' hfx
      have HUS := Lib.hid hus
      have u1 := HU.out k
      have HUB := Lib.hid (usedP_take_bd hfx (i : Int))
      have HPS := Lib.hid (fun j (hj : j < ls[k].ps.length) => Lt.usedP_succ (i : Int) hj)
      have h6 := hfx.2.1
      have hall : Lt.usedP (i : Int) (ls[k].ps.take ls[k].ps.length) = Lt.usedP (i : Int) ls[k].ps := by rw [List.take_length]
      have HALL := Lib.hid hall
      clear hlot hus hfx hall
      generalize Lt.used (i : Int) (ls.take k) = U at *
      generalize ls[k] = x at *
      obtain ⟨xk, xm, ps⟩ := x
      obtain ⟨c0, c1, c2, hps⟩ := hlot'
      dsimp only at *
      obtain ⟨pa, pc, rfl, hpk⟩ := hps.look
      have HPK := Lib.hid hpk
      have HC2 := Lib.hid c2
      have HW := Lib.hid hw
      obtain ⟨wo, hwo⟩ : ∃ wo : World, wo = wr := ⟨_, rfl⟩
      subst hwo
      clear hps hpk hw c0 c1 c2
      go_wp2
      go_loopw [5, 7] (fun s t w2 => ∃ j : Nat, j ≤ ps.length ∧ t = .int .i64 j ∧ s = .int .i64 (M - U - Lt.usedP i (ps.take j)) ∧ Below wo.heap.size wo w2) (fun _ t _ => ps.length - (intOf t).toNat)
      case atStart => exact ⟨0, Nat.zero_le _, rfl, by simp [Lt.usedP], Below.refl _ _⟩
      case round =>
        obtain ⟨j, hj, rfl, rfl, hw2⟩ := hrel
        have hbw : b < wo.heap.size := by have := HW.out.size; omega
        have c2 := (hw2.cell (p := ⟨b, off + k * 3 + 2, none⟩) hbw).trans HC2.out
        by_cases hjl : j < ps.length
        · obtain ⟨pb, poff, rfl, hpb, hpt⟩ := HPK.out j hjl
          obtain ⟨d0, d1⟩ := hpt.below hw2 hpb
          rw [getD_P hjl] at d0 d1
          have hs := HPS.out j hjl
          have u2 := HUB.out j
          have u3 := HUB.out (j + 1)
          rw [hs] at u3
          have HS := Lib.hid hs
          clear hpt hs
          generalize Lt.usedP (i : Int) (ps.take j) = V at *
          generalize ps[j] = p at *
          obtain ⟨pl, pm⟩ := p
          dsimp only at *
          by_cases he : pl = (i : Int)
          · rw [if_pos he] at u3 HS
            subst he
            go_wp2
            go_roundw
            case rel => exact ⟨j + 1, by omega, by go_num, by rw [HS.out]; congr 1; omega, hw2⟩
            case measure => simp [intOf]; omega
          · rw [if_neg he] at u3 HS
            have he0 : (pl == (i : Int)) = false := by simpa using he
            clear he
            go_wp2
            go_roundw
            case rel => exact ⟨j + 1, by omega, by go_num, by rw [HS.out]; congr 1; omega, hw2⟩
            case measure => simp [intOf]; omega
        · obtain rfl : j = ps.length := by omega
          go_wp2
          go_roundw
          case rel => exact ⟨k + 1, by omega, by go_num, by rw [HUS.out, HALL.out]; congr 1; omega, below_step HW.out hw2⟩
          case measure => simp [intOf]; omega
    · obtain rfl : k = ls.length := by omega
      go_wp2
      go_ret
      exact ⟨ret_int (by rw [HL.out, List.take_length]), hw⟩
end Go.Proofs.Ytccjbefmcifaeaa
namespace Go.Proofs.Ytccjbefmcifaeaa
open Go.RowKit

set_option maxRecDepth 20000 in
set_option maxHeartbeats 1000000 in
theorem ref_validate_any (v : Value) (ls : List Lt.L) (w : World) (hv : Lots w v ls) (hsh : short ls) :
    Calls Try.prog 22 #[v] w fun e w' => e = .returned (.int .i64 (Lt.valE ls)) ∧ Below w.heap.size w w' := by
  generalize hE : Lt.valE ls = E
  have HE := Lib.hid hE
  clear hE
  have H0 := Lib.hid (Below.refl w.heap.size w)
  have hlen := hsh.1
  by_cases h24 : 24 < ls.length
  · have HX := Lib.hid ((Lt.valE_large h24).symm.trans HE.out)
    obtain ⟨a, c, rfl⟩ := hv.form
    clear hv hsh
    go_enter Try.func22, Try.ntmps22
    go_wp2
    go_ret
    exact ⟨ret_int HX.out, H0.out⟩
  · have V := Lib.hid (fun W (hW : Below w.heap.size w W) i (hi : i < ls.length) => wrong_any v ls i W (hv.all hW) hsh hi)
    have HV := Lib.hid hv
    have h24b : decide (24 < (ls.length : Int)) = false := by simp; omega
    obtain ⟨a, c, rfl⟩ := hv.form
    clear hv hsh
    go_enter Try.func22, Try.ntmps22
    go_wp2
    go_loopw [3] (fun t wr => ∃ k : Nat, k ≤ ls.length ∧ t = .int .i64 k ∧ Hid (Below w.heap.size w wr ∧ ∀ j, j < k → Lt.errAt ls j = 0)) (fun t _ => ls.length - (intOf t).toNat)
    case atStart => exact ⟨0, Nat.zero_le _, rfl, Lib.hid ⟨H0.out, fun j h => absurd h (Nat.not_lt_zero _)⟩⟩
    case round =>
      obtain ⟨k, hk, rfl, hg⟩ := hrel
      clear H0
      by_cases hlt : k < ls.length
      · have C := Lib.hid (V.out _ hg.out.1 k hlt)
        by_cases hz : Lt.errAt ls k = 0
        · rw [hz] at C
          have HZ := Lib.hid hz
          clear hz
          go_wp2_with fail
          refine C.out.mono ?_
          rintro e w1 ⟨rfl, hb1⟩
          go_wp2
          go_roundw
          case rel =>
            refine ⟨k + 1, by omega, by go_num, Lib.hid ⟨below_step hg.out.1 hb1, fun j hj => ?_⟩⟩
            by_cases e : j = k
            · subst e; exact HZ.out
            · exact hg.out.2 j (by omega)
          case measure => simp [intOf]; omega
        · have HX := Lib.hid ((Lt.valE_bad h24 hlt hg.out.2 hz).symm.trans HE.out)
          have hne : (Lt.errAt ls k != 0) = true := by simpa using hz
          have HG := Lib.hid hg.out.1
          clear hz hg
          generalize Lt.errAt ls k = er at *
          go_wp2_with fail
          refine C.out.mono ?_
          rintro e w1 ⟨rfl, hb1⟩
          go_wp2
          go_ret
          exact ⟨ret_int HX.out, below_step HG.out hb1⟩
      · obtain rfl : k = ls.length := by omega
        have hok := hg.out.2
        have hw := hg.out.1
        have HOK := Lib.hid hok
        have L := Lib.hid (fun W (hW : Below w.heap.size w W) i (hi : i < ls.length) => ref_left_any _ ls i W (HV.out.all hW) (by omega) (fun j hj => Lt.fine_of (hok j hj)) hi)
        have H1 := Lib.hid hw
        clear hg hok hw V
        go_wp2
        go_loopw [5] (fun t wr => ∃ k : Nat, k ≤ ls.length ∧ t = .int .i64 k ∧ Hid (Below w.heap.size w wr ∧ ∀ j, j < k → 0 ≤ Lt.left ls j)) (fun t _ => ls.length - (intOf t).toNat)
        case atStart => exact ⟨0, Nat.zero_le _, rfl, Lib.hid ⟨H1.out, fun j h => absurd h (Nat.not_lt_zero _)⟩⟩
        case round =>
          obtain ⟨k, hk, rfl, hg⟩ := hrel
          clear H1
          by_cases hlt : k < ls.length
          · have C := Lib.hid (L.out _ hg.out.1 k hlt)
            by_cases hz : Lt.left ls k < 0
            · have HX := Lib.hid ((Lt.valE_short h24 HOK.out hlt hg.out.2 hz).symm.trans HE.out)
              have HG := Lib.hid hg.out.1
              clear hg
              generalize Lt.left ls k = z at *
              go_wp2_with fail
              refine C.out.mono ?_
              rintro e w1 ⟨rfl, hb1⟩
              go_wp2
              go_ret
              exact ⟨ret_int HX.out, below_step HG.out hb1⟩
            · have HZ := Lib.hid (show 0 ≤ Lt.left ls k by omega)
              generalize hzz : Lt.left ls k = z at *
              have HZZ := Lib.hid hzz
              clear hzz
              go_wp2_with fail
              refine C.out.mono ?_
              rintro e w1 ⟨rfl, hb1⟩
              go_wp2
              go_roundw
              case rel =>
                refine ⟨k + 1, by omega, by go_num, Lib.hid ⟨below_step hg.out.1 hb1, fun j hj => ?_⟩⟩
                by_cases e : j = k
                · subst e; rw [HZZ.out]; exact HZ.out
                · exact hg.out.2 j (by omega)
              case measure => simp [intOf]; omega
          · obtain rfl : k = ls.length := by omega
            have HX := Lib.hid ((Lt.valE_ok h24 HOK.out hg.out.2).symm.trans HE.out)
            have HG := Lib.hid hg.out.1
            clear hg
            go_wp2
            go_ret
            exact ⟨ret_int HX.out, HG.out⟩

theorem numE_two (ls : List Lt.L) (n m : Int) : numE ls [n, m] = if Lt.valE ls = 0 then (if inR ls n && inR ls m then 0 else 5) else Lt.valE ls := by
  unfold numE; simp
theorem numE_one (ls : List Lt.L) (n : Int) : numE ls [n] = if Lt.valE ls = 0 then (if inR ls n then 0 else 5) else Lt.valE ls := by
  unfold numE; simp
theorem numE_same (ls : List Lt.L) (n : Int) : numE ls [n, n] = numE ls [n] := by rw [numE_two, numE_one, Bool.and_self]
theorem numE_zero {ls : List Lt.L} {n : Int} (h : numE ls [n] = 0) : Lt.valE ls = 0 ∧ 0 ≤ n ∧ n < ls.length := by
  rw [numE_one] at h
  by_cases hz : Lt.valE ls = 0
  · rw [if_pos hz] at h
    cases hi : inR ls n with
    | false => rw [hi] at h; cases h
    | true => unfold inR at hi; simp at hi; exact ⟨hz, hi⟩
  · rw [if_neg hz] at h; exact absurd h hz
theorem named_any (v : Value) (ls : List Lt.L) (n m : Int) (w : World) (hv : Lots w v ls) (hsh : short ls) :
    Calls Try.prog 66 #[v, .int .i64 n, .int .i64 m] w fun e w' => e = .returned (.int .i64 (numE ls [n, m])) ∧ Below w.heap.size w w' := by
  have V := Lib.hid (ref_validate_any v ls w hv hsh)
  have hN := numE_two ls n m
  obtain ⟨a, c, rfl⟩ := hv.form
  generalize numE ls [n, m] = E at *
  have HN := Lib.hid hN
  have hlen := hsh.1
  clear hv hsh hN
  by_cases hz : Lt.valE ls = 0
  · have HN2 := Lib.hid (HN.out.trans (if_pos hz))
    rw [hz] at V
    clear HN hz
    by_cases h1 : n < 0
    · have HX := Lib.hid (show E = 5 by rw [HN2.out, show inR ls n = false by unfold inR; simp; intro h; omega]; rfl)
      go_enter Try.func66, Try.ntmps66
      go_wp2_with fail
      refine V.out.mono ?_
      rintro e w1 ⟨rfl, hb1⟩
      go_wp2
      go_ret
      exact ⟨ret_int HX.out.symm, hb1⟩
    · by_cases h2 : (ls.length : Int) ≤ n
      · have HX := Lib.hid (show E = 5 by rw [HN2.out, show inR ls n = false by unfold inR; simp; intro h; omega]; rfl)
        go_enter Try.func66, Try.ntmps66
        go_wp2_with fail
        refine V.out.mono ?_
        rintro e w1 ⟨rfl, hb1⟩
        go_wp2
        go_ret
        exact ⟨ret_int HX.out.symm, hb1⟩
      · have hin : inR ls n = true := by unfold inR; simp; omega
        by_cases h3 : m < 0
        · have HX := Lib.hid (show E = 5 by rw [HN2.out, hin, show inR ls m = false by unfold inR; simp; intro h; omega]; rfl)
          clear hin
          go_enter Try.func66, Try.ntmps66
          go_wp2_with fail
          refine V.out.mono ?_
          rintro e w1 ⟨rfl, hb1⟩
          go_wp2
          go_ret
          exact ⟨ret_int HX.out.symm, hb1⟩
        · by_cases h4 : (ls.length : Int) ≤ m
          · have HX := Lib.hid (show E = 5 by rw [HN2.out, hin, show inR ls m = false by unfold inR; simp; intro h; omega]; rfl)
            clear hin
            go_enter Try.func66, Try.ntmps66
            go_wp2_with fail
            refine V.out.mono ?_
            rintro e w1 ⟨rfl, hb1⟩
            go_wp2
            go_ret
            exact ⟨ret_int HX.out.symm, hb1⟩
          · have HX := Lib.hid (show E = 0 by rw [HN2.out, hin, show inR ls m = true by unfold inR; simp; omega]; rfl)
            clear hin
            go_enter Try.func66, Try.ntmps66
            go_wp2_with fail
            refine V.out.mono ?_
            rintro e w1 ⟨rfl, hb1⟩
            go_wp2
            go_ret
            exact ⟨ret_int HX.out.symm, hb1⟩
  · have HX := Lib.hid (HN.out.trans (if_neg hz))
    have hne : (Lt.valE ls != 0) = true := by simpa using hz
    clear HN hz
    generalize Lt.valE ls = er at *
    go_enter Try.func66, Try.ntmps66
    go_wp2_with fail
    refine V.out.mono ?_
    rintro e w1 ⟨rfl, hb1⟩
    go_wp2
    go_ret
    exact ⟨ret_int HX.out.symm, hb1⟩
end Go.Proofs.Ytccjbefmcifaeaa
