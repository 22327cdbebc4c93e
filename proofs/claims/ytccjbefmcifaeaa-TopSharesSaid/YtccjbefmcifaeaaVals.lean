/- Which parts a lot can have, and whether it keeps the rule: the program's. Whether a lot keeps the rule: the program's; the errors of one lot. Whether a lot keeps the rule, and its first error: the program's. The first error of a lot, what is left of a lot, and whether a genealogy is valid: the program's. What is left of a lot, and whether a genealogy is valid: the program's. A genealogy and the numbers of some of its lots: the program's errors; what is left of a lot, what was lost, what was received. -/
import Derived.Test.YtccjbefmcifaeaaTaken
namespace Go.Proofs.Ytccjbefmcifaeaa
open Go.RowKit

theorem isKind_any (n : Int) (w : World) :
    Calls Try.prog 68 #[.int .i64 n] w fun e w' => e = .returned (.bool (Lt.okK n)) ∧ w = w' := by
  by_cases h1 : 0 ≤ n
  · by_cases h2 : n < 8
    all_goals
      go_enter Try.func68, Try.ntmps68
      go_wp2
      go_ret
      exact ⟨by simp [Lt.okK, h1, h2]; try omega, rfl⟩
  · go_enter Try.func68, Try.ntmps68
    go_wp2
    go_ret
    exact ⟨by simp [Lt.okK, h1]; try omega, rfl⟩
theorem isMass_any (n : Int) (w : World) :
    Calls Try.prog 90 #[.int .i64 n] w fun e w' => e = .returned (.bool (Lt.okM n)) ∧ w = w' := by
  by_cases h1 : 1 ≤ n
  · by_cases h2 : n ≤ 100000
    all_goals
      go_enter Try.func90, Try.ntmps90
      go_wp2
      go_ret
      exact ⟨by simp [Lt.okM, h1, h2]; try omega, rfl⟩
  · go_enter Try.func90, Try.ntmps90
    go_wp2
    go_ret
    exact ⟨by simp [Lt.okM, h1]; try omega, rfl⟩

namespace Lt
theorem okPs_bad {n : Int} {ps : List P} {k : Nat} (h : k < ps.length) (hb : okPart n (ps.take k) ps[k] = false) : okPs n ps = false := by
  cases ho : okPs n ps with
  | false => rfl
  | true => have := okPs_iff.1 ho k h; rw [show ps.getD k default = ps[k] by simp [h], hb] at this; cases this
theorem okPs_good {n : Int} {ps : List P} (h : ∀ k, (hk : k < ps.length) → okPart n (ps.take k) ps[k] = true) : okPs n ps = true :=
  okPs_iff.2 fun k hk => by rw [show ps.getD k default = ps[k] by simp [hk]]; exact h k hk
theorem okPart_low {n : Int} {b : List P} {p : P} (h : p.l < 0 ∨ n ≤ p.l ∨ okM p.m = false) : okPart n b p = false := by
  unfold okPart
  rcases h with h | h | h
  · simp; intro h1; omega
  · simp; intro h1 h2; omega
  · simp [h]
theorem okPart_same {n : Int} {b : List P} {p : P} {j : Nat} (hj : j < b.length) (h : b[j].l = p.l) : okPart n b p = false := by
  cases ho : okPart n b p with
  | false => rfl
  | true => exact absurd h ((okPart_iff.1 ho).2 _ (List.getElem_mem hj))
theorem okPart_good {n : Int} {b : List P} {p : P} (h1 : 0 ≤ p.l) (h2 : p.l < n) (h3 : okM p.m = true) (h : ∀ j, (hj : j < b.length) → b[j].l ≠ p.l) : okPart n b p = true := by
  obtain ⟨h4, h5⟩ := okM_iff.1 h3
  refine okPart_iff.2 ⟨⟨h1, h2, h4, h5⟩, fun q hq => ?_⟩
  obtain ⟨j, hj, rfl⟩ := List.getElem_of_mem hq
  exact h j hj
end Lt

set_option maxRecDepth 20000 in
set_option maxHeartbeats 1000000 in
theorem areParts_any (v : Value) (ps : List Lt.P) (n : Int) (w : World) (hp : Parts w v ps) (hl : ps.length ≤ 1000) :
    Calls Try.prog 91 #[v, .int .i64 n] w fun e w' => e = .returned (.bool (Lt.okPs n ps)) ∧ Below w.heap.size w w' := by
  obtain ⟨a, c, rfl, hk⟩ := hp.look
  have hcap : ps.length ≤ c ∨ ps.length = 0 := by
    rcases hp with ⟨a', c', e, rfl, _⟩ | ⟨b, off, cap, e, hc, _⟩
    · exact .inr rfl
    · simp only [Value.slice.injEq] at e; exact .inl (by omega)
  have HK := Lib.hid hk
  have H0 := Lib.hid (Below.refl w.heap.size w)
  generalize hR : Lt.okPs n ps = R
  have HR := Lib.hid hR
  clear hk hp hR
  go_enter Try.func91, Try.ntmps91
  go_wp2
  go_loopw [11] (fun t wr => ∃ k : Nat, k ≤ ps.length ∧ t = .int .i64 k ∧ Hid (Below w.heap.size w wr ∧ ∀ j, (hj : j < ps.length) → j < k → Lt.okPart n (ps.take j) ps[j] = true)) (fun t _ => ps.length - (intOf t).toNat)
  case atStart => exact ⟨0, Nat.zero_le _, rfl, Lib.hid ⟨H0.out, fun j _ h => absurd h (Nat.not_lt_zero _)⟩⟩
  case round =>
    obtain ⟨k, hk, rfl, hg⟩ := hrel
    obtain ⟨hw, hpre⟩ := hg.out
    clear H0 hg
    have HPRE := Lib.hid hpre
    clear hpre
    by_cases hlt : k < ps.length
    · obtain ⟨b, off, rfl, hb, hpt⟩ := HK.out k hlt
      rw [getD_P hlt] at hpt
      obtain ⟨c0, c1⟩ := hpt.below hw hb
      have HBAD := Lib.hid (fun h => (Lt.okPs_bad (n := n) hlt h).symm.trans HR.out)
      have HGOOD := Lib.hid (Lt.okPart_good (n := n) (b := ps.take k) (p := ps[k]))
      have HSAME := Lib.hid (fun j hj => Lt.okPart_same (n := n) (b := ps.take k) (p := ps[k]) (j := j) hj)
      have HLOW := Lib.hid (Lt.okPart_low (n := n) (b := ps.take k) (p := ps[k]))
      have hcc : (k : Int) ≤ (c : Int) := by omega
      have hw1 := below_alloc hw (.cells #[.int .i64 ps[k].l, .int .i64 ps[k].m] 35)
      have hw1s := hw.size
      have HW := Lib.hid hw1
      have HKK := HK
      clear hpt hw1 hw
      generalize hpk : ps[k] = p at *
      have HPK := Lib.hid hpk
      clear hpk
      obtain ⟨pl, pm⟩ := p
      dsimp only at *
      by_cases h1 : pl < 0
      · go_wp2
        go_ret
        exact ⟨ret_bool (HBAD.out (HLOW.out (.inl h1))), HW.out⟩
      · by_cases h2 : n ≤ pl
        · go_wp2
          go_ret
          exact ⟨ret_bool (HBAD.out (HLOW.out (.inr (.inl h2)))), HW.out⟩
        · cases h3 : Lt.okM pm with
          | false =>
            have HM := Lib.hid h3
            clear h3
            go_wp2_with fail
            refine (isMass_any pm _).mono ?_
            rw [HM.out]
            rintro e w1 ⟨rfl, rfl⟩
            go_wp2
            go_ret
            exact ⟨ret_bool (HBAD.out (HLOW.out (.inr (.inr HM.out)))), HW.out⟩
          | true =>
            have HM := Lib.hid h3
            clear h3
            have hp0 : 0 ≤ pl := by omega
            have hpn : pl < n := by omega
            have hbx := BlockAt.new wr #[.int .i64 pl, .int .i64 pm] 35
            have HBX := Lib.hid hbx
            clear hbx h1 h2
            go_wp2_with fail
            refine (isMass_any pm _).mono ?_
            rw [HM.out]
            rintro e w1 ⟨rfl, rfl⟩
            obtain ⟨wo, hwo⟩ : ∃ wo, wr.alloc (.cells #[.int .i64 pl, .int .i64 pm] 35) = wo := ⟨_, rfl⟩
            rw [hwo] at HW HBX
            go_wp2_with fail
            have hlen2 : (ps.take k).length = k := by simp; omega
            go_loopw [35] (fun t w2 => ∃ j : Nat, j ≤ k ∧ t = .int .i64 j ∧ Hid (Below wo.heap.size wo w2 ∧ ∀ l, (hl : l < ps.length) → l < j → ps[l].l ≠ pl)) (fun t _ => k - (intOf t).toNat)
            case atStart => exact ⟨0, Nat.zero_le _, rfl, Lib.hid ⟨Below.refl _ _, fun l _ h => absurd h (Nat.not_lt_zero _)⟩⟩
            case round =>
              obtain ⟨j, hj, rfl, hg⟩ := hrel
              obtain ⟨hw2, hpre⟩ := hg.out
              have HP2 := Lib.hid hpre
              clear hg hpre
              have hbx2 := HBX.out.below hw2 HBX.out.lt
              have e0 := hbx2.cell 0
              have hsz := hbx2.lt
              have hbw : b < wo.heap.size := by have := HW.out.size; omega
              have hww := below_step HW.out hw2
              by_cases hjl : j < k
              · obtain ⟨b', off', hbo, hb', hpt⟩ := HK.out j (by omega)
                simp only [Option.some.injEq, Addr.mk.injEq, and_true] at hbo
                obtain ⟨rfl, rfl⟩ := hbo
                rw [getD_P (by omega)] at hpt
                obtain ⟨c0, c1⟩ := hpt.below hww hb
                have hjp : j < ps.length := by omega
                by_cases hsm : ps[j].l = pl
                · have HS := Lib.hid (HSAME.out j (by rw [hlen2]; exact hjl) (by simp only [List.getElem_take]; exact hsm))
                  rw [hsm] at c0
                  have hpl : (pl == pl) = true := by simp
                  have HWW := Lib.hid hww
                  clear hpt hbx2 hw2 hsm hww
                  generalize ps[j] = pj at *
                  go_wp2
                  go_ret
                  exact ⟨ret_bool (HBAD.out HS.out), below_alloc HWW.out _⟩
                · have hne : (ps[j].l == pl) = false := by simpa using hsm
                  have HNE := Lib.hid hsm
                  have HW2 := Lib.hid hw2
                  clear hpt hbx2 hw2 hsm hww
                  go_wp2
                  go_roundw
                  case rel =>
                    refine ⟨j + 1, by omega, by go_num, Lib.hid ⟨below_alloc HW2.out _, fun l hl hlj => ?_⟩⟩
                    by_cases e : l = j
                    · subst e; exact HNE.out
                    · exact HP2.out l hl (by omega)
                  case measure => simp [intOf]; omega
              · obtain rfl : j = k := by omega
                have HG := Lib.hid (HGOOD.out hp0 hpn HM.out (fun l hl => by
                  have hl' : l < j := by rw [hlen2] at hl; exact hl
                  simp only [List.getElem_take]; exact HP2.out l (by omega) hl'))
                have HWW := Lib.hid hww
                clear hbx2 hw2 hww e0
                go_wp2
                go_roundw
                case rel =>
                  refine ⟨j + 1, by omega, by go_num, Lib.hid ⟨HWW.out, fun l hl hlj => ?_⟩⟩
                  by_cases e : l = j
                  · subst e; rw [HPK.out]; exact HG.out
                  · exact HPRE.out l hl (by omega)
                case measure => simp [intOf]; omega
    · obtain rfl : k = ps.length := by omega
      have hR : R = true := by rw [← HR.out]; exact Lt.okPs_good fun j hj => HPRE.out j hj hj
      have HRT := Lib.hid hR
      clear hR
      go_wp2
      go_ret
      exact ⟨ret_bool HRT.out.symm, hw⟩
end Go.Proofs.Ytccjbefmcifaeaa
namespace Go.Proofs.Ytccjbefmcifaeaa
open Go.RowKit

abbrev ptrV (b : Nat) : Value := .pointer (some ⟨b, 0, none⟩)
theorem oilClosure_any (p : Lt.P) (bl : Nat) (v : Value) (ls : List Lt.L) (w : World) (hc : w.cell? ⟨bl, 0, none⟩ = some v) (hbl : bl < w.heap.size) (hv : Lots w v ls) (h0 : 0 ≤ p.l) (h1 : p.l < ls.length) (hl : ls.length ≤ 1000) :
    Calls Try.prog 115 #[partV p, ptrV bl] w fun e w' => e = .returned (.bool (Lt.kindAt ls p.l == 0)) ∧ Below w.heap.size w w' := by
  obtain ⟨pl, pm⟩ := p
  obtain ⟨j, rfl⟩ : ∃ j : Nat, pl = (j : Int) := ⟨pl.toNat, by dsimp only at h0; omega⟩
  dsimp only at h0 h1 ⊢
  obtain ⟨a, c, rfl, hk⟩ := hv.look
  obtain ⟨b, off, u, rfl, hb, hlot⟩ := hk j (by omega)
  have hw := below_alloc (Below.refl w.heap.size w) (.cells #[.int .i64 (j : Int), .int .i64 pm] 35)
  have hc1 : (w.alloc (.cells #[.int .i64 (j : Int), .int .i64 pm] 35)).cell? ⟨bl, 0, none⟩ = some (.slice (some ⟨b, off, none⟩) ls.length c) := (hw.cell (p := ⟨bl, 0, none⟩) hbl).trans hc
  obtain ⟨c0, _, _, _⟩ := hlot.below hw hb
  have hK : Lt.kindAt ls (j : Int) = (ls.getD j default).k := by simp [Lt.kindAt]
  rw [hK]
  have H0 := Lib.hid hw
  have hj : j < ls.length := by omega
  clear hk hlot hw hv hc hK
  generalize (ls.getD j default).k = kk at *
  by_cases hz : kk = 0
  · subst hz
    go_enter Try.func115, Try.ntmps115
    go_wp2
    go_ret
    exact ⟨rfl, H0.out⟩
  · have hz2 : (kk == 0) = false := by simpa using hz
    have HZ := Lib.hid hz2
    go_enter Try.func115, Try.ntmps115
    go_wp2
    go_ret
    exact ⟨ret_bool (by rw [HZ.out]), H0.out⟩

/-- The first place of an element that passes, or -1. -/
def idxP (f : Lt.P → Bool) (ps : List Lt.P) : Int := match ps.findIdx? f with | some k => k | none => -1
theorem idxP_any (f : Lt.P → Bool) (ps : List Lt.P) : decide (0 ≤ idxP f ps) = ps.any f := by
  unfold idxP
  cases h : ps.findIdx? f with
  | none =>
    have : ps.any f = false := by rw [List.findIdx?_eq_none_iff] at h; simpa using h
    simp [this]
  | some k =>
    have : ps.any f = true := by
      obtain ⟨hk, h1, _⟩ := List.findIdx?_eq_some_iff_getElem.1 h
      exact List.any_eq_true.2 ⟨_, List.getElem_mem hk, h1⟩
    simp [this]
theorem idxP_hit {f : Lt.P → Bool} {ps : List Lt.P} {k : Nat} (h : k < ps.length) (h0 : ∀ j, (hj : j < ps.length) → j < k → f ps[j] = false) (hk : f ps[k] = true) : idxP f ps = k := by
  unfold idxP
  rw [List.findIdx?_eq_some_iff_getElem.2 ⟨h, hk, fun j hj => by simpa using h0 j (by omega) hj⟩]
theorem idxP_none {f : Lt.P → Bool} {ps : List Lt.P} (h0 : ∀ j, (hj : j < ps.length) → f ps[j] = false) : idxP f ps = -1 := by
  unfold idxP
  rw [List.findIdx?_eq_none_iff.2 fun p hp => by obtain ⟨j, hj, rfl⟩ := List.getElem_of_mem hp; exact h0 j hj]

set_option maxRecDepth 20000 in
set_option maxHeartbeats 1000000 in
theorem indexOil_any (u : Value) (ps : List Lt.P) (bl : Nat) (v : Value) (ls : List Lt.L) (w : World) (hp : Parts w u ps) (hpl : ps.length ≤ 1000) (hin : ∀ p ∈ ps, 0 ≤ p.l ∧ p.l < ls.length) (hc : w.cell? ⟨bl, 0, none⟩ = some v) (hbl : bl < w.heap.size) (hv : Lots w v ls) (hl : ls.length ≤ 1000) :
    Calls Try.prog 122 #[u, .func (.func 115) #[] #[ptrV bl]] w fun e w' => e = .returned (.int .i64 (idxP (fun p => Lt.kindAt ls p.l == 0) ps)) ∧ Below w.heap.size w w' := by
  obtain ⟨a, c, rfl, hk⟩ := hp.look
  have HK := Lib.hid hk
  have HC := Lib.hid (fun W (hW : Below w.heap.size w W) (p : Lt.P) (h : p ∈ ps) => oilClosure_any p bl v ls W ((hW.cell (p := ⟨bl, 0, none⟩) hbl).trans hc) (Nat.lt_of_lt_of_le hbl hW.size) (hv.all hW) (hin p h).1 (hin p h).2 hl)
  have H0 := Lib.hid (Below.refl w.heap.size w)
  generalize hR : idxP (fun p => Lt.kindAt ls p.l == 0) ps = R
  have HR := Lib.hid hR
  clear hk hp hR hc hv hin
  go_enter Try.func122, Try.ntmps122
  go_wp2
  go_loopw [8] (fun t wr => ∃ k : Nat, k ≤ ps.length ∧ t = .int .i64 k ∧ Hid (Below w.heap.size w wr ∧ ∀ j, (hj : j < ps.length) → j < k → (Lt.kindAt ls ps[j].l == 0) = false)) (fun t _ => ps.length - (intOf t).toNat)
  case atStart => exact ⟨0, Nat.zero_le _, rfl, Lib.hid ⟨H0.out, fun j _ h => absurd h (Nat.not_lt_zero _)⟩⟩
  case round =>
    obtain ⟨k, hk, rfl, hg⟩ := hrel
    obtain ⟨hw, hpre⟩ := hg.out
    have HPRE := Lib.hid hpre
    clear H0 hg hpre
    by_cases hlt : k < ps.length
    · obtain ⟨b, off, rfl, hb, hpt⟩ := HK.out k hlt
      rw [getD_P hlt] at hpt
      obtain ⟨c0, c1⟩ := hpt.below hw hb
      have C := Lib.hid (HC.out _ hw ps[k] (List.getElem_mem hlt))
      have HHIT := Lib.hid (idxP_hit (f := fun p => Lt.kindAt ls p.l == 0) hlt HPRE.out)
      have HW := Lib.hid hw
      clear hpt hw
      generalize hpk : ps[k] = p at *
      have HPK := Lib.hid hpk
      clear hpk
      cases hb0 : (Lt.kindAt ls p.l == 0) with
      | true =>
        have HB := Lib.hid hb0
        clear hb0
        go_wp2_with fail
        refine C.out.mono ?_
        rw [HB.out]
        rintro e w1 ⟨rfl, hb1⟩
        go_wp2
        go_ret
        exact ⟨ret_int (by rw [← HR.out]; exact (HHIT.out HB.out).symm), below_step HW.out hb1⟩
      | false =>
        have HB := Lib.hid hb0
        clear hb0
        go_wp2_with fail
        refine C.out.mono ?_
        rw [HB.out]
        rintro e w1 ⟨rfl, hb1⟩
        go_wp2
        go_roundw
        case rel =>
          refine ⟨k + 1, by omega, by go_num, Lib.hid ⟨below_step HW.out hb1, fun j hj hjk => ?_⟩⟩
          by_cases e : j = k
          · subst e; rw [HPK.out]; exact HB.out
          · exact HPRE.out j hj (by omega)
        case measure => simp [intOf]; omega
    · obtain rfl : k = ps.length := by omega
      have HN := Lib.hid (idxP_none (f := fun p => Lt.kindAt ls p.l == 0) (fun j hj => HPRE.out j hj hj))
      go_wp2
      go_ret
      exact ⟨ret_int (by rw [← HR.out]; exact HN.out.symm), hw⟩

theorem containsOil_any (u : Value) (ps : List Lt.P) (bl : Nat) (v : Value) (ls : List Lt.L) (w : World) (hp : Parts w u ps) (hpl : ps.length ≤ 1000) (hin : ∀ p ∈ ps, 0 ≤ p.l ∧ p.l < ls.length) (hc : w.cell? ⟨bl, 0, none⟩ = some v) (hbl : bl < w.heap.size) (hv : Lots w v ls) (hl : ls.length ≤ 1000) :
    Calls Try.prog 114 #[u, .func (.func 115) #[] #[ptrV bl]] w fun e w' => e = .returned (.bool (Lt.oil ls ps)) ∧ Below w.heap.size w w' := by
  have C := Lib.hid (indexOil_any u ps bl v ls w hp hpl hin hc hbl hv hl)
  have HI := Lib.hid (idxP_any (fun p => Lt.kindAt ls p.l == 0) ps)
  obtain ⟨a, c, rfl⟩ := hp.form
  clear hp hin hc hv
  generalize idxP (fun p => Lt.kindAt ls p.l == 0) ps = z at *
  go_enter Try.func114, Try.ntmps114
  go_wp2_with fail
  refine C.out.mono ?_
  rintro e w1 ⟨rfl, hb1⟩
  go_wp2
  go_ret
  exact ⟨ret_bool HI.out, hb1⟩
end Go.Proofs.Ytccjbefmcifaeaa
namespace Go.Proofs.Ytccjbefmcifaeaa
open Go.RowKit

def lot3 (W : World) (B : Nat) (k m : Int) (u : Value) : Prop := W.cell? ⟨B, 0, none⟩ = some (.int .i64 k) ∧ W.cell? ⟨B, 1, none⟩ = some (.int .i64 m) ∧ W.cell? ⟨B, 2, none⟩ = some u

set_option maxRecDepth 20000 in
set_option maxHeartbeats 1000000 in
theorem keepsRule_any (v : Value) (ls : List Lt.L) (x : Lt.L) (u : Value) (w : World) (hv : Lots w v ls) (hl : ls.length ≤ 1000) (hp : Parts w u x.ps) (ht : tame x.ps) (hin : ∀ p ∈ x.ps, 0 ≤ p.l ∧ p.l < ls.length) :
    Calls Try.prog 92 #[v, lotV x u] w fun e w' => e = .returned (.bool (Lt.ruleOk ls x)) ∧ Below w.heap.size w w' := by
  obtain ⟨kk, mm, ps⟩ := x
  dsimp only at hp ht hin ⊢
  obtain ⟨a, c, rfl⟩ := hp.form
  obtain ⟨la, lc, rfl⟩ := hv.form
  have hlen := ht.1
  have hb1 := below_alloc (Below.refl w.heap.size w) (.cells #[.slice la ls.length lc] 22)
  have hb2 := below_alloc hb1 (.cells #[.int .i64 kk, .int .i64 mm, .slice a ps.length c] 25)
  have RC := Lib.hid (received_any ⟨kk, mm, ps⟩ a c ((w.alloc (.cells #[.slice la ls.length lc] 22)).alloc (.cells #[.int .i64 kk, .int .i64 mm, .slice a ps.length c] 25)) (by dsimp only; omega))
  have bL := (BlockAt.new w #[.slice la ls.length lc] 22).alloc (.cells #[.int .i64 kk, .int .i64 mm, .slice a ps.length c] 25)
  have bX := BlockAt.new (w.alloc (.cells #[.slice la ls.length lc] 22)) #[.int .i64 kk, .int .i64 mm, .slice a ps.length c] 25
  simp only [World.size_alloc] at bX
  have HB := Lib.hid (And.intro hb2 (And.intro bL bX))
  have HPV := Lib.hid (And.intro hp (And.intro ht (And.intro hin hv)))
  clear hb1 hb2 bL bX hp ht hin hv
  dsimp only at RC
  by_cases h0 : ps.length = 0
  · have hd : decide (ps.length = 0) = true := by simpa using h0
    have HR : Hid (Lt.ruleOk ls ⟨kk, mm, ps⟩ = (!(kk == 5) && !(kk == 6) && !(kk == 7))) := Lib.hid (by unfold Lt.ruleOk; dsimp only; rw [if_pos h0])
    rw [hd] at RC
    clear h0 hd
    have goal2 : ∀ b5 b6 b7 : Bool, (kk == 5) = b5 → (kk == 6) = b6 → (kk == 7) = b7 → Lt.ruleOk ls ⟨kk, mm, ps⟩ = (!b5 && !b6 && !b7) := fun b5 b6 b7 h1 h2 h3 => by rw [HR.out, h1, h2, h3]
    have G := Lib.hid goal2
    clear goal2 HR
    by_cases k5 : kk = 5
    · have e5 : (kk == 5) = true := by simp [k5]
      have e6 : (kk == 6) = false := by simp; omega
      have e7 : (kk == 7) = false := by simp; omega
      have HG := Lib.hid (G.out _ _ _ e5 e6 e7)
      subst k5
      clear G e5 e6 e7
      go_enter Try.func92, Try.ntmps92
      go_wp2_with fail
      refine RC.out.mono ?_
      rintro e w1 ⟨rfl, hb1⟩
      obtain ⟨hb2, bL, bX⟩ := HB.out
      have bX := bX.below hb1 bX.lt
      have c0 := bX.cell 0
      have hb := below_step hb2 hb1
      clear HB hb2 bL bX hb1
      go_wp2
      go_ret
      exact ⟨ret_bool (by rw [HG.out]; rfl), hb⟩
    · by_cases k6 : kk = 6
      · have e5 : (kk == 5) = false := by simp; omega
        have e6 : (kk == 6) = true := by simp [k6]
        have e7 : (kk == 7) = false := by simp; omega
        have HG := Lib.hid (G.out _ _ _ e5 e6 e7)
        subst k6
        clear G e5 e6 e7
        go_enter Try.func92, Try.ntmps92
        go_wp2_with fail
        refine RC.out.mono ?_
        rintro e w1 ⟨rfl, hb1⟩
        obtain ⟨hb2, bL, bX⟩ := HB.out
        have bX := bX.below hb1 bX.lt
        have c0 := bX.cell 0
        have hb := below_step hb2 hb1
        clear HB hb2 bL bX hb1
        go_wp2
        go_ret
        exact ⟨ret_bool (by rw [HG.out]; rfl), hb⟩
      · have e5 : (kk == 5) = false := by simp; omega
        have e6 : (kk == 6) = false := by simp; omega
        cases e7 : (kk == 7)
        all_goals
          have HG := Lib.hid (G.out _ _ _ e5 e6 e7)
          have e7' : (kk != 7) = !(kk == 7) := rfl
          rw [e7] at e7'
          have e5' : (kk != 5) = true := by simp; omega
          have e6' : (kk != 6) = true := by simp; omega
          clear G e5 e6 e7 k5 k6
          go_enter Try.func92, Try.ntmps92
          go_wp2_with fail
          refine RC.out.mono ?_
          rintro e w1 ⟨rfl, hb1⟩
          obtain ⟨hb2, bL, bX⟩ := HB.out
          have bX := bX.below hb1 bX.lt
          have c0 := bX.cell 0
          have hb := below_step hb2 hb1
          clear HB hb2 bL bX hb1
          go_wp2
          go_ret
          exact ⟨ret_bool (by rw [HG.out]; rfl), hb⟩
  · have hd : decide (ps.length = 0) = false := by simpa using h0
    have HR : Hid (Lt.ruleOk ls ⟨kk, mm, ps⟩ = (decide (mm ≤ Lt.takes ps) || (kk == 5 && Lt.oil ls ps))) := Lib.hid (by unfold Lt.ruleOk; dsimp only; rw [if_neg h0])
    rw [hd] at RC
    clear h0 hd
    go_enter Try.func92, Try.ntmps92
    go_wp2_with fail
    refine RC.out.mono ?_
    rintro e w1 ⟨rfl, hb1⟩
    obtain ⟨hb2, bL, bX⟩ := HB.out
    have bX := bX.below hb1 bX.lt
    have bL := bL.below hb1 bL.lt
    have hb := below_step hb2 hb1
    have hS0 : lot3 w1.drew (w.heap.size + 1) kk mm (.slice a ps.length c) := ⟨bX.cell 0, bX.cell 1, bX.cell 2⟩
    have HB := Lib.hid (And.intro hb (And.intro bL bX))
    clear hb2 bL bX hb1 hb RC
    go_wp2_with fail
    refine wp_region_seq [(0, true), (1, true), (2, true), (3, false), (4, true)] (fun W => lot3 W (w.heap.size + 1) kk mm (.slice a ps.length c))
      (by kernel_rfl) (by kernel_rfl) (by kernel_rfl) (by kernel_rfl) (fun d _ _ _ _ h => by cases d <;> exact h) hS0 (fun hS => ?_)
    clear hS0
    repeat (refine SeqH.take (v := ?_) rfl (by rfl) ?_ ?_; rotate_left; (· intro w hSw; (try dsimp only at hSw); obtain ⟨q0, q1, q2⟩ := hSw; go_simp; (try with_reducible rfl)); simp only [Act.put, List.setIfInBounds_toArray, List.set_cons_zero, List.set_cons_succ])
    refine SeqH.step rfl (by rfl) (fun K hK => ?_)
    go_simp
    obtain ⟨hb, bL, bX⟩ := HB.out
    obtain ⟨hp, ht, hin, hv⟩ := HPV.out
    refine (taken_any ⟨kk, mm, ps⟩ (.slice a ps.length c) w1.drew (hp.all hb.drew) ht).mono ?_
    rintro e w2 ⟨rfl, hb2⟩
    dsimp only at *
    have bX := bX.drew.below hb2 bX.lt
    have bL := bL.drew.below hb2 bL.lt
    have hb := below_step hb.drew hb2
    have hSn : lot3 w2 (w.heap.size + 1) kk mm (.slice a ps.length c) := ⟨bX.cell 0, bX.cell 1, bX.cell 2⟩
    refine hK.out _ _ hSn (fun _ => ?_)
    clear hK K hSn hS hb2
    try simp only [Act.put, List.setIfInBounds_toArray, List.set_cons_zero, List.set_cons_succ]
    repeat (refine SeqH.take (v := ?_) rfl (by rfl) ?_ ?_; rotate_left; (· intro w hSw; (try dsimp only at hSw); go_simp; (try with_reducible rfl)); simp only [Act.put, List.setIfInBounds_toArray, List.set_cons_zero, List.set_cons_succ])
    refine SeqH.done ?_
    have c0 := bX.cell 0
    have c2 := bX.cell 2
    have CO := Lib.hid (containsOil_any (.slice a ps.length c) ps w.heap.size (.slice la ls.length lc) ls w2 (hp.all hb) (by omega) hin (bL.cell 0) bL.lt (hv.all hb) hl)
    have HBB := Lib.hid hb
    clear bL bX hb hp ht hin hv HB HPV
    by_cases hm : mm ≤ Lt.takes ps
    · have HM := Lib.hid hm
      go_wp2
      go_ret
      exact ⟨ret_bool (by rw [HR.out, decide_eq_true HM.out]; simp), HBB.out⟩
    · have HM := Lib.hid hm
      by_cases k5 : kk = 5
      · subst k5
        go_wp2_with fail
        refine CO.out.mono ?_
        rintro e w3 ⟨rfl, hb3⟩
        go_wp2
        go_ret
        exact ⟨ret_bool (by rw [HR.out, decide_eq_false (show ¬ mm ≤ Lt.takes ps from by have := HM.out; omega)]; simp), below_step HBB.out hb3⟩
      · have e5 : (kk == 5) = false := by simp; omega
        have HE5 := Lib.hid e5
        go_wp2
        go_ret
        exact ⟨ret_bool (by rw [HR.out, HE5.out, decide_eq_false (show ¬ mm ≤ Lt.takes ps from by have := HM.out; omega)]; simp), HBB.out⟩
end Go.Proofs.Ytccjbefmcifaeaa
namespace Go.Proofs.Ytccjbefmcifaeaa
open Go.RowKit

/-- No list of parts is long. -/
def short (ls : List Lt.L) : Prop := ls.length ≤ 1000 ∧ ∀ j, j < ls.length → (ls.getD j default).ps.length ≤ 20

set_option maxRecDepth 20000 in
set_option maxHeartbeats 1000000 in
theorem validateLot_any (v : Value) (ls : List Lt.L) (i : Nat) (w : World) (hv : Lots w v ls) (hsh : short ls) (hi : i < ls.length) :
    Calls Try.prog 61 #[v, .int .i64 i] w fun e w' => e = .returned (.int .i64 (Lt.errAt ls i)) ∧ Below w.heap.size w w' := by
  obtain ⟨la, lc, hvv, hlk⟩ := hv.look
  obtain ⟨b, off, u, rfl, hb, c0, c1, c2, hps⟩ := hlk i hi
  subst hvv
  have hl20 := hsh.2 i hi
  have hE : Lt.errAt ls i = (let x := ls.getD i default; if (Lt.okK x.k && Lt.okM x.m) = false then 1 else if 6 < x.ps.length then 4 else if Lt.okPs i x.ps = false then 1 else if Lt.ruleOk ls x = false then 9 else 0) := rfl
  generalize hx : ls.getD i default = x at *
  obtain ⟨kk, mm, ps⟩ := x
  dsimp only at *
  obtain ⟨a, c, rfl⟩ := hps.form
  have hw1 := below_alloc (Below.refl w.heap.size w) (.cells #[.int .i64 kk, .int .i64 mm, .slice a ps.length c] 25)
  have bX := BlockAt.new w #[.int .i64 kk, .int .i64 mm, .slice a ps.length c] 25
  have KIND := Lib.hid (fun W => isKind_any kk W)
  have MASS := Lib.hid (fun W => isMass_any mm W)
  have H0 := Lib.hid (And.intro hw1 bX)
  have HPV := Lib.hid (And.intro hps (And.intro hv hsh))
  have HE := Lib.hid hE
  clear hlk hw1 bX hps hv hsh hE hx
  cases hk : Lt.okK kk with
  | false =>
    have HX := Lib.hid (show Lt.errAt ls i = 1 by rw [HE.out, hk]; rfl)
    rw [hk] at KIND
    clear hk HE
    go_enter Try.func61, Try.ntmps61
    go_wp2_with fail
    refine (KIND.out _).mono ?_
    rintro e w1 ⟨rfl, rfl⟩
    go_wp2
    go_ret
    exact ⟨ret_int HX.out.symm, H0.out.1⟩
  | true =>
    rw [hk] at KIND
    cases hm : Lt.okM mm with
    | false =>
      have HX := Lib.hid (show Lt.errAt ls i = 1 by rw [HE.out, hk, hm]; rfl)
      rw [hm] at MASS
      clear hk hm HE
      go_enter Try.func61, Try.ntmps61
      go_wp2_with fail
      refine (KIND.out _).mono ?_
      rintro e w1 ⟨rfl, rfl⟩
      go_wp2_with fail
      refine (MASS.out _).mono ?_
      rintro e w1 ⟨rfl, rfl⟩
      go_wp2
      go_ret
      exact ⟨ret_int HX.out.symm, H0.out.1⟩
    | true =>
      rw [hm] at MASS
      have hE2 := HE.out
      rw [hk, hm] at hE2
      simp only [Bool.and_true, Bool.true_eq_false, if_false] at hE2
      have HE2 := Lib.hid hE2
      clear hk hm HE hE2
      by_cases h6 : 6 < ps.length
      · have HX := Lib.hid (show Lt.errAt ls i = 4 by rw [HE2.out, if_pos h6])
        go_enter Try.func61, Try.ntmps61
        go_wp2_with fail
        refine (KIND.out _).mono ?_
        rintro e w1 ⟨rfl, rfl⟩
        go_wp2_with fail
        refine (MASS.out _).mono ?_
        rintro e w1 ⟨rfl, rfl⟩
        go_wp2
        go_ret
        exact ⟨ret_int HX.out.symm, H0.out.1⟩
      · have HE3 := Lib.hid (show Lt.errAt ls i = (if Lt.okPs i ps = false then 1 else if Lt.ruleOk ls ⟨kk, mm, ps⟩ = false then 9 else 0) by rw [HE2.out, if_neg h6])
        clear HE2
        go_enter Try.func61, Try.ntmps61
        go_wp2_with fail
        refine (KIND.out _).mono ?_
        rintro e w1 ⟨rfl, rfl⟩
        go_wp2_with fail
        refine (MASS.out _).mono ?_
        rintro e w1 ⟨rfl, rfl⟩
        go_wp2_with fail
        refine (areParts_any (.slice a ps.length c) ps (i : Int) _ (HPV.out.1.all H0.out.1) (by omega)).mono ?_
        rintro e w2 ⟨rfl, hb2⟩
        have bX := H0.out.2.below hb2 H0.out.2.lt
        have hw2 := below_step H0.out.1 hb2
        clear hb2
        cases hok : Lt.okPs i ps with
        | false =>
          have HX := Lib.hid (show Lt.errAt ls i = 1 by rw [HE3.out, hok]; rfl)
          clear hok
          go_wp2
          go_ret
          exact ⟨ret_int HX.out.symm, hw2⟩
        | true =>
          have HE4 := Lib.hid (show Lt.errAt ls i = (if Lt.ruleOk ls ⟨kk, mm, ps⟩ = false then 9 else 0) by rw [HE3.out, hok]; rfl)
          obtain ⟨hps, hv, hsh⟩ := HPV.out
          have KR := Lib.hid (keepsRule_any _ ls ⟨kk, mm, ps⟩ (.slice a ps.length c) w2 (hv.all hw2) hsh.1 (hps.all hw2) ⟨hl20, fun p hp => (Lt.okPs_mem hok p hp).2.2⟩ (fun p hp => ⟨(Lt.okPs_mem hok p hp).1, by have := (Lt.okPs_mem hok p hp).2.1; omega⟩))
          have d0 := bX.cell 0
          have d1 := bX.cell 1
          have d2 := bX.cell 2
          have HW := Lib.hid hw2
          clear hok hps hv hsh HE3 bX hw2 HPV H0
          cases hr : Lt.ruleOk ls ⟨kk, mm, ps⟩ with
          | false =>
            rw [hr] at KR
            have HX := Lib.hid (show Lt.errAt ls i = 9 by rw [HE4.out, hr]; rfl)
            clear hr HE4
            go_wp2_with fail
            refine KR.out.mono ?_
            rintro e w3 ⟨rfl, hb3⟩
            go_wp2
            go_ret
            exact ⟨ret_int HX.out.symm, below_step HW.out hb3⟩
          | true =>
            rw [hr] at KR
            have HX := Lib.hid (show Lt.errAt ls i = 0 by rw [HE4.out, hr]; rfl)
            clear hr HE4
            go_wp2_with fail
            refine KR.out.mono ?_
            rintro e w3 ⟨rfl, hb3⟩
            go_wp2
            go_ret
            exact ⟨ret_int HX.out.symm, below_step HW.out hb3⟩
end Go.Proofs.Ytccjbefmcifaeaa
namespace Go.Proofs.Ytccjbefmcifaeaa
open Go.RowKit

theorem fine_take {ls : List Lt.L} (h : ∀ j, j < ls.length → Lt.fine (ls.getD j default)) (k : Nat) : ∀ x ∈ ls.take k, Lt.fine x := by
  intro x hx
  obtain ⟨j, hj, rfl⟩ := List.getElem_of_mem (List.mem_of_mem_take hx)
  have := h j hj
  simpa [hj] using this
theorem left_bd {ls : List Lt.L} (h : ∀ j, j < ls.length → Lt.fine (ls.getD j default)) (hl : ls.length ≤ 24) (i : Int) (k : Nat) : 0 ≤ Lt.used i (ls.take k) ∧ Lt.used i (ls.take k) ≤ 14400000 := by
  have := Lt.used_bd i (fine_take h k)
  have h2 : (ls.take k).length ≤ 24 := Nat.le_trans (List.length_take_le' _ _) hl
  omega
theorem usedP_take_bd {x : Lt.L} (h : Lt.fine x) (i : Int) (k : Nat) : 0 ≤ Lt.usedP i (x.ps.take k) ∧ Lt.usedP i (x.ps.take k) ≤ 600000 := by
  have := Lt.usedP_bd i (ps := x.ps.take k) fun p hp => h.2.2 p (List.mem_of_mem_take hp)
  have h2 : (x.ps.take k).length ≤ 6 := Nat.le_trans (List.length_take_le' _ _) h.2.1
  omega

set_option maxRecDepth 20000 in
set_option maxHeartbeats 1000000 in
theorem leftOf_any (v : Value) (ls : List Lt.L) (i : Nat) (w : World) (hv : Lots w v ls) (hl : ls.length ≤ 24) (hf : ∀ j, j < ls.length → Lt.fine (ls.getD j default)) (hi : i < ls.length) :
    Calls Try.prog 62 #[v, .int .i64 i] w fun e w' => e = .returned (.int .i64 (Lt.left ls i)) ∧ Below w.heap.size w w' := by
  obtain ⟨la, lc, rfl, hlk⟩ := hv.look
  obtain ⟨b, off, u, rfl, hb, c0, c1, c2, hps⟩ := hlk i hi
  have hLE : Lt.left ls i = (ls.getD i default).m - Lt.used (i : Int) ls := rfl
  have hfi := (hf i hi).1
  have HLK := Lib.hid hlk
  have HF := Lib.hid hf
  have HU := Lib.hid (left_bd hf hl (i : Int))
  have H0 := Lib.hid (Below.refl w.heap.size w)
  generalize hM : (ls.getD i default).m = M at *
  have HL := Lib.hid hLE
  clear hlk hf hv c0 c2 hps hLE hM
  go_enter Try.func62, Try.ntmps62
  go_wp2
  clear c1
  go_loopw [5, 17] (fun s t wr => ∃ k : Nat, k ≤ ls.length ∧ t = .int .i64 k ∧ s = .int .i64 (M - Lt.used i (ls.take k)) ∧ Below w.heap.size w wr) (fun _ t _ => ls.length - (intOf t).toNat)
  case atStart => exact ⟨0, Nat.zero_le _, rfl, by simp [Lt.used], H0.out⟩
  case round =>
    obtain ⟨k, hk, rfl, rfl, hw⟩ := hrel
    clear H0
    by_cases hlt : k < ls.length
    · obtain ⟨b', off', u, hbo, hb', hlot⟩ := HLK.out k hlt
      simp only [Option.some.injEq, Addr.mk.injEq, and_true] at hbo
      obtain ⟨rfl, rfl⟩ := hbo
      obtain ⟨c0, c1, c2, hps⟩ := hlot.below hw hb
      have hfx := HF.out k hlt
      have hus := Lt.used_succ (i : Int) hlt
      rw [getD_L hlt] at c0 c1 hps hfx
      have HUS := Lib.hid hus
      have u1 := HU.out k
      have HUB := Lib.hid (usedP_take_bd hfx (i : Int))
      have HPS := Lib.hid (fun j (hj : j < ls[k].ps.length) => Lt.usedP_succ (i : Int) hj)
      have h6 := hfx.2.1
      have HFX := Lib.hid hfx
      have hall : Lt.usedP (i : Int) (ls[k].ps.take ls[k].ps.length) = Lt.usedP (i : Int) ls[k].ps := by rw [List.take_length]
      have HALL := Lib.hid hall
      clear hlot hus hfx hall
      generalize Lt.used (i : Int) (ls.take k) = U at *
      generalize ls[k] = x at *
      obtain ⟨xk, xm, ps⟩ := x
      dsimp only at *
      obtain ⟨pa, pc, rfl, hpk⟩ := hps.look
      have HPK := Lib.hid hpk
      have HW := Lib.hid hw
      clear hps hpk hw
      go_wp2
      obtain ⟨wo, hwo⟩ : ∃ wo, wr.alloc (.cells #[.int .i64 xk, .int .i64 xm, .slice pa ps.length pc] 25) = wo := ⟨_, rfl⟩
      have hwo1 : Below wr.heap.size wr wo := by rw [← hwo]; exact below_alloc (Below.refl _ _) _
      have HWO := Lib.hid hwo1
      rw [hwo]
      clear hwo hwo1 c0 c1 c2
      go_loopw [5, 24] (fun s t w2 => ∃ j : Nat, j ≤ ps.length ∧ t = .int .i64 j ∧ s = .int .i64 (M - U - Lt.usedP i (ps.take j)) ∧ Below wr.heap.size wr w2) (fun _ t _ => ps.length - (intOf t).toNat)
      case atStart => exact ⟨0, Nat.zero_le _, rfl, by simp [Lt.usedP], HWO.out⟩
      case round =>
        obtain ⟨j, hj, rfl, rfl, hw2⟩ := hrel
        clear HWO
        by_cases hjl : j < ps.length
        · obtain ⟨pb, poff, rfl, hpb, hpt⟩ := HPK.out j hjl
          obtain ⟨c0, c1⟩ := hpt.below hw2 hpb
          rw [getD_P hjl] at c0 c1
          have hs := HPS.out j hjl
          have u2 := HUB.out j
          have u3 := HUB.out (j + 1)
          rw [hs] at u3
          have HS := Lib.hid hs
          clear hpt hs
          generalize Lt.usedP (i : Int) (ps.take j) = V at *
          generalize ps[j] = p at *
          obtain ⟨pl, pm⟩ := p
          dsimp only at *
          by_cases he : pl = (i : Int)
          · rw [if_pos he] at u3 HS
            subst he
            go_wp2
            go_roundw
            case rel => exact ⟨j + 1, by omega, by go_num, by rw [HS.out]; congr 1; omega, below_alloc hw2 _⟩
            case measure => simp [intOf]; omega
          · rw [if_neg he] at u3 HS
            have he0 : (pl == (i : Int)) = false := by simpa using he
            clear he
            go_wp2
            go_roundw
            case rel => exact ⟨j + 1, by omega, by go_num, by rw [HS.out]; congr 1; omega, below_alloc hw2 _⟩
            case measure => simp [intOf]; omega
        · obtain rfl : j = ps.length := by omega
          go_wp2
          go_roundw
          case rel => exact ⟨k + 1, by omega, by go_num, by rw [HUS.out, HALL.out]; congr 1; omega, below_step HW.out hw2⟩
          case measure => simp [intOf]; omega
    · obtain rfl : k = ls.length := by omega
      go_wp2
      go_ret
      exact ⟨ret_int (by rw [HL.out, List.take_length]), hw⟩

set_option maxRecDepth 20000 in
set_option maxHeartbeats 1000000 in
theorem validate_any (v : Value) (ls : List Lt.L) (w : World) (hv : Lots w v ls) (hsh : short ls) :
    Calls Try.prog 21 #[v] w fun e w' => e = .returned (.int .i64 (Lt.valE ls)) ∧ Below w.heap.size w w' := by
  generalize hE : Lt.valE ls = E
  have HE := Lib.hid hE
  clear hE
  have H0 := Lib.hid (Below.refl w.heap.size w)
  by_cases h24 : 24 < ls.length
  · have HX := Lib.hid ((Lt.valE_large h24).symm.trans HE.out)
    obtain ⟨a, c, rfl⟩ := hv.form
    clear hv hsh
    go_enter Try.func21, Try.ntmps21
    go_wp2
    go_ret
    exact ⟨ret_int HX.out, H0.out⟩
  · have V := Lib.hid (fun W (hW : Below w.heap.size w W) i (hi : i < ls.length) => validateLot_any v ls i W (hv.all hW) hsh hi)
    have HV := Lib.hid hv
    obtain ⟨a, c, rfl⟩ := hv.form
    clear hv hsh
    go_enter Try.func21, Try.ntmps21
    go_wp2
    go_loopw [11] (fun t wr => ∃ k : Nat, k ≤ ls.length ∧ t = .int .i64 k ∧ Hid (Below w.heap.size w wr ∧ ∀ j, j < k → Lt.errAt ls j = 0)) (fun t _ => ls.length - (intOf t).toNat)
    case atStart => exact ⟨0, Nat.zero_le _, rfl, Lib.hid ⟨H0.out, fun j h => absurd h (Nat.not_lt_zero _)⟩⟩
    case round =>
      obtain ⟨k, hk, rfl, hg⟩ := hrel
      clear H0
      by_cases hlt : k < ls.length
      · have C := Lib.hid (V.out _ hg.out.1 k hlt)
        by_cases hz : Lt.errAt ls k = 0
        · rw [hz] at C
          have HZ := Lib.hid hz
          clear hz
          go_wp2_with fail
          refine C.out.mono ?_
          rintro e w1 ⟨rfl, hb1⟩
          go_wp2
          go_roundw
          case rel =>
            refine ⟨k + 1, by omega, by go_num, Lib.hid ⟨below_step hg.out.1 hb1, fun j hj => ?_⟩⟩
            by_cases e : j = k
            · subst e; exact HZ.out
            · exact hg.out.2 j (by omega)
          case measure => simp [intOf]; omega
        · have HX := Lib.hid ((Lt.valE_bad h24 hlt hg.out.2 hz).symm.trans HE.out)
          have hne : (Lt.errAt ls k != 0) = true := by simpa using hz
          have HG := Lib.hid hg.out.1
          clear hz hg
          generalize Lt.errAt ls k = er at *
          go_wp2_with fail
          refine C.out.mono ?_
          rintro e w1 ⟨rfl, hb1⟩
          go_wp2
          go_ret
          exact ⟨ret_int HX.out, below_step HG.out hb1⟩
      · obtain rfl : k = ls.length := by omega
        have hok := hg.out.2
        have hw := hg.out.1
        have HOK := Lib.hid hok
        have L := Lib.hid (fun W (hW : Below w.heap.size w W) i (hi : i < ls.length) => leftOf_any _ ls i W (HV.out.all hW) (by omega) (fun j hj => Lt.fine_of (hok j hj)) hi)
        have H1 := Lib.hid hw
        clear hg hok hw V
        go_wp2
        go_loopw [23] (fun t wr => ∃ k : Nat, k ≤ ls.length ∧ t = .int .i64 k ∧ Hid (Below w.heap.size w wr ∧ ∀ j, j < k → 0 ≤ Lt.left ls j)) (fun t _ => ls.length - (intOf t).toNat)
        case atStart => exact ⟨0, Nat.zero_le _, rfl, Lib.hid ⟨H1.out, fun j h => absurd h (Nat.not_lt_zero _)⟩⟩
        case round =>
          obtain ⟨k, hk, rfl, hg⟩ := hrel
          clear H1
          by_cases hlt : k < ls.length
          · have C := Lib.hid (L.out _ hg.out.1 k hlt)
            by_cases hz : Lt.left ls k < 0
            · have HX := Lib.hid ((Lt.valE_short h24 HOK.out hlt hg.out.2 hz).symm.trans HE.out)
              have HG := Lib.hid hg.out.1
              clear hg
              generalize Lt.left ls k = z at *
              go_wp2_with fail
              refine C.out.mono ?_
              rintro e w1 ⟨rfl, hb1⟩
              go_wp2
              go_ret
              exact ⟨ret_int HX.out, below_step HG.out hb1⟩
            · have HZ := Lib.hid (show 0 ≤ Lt.left ls k by omega)
              generalize hzz : Lt.left ls k = z at *
              have HZZ := Lib.hid hzz
              clear hzz
              go_wp2_with fail
              refine C.out.mono ?_
              rintro e w1 ⟨rfl, hb1⟩
              go_wp2
              go_roundw
              case rel =>
                refine ⟨k + 1, by omega, by go_num, Lib.hid ⟨below_step hg.out.1 hb1, fun j hj => ?_⟩⟩
                by_cases e : j = k
                · subst e; rw [HZZ.out]; exact HZ.out
                · exact hg.out.2 j (by omega)
              case measure => simp [intOf]; omega
          · obtain rfl : k = ls.length := by omega
            have HX := Lib.hid ((Lt.valE_ok h24 HOK.out hg.out.2).symm.trans HE.out)
            have HG := Lib.hid hg.out.1
            clear hg
            go_wp2
            go_ret
            exact ⟨ret_int HX.out, HG.out⟩
end Go.Proofs.Ytccjbefmcifaeaa
namespace Go.Proofs.Ytccjbefmcifaeaa
open Go.RowKit

/-- A list of numbers that can be read. -/
def Ints (w : World) (v : Value) (ns : List Int) : Prop :=
  (∃ a c, v = .slice a 0 c ∧ ns = []) ∨ ∃ b off cap, v = .slice (some ⟨b, off, none⟩) ns.length cap ∧ ns.length ≤ cap ∧ b < w.heap.size ∧ ∀ k, k < ns.length → w.cell? ⟨b, off + k, none⟩ = some (.int .i64 (ns.getD k 0))
theorem Ints.all {w w2 : World} {v : Value} {ns : List Int} (h : Ints w v ns) (hb : Below w.heap.size w w2) : Ints w2 v ns := by
  rcases h with h | ⟨b, off, cap, h1, h2, h3, h4⟩
  · exact .inl h
  · exact .inr ⟨b, off, cap, h1, h2, Nat.lt_of_lt_of_le h3 hb.size, fun k hk => (hb.cell (p := ⟨b, off + k, none⟩) h3).trans (h4 k hk)⟩
theorem Ints.look {w : World} {v : Value} {ns : List Int} (h : Ints w v ns) : ∃ a c, v = .slice a ns.length c ∧ ∀ k, k < ns.length → ∃ b off, a = some ⟨b, off, none⟩ ∧ b < w.heap.size ∧ w.cell? ⟨b, off + k, none⟩ = some (.int .i64 (ns.getD k 0)) := by
  rcases h with ⟨a, c, rfl, rfl⟩ | ⟨b, off, cap, rfl, hc, hb, h4⟩
  · exact ⟨a, c, rfl, fun k hk => absurd hk (Nat.not_lt_zero _)⟩
  · exact ⟨_, _, rfl, fun k hk => ⟨b, off, rfl, hb, h4 k hk⟩⟩
def intsC0 (xs : List Int) : Array Value := (xs.map (Value.int .i64)).toArray
theorem BlockAt.ints {W : World} {B n : Nat} {ns : List Int} {cs : Array Value} {t : TypeId} (h : BlockAt W B cs t) (hc : cs = intsC0 ns) (hn : n = ns.length) : Ints W (.slice (some ⟨B, 0, none⟩) n n) ns := by
  subst hc; subst hn
  refine .inr ⟨B, 0, ns.length, rfl, Nat.le_refl _, h.lt, fun k hk => ?_⟩
  rw [h.cell, Nat.zero_add]; unfold intsC0; simp [hk]

def inR (ls : List Lt.L) (n : Int) : Bool := decide (0 ≤ n) && decide (n < ls.length)
def numE (ls : List Lt.L) (ns : List Int) : Int := if Lt.valE ls = 0 then (if ns.all (inR ls) then 0 else 5) else Lt.valE ls
theorem numE_bad {ls : List Lt.L} {ns : List Int} (h : Lt.valE ls ≠ 0) : numE ls ns = Lt.valE ls := if_neg h
theorem numE_out {ls : List Lt.L} {ns : List Int} (h : Lt.valE ls = 0) {k : Nat} (hk : k < ns.length) (ho : inR ls ns[k] = false) : numE ls ns = 5 := by
  unfold numE
  rw [if_pos h, if_neg]
  intro ha
  have := List.all_eq_true.1 ha _ (List.getElem_mem hk)
  rw [ho] at this; cases this
theorem numE_in {ls : List Lt.L} {ns : List Int} (h : Lt.valE ls = 0) (ho : ∀ k, (hk : k < ns.length) → inR ls ns[k] = true) : numE ls ns = 0 := by
  unfold numE
  rw [if_pos h, if_pos]
  exact List.all_eq_true.2 fun n hn => by obtain ⟨k, hk, rfl⟩ := List.getElem_of_mem hn; exact ho k hk

set_option maxRecDepth 20000 in
set_option maxHeartbeats 1000000 in
theorem numbers_any (v u : Value) (ls : List Lt.L) (ns : List Int) (w : World) (hv : Lots w v ls) (hsh : short ls) (hu : Ints w u ns) (hn : ns.length ≤ 1000) :
    Calls Try.prog 65 #[v, u] w fun e w' => e = .returned (.int .i64 (numE ls ns)) ∧ Below w.heap.size w w' := by
  have V := Lib.hid (validate_any v ls w hv hsh)
  obtain ⟨a, c, rfl⟩ := hv.form
  obtain ⟨na, nc, rfl, hk⟩ := hu.look
  have HK := Lib.hid hk
  have hlen := hsh.1
  generalize hE : numE ls ns = E
  have HE := Lib.hid hE
  clear hv hu hk hE hsh
  go_enter Try.func65, Try.ntmps65
  go_wp2_with fail
  refine V.out.mono ?_
  rintro e w1 ⟨rfl, hb1⟩
  have H0 := Lib.hid hb1
  clear hb1 V
  by_cases hz : Lt.valE ls = 0
  · have HZ := Lib.hid hz
    rw [hz]
    clear hz
    go_wp2
    go_loopw [15] (fun t wr => ∃ k : Nat, k ≤ ns.length ∧ t = .int .i64 k ∧ Hid (Below w.heap.size w wr ∧ ∀ j, (hj : j < ns.length) → j < k → inR ls ns[j] = true)) (fun t _ => ns.length - (intOf t).toNat)
    case atStart => exact ⟨0, Nat.zero_le _, rfl, Lib.hid ⟨H0.out, fun j _ h => absurd h (Nat.not_lt_zero _)⟩⟩
    case round =>
      obtain ⟨k, hk, rfl, hg⟩ := hrel
      clear H0
      by_cases hlt : k < ns.length
      · obtain ⟨b, off, rfl, hb, hc⟩ := HK.out k hlt
        have hc := (hg.out.1.cell (p := ⟨b, off + k, none⟩) hb).trans hc
        rw [show ns.getD k 0 = ns[k] by simp [hlt]] at hc
        have HO := Lib.hid (fun ho => (numE_out (ns := ns) HZ.out hlt ho).symm.trans HE.out)
        generalize hnk : ns[k] = z at *
        have HNK := Lib.hid hnk
        clear hnk
        by_cases h1 : z < 0
        · have HX := Lib.hid (HO.out (by unfold inR; simp; intro h; omega))
          have HG := Lib.hid hg.out.1
          clear HO hg
          go_wp2
          go_ret
          exact ⟨ret_int HX.out, HG.out⟩
        · by_cases h2 : (ls.length : Int) ≤ z
          · have HX := Lib.hid (HO.out (by unfold inR; simp; intro h; omega))
            have HG := Lib.hid hg.out.1
            clear HO hg
            go_wp2
            go_ret
            exact ⟨ret_int HX.out, HG.out⟩
          · have HIN := Lib.hid (show inR ls z = true by unfold inR; simp; omega)
            clear HO
            go_wp2
            go_roundw
            case rel =>
              refine ⟨k + 1, by omega, by go_num, Lib.hid ⟨hg.out.1, fun j hj hjk => ?_⟩⟩
              by_cases e : j = k
              · subst e; rw [HNK.out]; exact HIN.out
              · exact hg.out.2 j hj (by omega)
            case measure => simp [intOf]; omega
      · obtain rfl : k = ns.length := by omega
        have HX := Lib.hid ((numE_in HZ.out (fun j hj => hg.out.2 j hj hj)).symm.trans HE.out)
        have HG := Lib.hid hg.out.1
        clear hg
        go_wp2
        go_ret
        exact ⟨ret_int HX.out, HG.out⟩
  · have HX := Lib.hid ((numE_bad (ns := ns) hz).symm.trans HE.out)
    have hne : (Lt.valE ls != 0) = true := by simpa using hz
    clear hz
    generalize Lt.valE ls = er at *
    go_wp2
    go_ret
    exact ⟨ret_int HX.out, H0.out⟩

/-- One number, or two, handed over as a list. -/
theorem nums_one (v : Value) (ls : List Lt.L) (n : Int) (B : Nat) (w : World) (hv : Lots w v ls) (hsh : short ls) (hB : BlockAt w B #[.int .i64 n] 3) :
    Calls Try.prog 65 #[v, .slice (some ⟨B, 0, none⟩) 1 1] w fun e w' => e = .returned (.int .i64 (numE ls [n])) ∧ Below w.heap.size w w' :=
  numbers_any v _ ls [n] w hv hsh (hB.ints rfl rfl) (by simp)
theorem nums_two (v : Value) (ls : List Lt.L) (n m : Int) (B : Nat) (w : World) (hv : Lots w v ls) (hsh : short ls) (hB : BlockAt w B #[.int .i64 n, .int .i64 m] 3) :
    Calls Try.prog 65 #[v, .slice (some ⟨B, 0, none⟩) 2 2] w fun e w' => e = .returned (.int .i64 (numE ls [n, m])) ∧ Below w.heap.size w w' :=
  numbers_any v _ ls [n, m] w hv hsh (hB.ints rfl rfl) (by simp)
end Go.Proofs.Ytccjbefmcifaeaa
