/- Find of the reference. -/
import Derived.Test.YtimpdmpfpbeflaaBandJ
import Derived.Test.YtimpdmpfpbeflaaBand22
import Derived.Test.YtimpdmpfpbeflaaBand9
namespace Go.Proofs.Ytimpdmpfpbeflaa
open Go.RowKit

theorem Bd.asked_ref {x p : List Bd.R} (hf : Bd.fine x) (hn : Bd.nrm x) (hp : Bd.nrm p) {a : Int} (ha : 0 ≤ a) (hl : a + Bd.len p ≤ Bd.len x) : decide (Bd.norm (Bd.cutL x a (a + Bd.len p)) = p) = decide (Bd.occ x p a) := by
  by_cases h : Bd.occ x p a
  · rw [decide_eq_true h, decide_eq_true ((Bd.norm_cut_occ hf hn hp ha hl).2 h)]
  · rw [decide_eq_false h, decide_eq_false fun e => h ((Bd.norm_cut_occ hf hn hp ha hl).1 e)]

set_option maxRecDepth 20000 in
set_option maxHeartbeats 4000000 in
theorem ref_find_any (v u : Value) (rs qs : List Bd.R) (w : World) (hv : Runs w v rs) (hu : Runs w u qs) (hl : rs.length ≤ 1000) (hl2 : qs.length ≤ 1000) :
    Calls Try.prog 56 #[v, u] w fun e w' => e = .returned (.tuple #[.int .i64 (Bd.finV rs qs), .bool (Bd.finB rs qs), .int .i64 (Bd.bothE rs qs)]) ∧ Below w.heap.size w w' := by
  have V := Lib.hid (ref_both_any v u rs qs w hv hu hl hl2)
  have JX := Lib.hid (fun W (hW : Below w.heap.size w W) h => ref_join_fine v rs W (hv.all hW) h)
  have JP := Lib.hid (fun W (hW : Below w.heap.size w W) h => ref_join_fine u qs W (hu.all hW) h)
  obtain ⟨va, vc, rfl⟩ := hv.form
  obtain ⟨ua, uc, rfl⟩ := hu.form
  clear hv hu
  by_cases hv0 : Bd.bothE rs qs = 0
  · obtain ⟨hv1, hv2⟩ := Bd.bothE_zero.1 hv0
    have hf := Bd.fine_of_valid hv1
    have hf2 := Bd.fine_of_valid hv2
    have HFIN : Hid (Bd.finV rs qs = ((Bd.fnd (Bd.norm rs) (Bd.norm qs)).getD 0 : Nat) ∧ Bd.finB rs qs = (Bd.fnd (Bd.norm rs) (Bd.norm qs)).isSome) := Lib.hid (by unfold Bd.finV Bd.finB; rw [if_pos hv0, if_pos hv0]; exact ⟨rfl, rfl⟩)
    have hnx : Bd.nrm (Bd.norm rs) := Bd.norm_nrm (Bd.valE_pos hv1)
    have hnp : Bd.nrm (Bd.norm qs) := Bd.norm_nrm (Bd.valE_pos hv2)
    have hfx : Bd.fine (Bd.norm rs) := Bd.fine_norm hf
    have hfp : Bd.fine (Bd.norm qs) := Bd.fine_norm hf2
    have HFF := Lib.hid (And.intro hf hf2)
    rw [hv0] at V ⊢
    clear hv0 hv1 hv2 hf hf2
    generalize Bd.norm rs = xs at *
    generalize Bd.norm qs = ps at *
    have hlx := hfx.1
    have hlp := hfp.1
    have HPP := Lib.hid (And.intro hnx (And.intro hnp (And.intro hfx hfp)))
    clear hnx hnp hfx hfp
    go_enter Try.func56, Try.ntmps56
    go_wp2_with fail
    refine V.out.mono ?_
    rintro e w1 ⟨rfl, hb1⟩
    have HW1 := Lib.hid hb1
    clear hb1 V
    go_wp2_with fail
    refine (JX.out _ HW1.out HFF.out.1).mono ?_
    rintro e w2 ⟨x, rfl, hx, hb2⟩
    have HX := Lib.hid hx.runs
    have HW2 := Lib.hid (below_step HW1.out hb2)
    clear hx hb2 JX HW1
    go_wp2_with fail
    refine (JP.out _ HW2.out HFF.out.2).mono ?_
    rintro e w3 ⟨p, rfl, hp, hb3⟩
    have HX := Lib.hid (HX.out.all hb3)
    have HP := Lib.hid hp.runs
    have HW3 := Lib.hid (below_step HW2.out hb3)
    clear hp hb3 JP HW2
    obtain ⟨xa, xc, rfl, hxk⟩ := HX.out.look
    obtain ⟨pa, pc, rfl, hpk⟩ := HP.out.look
    have HXK := Lib.hid hxk
    have HPK := Lib.hid hpk
    clear hxk hpk
    go_wp2
    go_loopw [10, 11, 12, 13] (fun s10 s11 s12 s13 wr => ∃ (i : Nat) (best B : Int) (found : Bool), i ≤ xs.length + 1 ∧ s10 = .int .i64 best ∧ s11 = .bool found ∧ s12 = .int .i64 B ∧ s13 = .int .i64 i ∧ Hid (B = Bd.len (xs.take i) ∧ Bd.FI xs ps i 0 best found ∧ Below w3.heap.size w3 wr)) (fun _ _ _ s13 _ => xs.length + 1 - (intOf s13).toNat)
    case atStart => exact ⟨0, 0, 0, false, by omega, rfl, rfl, rfl, rfl, Lib.hid ⟨rfl, Bd.FI.start xs ps, Below.refl _ _⟩⟩
    case round =>
      obtain ⟨i, best0, B, found0, hi, rfl, rfl, rfl, rfl, hg0⟩ := hrel
      by_cases hil : i ≤ xs.length
      · have hdi : decide ((i : Int) ≤ (xs.length : Int)) = true := decide_eq_true (by omega)
        have hBb : 0 ≤ B ∧ B ≤ 1000000000 := by
          rw [hg0.out.1]
          have := Bd.len_take_le HPP.out.2.2.1.2.1 i
          have := HPP.out.2.2.1.2.2
          omega
        have HB := Lib.hid hg0.out.1
        have HG0 := Lib.hid hg0.out.2
        clear hg0
        go_wp2
        go_loopw [10, 11, 14, 15] (fun s10 s11 s14 s15 wr2 => ∃ (k : Nat) (best E : Int) (found : Bool), k ≤ ps.length + 1 ∧ s10 = .int .i64 best ∧ s11 = .bool found ∧ s14 = .int .i64 E ∧ s15 = .int .i64 k ∧ Hid (E = Bd.len (ps.take k) ∧ Bd.FI xs ps i k best found ∧ Below w3.heap.size w3 wr2)) (fun _ _ _ s15 _ => ps.length + 1 - (intOf s15).toNat)
        case atStart => exact ⟨0, best0, 0, found0, by omega, rfl, rfl, rfl, rfl, Lib.hid ⟨rfl, HG0.out.1, HG0.out.2⟩⟩
        case round =>
          obtain ⟨k, best, E, found, hk, rfl, rfl, rfl, rfl, hg⟩ := hrel
          clear HG0
          by_cases hkl : k ≤ ps.length
          · have hdk : decide ((k : Int) ≤ (ps.length : Int)) = true := decide_eq_true (by omega)
            have hEb : 0 ≤ E ∧ E ≤ 1000000000 := by
              rw [hg.out.1]
              have := Bd.len_take_le HPP.out.2.2.2.2.1 k
              have := HPP.out.2.2.2.2.2
              omega
            have hdif : Bd.dif xs ps i k = B - E := by rw [HB.out, hg.out.1]; rfl
            have hw := hg.out.2.2
            have HFI := Lib.hid hg.out.2.1
            have HE := Lib.hid hg.out.1
            have SP := Lib.hid (fun W (hW : Below w3.heap.size w3 W) => size_any _ ps W (HP.out.all hW) HPP.out.2.2.2)
            have SX := Lib.hid (fun W (hW : Below w3.heap.size w3 W) => size_any _ xs W (HX.out.all hW) HPP.out.2.2.1)
            have hLp : 0 ≤ Bd.len ps ∧ Bd.len ps ≤ 1000000000 := ⟨Bd.len_nonneg (Bd.nrm_pos HPP.out.2.1), HPP.out.2.2.2.2.2⟩
            have hLx : 0 ≤ Bd.len xs ∧ Bd.len xs ≤ 1000000000 := ⟨Bd.len_nonneg (Bd.nrm_pos HPP.out.1), HPP.out.2.2.1.2.2⟩
            obtain ⟨Lp, hLpe⟩ : ∃ z, z = Bd.len ps := ⟨_, rfl⟩
            obtain ⟨Lx, hLxe⟩ : ∃ z, z = Bd.len xs := ⟨_, rfl⟩
            have hasked := fun (a : Int) ha hl => Bd.asked_ref (a := a) HPP.out.2.2.1 HPP.out.1 HPP.out.2.1 ha hl
            have CU := Lib.hid (fun W (hW : Below w3.heap.size w3 W) (a : Int) (h0 : 0 ≤ a) (h1 : a + Bd.len ps ≤ Bd.len xs) => ref_cut_any _ xs a (a + Bd.len ps) W (HX.out.all hW) HPP.out.2.2.1 h0 (by omega) (by omega) (by omega))
            have hcl := fun (a : Int) (h0 : 0 ≤ a) (h1 : a + Bd.len ps ≤ Bd.len xs) => Bd.len_cutL HPP.out.2.2.1 (fr := a) (to := a + Bd.len ps) h0 (by omega) h1
            have hcn := fun (a : Int) => Bd.cutL_length xs a (a + Bd.len ps)
            have hcp := fun (a : Int) => Bd.pos_cutL xs a (a + Bd.len ps)
            have hocc : ∀ a, Bd.occ xs ps a → 0 ≤ a ∧ a + Bd.len ps ≤ Bd.len xs := fun a h => ⟨h.1, h.2.1⟩
            rw [← hLpe] at SP hLp hcl hcn hcp hocc
            rw [← hLxe] at SX hLx hcl hocc
            simp only [← hLpe] at CU hasked
            simp only [← hLxe] at CU hasked
            have HEQ := Lib.hid (And.intro hcl (And.intro hcn (And.intro hcp hocc)))
            have HAS := Lib.hid hasked
            have HDF := Lib.hid hdif
            have HMS := Lib.hid (fun (h : Bd.occ xs ps (B - E) → found = true ∧ best ≤ B - E) => HFI.out.miss (by rw [HDF.out]; exact h))
            have HHT := Lib.hid (fun (h : Bd.occ xs ps (B - E)) (hc : found = true → B - E < best) => by have := HFI.out.hit (by rw [HDF.out]; exact h) (by rw [HDF.out]; exact hc); rw [HDF.out] at this; exact this)
            have HNX : Hid (if h : k < ps.length then E + ps[k].l = Bd.len (ps.take (k + 1)) else E = Bd.len (ps.take (k + 1))) := Lib.hid (by
              by_cases h : k < ps.length
              · rw [dif_pos h, Bd.len_take_succ h, ← HE.out]
              · rw [dif_neg h, HE.out, List.take_of_length_le (by omega), List.take_of_length_le (by omega)])
            clear hg hdif hLpe hLxe hcl hcn hcp hocc hasked HFI HDF
            have HW := Lib.hid hw
            clear hw
            by_cases hks : k < ps.length
            · have hdks : decide ((k : Int) < (ps.length : Int)) = true := decide_eq_true (by omega)
              have HNE := Lib.hid (show E + ps[k].l = Bd.len (ps.take (k + 1)) by have := HNX.out; rw [dif_pos hks] at this; exact this)
              obtain ⟨pb, poff, rfl, hpb, hpr⟩ := HPK.out k hks
              have hlk : 0 ≤ ps[k].l ∧ ps[k].l ≤ 1000000000 := by
                have := Bd.len_take_le HPP.out.2.2.2.2.1 (k + 1)
                have h2 := HPP.out.2.2.2.2.2
                have h3 := HPP.out.2.2.2.2.1 ps[k] (List.getElem_mem hks)
                have h4 := HNE.out
                omega
              have HPC := Lib.hid (And.intro hpb hpr.1)
              generalize ps[k].l = pl at *
              clear hpr hpb HNX
              by_cases ha0 : 0 ≤ B - E
              · have hd0 : decide (0 ≤ B - E) = true := decide_eq_true ha0
                by_cases ha1 : B - E + Lp ≤ Lx
                · have hd1 : decide (B - E + Lp ≤ Lx) = true := decide_eq_true ha1
                  have hCU := Lib.hid (fun W hW => CU.out W hW (B - E) ha0 ha1)
                  have hAS := HAS.out (B - E) ha0 ha1
                  have hc1 := HEQ.out.1 (B - E) ha0 ha1
                  have hc2 := HEQ.out.2.1 (B - E)
                  have hc3 := HEQ.out.2.2.1 (B - E)
                  have JN := Lib.hid (fun y W hy => ref_join_any y (Bd.cutL xs (B - E) (B - E + Lp)) W hy (by omega) hc3 (by omega))
                  have SR := Lib.hid (fun y W hy (hW : Below w3.heap.size w3 W) => same_runs_any y _ (Bd.norm (Bd.cutL xs (B - E) (B - E + Lp))) ps W hy (HP.out.all hW) (Nat.le_trans (Bd.norm_length _) (by omega)) hlp)
                  rw [hAS] at SR
                  clear hAS hc1 hc2 hc3 CU
                  cases found with
                  | false =>
                    by_cases ho : Bd.occ xs ps (B - E)
                    · have HH := Lib.hid (HHT.out ho (fun h => Bool.noConfusion h))
                      rw [decide_eq_true ho] at SR
                      clear ho
                      go_wp2_with fail
                      refine (SP.out _ HW.out).mono ?_
                      rintro e y1 ⟨rfl, hb⟩
                      have HWa := Lib.hid (below_step HW.out hb)
                      clear hb
                      go_wp2_with fail
                      refine (SX.out _ HWa.out).mono ?_
                      rintro e y2 ⟨rfl, hb⟩
                      have HWb := Lib.hid (below_step HWa.out hb)
                      clear hb HWa HW
                      go_wp2_with fail
                      refine (SP.out _ HWb.out).mono ?_
                      rintro e y3 ⟨rfl, hb⟩
                      have HWc := Lib.hid (below_step HWb.out hb)
                      clear hb HWb
                      go_wp2_with fail
                      refine (hCU.out _ HWc.out).mono ?_
                      rintro e y4 ⟨yc, rfl, hyc, hb⟩
                      have HWd := Lib.hid (below_step HWc.out hb)
                      have HYC := Lib.hid hyc.runs
                      clear hb HWc hyc
                      go_wp2_with fail
                      refine (JN.out yc _ HYC.out).mono ?_
                      rintro e y5 ⟨yj, rfl, hyj, hb⟩
                      have HWe := Lib.hid (below_step HWd.out hb)
                      have HYJ := Lib.hid hyj.runs
                      clear hb HWd hyj HYC JN hCU
                      go_wp2_with fail
                      refine (SR.out yj _ HYJ.out HWe.out).mono ?_
                      rintro e y6 ⟨rfl, hb⟩
                      have HWf := Lib.hid (below_step HWe.out hb)
                      clear hb HWe HYJ SR
                      have p0 := (((HWf.out)).cell (p := ⟨pb, poff + k * 4, none⟩) HPC.out.1).trans HPC.out.2
                      go_wp2
                      go_roundw
                      case rel => exact ⟨k + 1, B - E, E + pl, true, by omega, rfl, rfl, rfl, by go_num, Lib.hid ⟨HNE.out, HH.out, HWf.out⟩⟩
                      case measure => simp [intOf]; omega
                    · have HH := Lib.hid (HMS.out fun h => absurd h ho)
                      rw [decide_eq_false ho] at SR
                      clear ho
                      go_wp2_with fail
                      refine (SP.out _ HW.out).mono ?_
                      rintro e y1 ⟨rfl, hb⟩
                      have HWa := Lib.hid (below_step HW.out hb)
                      clear hb
                      go_wp2_with fail
                      refine (SX.out _ HWa.out).mono ?_
                      rintro e y2 ⟨rfl, hb⟩
                      have HWb := Lib.hid (below_step HWa.out hb)
                      clear hb HWa HW
                      go_wp2_with fail
                      refine (SP.out _ HWb.out).mono ?_
                      rintro e y3 ⟨rfl, hb⟩
                      have HWc := Lib.hid (below_step HWb.out hb)
                      clear hb HWb
                      go_wp2_with fail
                      refine (hCU.out _ HWc.out).mono ?_
                      rintro e y4 ⟨yc, rfl, hyc, hb⟩
                      have HWd := Lib.hid (below_step HWc.out hb)
                      have HYC := Lib.hid hyc.runs
                      clear hb HWc hyc
                      go_wp2_with fail
                      refine (JN.out yc _ HYC.out).mono ?_
                      rintro e y5 ⟨yj, rfl, hyj, hb⟩
                      have HWe := Lib.hid (below_step HWd.out hb)
                      have HYJ := Lib.hid hyj.runs
                      clear hb HWd hyj HYC JN hCU
                      go_wp2_with fail
                      refine (SR.out yj _ HYJ.out HWe.out).mono ?_
                      rintro e y6 ⟨rfl, hb⟩
                      have HWf := Lib.hid (below_step HWe.out hb)
                      clear hb HWe HYJ SR
                      have p0 := (((HWf.out)).cell (p := ⟨pb, poff + k * 4, none⟩) HPC.out.1).trans HPC.out.2
                      go_wp2
                      go_roundw
                      case rel => exact ⟨k + 1, best, E + pl, _, by omega, rfl, rfl, rfl, by go_num, Lib.hid ⟨HNE.out, HH.out, HWf.out⟩⟩
                      case measure => simp [intOf]; omega
                  | true =>
                    by_cases hlt : B - E < best
                    · have hdl : decide (B - E < best) = true := decide_eq_true hlt
                      by_cases ho : Bd.occ xs ps (B - E)
                      · have HH := Lib.hid (HHT.out ho (fun _ => hlt))
                        rw [decide_eq_true ho] at SR
                        clear ho
                        go_wp2_with fail
                        refine (SP.out _ HW.out).mono ?_
                        rintro e y1 ⟨rfl, hb⟩
                        have HWa := Lib.hid (below_step HW.out hb)
                        clear hb
                        go_wp2_with fail
                        refine (SX.out _ HWa.out).mono ?_
                        rintro e y2 ⟨rfl, hb⟩
                        have HWb := Lib.hid (below_step HWa.out hb)
                        clear hb HWa HW
                        go_wp2_with fail
                        refine (SP.out _ HWb.out).mono ?_
                        rintro e y3 ⟨rfl, hb⟩
                        have HWc := Lib.hid (below_step HWb.out hb)
                        clear hb HWb
                        go_wp2_with fail
                        refine (hCU.out _ HWc.out).mono ?_
                        rintro e y4 ⟨yc, rfl, hyc, hb⟩
                        have HWd := Lib.hid (below_step HWc.out hb)
                        have HYC := Lib.hid hyc.runs
                        clear hb HWc hyc
                        go_wp2_with fail
                        refine (JN.out yc _ HYC.out).mono ?_
                        rintro e y5 ⟨yj, rfl, hyj, hb⟩
                        have HWe := Lib.hid (below_step HWd.out hb)
                        have HYJ := Lib.hid hyj.runs
                        clear hb HWd hyj HYC JN hCU
                        go_wp2_with fail
                        refine (SR.out yj _ HYJ.out HWe.out).mono ?_
                        rintro e y6 ⟨rfl, hb⟩
                        have HWf := Lib.hid (below_step HWe.out hb)
                        clear hb HWe HYJ SR
                        have p0 := (((HWf.out)).cell (p := ⟨pb, poff + k * 4, none⟩) HPC.out.1).trans HPC.out.2
                        go_wp2
                        go_roundw
                        case rel => exact ⟨k + 1, B - E, E + pl, true, by omega, rfl, rfl, rfl, by go_num, Lib.hid ⟨HNE.out, HH.out, HWf.out⟩⟩
                        case measure => simp [intOf]; omega
                      · have HH := Lib.hid (HMS.out fun h => absurd h ho)
                        rw [decide_eq_false ho] at SR
                        clear ho
                        go_wp2_with fail
                        refine (SP.out _ HW.out).mono ?_
                        rintro e y1 ⟨rfl, hb⟩
                        have HWa := Lib.hid (below_step HW.out hb)
                        clear hb
                        go_wp2_with fail
                        refine (SX.out _ HWa.out).mono ?_
                        rintro e y2 ⟨rfl, hb⟩
                        have HWb := Lib.hid (below_step HWa.out hb)
                        clear hb HWa HW
                        go_wp2_with fail
                        refine (SP.out _ HWb.out).mono ?_
                        rintro e y3 ⟨rfl, hb⟩
                        have HWc := Lib.hid (below_step HWb.out hb)
                        clear hb HWb
                        go_wp2_with fail
                        refine (hCU.out _ HWc.out).mono ?_
                        rintro e y4 ⟨yc, rfl, hyc, hb⟩
                        have HWd := Lib.hid (below_step HWc.out hb)
                        have HYC := Lib.hid hyc.runs
                        clear hb HWc hyc
                        go_wp2_with fail
                        refine (JN.out yc _ HYC.out).mono ?_
                        rintro e y5 ⟨yj, rfl, hyj, hb⟩
                        have HWe := Lib.hid (below_step HWd.out hb)
                        have HYJ := Lib.hid hyj.runs
                        clear hb HWd hyj HYC JN hCU
                        go_wp2_with fail
                        refine (SR.out yj _ HYJ.out HWe.out).mono ?_
                        rintro e y6 ⟨rfl, hb⟩
                        have HWf := Lib.hid (below_step HWe.out hb)
                        clear hb HWe HYJ SR
                        have p0 := (((HWf.out)).cell (p := ⟨pb, poff + k * 4, none⟩) HPC.out.1).trans HPC.out.2
                        go_wp2
                        go_roundw
                        case rel => exact ⟨k + 1, best, E + pl, _, by omega, rfl, rfl, rfl, by go_num, Lib.hid ⟨HNE.out, HH.out, HWf.out⟩⟩
                        case measure => simp [intOf]; omega
                    · have hdl : decide (B - E < best) = false := decide_eq_false hlt
                      have HH := Lib.hid (HMS.out fun _ => ⟨rfl, by omega⟩)
                      go_wp2_with fail
                      refine (SP.out _ HW.out).mono ?_
                      rintro e y1 ⟨rfl, hb⟩
                      have HWa := Lib.hid (below_step HW.out hb)
                      clear hb
                      go_wp2_with fail
                      refine (SX.out _ HWa.out).mono ?_
                      rintro e y2 ⟨rfl, hb⟩
                      have HWb := Lib.hid (below_step HWa.out hb)
                      clear hb HWa HW
                      have p0 := (((HWb.out)).cell (p := ⟨pb, poff + k * 4, none⟩) HPC.out.1).trans HPC.out.2
                      go_wp2
                      go_roundw
                      case rel => exact ⟨k + 1, best, E + pl, true, by omega, rfl, rfl, rfl, by go_num, Lib.hid ⟨HNE.out, HH.out, HWb.out⟩⟩
                      case measure => simp [intOf]; omega
                · have hd1 : decide (B - E + Lp ≤ Lx) = false := decide_eq_false ha1
                  have HH := Lib.hid (HMS.out fun h => absurd (HEQ.out.2.2.2 _ h).2 ha1)
                  go_wp2_with fail
                  refine (SP.out _ HW.out).mono ?_
                  rintro e y1 ⟨rfl, hb⟩
                  have HWa := Lib.hid (below_step HW.out hb)
                  clear hb
                  go_wp2_with fail
                  refine (SX.out _ HWa.out).mono ?_
                  rintro e y2 ⟨rfl, hb⟩
                  have HWb := Lib.hid (below_step HWa.out hb)
                  clear hb HWa HW
                  have p0 := (((HWb.out)).cell (p := ⟨pb, poff + k * 4, none⟩) HPC.out.1).trans HPC.out.2
                  go_wp2
                  go_roundw
                  case rel => exact ⟨k + 1, best, E + pl, _, by omega, rfl, rfl, rfl, by go_num, Lib.hid ⟨HNE.out, HH.out, HWb.out⟩⟩
                  case measure => simp [intOf]; omega
              · have hd0 : decide (0 ≤ B - E) = false := decide_eq_false ha0
                have HH := Lib.hid (HMS.out fun h => absurd (HEQ.out.2.2.2 _ h).1 ha0)
                have p0 := (((HW.out)).cell (p := ⟨pb, poff + k * 4, none⟩) HPC.out.1).trans HPC.out.2
                go_wp2
                go_roundw
                case rel => exact ⟨k + 1, best, E + pl, _, by omega, rfl, rfl, rfl, by go_num, Lib.hid ⟨HNE.out, HH.out, HW.out⟩⟩
                case measure => simp [intOf]; omega
            · have hdks : decide ((k : Int) < (ps.length : Int)) = false := decide_eq_false (by omega)
              have HNE := Lib.hid (show E = Bd.len (ps.take (k + 1)) by have := HNX.out; rw [dif_neg hks] at this; exact this)
              clear HNX
              by_cases ha0 : 0 ≤ B - E
              · have hd0 : decide (0 ≤ B - E) = true := decide_eq_true ha0
                by_cases ha1 : B - E + Lp ≤ Lx
                · have hd1 : decide (B - E + Lp ≤ Lx) = true := decide_eq_true ha1
                  have hCU := Lib.hid (fun W hW => CU.out W hW (B - E) ha0 ha1)
                  have hAS := HAS.out (B - E) ha0 ha1
                  have hc1 := HEQ.out.1 (B - E) ha0 ha1
                  have hc2 := HEQ.out.2.1 (B - E)
                  have hc3 := HEQ.out.2.2.1 (B - E)
                  have JN := Lib.hid (fun y W hy => ref_join_any y (Bd.cutL xs (B - E) (B - E + Lp)) W hy (by omega) hc3 (by omega))
                  have SR := Lib.hid (fun y W hy (hW : Below w3.heap.size w3 W) => same_runs_any y _ (Bd.norm (Bd.cutL xs (B - E) (B - E + Lp))) ps W hy (HP.out.all hW) (Nat.le_trans (Bd.norm_length _) (by omega)) hlp)
                  rw [hAS] at SR
                  clear hAS hc1 hc2 hc3 CU
                  cases found with
                  | false =>
                    by_cases ho : Bd.occ xs ps (B - E)
                    · have HH := Lib.hid (HHT.out ho (fun h => Bool.noConfusion h))
                      rw [decide_eq_true ho] at SR
                      clear ho
                      go_wp2_with fail
                      refine (SP.out _ HW.out).mono ?_
                      rintro e y1 ⟨rfl, hb⟩
                      have HWa := Lib.hid (below_step HW.out hb)
                      clear hb
                      go_wp2_with fail
                      refine (SX.out _ HWa.out).mono ?_
                      rintro e y2 ⟨rfl, hb⟩
                      have HWb := Lib.hid (below_step HWa.out hb)
                      clear hb HWa HW
                      go_wp2_with fail
                      refine (SP.out _ HWb.out).mono ?_
                      rintro e y3 ⟨rfl, hb⟩
                      have HWc := Lib.hid (below_step HWb.out hb)
                      clear hb HWb
                      go_wp2_with fail
                      refine (hCU.out _ HWc.out).mono ?_
                      rintro e y4 ⟨yc, rfl, hyc, hb⟩
                      have HWd := Lib.hid (below_step HWc.out hb)
                      have HYC := Lib.hid hyc.runs
                      clear hb HWc hyc
                      go_wp2_with fail
                      refine (JN.out yc _ HYC.out).mono ?_
                      rintro e y5 ⟨yj, rfl, hyj, hb⟩
                      have HWe := Lib.hid (below_step HWd.out hb)
                      have HYJ := Lib.hid hyj.runs
                      clear hb HWd hyj HYC JN hCU
                      go_wp2_with fail
                      refine (SR.out yj _ HYJ.out HWe.out).mono ?_
                      rintro e y6 ⟨rfl, hb⟩
                      have HWf := Lib.hid (below_step HWe.out hb)
                      clear hb HWe HYJ SR
                      go_wp2
                      go_roundw
                      case rel => exact ⟨k + 1, B - E, E, true, by omega, rfl, rfl, rfl, by go_num, Lib.hid ⟨HNE.out, HH.out, HWf.out⟩⟩
                      case measure => simp [intOf]; omega
                    · have HH := Lib.hid (HMS.out fun h => absurd h ho)
                      rw [decide_eq_false ho] at SR
                      clear ho
                      go_wp2_with fail
                      refine (SP.out _ HW.out).mono ?_
                      rintro e y1 ⟨rfl, hb⟩
                      have HWa := Lib.hid (below_step HW.out hb)
                      clear hb
                      go_wp2_with fail
                      refine (SX.out _ HWa.out).mono ?_
                      rintro e y2 ⟨rfl, hb⟩
                      have HWb := Lib.hid (below_step HWa.out hb)
                      clear hb HWa HW
                      go_wp2_with fail
                      refine (SP.out _ HWb.out).mono ?_
                      rintro e y3 ⟨rfl, hb⟩
                      have HWc := Lib.hid (below_step HWb.out hb)
                      clear hb HWb
                      go_wp2_with fail
                      refine (hCU.out _ HWc.out).mono ?_
                      rintro e y4 ⟨yc, rfl, hyc, hb⟩
                      have HWd := Lib.hid (below_step HWc.out hb)
                      have HYC := Lib.hid hyc.runs
                      clear hb HWc hyc
                      go_wp2_with fail
                      refine (JN.out yc _ HYC.out).mono ?_
                      rintro e y5 ⟨yj, rfl, hyj, hb⟩
                      have HWe := Lib.hid (below_step HWd.out hb)
                      have HYJ := Lib.hid hyj.runs
                      clear hb HWd hyj HYC JN hCU
                      go_wp2_with fail
                      refine (SR.out yj _ HYJ.out HWe.out).mono ?_
                      rintro e y6 ⟨rfl, hb⟩
                      have HWf := Lib.hid (below_step HWe.out hb)
                      clear hb HWe HYJ SR
                      go_wp2
                      go_roundw
                      case rel => exact ⟨k + 1, best, E, _, by omega, rfl, rfl, rfl, by go_num, Lib.hid ⟨HNE.out, HH.out, HWf.out⟩⟩
                      case measure => simp [intOf]; omega
                  | true =>
                    by_cases hlt : B - E < best
                    · have hdl : decide (B - E < best) = true := decide_eq_true hlt
                      by_cases ho : Bd.occ xs ps (B - E)
                      · have HH := Lib.hid (HHT.out ho (fun _ => hlt))
                        rw [decide_eq_true ho] at SR
                        clear ho
                        go_wp2_with fail
                        refine (SP.out _ HW.out).mono ?_
                        rintro e y1 ⟨rfl, hb⟩
                        have HWa := Lib.hid (below_step HW.out hb)
                        clear hb
                        go_wp2_with fail
                        refine (SX.out _ HWa.out).mono ?_
                        rintro e y2 ⟨rfl, hb⟩
                        have HWb := Lib.hid (below_step HWa.out hb)
                        clear hb HWa HW
                        go_wp2_with fail
                        refine (SP.out _ HWb.out).mono ?_
                        rintro e y3 ⟨rfl, hb⟩
                        have HWc := Lib.hid (below_step HWb.out hb)
                        clear hb HWb
                        go_wp2_with fail
                        refine (hCU.out _ HWc.out).mono ?_
                        rintro e y4 ⟨yc, rfl, hyc, hb⟩
                        have HWd := Lib.hid (below_step HWc.out hb)
                        have HYC := Lib.hid hyc.runs
                        clear hb HWc hyc
                        go_wp2_with fail
                        refine (JN.out yc _ HYC.out).mono ?_
                        rintro e y5 ⟨yj, rfl, hyj, hb⟩
                        have HWe := Lib.hid (below_step HWd.out hb)
                        have HYJ := Lib.hid hyj.runs
                        clear hb HWd hyj HYC JN hCU
                        go_wp2_with fail
                        refine (SR.out yj _ HYJ.out HWe.out).mono ?_
                        rintro e y6 ⟨rfl, hb⟩
                        have HWf := Lib.hid (below_step HWe.out hb)
                        clear hb HWe HYJ SR
                        go_wp2
                        go_roundw
                        case rel => exact ⟨k + 1, B - E, E, true, by omega, rfl, rfl, rfl, by go_num, Lib.hid ⟨HNE.out, HH.out, HWf.out⟩⟩
                        case measure => simp [intOf]; omega
                      · have HH := Lib.hid (HMS.out fun h => absurd h ho)
                        rw [decide_eq_false ho] at SR
                        clear ho
                        go_wp2_with fail
                        refine (SP.out _ HW.out).mono ?_
                        rintro e y1 ⟨rfl, hb⟩
                        have HWa := Lib.hid (below_step HW.out hb)
                        clear hb
                        go_wp2_with fail
                        refine (SX.out _ HWa.out).mono ?_
                        rintro e y2 ⟨rfl, hb⟩
                        have HWb := Lib.hid (below_step HWa.out hb)
                        clear hb HWa HW
                        go_wp2_with fail
                        refine (SP.out _ HWb.out).mono ?_
                        rintro e y3 ⟨rfl, hb⟩
                        have HWc := Lib.hid (below_step HWb.out hb)
                        clear hb HWb
                        go_wp2_with fail
                        refine (hCU.out _ HWc.out).mono ?_
                        rintro e y4 ⟨yc, rfl, hyc, hb⟩
                        have HWd := Lib.hid (below_step HWc.out hb)
                        have HYC := Lib.hid hyc.runs
                        clear hb HWc hyc
                        go_wp2_with fail
                        refine (JN.out yc _ HYC.out).mono ?_
                        rintro e y5 ⟨yj, rfl, hyj, hb⟩
                        have HWe := Lib.hid (below_step HWd.out hb)
                        have HYJ := Lib.hid hyj.runs
                        clear hb HWd hyj HYC JN hCU
                        go_wp2_with fail
                        refine (SR.out yj _ HYJ.out HWe.out).mono ?_
                        rintro e y6 ⟨rfl, hb⟩
                        have HWf := Lib.hid (below_step HWe.out hb)
                        clear hb HWe HYJ SR
                        go_wp2
                        go_roundw
                        case rel => exact ⟨k + 1, best, E, _, by omega, rfl, rfl, rfl, by go_num, Lib.hid ⟨HNE.out, HH.out, HWf.out⟩⟩
                        case measure => simp [intOf]; omega
                    · have hdl : decide (B - E < best) = false := decide_eq_false hlt
                      have HH := Lib.hid (HMS.out fun _ => ⟨rfl, by omega⟩)
                      go_wp2_with fail
                      refine (SP.out _ HW.out).mono ?_
                      rintro e y1 ⟨rfl, hb⟩
                      have HWa := Lib.hid (below_step HW.out hb)
                      clear hb
                      go_wp2_with fail
                      refine (SX.out _ HWa.out).mono ?_
                      rintro e y2 ⟨rfl, hb⟩
                      have HWb := Lib.hid (below_step HWa.out hb)
                      clear hb HWa HW
                      go_wp2
                      go_roundw
                      case rel => exact ⟨k + 1, best, E, true, by omega, rfl, rfl, rfl, by go_num, Lib.hid ⟨HNE.out, HH.out, HWb.out⟩⟩
                      case measure => simp [intOf]; omega
                · have hd1 : decide (B - E + Lp ≤ Lx) = false := decide_eq_false ha1
                  have HH := Lib.hid (HMS.out fun h => absurd (HEQ.out.2.2.2 _ h).2 ha1)
                  go_wp2_with fail
                  refine (SP.out _ HW.out).mono ?_
                  rintro e y1 ⟨rfl, hb⟩
                  have HWa := Lib.hid (below_step HW.out hb)
                  clear hb
                  go_wp2_with fail
                  refine (SX.out _ HWa.out).mono ?_
                  rintro e y2 ⟨rfl, hb⟩
                  have HWb := Lib.hid (below_step HWa.out hb)
                  clear hb HWa HW
                  go_wp2
                  go_roundw
                  case rel => exact ⟨k + 1, best, E, _, by omega, rfl, rfl, rfl, by go_num, Lib.hid ⟨HNE.out, HH.out, HWb.out⟩⟩
                  case measure => simp [intOf]; omega
              · have hd0 : decide (0 ≤ B - E) = false := decide_eq_false ha0
                have HH := Lib.hid (HMS.out fun h => absurd (HEQ.out.2.2.2 _ h).1 ha0)
                go_wp2
                go_roundw
                case rel => exact ⟨k + 1, best, E, _, by omega, rfl, rfl, rfl, by go_num, Lib.hid ⟨HNE.out, HH.out, HW.out⟩⟩
                case measure => simp [intOf]; omega
          · obtain rfl : k = ps.length + 1 := by omega
            have hdk : decide (((ps.length + 1 : Nat) : Int) ≤ (ps.length : Int)) = false := decide_eq_false (by omega)
            have hfi := hg.out.2.1.row
            have HGI := Lib.hid (And.intro hfi hg.out.2.2)
            clear hfi hg
            by_cases his : i < xs.length
            · have hdis : decide ((i : Int) < (xs.length : Int)) = true := decide_eq_true (by omega)
              obtain ⟨xb, xoff, rfl, hxb, hxr⟩ := HXK.out i his
              have HNB := Lib.hid (show B + xs[i].l = Bd.len (xs.take (i + 1)) by rw [Bd.len_take_succ his, ← HB.out])
              have hli : 0 ≤ xs[i].l ∧ xs[i].l ≤ 1000000000 := by
                have := Bd.len_take_le HPP.out.2.2.1.2.1 (i + 1)
                have h2 := HPP.out.2.2.1.2.2
                have h3 := HPP.out.2.2.1.2.1 xs[i] (List.getElem_mem his)
                have h4 := HNB.out
                omega
              have x0 := (HGI.out.2.cell (p := ⟨xb, xoff + i * 4, none⟩) hxb).trans hxr.1
              generalize xs[i].l = xl at *
              clear hxr hxb
              go_wp2
              go_roundw
              case rel => exact ⟨i + 1, best, B + xl, found, by omega, rfl, rfl, rfl, by go_num, Lib.hid ⟨HNB.out, HGI.out.1, HGI.out.2⟩⟩
              case measure => simp [intOf]; omega
            · have hdis : decide ((i : Int) < (xs.length : Int)) = false := decide_eq_false (by omega)
              have HNB := Lib.hid (show B = Bd.len (xs.take (i + 1)) by rw [HB.out, List.take_of_length_le (by omega), List.take_of_length_le (by omega)])
              go_wp2
              go_roundw
              case rel => exact ⟨i + 1, best, B, found, by omega, rfl, rfl, rfl, by go_num, Lib.hid ⟨HNB.out, HGI.out.1, HGI.out.2⟩⟩
              case measure => simp [intOf]; omega
      · obtain rfl : i = xs.length + 1 := by omega
        have hdi : decide (((xs.length + 1 : Nat) : Int) ≤ (xs.length : Int)) = false := decide_eq_false (by omega)
        obtain ⟨e1, e2⟩ := Bd.FI.done HPP.out.1 HPP.out.2.1 hg0.out.2.1
        have HEE := Lib.hid (And.intro e1 e2)
        have hwF := below_step HW3.out hg0.out.2.2
        clear e1 e2 hg0
        go_wp2
        exact bodyPost_ret (v := .tuple #[.int .i64 best0, .bool found0, .int .i64 0]) (by simp [results, Try.results56, go_sem]) rfl ⟨by rw [HFIN.out.1, HFIN.out.2, HEE.out.1, HEE.out.2], hwF⟩
  · have hne : (Bd.bothE rs qs != 0) = true := by simpa using hv0
    have HX : Hid (Bd.finV rs qs = 0 ∧ Bd.finB rs qs = false) := Lib.hid (by unfold Bd.finV Bd.finB; rw [if_neg hv0, if_neg hv0]; exact ⟨rfl, rfl⟩)
    generalize Bd.bothE rs qs = z at *
    clear hv0 JX JP
    go_enter Try.func56, Try.ntmps56
    go_wp2_with fail
    refine V.out.mono ?_
    rintro e w1 ⟨rfl, hb1⟩
    go_wp2
    exact bodyPost_ret (v := .tuple #[.int .i64 0, .bool false, .int .i64 z]) (by simp [results, Try.results56, go_sem]) rfl ⟨by rw [HX.out.1, HX.out.2], hb1⟩
end Go.Proofs.Ytimpdmpfpbeflaa
