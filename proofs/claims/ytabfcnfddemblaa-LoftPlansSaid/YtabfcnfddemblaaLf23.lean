/- Program of the reference. -/
import Derived.Test.YtabfcnfddemblaaLf22
namespace Go.Proofs.Ytabfcnfddemblaa.Lo
open Go.RowKit

set_option maxRecDepth 100000 in
set_option maxHeartbeats 8000000 in
theorem rprogram_no (p : Int) (u : Value) (rs : List Int) (al : Value) (vs : List Value) (base n1 : Nat) (need most : Int) (w : World) (hu : Ints w u rs) (h5 : rs.length = 5) (hr : ∀ k, k < 5 → 0 ≤ rs.getD k 0 ∧ rs.getD k 0 ≤ 9)
    (hal : Lvs base w al rs 13 vs) (hm : most ≤ 60) (hN : n1 ≤ 11) (hA : Lf.aft rs (n1 + 1) 0 need most = false) :
    Calls Try.prog 82 #[loftV p u, al, .int .i64 need, .int .i64 most, .int .i64 ((n1 + 1 : Nat) : Int)] w fun e w' => e = .returned (.tuple #[.slice none 0 0, .bool false]) ∧ Below w.heap.size w w' := by
  obtain ⟨ua, uc, rfl⟩ := hu.form
  have HW := Lib.hid (loft_box w p (.slice ua rs.length uc))
  have HU := Lib.hid (fun (W : World) (hW : Below w.heap.size w W) => Ints.at (hu.all hW))
  have HAL := Lib.hid (fun (j : Nat) (hj : j < 13) => hal.look2 hj)
  have HRT := Lib.hid (fun k (hk : k < 5) => And.intro (rt_int (hr k hk).1) (show Lf.rt rs k ≤ 9 by have := hr k hk; unfold Lf.rt; omega))
  have CRE := Lib.hid (fun f B X W hX hc => reaches_any f B X need most W hX hc)
  have HCN := Lib.hid (fun (g : Nat) (hg : g ≤ 1) => show rch (fun s => Lf.sm rs n1 g s) ((Lf.rt rs g : Nat) : Int) need most = false from by
    have h1 := rch_can (rs := rs) (n := n1) (g := g) (X := 0) (lo := need) (Int.le_refl _) hm
    rw [Int.zero_add, Int.sub_zero, Int.sub_zero] at h1
    rw [h1]
    apply Bool.eq_false_iff.2
    intro hc
    rw [(Lf.aft_succ hm).2 ⟨g, by omega, Lf.nr_iff.2 (by omega), hc⟩] at hA
    cases hA)
  obtain ⟨bo, oo, b2, o2, c2, cc, hae, ⟨hbo, k0⟩, hb2, k3⟩ := hal.look2 (j := n1) (by omega)
  have HK3 := Lib.hid k3
  have HK0 := Lib.hid k0
  have HS0 := Lib.hid (show PgS w (loftA p (.slice ua rs.length uc)) none 0 [] (w.alloc (.cells (loftA p (.slice ua rs.length uc)) LoftT)) from ⟨OwnG.nil _ _, HW.out⟩)
  have H5 := Lib.hid h5
  have hl5 : rs.length ≤ 5 := by omega
  have hl5' : 5 ≤ rs.length := by omega
  obtain ⟨N, hNe⟩ : ∃ N, N = n1 + 1 := ⟨_, rfl⟩
  have hN1 : 0 < N := by omega
  have hN12 : N ≤ 12 := by omega
  have HI := Lib.hid (show (N : Int) - 1 = (n1 : Int) by omega)
  rw [← hNe]
  subst hae
  clear hu h5 hr hal hA hNe k3 k0
  go_enter Try.func82, Try.ntmps82
  go_wp2
  go_loopw [12, 13, 14, 15] (fun s t v q wr => s = .slice none 0 0 ∧ t = .int .i64 0 ∧ v = .int .i64 0 ∧ q = .int .i64 0 ∧ Hid (PgS w (loftA p (.slice ua rs.length uc)) none 0 [] wr)) (fun _ _ _ _ _ => 0)
  case atStart => exact ⟨rfl, rfl, rfl, rfl, HS0⟩
  case round =>
    obtain ⟨rfl, rfl, rfl, rfl, hg⟩ := hrel
    clear HS0
    have hidx := HI.out
    have k1 := (hg.out.2.2.cell (p := ⟨bo, oo + n1, none⟩) hbo).trans HK0.out
    have hdN : decide ((0 : Int) < (N : Int)) = true := decide_eq_true (by omega)
    have HS := Lib.hid hg.out
    clear hg
    go_upto_region 8 with fail
    clear hidx k1
    go_wp2
    go_loopw [12, 17, 18] (fun s f t wr => ∃ g : Nat, g ≤ 2 ∧ s = .slice none 0 0 ∧ f = .bool false ∧ t = .int .i64 (g : Int) ∧ Hid (PgS w (loftA p (.slice ua rs.length uc)) none 0 [] wr)) (fun _ _ t _ => 3 - (intOf t).toNat)
    case atStart => exact ⟨0, by omega, rfl, rfl, rfl, HS⟩
    case round =>
      obtain ⟨g, hg2, rfl, rfl, rfl, hg⟩ := hrel
      clear HS
      by_cases hg1 : g ≤ 1
      · have HS := Lib.hid hg.out
        obtain ⟨b3, off3, hua, hb3, z0⟩ := HU.out wr HS.out.2.2 g (by omega)
        obtain ⟨e1, e2⟩ := HRT.out g (by omega)
        rw [e1] at z0
        obtain ⟨B, w1, w2, w3⟩ := HK3.out g (by omega)
        have y0 : wr.drew.cell? ⟨w.heap.size, 1, none⟩ = some (.slice ua rs.length uc) := HS.out.2.1.cell 1
        have y1 : wr.drew.cell? ⟨b3, off3 + g, none⟩ = _ := z0
        have y2 : wr.drew.cell? ⟨b2, o2 + g, none⟩ = some (.slice (some ⟨B, 0, none⟩) 109 109) := (HS.out.2.2.cell (p := ⟨b2, o2 + g, none⟩) hb2).trans w1
        have CR := Lib.hid (CRE.out (fun s => Lf.sm rs n1 g s) B ((Lf.rt rs g : Nat) : Int) wr.drew ⟨by omega, by omega⟩ (fun s hs => (HS.out.2.2.cell (p := ⟨B, s, none⟩) w2).trans (w3 s hs)))
        rw [HCN.out g hg1] at CR
        have gsm : IntKind.i64.wrap (((Lf.rt rs g : Nat) : Int)) = ((Lf.rt rs g : Nat) : Int) := IntWalk.i64_in _ ⟨by omega, by omega⟩
        have gsm2 : IntKind.i64.wrap (0 + ((Lf.rt rs g : Nat) : Int)) = ((Lf.rt rs g : Nat) : Int) := by rw [Int.zero_add]; exact gsm
        have hg5 : g < 5 := by omega
        clear w1 w3 e1 z0 hg
        subst hua
        generalize Lf.rt rs g = r at *
        go_upto_region 11 with fail
        refine wp_region_seq [(0, true), (1, true), (2, true), (3, true), (4, true), (5, true), (6, true), (7, true), (8, true), (9, true), (10, true), (11, true), (12, true), (13, false)] (fun W => W = wr.drew)
          (by kernel_rfl) (by kernel_rfl) (by kernel_rfl) (by kernel_rfl) (fun d _ _ _ _ h => by cases d <;> exact h) rfl (fun _ => ?_)
        repeat (first | (refine SeqH.take (v := ?_) rfl (by rfl) ?_ ?_; rotate_left; (· intro wq hSw; (try dsimp only at hSw); subst hSw; go_simp; (try rw [if_pos (by omega)]); (try with_reducible rfl)); simp only [Act.put, List.setIfInBounds_toArray, List.set_cons_zero, List.set_cons_succ]) | (refine SeqH.skip rfl (by rfl) ?_; simp only [Act.put, List.setIfInBounds_toArray, List.set_cons_zero, List.set_cons_succ]))
        refine SeqH.step rfl (by rfl) (fun K hK => ?_)
        go_simp
        go_at_call 124
        refine CR.out.mono ?_
        rintro e w7 ⟨rfl, rfl⟩
        try dsimp only
        refine hK.out _ _ rfl (fun _ => ?_)
        clear hK K
        try simp only [Act.put, List.setIfInBounds_toArray, List.set_cons_zero, List.set_cons_succ]
        refine SeqH.done ?_
        have HS2 := Lib.hid HS.out.drew
        clear CR y0 y1 y2 gsm gsm2 HS
        go_wp2
        go_roundw
        case rel => exact ⟨g + 1, by omega, rfl, rfl, by go_num, HS2⟩
        case measure => simp [intOf]; omega
      · obtain rfl : g = 2 := by omega
        have HS := Lib.hid hg.out
        clear hg
        go_wp2
        go_ret2
        exact ⟨rfl, HS.out.2.2⟩
set_option maxRecDepth 100000 in
set_option maxHeartbeats 4000000 in
theorem rprogF_any (p : Int) (u : Value) (rs : List Int) (n m : Int) (w : World) (hu : Ints w u rs) :
    Calls Try.prog 42 #[loftV p u, .int .i64 n, .int .i64 m] w fun e w' => ∃ a c, e = .returned (.tuple #[.slice a (Lf.pR ⟨p, rs⟩ n m).length c, .bool (Lf.pB ⟨p, rs⟩ n m), .int .i64 (Lf.pE ⟨p, rs⟩ n m)]) ∧ OwnI w.heap.size w' (.slice a (Lf.pR ⟨p, rs⟩ n m).length c) (Lf.pR ⟨p, rs⟩ n m) ∧ Below w.heap.size w w' := by
  have HPR := Lib.hid (loft_pair w p u rs hu)
  have HU := Lib.hid hu
  obtain ⟨ua, uc, rfl⟩ := hu.form
  have HW := Lib.hid (loft_box w p (.slice ua rs.length uc))
  have x0 : World.cell? _ _ = some (.int .i64 p) := HW.out.1.cell 0
  have x1 : World.cell? _ _ = some (.slice ua rs.length uc) := HW.out.1.cell 1
  have CV := Lib.hid (rvalLofts_any _ _ _ HPR.out.2.1)
  have CI := Lib.hid (fun W => within_any n 1 60 W)
  have CJ := Lib.hid (fun W => within_any m n 60 W)
  have HRD := Lib.hid (isRp_def n m)
  clear hu
  by_cases hz : Lf.valF [⟨p, rs⟩] = 0
  case neg =>
    obtain ⟨e1, e2, e3⟩ := p_bad (n := n) (m := m) hz
    rw [e1, e2, e3]
    have hv1 : Lf.valF [(⟨p, rs⟩ : Lf.F)] = 1 := by rcases Lf.valF_01 [(⟨p, rs⟩ : Lf.F)] with h | h; exact absurd h hz; exact h
    rw [hv1] at CV
    clear e1 e2 e3 hz hv1 CI CJ HRD
    go_enter Try.func42, Try.ntmps42
    go_wp2_with fail
    refine CV.out.mono ?_
    rintro e w1 ⟨rfl, rfl⟩
    clear CV x0 x1
    go_wp2
    refine bodyPost_ret (results_tmp3 rfl _ _ _) rfl ?_
    exact ⟨none, 0, rfl, OwnG.nil _ _, HPR.out.2.2⟩
  cases hr1 : Lf.rng 1 60 n
  · obtain ⟨e1, e2, e3⟩ := p_out (m := m) hz (by rw [HRD.out, hr1]; rfl)
    rw [e1, e2, e3]
    rw [hz] at CV
    rw [hr1] at CI
    clear e1 e2 e3 hz hr1 CJ HRD
    go_enter Try.func42, Try.ntmps42
    go_wp2_with fail
    refine CV.out.mono ?_
    rintro e w1 ⟨rfl, rfl⟩
    clear CV x0 x1
    go_wp2_with fail
    refine (CI.out _).mono ?_
    rintro e w2 ⟨rfl, rfl⟩
    go_wp2
    refine bodyPost_ret (results_tmp3 rfl _ _ _) rfl ?_
    exact ⟨none, 0, rfl, OwnG.nil _ _, HPR.out.2.2⟩
  cases hr2 : Lf.rng n 60 m
  · obtain ⟨e1, e2, e3⟩ := p_out (n := n) (m := m) hz (by rw [HRD.out, hr1, hr2]; rfl)
    rw [e1, e2, e3]
    rw [hz] at CV
    rw [hr1] at CI
    rw [hr2] at CJ
    clear e1 e2 e3 hz hr1 hr2 HRD
    go_enter Try.func42, Try.ntmps42
    go_wp2_with fail
    refine CV.out.mono ?_
    rintro e w1 ⟨rfl, rfl⟩
    clear CV x0 x1
    go_wp2_with fail
    refine (CI.out _).mono ?_
    rintro e w2 ⟨rfl, rfl⟩
    go_wp2_with fail
    refine (CJ.out _).mono ?_
    rintro e w2 ⟨rfl, rfl⟩
    go_wp2
    refine bodyPost_ret (results_tmp3 rfl _ _ _) rfl ?_
    exact ⟨none, 0, rfl, OwnG.nil _ _, HPR.out.2.2⟩
  have hrp : Lf.isRp n m = true := by rw [HRD.out, hr1, hr2]; rfl
  obtain ⟨e1, e2, e3⟩ := p_ok hz hrp
  rw [e1, e2, e3]
  have hok := Lf.okF_iff.1 (Lf.valF_one.1 hz)
  have hmm := (Lf.isRp_iff.1 hrp).2.2
  have CP := Lib.hid (fun W (hW : Below w.heap.size w W) => rsums_any p _ rs W (HU.out.all hW) hok.2.1 (Lf.okRt_bd hok.2.2))
  have CY := Lib.hid (fun al vs base N W (hW : Below w.heap.size w W) hal hN hA => rprogram_yes p _ rs al vs base N n m W (HU.out.all hW) hok.2.1 (Lf.okRt_bd hok.2.2) hal hmm hN hA)
  have CN := Lib.hid (fun al vs base n1 W (hW : Below w.heap.size w W) hal hN hA => rprogram_no p _ rs al vs base n1 n m W (HU.out.all hW) hok.2.1 (Lf.okRt_bd hok.2.2) hal hmm hN hA)
  have HLEN := Lib.hid (Lf.prg_len rs n m)
  have HPD := Lib.hid (prg_def rs n m)
  have HDD := Lib.hid (dN_def rs n m)
  have HDS := Lib.hid (fun d (hd : d ≤ 12) => fdd_step (c := fun d => Lf.aft rs d 0 n m) hd)
  rw [hz] at CV
  rw [hr1] at CI
  rw [hr2] at CJ
  clear e1 e2 e3 hz hr1 hr2 hok hrp HRD hmm
  show Calls _ _ _ _ (fun e w' => ∃ a c, e = .returned (.tuple #[.slice a (Lf.prg rs n m).length c, .bool (decide (0 < Lf.dN rs n m)), .int .i64 0]) ∧ OwnI w.heap.size w' (.slice a (Lf.prg rs n m).length c) (Lf.prg rs n m) ∧ Below w.heap.size w w')
  obtain ⟨D, hD⟩ : ∃ D, D = Lf.dN rs n m := ⟨_, rfl⟩
  obtain ⟨P, hP⟩ : ∃ P, P = Lf.prg rs n m := ⟨_, rfl⟩
  rw [← hP] at HLEN HPD ⊢
  rw [← hD] at HLEN HPD HDD ⊢
  clear hD hP
  go_enter Try.func42, Try.ntmps42
  go_wp2_with fail
  refine CV.out.mono ?_
  rintro e w1 ⟨rfl, rfl⟩
  have HB := Lib.hid (And.intro HPR.out.1 HPR.out.2.2)
  clear CV x0 x1
  go_wp2_with fail
  refine (CI.out _).mono ?_
  rintro e w2 ⟨rfl, rfl⟩
  go_wp2_with fail
  refine (CJ.out _).mono ?_
  rintro e w2 ⟨rfl, rfl⟩
  have x0 : World.cell? _ _ = some (.int .i64 p) := HB.out.1.cell 0
  have x1 : World.cell? _ _ = some (.slice ua rs.length uc) := HB.out.1.cell 1
  go_wp2_with fail
  refine (CP.out _ HB.out.2).mono ?_
  rintro e w3 ⟨al, ac, vs, rfl, hal, hb1⟩
  have HE := Lib.hid (And.intro hal (And.intro (HB.out.1.below hb1 HB.out.1.lt) (below_step HB.out.2 hb1)))
  clear hal hb1 x0 x1 HB CP
  go_wp2
  go_loopw [11] (fun t wr => ∃ d : Nat, (1 ≤ d ∧ d ≤ 13) ∧ t = .int .i64 d ∧ Hid (Lf.fdd (fun d => Lf.aft rs d 0 n m) (13 - d) d = D ∧ Below w3.heap.size w3 wr)) (fun t _ => 14 - (intOf t).toNat)
  case atStart => exact ⟨1, ⟨by omega, by omega⟩, rfl, Lib.hid ⟨HDD.out.symm, Below.refl _ _⟩⟩
  case round =>
    obtain ⟨d, ⟨hd1, hd13⟩, rfl, hg⟩ := hrel
    clear HDD
    by_cases hdl : d ≤ 12
    · have HD1 := HDS.out d hdl
      rw [hg.out.1] at HD1
      have HDK := Lib.hid HD1
      have hw := below_step HE.out.2.2 hg.out.2
      have hall := HE.out.1.all hg.out.2
      have hbx := HE.out.2.1.below hg.out.2 HE.out.2.1.lt
      have HBW := Lib.hid hg.out.2
      have x0 : World.cell? _ _ = some (.int .i64 p) := hbx.cell 0
      have x1 : World.cell? _ _ = some (.slice ua rs.length uc) := hbx.cell 1
      cases hc : Lf.aft rs d 0 n m
      · obtain ⟨n1, hn1⟩ : ∃ n1, d = n1 + 1 := ⟨d - 1, by omega⟩
        have C1 := CN.out _ _ _ n1 wr hw hall (by omega) (by rw [← hn1]; exact hc)
        rw [← hn1] at C1
        have C2 := Lib.hid C1
        have HD2 := Lib.hid (HDK.out.trans (if_neg (by rw [hc]; decide)))
        clear HD1 hg hc hw hall hbx hn1 C1 HDK
        go_wp2_with fail
        refine C2.out.mono ?_
        rintro e w7 ⟨rfl, hb1⟩
        have HBW2 := Lib.hid (below_step HBW.out hb1)
        clear hb1 x0 x1 C2 HBW
        go_wp2
        go_roundw
        case rel => exact ⟨d + 1, ⟨by omega, by omega⟩, by go_num, Lib.hid ⟨HD2.out.symm, HBW2.out⟩⟩
        case measure => simp [intOf]; omega
      · have C2 := Lib.hid (CY.out _ _ _ d wr hw hall hdl hc)
        have HD2 := Lib.hid (HDK.out.trans (if_pos hc))
        have HWW := Lib.hid hw
        clear HD1 hg hc hw hall hbx HDK
        go_wp2_with fail
        refine C2.out.mono ?_
        rintro e w7 ⟨a9, c9, rfl, ho, hb1⟩
        have HF := Lib.hid (And.intro (ho.mono HWW.out.size) (below_step HWW.out hb1))
        clear ho hb1 x0 x1 C2
        go_wp2
        refine bodyPost_ret (results_tmp3 rfl _ _ _) rfl ?_
        have e1 : P.length = d := HLEN.out.trans HD2.out
        rw [e1, HD2.out]
        refine ⟨a9, c9, by simp; omega, ?_, HF.out.2⟩
        rw [HPD.out, HD2.out]
        exact HF.out.1
    · obtain rfl : d = 13 := by omega
      have HD2 : Hid (D = 0) := Lib.hid hg.out.1.symm
      have HF := Lib.hid (below_step HE.out.2.2 hg.out.2)
      clear hg
      go_wp2
      refine bodyPost_ret (results_tmp3 rfl _ _ _) rfl ?_
      have e1 : P = [] := by rw [HPD.out, HD2.out]; rfl
      rw [e1, HD2.out]
      exact ⟨none, 0, rfl, OwnG.nil _ _, HF.out⟩
end Go.Proofs.Ytabfcnfddemblaa.Lo
