/- Program and Warmth: of the program; Warmth of the reference. -/
import Derived.Test.YtabfcnfddemblaaLf10
namespace Go.Proofs.Ytabfcnfddemblaa.Lo
open Go.RowKit

theorem lofts_one {W : World} {B : Nat} {p : Int} {v : Value} {rs : List Int} (hB : BlockAt W B (loftA p v) LoftT) (hI : Ints W v rs) : Lofts W (.slice (some ⟨B, 0, none⟩) 1 1) [⟨p, rs⟩] :=
  ⟨_, 1, rfl, Nat.le_refl _, fun k hk => by
    obtain rfl : k = 0 := by simpa using hk
    exact ⟨B, 0, rfl, hB.lt, v, ⟨hB.cell 0, hB.cell 1⟩, hI⟩⟩
theorem fdd_step {c : Nat → Bool} {d : Nat} (h : d ≤ 12) : Lf.fdd c (13 - d) d = if c d = true then d else Lf.fdd c (13 - (d + 1)) (d + 1) := by
  rw [show 13 - d = (13 - (d + 1)) + 1 by omega, Lf.fdd]
theorem dN_def (rs : List Int) (n m : Int) : Lf.dN rs n m = Lf.fdd (fun d => Lf.aft rs d 0 n m) (13 - 1) 1 := rfl
theorem prg_def (rs : List Int) (n m : Int) : Lf.prg rs n m = Lf.frs rs (Lf.dN rs n m) 0 n m := rfl
set_option maxRecDepth 100000 in
set_option maxHeartbeats 4000000 in
theorem program_any (p : Int) (u : Value) (rs : List Int) (n m : Int) (w : World) (hu : Ints w u rs) (h5 : rs.length = 5) (hr : ∀ k, k < 5 → 0 ≤ rs.getD k 0 ∧ rs.getD k 0 ≤ 9) (hnm : Lf.isRp n m = true) :
    Calls Try.prog 80 #[loftV p u, .int .i64 n, .int .i64 m] w fun e w' => ∃ a c, e = .returned (.tuple #[.slice a (Lf.prg rs n m).length c, .bool (decide (0 < Lf.dN rs n m))]) ∧ OwnI w.heap.size w' (.slice a (Lf.prg rs n m).length c) (Lf.prg rs n m) ∧ Below w.heap.size w w' := by
  obtain ⟨⟨n1, n2⟩, ⟨m1, m2⟩⟩ := Lf.isRp_iff.1 hnm
  obtain ⟨a0, rfl⟩ : ∃ a0 : Nat, n = (a0 : Int) := ⟨n.toNat, by omega⟩
  obtain ⟨b0, rfl⟩ : ∃ b0 : Nat, m = (b0 : Int) := ⟨m.toNat, by omega⟩
  have HWn := Lib.hid (Lf.Wn_make (a := a0) (b := b0) (by omega) (by omega))
  have HLEN := Lib.hid (Lf.prg_len rs a0 b0)
  have HPD := Lib.hid (prg_def rs a0 b0)
  have HDD := Lib.hid (dN_def rs a0 b0)
  have HDS := Lib.hid (fun d (hd : d ≤ 12) => fdd_step (c := fun d => Lf.aft rs d 0 (a0 : Int) (b0 : Int)) hd)
  have HHIT := Lib.hid (fun n1 => Lf.hits (rs := rs) (n := n1) (b := 0) HWn.out (by omega))
  have FR := Lib.hid (fun W h => reachOf_any p u rs W h h5 hr)
  have FF := Lib.hid (fun W => from_any a0 b0 W (by omega) (by omega))
  have FA := Lib.hid (fun B d W hB (hd : d ≤ 12) => after_any (fil rs 65) B 0 d W (fil_lt _ _) hB (by omega) hd)
  have F1 := Lib.hid (fun B N W hB h hN ha => first_any B N p u rs _ (a0 : Int) (b0 : Int) W hB h h5 hr hN HWn.out (by omega) ha)
  have HAND := Lib.hid (fun a b (ha : a < 2 ^ 64) (hb : b < 2 ^ 64) => bits_and ha hb)
  have HAFL := Lib.hid (fun n1 => (show Lf.af (Lf.mk rs n1) 0 < 2 ^ 64 from Lf.afN_lt (N := 64) (fun g => Lf.mk_lt rs n1 g) _))
  have HU := Lib.hid hu
  obtain ⟨ua, uc, rfl⟩ := hu.form
  have HW := Lib.hid (loft_box w p (.slice ua rs.length uc))
  have x0 : World.cell? _ _ = some (.int .i64 p) := HW.out.1.cell 0
  have x1 : World.cell? _ _ = some (.slice ua rs.length uc) := HW.out.1.cell 1
  have C1 := Lib.hid (FR.out _ (HU.out.all HW.out.2))
  generalize hWW : 2 ^ (b0 + 1) - 2 ^ a0 = WW at *
  obtain ⟨D, hD⟩ : ∃ D, D = Lf.dN rs a0 b0 := ⟨_, rfl⟩
  obtain ⟨P, hP⟩ : ∃ P, P = Lf.prg rs a0 b0 := ⟨_, rfl⟩
  rw [← hP] at HLEN HPD ⊢
  rw [← hD] at HLEN HPD HDD ⊢
  clear hu h5 hr hnm hWW hD hP FR
  go_enter Try.func80, Try.ntmps80
  go_wp2_with fail
  refine C1.out.mono ?_
  rintro e w1 ⟨rfl, hR, hb1⟩
  have HN1 := Lib.hid (And.intro hR (And.intro (HW.out.1.below hb1 HW.out.1.lt) (below_step HW.out.2 hb1)))
  clear hR hb1 x0 x1 C1
  go_wp2_with fail
  refine (FF.out _).mono ?_
  rintro e w2 ⟨rfl, hb1⟩
  have HN2 := Lib.hid (And.intro (HN1.out.1.below hb1 HN1.out.1.lt) (And.intro (HN1.out.2.1.below hb1 HN1.out.2.1.lt) (below_step HN1.out.2.2 hb1)))
  clear hb1 HN1 FF HW
  simp only [World.size_alloc] at HN2
  generalize hB : w.heap.size + 1 + 1 = B at *
  go_wp2
  go_loop [10] (fun t => ∃ d : Nat, (1 ≤ d ∧ d ≤ 13) ∧ t = .int .i64 d ∧ Hid (Lf.fdd (fun d => Lf.aft rs d 0 (a0 : Int) (b0 : Int)) (13 - d) d = D)) (fun t => 14 - (intOf t).toNat)
  case atStart => exact ⟨1, ⟨by omega, by omega⟩, rfl, Lib.hid HDD.out.symm⟩
  case round =>
    obtain ⟨d, ⟨hd1, hd13⟩, rfl, hg⟩ := hrel
    clear HDD
    by_cases hdl : d ≤ 12
    · obtain ⟨n1, rfl⟩ : ∃ n1, d = n1 + 1 := ⟨d - 1, by omega⟩
      have CA := FA.out B (n1 + 1) w2 HN2.out.1 hdl
      have hcg : Lf.af (fun g => fil rs 65 ((n1 + 1) * 5 + g)) 0 = Lf.af (Lf.mk rs n1) 0 := af_congr (by omega) fun g hg => fil_at hg (by omega)
      rw [hcg] at CA
      have HCA := Lib.hid CA
      have hand := HAND.out (Lf.af (Lf.mk rs n1) 0) WW (HAFL.out n1) HWn.out.1
      have hhit := HHIT.out n1
      have HD1 := HDS.out (n1 + 1) hdl
      rw [hg.out] at HD1
      have HDK := Lib.hid HD1
      have x0 : World.cell? _ _ = some (.int .i64 p) := HN2.out.2.1.cell 0
      have x1 : World.cell? _ _ = some (.slice ua rs.length uc) := HN2.out.2.1.cell 1
      clear hg CA hcg HD1
      generalize hMW : Lf.af (Lf.mk rs n1) 0 &&& WW = Z at *
      generalize Lf.af (Lf.mk rs n1) 0 = M at *
      clear hMW
      cases hc : Lf.aft rs (n1 + 1) 0 (a0 : Int) (b0 : Int)
      · have hz : Z = 0 := by
          apply Decidable.byContradiction
          intro h; rw [hhit.1 h] at hc; cases hc
        subst hz
        have HD2 := Lib.hid (HDK.out.trans (if_neg (by rw [hc]; decide)))
        clear hhit hc HDK
        go_wp2_with fail
        refine HCA.out.mono ?_
        rintro e w7 ⟨rfl, rfl⟩
        clear HCA
        go_wp2
        go_round
        case rel => exact ⟨n1 + 1 + 1, ⟨by omega, by omega⟩, by go_num, Lib.hid HD2.out.symm⟩
        case measure => simp [intOf]; omega
      · have hz := hhit.2 hc
        have HD2 := Lib.hid (HDK.out.trans (if_pos hc))
        have hzb : ((Z : Int) == 0) = false := beq_eq_false_iff_ne.2 (by omega)
        have hzb2 : ((Z : Int) != 0) = true := by rw [bne, hzb]; rfl
        have hzd2 : decide (Z = 0) = false := decide_eq_false (by omega)
        have C2 := Lib.hid (F1.out B (n1 + 1) w2 HN2.out.1 (HU.out.all HN2.out.2.2) hdl hc)
        clear hhit hc HDK hz
        go_wp2_with fail
        refine HCA.out.mono ?_
        rintro e w7 ⟨rfl, rfl⟩
        clear HCA
        go_wp2_with fail
        refine C2.out.mono ?_
        rintro e w8 ⟨a9, c9, rfl, ho, hb1⟩
        have HE := Lib.hid (And.intro (ho.mono HN2.out.2.2.size) (below_step HN2.out.2.2 hb1))
        clear ho hb1 C2 x0 x1
        go_wp2
        go_ret2
        have e1 : P.length = n1 + 1 := HLEN.out.trans HD2.out
        rw [e1, HD2.out]
        refine ⟨a9, c9, rfl, ?_, HE.out.2⟩
        rw [HPD.out, HD2.out]
        exact HE.out.1
    · obtain rfl : d = 13 := by omega
      have HD2 : Hid (D = 0) := Lib.hid hg.out.symm
      clear hg
      go_wp2
      go_ret2
      have e1 : P = [] := by rw [HPD.out, HD2.out]; rfl
      rw [e1, HD2.out]
      exact ⟨none, 0, rfl, OwnG.nil _ _, HN2.out.2.2⟩
theorem p_bad {f : Lf.F} {n m : Int} (h : Lf.valF [f] ≠ 0) : Lf.pE f n m = 1 ∧ Lf.pR f n m = [] ∧ Lf.pB f n m = false := by
  have e : Lf.pE f n m = 1 := by rw [Lf.pE, if_neg h]
  exact ⟨e, by rw [Lf.pR, if_neg (by omega)], by unfold Lf.pB; rw [e]; rfl⟩
theorem p_out {f : Lf.F} {n m : Int} (h : Lf.valF [f] = 0) (h2 : Lf.isRp n m = false) : Lf.pE f n m = 1 ∧ Lf.pR f n m = [] ∧ Lf.pB f n m = false := by
  have e : Lf.pE f n m = 1 := by rw [Lf.pE, if_pos h, if_neg (by rw [h2]; decide)]
  exact ⟨e, by rw [Lf.pR, if_neg (by omega)], by unfold Lf.pB; rw [e]; rfl⟩
theorem p_ok {f : Lf.F} {n m : Int} (h : Lf.valF [f] = 0) (h2 : Lf.isRp n m = true) : Lf.pE f n m = 0 ∧ Lf.pR f n m = Lf.prg f.rs n m ∧ Lf.pB f n m = decide (0 < Lf.dN f.rs n m) := by
  have e : Lf.pE f n m = 0 := by rw [Lf.pE, if_pos h, if_pos h2]
  exact ⟨e, by rw [Lf.pR, if_pos e], by unfold Lf.pB; rw [e]; rfl⟩
/-- A loft in a box, and in a list of one. -/
theorem loft_pair (w : World) (p : Int) (v : Value) (rs : List Int) (hI : Ints w v rs) :
    BlockAt ((w.alloc (.cells (loftA p v) LoftT)).alloc (.cells (loftA p v) LoftT)) w.heap.size (loftA p v) LoftT ∧ Lofts ((w.alloc (.cells (loftA p v) LoftT)).alloc (.cells (loftA p v) LoftT)) (.slice (some ⟨w.heap.size + 1, 0, none⟩) 1 1) [⟨p, rs⟩] ∧
    Below w.heap.size w ((w.alloc (.cells (loftA p v) LoftT)).alloc (.cells (loftA p v) LoftT)) := by
  have hb := below_alloc2 (below_alloc2 (Below.refl w.heap.size w) (.cells (loftA p v) LoftT)) (.cells (loftA p v) LoftT)
  refine ⟨(BlockAt.new w (loftA p v) LoftT).alloc _, lofts_one ?_ (hI.all hb), hb⟩
  have := BlockAt.new (w.alloc (.cells (loftA p v) LoftT)) (loftA p v) LoftT
  simpa using this
set_option maxRecDepth 100000 in
set_option maxHeartbeats 2000000 in
theorem progF_any (p : Int) (u : Value) (rs : List Int) (n m : Int) (w : World) (hu : Ints w u rs) :
    Calls Try.prog 41 #[loftV p u, .int .i64 n, .int .i64 m] w fun e w' => ∃ a c, e = .returned (.tuple #[.slice a (Lf.pR ⟨p, rs⟩ n m).length c, .bool (Lf.pB ⟨p, rs⟩ n m), .int .i64 (Lf.pE ⟨p, rs⟩ n m)]) ∧ OwnI w.heap.size w' (.slice a (Lf.pR ⟨p, rs⟩ n m).length c) (Lf.pR ⟨p, rs⟩ n m) ∧ Below w.heap.size w w' := by
  have HPR := Lib.hid (loft_pair w p u rs hu)
  have HU := Lib.hid hu
  obtain ⟨ua, uc, rfl⟩ := hu.form
  have HW := Lib.hid (loft_box w p (.slice ua rs.length uc))
  have x0 : World.cell? _ _ = some (.int .i64 p) := HW.out.1.cell 0
  have x1 : World.cell? _ _ = some (.slice ua rs.length uc) := HW.out.1.cell 1
  have CV := Lib.hid (valLofts_any _ _ _ HPR.out.2.1)
  have CI := Lib.hid (fun W => isRipe_any n m W)
  clear hu
  by_cases hz : Lf.valF [⟨p, rs⟩] = 0
  case neg =>
    obtain ⟨e1, e2, e3⟩ := p_bad (n := n) (m := m) hz
    rw [e1, e2, e3]
    have hv1 : Lf.valF [(⟨p, rs⟩ : Lf.F)] = 1 := by rcases Lf.valF_01 [(⟨p, rs⟩ : Lf.F)] with h | h; exact absurd h hz; exact h
    rw [hv1] at CV
    clear e1 e2 e3 hz hv1 CI
    go_enter Try.func41, Try.ntmps41
    go_wp2_with fail
    refine CV.out.mono ?_
    rintro e w1 ⟨rfl, hb1⟩
    have HB := Lib.hid (below_step HPR.out.2.2 hb1)
    clear hb1 CV x0 x1
    go_wp2
    refine bodyPost_ret (results_tmp3 rfl _ _ _) rfl ?_
    exact ⟨none, 0, rfl, OwnG.nil _ _, HB.out⟩
  cases hr : Lf.isRp n m
  · obtain ⟨e1, e2, e3⟩ := p_out hz hr
    rw [e1, e2, e3]
    rw [hz] at CV
    rw [hr] at CI
    clear e1 e2 e3 hz hr
    go_enter Try.func41, Try.ntmps41
    go_wp2_with fail
    refine CV.out.mono ?_
    rintro e w1 ⟨rfl, hb1⟩
    have HB := Lib.hid (below_step HPR.out.2.2 hb1)
    clear hb1 CV x0 x1
    go_wp2_with fail
    refine (CI.out _).mono ?_
    rintro e w2 ⟨rfl, rfl⟩
    go_wp2
    refine bodyPost_ret (results_tmp3 rfl _ _ _) rfl ?_
    exact ⟨none, 0, rfl, OwnG.nil _ _, HB.out⟩
  obtain ⟨e1, e2, e3⟩ := p_ok hz hr
  rw [e1, e2, e3]
  have hok := Lf.okF_iff.1 (Lf.valF_one.1 hz)
  have CP := Lib.hid (fun W (hW : Below w.heap.size w W) => program_any p _ rs n m W (HU.out.all hW) hok.2.1 (Lf.okRt_bd hok.2.2) hr)
  rw [hz] at CV
  rw [hr] at CI
  clear e1 e2 e3 hz hr hok
  show Calls _ _ _ _ (fun e w' => ∃ a c, e = .returned (.tuple #[.slice a (Lf.prg rs n m).length c, .bool (decide (0 < Lf.dN rs n m)), .int .i64 0]) ∧ OwnI w.heap.size w' (.slice a (Lf.prg rs n m).length c) (Lf.prg rs n m) ∧ Below w.heap.size w w')
  generalize Lf.prg rs n m = P at *
  generalize decide (0 < Lf.dN rs n m) = D at *
  go_enter Try.func41, Try.ntmps41
  go_wp2_with fail
  refine CV.out.mono ?_
  rintro e w1 ⟨rfl, hb1⟩
  have HB := Lib.hid (And.intro (HPR.out.1.below hb1 HPR.out.1.lt) (below_step HPR.out.2.2 hb1))
  clear hb1 CV x0 x1
  go_wp2_with fail
  refine (CI.out _).mono ?_
  rintro e w2 ⟨rfl, rfl⟩
  have x0 : World.cell? _ _ = some (.int .i64 p) := HB.out.1.cell 0
  have x1 : World.cell? _ _ = some (.slice ua rs.length uc) := HB.out.1.cell 1
  go_wp2_with fail
  refine (CP.out _ HB.out.2).mono ?_
  rintro e w3 ⟨a, c, rfl, ho, hb1⟩
  have HE := Lib.hid (And.intro (ho.mono HB.out.2.size) (below_step HB.out.2 hb1))
  clear ho hb1 x0 x1
  go_wp2
  refine bodyPost_ret (results_tmp3 rfl _ _ _) rfl ?_
  exact ⟨a, c, rfl, HE.out.1, HE.out.2⟩
theorem w_bad {f : Lf.F} {hs : List Int} (h : Lf.valF [f] ≠ 0) : Lf.wE f hs = 1 ∧ Lf.wR f hs = 0 := by
  have e : Lf.wE f hs = 1 := by rw [Lf.wE, if_neg h]
  exact ⟨e, by rw [Lf.wR, if_neg (by omega)]⟩
theorem w_out {f : Lf.F} {hs : List Int} (h : Lf.valF [f] = 0) (h2 : Lf.vHt hs = false) : Lf.wE f hs = 1 ∧ Lf.wR f hs = 0 := by
  have e : Lf.wE f hs = 1 := by rw [Lf.wE, if_pos h, if_neg (by rw [h2]; decide)]
  exact ⟨e, by rw [Lf.wR, if_neg (by omega)]⟩
theorem w_ok {f : Lf.F} {hs : List Int} (h : Lf.valF [f] = 0) (h2 : Lf.vHt hs = true) : Lf.wE f hs = 0 ∧ Lf.wR f hs = Lf.wm f.rs hs hs.length := by
  have e : Lf.wE f hs = 0 := by rw [Lf.wE, if_pos h, if_pos h2]
  exact ⟨e, by rw [Lf.wR, if_pos e]⟩
set_option maxRecDepth 100000 in
set_option maxHeartbeats 2000000 in
theorem warmF_any (p : Int) (u v : Value) (rs hs : List Int) (w : World) (hu : Ints w u rs) (hv : Ints w v hs) :
    Calls Try.prog 35 #[loftV p u, v] w fun e w' => e = .returned (.tuple #[.int .i64 (Lf.wR ⟨p, rs⟩ hs), .int .i64 (Lf.wE ⟨p, rs⟩ hs)]) ∧ Below w.heap.size w w' := by
  have HPR := Lib.hid (loft_pair w p u rs hu)
  have HU := Lib.hid hu
  have HV := Lib.hid hv
  obtain ⟨ua, uc, rfl⟩ := hu.form
  obtain ⟨va, vc, rfl⟩ := hv.form
  have HW := Lib.hid (loft_box w p (.slice ua rs.length uc))
  have x0 : World.cell? _ _ = some (.int .i64 p) := HW.out.1.cell 0
  have x1 : World.cell? _ _ = some (.slice ua rs.length uc) := HW.out.1.cell 1
  have CV := Lib.hid (valLofts_any _ _ _ HPR.out.2.1)
  have CI := Lib.hid (fun W (hW : Below w.heap.size w W) => vHeats_any _ hs W (HV.out.all hW))
  clear hu hv
  by_cases hz : Lf.valF [⟨p, rs⟩] = 0
  case neg =>
    obtain ⟨e1, e2⟩ := w_bad (hs := hs) hz
    rw [e1, e2]
    have hv1 : Lf.valF [(⟨p, rs⟩ : Lf.F)] = 1 := by rcases Lf.valF_01 [(⟨p, rs⟩ : Lf.F)] with h | h; exact absurd h hz; exact h
    rw [hv1] at CV
    clear e1 e2 hz hv1 CI
    go_enter Try.func35, Try.ntmps35
    go_wp2_with fail
    refine CV.out.mono ?_
    rintro e w1 ⟨rfl, hb1⟩
    have HB := Lib.hid (below_step HPR.out.2.2 hb1)
    clear CV x0 x1
    go_wp2
    go_ret2
    exact ⟨rfl, HB.out⟩
  cases hr : Lf.vHt hs
  · obtain ⟨e1, e2⟩ := w_out hz hr
    rw [e1, e2]
    rw [hz] at CV
    rw [hr] at CI
    clear e1 e2 hz hr
    go_enter Try.func35, Try.ntmps35
    go_wp2_with fail
    refine CV.out.mono ?_
    rintro e w1 ⟨rfl, hb1⟩
    have HB := Lib.hid (below_step HPR.out.2.2 hb1)
    clear CV x0 x1
    go_wp2_with fail
    refine (CI.out _ HB.out).mono ?_
    rintro e w2 ⟨rfl, rfl⟩
    go_wp2
    go_ret2
    exact ⟨rfl, HB.out⟩
  obtain ⟨e1, e2⟩ := w_ok hz hr
  rw [e1, e2]
  have hok := Lf.okF_iff.1 (Lf.valF_one.1 hz)
  have hht := Lf.vHt_iff.1 hr
  have CP := Lib.hid (fun W (hW : Below w.heap.size w W) => warm_any p _ _ rs hs W (HU.out.all hW) (HV.out.all hW) hok.2.1 (Lf.okRt_bd hok.2.2) (fun k hk => Lf.okHt_at (hht.2 k hk)) hht.1.2)
  rw [hz] at CV
  rw [hr] at CI
  clear e1 e2 hz hr hok hht
  show Calls _ _ _ _ (fun e w' => e = .returned (.tuple #[.int .i64 (Lf.wm rs hs hs.length), .int .i64 0]) ∧ Below w.heap.size w w')
  generalize Lf.wm rs hs hs.length = X at *
  go_enter Try.func35, Try.ntmps35
  go_wp2_with fail
  refine CV.out.mono ?_
  rintro e w1 ⟨rfl, hb1⟩
  have HB := Lib.hid (And.intro (HPR.out.1.below hb1 HPR.out.1.lt) (below_step HPR.out.2.2 hb1))
  clear CV x0 x1
  go_wp2_with fail
  refine (CI.out _ HB.out.2).mono ?_
  rintro e w2 ⟨rfl, rfl⟩
  have x0 : World.cell? _ _ = some (.int .i64 p) := HB.out.1.cell 0
  have x1 : World.cell? _ _ = some (.slice ua rs.length uc) := HB.out.1.cell 1
  go_wp2_with fail
  refine (CP.out _ HB.out.2).mono ?_
  rintro e w3 ⟨rfl, hb1⟩
  have HE := Lib.hid (below_step HB.out.2 hb1)
  clear hb1 x0 x1
  go_wp2
  go_ret2
  exact ⟨rfl, HE.out⟩
set_option maxRecDepth 100000 in
set_option maxHeartbeats 2000000 in
theorem rwarmF_any (p : Int) (u v : Value) (rs hs : List Int) (w : World) (hu : Ints w u rs) (hv : Ints w v hs) :
    Calls Try.prog 36 #[loftV p u, v] w fun e w' => e = .returned (.tuple #[.int .i64 (Lf.wR ⟨p, rs⟩ hs), .int .i64 (Lf.wE ⟨p, rs⟩ hs)]) ∧ Below w.heap.size w w' := by
  have HPR := Lib.hid (loft_pair w p u rs hu)
  have HU := Lib.hid hu
  have HV := Lib.hid hv
  obtain ⟨ua, uc, rfl⟩ := hu.form
  obtain ⟨va, vc, rfl⟩ := hv.form
  have HW := Lib.hid (loft_box w p (.slice ua rs.length uc))
  have x0 : World.cell? _ _ = some (.int .i64 p) := HW.out.1.cell 0
  have x1 : World.cell? _ _ = some (.slice ua rs.length uc) := HW.out.1.cell 1
  have CV := Lib.hid (rvalLofts_any _ _ _ HPR.out.2.1)
  have CI := Lib.hid (fun W (hW : Below w.heap.size w W) => rvHeats_any _ hs W (HV.out.all hW))
  clear hu hv
  by_cases hz : Lf.valF [⟨p, rs⟩] = 0
  case neg =>
    obtain ⟨e1, e2⟩ := w_bad (hs := hs) hz
    rw [e1, e2]
    have hv1 : Lf.valF [(⟨p, rs⟩ : Lf.F)] = 1 := by rcases Lf.valF_01 [(⟨p, rs⟩ : Lf.F)] with h | h; exact absurd h hz; exact h
    rw [hv1] at CV
    clear e1 e2 hz hv1 CI
    go_enter Try.func36, Try.ntmps36
    go_wp2_with fail
    refine CV.out.mono ?_
    rintro e w1 ⟨rfl, rfl⟩
    have HB := Lib.hid (below_step HPR.out.2.2 (Below.refl _ _))
    clear CV x0 x1
    go_wp2
    go_ret2
    exact ⟨rfl, HB.out⟩
  cases hr : Lf.vHt hs
  · obtain ⟨e1, e2⟩ := w_out hz hr
    rw [e1, e2]
    rw [hz] at CV
    rw [hr] at CI
    clear e1 e2 hz hr
    go_enter Try.func36, Try.ntmps36
    go_wp2_with fail
    refine CV.out.mono ?_
    rintro e w1 ⟨rfl, rfl⟩
    have HB := Lib.hid (below_step HPR.out.2.2 (Below.refl _ _))
    clear CV x0 x1
    go_wp2_with fail
    refine (CI.out _ HB.out).mono ?_
    rintro e w2 ⟨rfl, rfl⟩
    go_wp2
    go_ret2
    exact ⟨rfl, HB.out⟩
  obtain ⟨e1, e2⟩ := w_ok hz hr
  rw [e1, e2]
  have hok := Lf.okF_iff.1 (Lf.valF_one.1 hz)
  have hht := Lf.vHt_iff.1 hr
  have CP := Lib.hid (fun W (hW : Below w.heap.size w W) => rwarm_any p _ _ rs hs W (HU.out.all hW) (HV.out.all hW) hok.2.1 (Lf.okRt_bd hok.2.2) (fun k hk => Lf.okHt_at (hht.2 k hk)) hht.1.2)
  rw [hz] at CV
  rw [hr] at CI
  clear e1 e2 hz hr hok hht
  show Calls _ _ _ _ (fun e w' => e = .returned (.tuple #[.int .i64 (Lf.wm rs hs hs.length), .int .i64 0]) ∧ Below w.heap.size w w')
  generalize Lf.wm rs hs hs.length = X at *
  go_enter Try.func36, Try.ntmps36
  go_wp2_with fail
  refine CV.out.mono ?_
  rintro e w1 ⟨rfl, rfl⟩
  have HB := Lib.hid (And.intro (HPR.out.1.below (Below.refl _ _) HPR.out.1.lt) (below_step HPR.out.2.2 (Below.refl _ _)))
  clear CV x0 x1
  go_wp2_with fail
  refine (CI.out _ HB.out.2).mono ?_
  rintro e w2 ⟨rfl, rfl⟩
  have x0 : World.cell? _ _ = some (.int .i64 p) := HB.out.1.cell 0
  have x1 : World.cell? _ _ = some (.slice ua rs.length uc) := HB.out.1.cell 1
  go_wp2_with fail
  refine (CP.out _ HB.out.2).mono ?_
  rintro e w3 ⟨rfl, hb1⟩
  have HE := Lib.hid (below_step HB.out.2 hb1)
  clear hb1 x0 x1
  go_wp2
  go_ret2
  exact ⟨rfl, HE.out⟩
end Go.Proofs.Ytabfcnfddemblaa.Lo
