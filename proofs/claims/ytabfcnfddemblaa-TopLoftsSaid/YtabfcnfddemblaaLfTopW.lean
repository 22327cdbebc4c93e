/- TopLofts returns true, whatever the lofts, the goods, the plan and the window. -/
import Derived.Test.YtabfcnfddemblaaLf58
import Derived.Test.YtabfcnfddemblaaLfTopR
namespace Go.Proofs.Ytabfcnfddemblaa.Lo
open Go.RowKit

abbrev SpanT : TypeId := 89
/-- What lies in memory while the chief law looks at lofts. -/
def TPS (w : World) (u v : Value) (a b : Int) (W : World) : Prop := BlockAt W w.heap.size #[u, v] TFirmT ∧ BlockAt W (w.heap.size + 1) (winA a b) SpanT ∧ Below w.heap.size w W
theorem TPS.step {w : World} {u v : Value} {a b : Int} {W W2 : World} (h : TPS w u v a b W) (hb : Below W.heap.size W W2) : TPS w u v a b W2 := ⟨h.1.below hb h.1.lt, h.2.1.below hb h.2.1.lt, below_step h.2.2 hb⟩
theorem TPS.al {w : World} {u v : Value} {a b : Int} {W : World} (h : TPS w u v a b W) (o : Obj) : TPS w u v a b (W.alloc o) := ⟨h.1.alloc o, h.2.1.alloc o, below_alloc2 h.2.2 o⟩
theorem TPS.drew {w : World} {u v : Value} {a b : Int} {W : World} (h : TPS w u v a b W) : TPS w u v a b W.drew := ⟨h.1.drew, h.2.1.drew, below_drewN h.2.2 1⟩
theorem ex1_pR : Lf.pR ⟨1, [0, 1, 2, 4, 8]⟩ 7 10 = [1, 2, 3] := by decide +kernel
theorem ex1_pB : Lf.pB ⟨1, [0, 1, 2, 4, 8]⟩ 7 10 = true := by decide +kernel
theorem ex1_pE : Lf.pE ⟨1, [0, 1, 2, 4, 8]⟩ 7 10 = 0 := by decide +kernel
theorem left_none {ls : List Lf.F} {gs : List Lf.G} (hb : Lf.bthE ls gs = 0) : ((plF ls gs).mergeSort fun x y => decide (x ≤ y)).length = 0 ↔ Lf.chkE ls gs (plP ls gs) = 0 := by
  rw [List.length_mergeSort, List.length_eq_zero_iff]
  exact (Lf.plan_ok hb (fun n => odr_mem) (odr_nodup gs)).1.symm
theorem plP_short {ls : List Lf.F} {gs : List Lf.G} (h8 : gs.length ≤ 8) : (plP ls gs).length ≤ 20 := by
  have := (pln_len ls gs gs.length (Nat.le_refl _)).1
  rw [plnS_end] at this
  have h2 : (plP ls gs).length ≤ gs.length := this
  omega
set_option maxRecDepth 100000 in
set_option maxHeartbeats 16000000 in
theorem top_walk (u v : Value) (ls : List Lf.F) (gs : List Lf.G) (z : Value) (plan : List Lf.L) (a b : Int) (w : World) (hu : Lofts w u ls) (hv : Goods w v gs) (hz : Loads w z plan) :
    Calls Try.prog 15 #[.agg #[u, v], z, winV a b] w fun e w' => e = .returned (.bool true) ∧ Below w.heap.size w w' := by
  have CX : ∀ (u : Value) (W : World), Ints W u [0, 1, 2, 4, 8] → Calls Try.prog 41 #[loftV 1 u, .int .i64 7, .int .i64 10] W fun e w' => ∃ a c, e = .returned (.tuple #[.slice a 3 c, .bool true, .int .i64 0]) ∧ OwnI W.heap.size w' (.slice a 3 c) [1, 2, 3] ∧ Below W.heap.size W w' := fun u W hI => by
    have h := progF_any 1 u [0, 1, 2, 4, 8] 7 10 W hI
    rw [ex1_pR, ex1_pB, ex1_pE] at h
    exact h
  have CI := Lib.hid (fun W (hW : Below w.heap.size w W) => isProofF_any u v ls gs a b W (hu.all hW) (hv.all hW))
  have CP := Lib.hid (fun W (hW : Below w.heap.size w W) => plan_any u v ls gs W (hu.all hW) (hv.all hW))
  have CV := Lib.hid (fun W (hW : Below w.heap.size w W) => proveF_any u v ls gs W (hu.all hW) (hv.all hW))
  have CC := Lib.hid (fun W (hW : Below w.heap.size w W) h => checkF_any u v z ls gs plan W (hu.all hW) (hv.all hW) (hz.all hW) h)
  have CD := Lib.hid (fun z2 pl W (hW : Below w.heap.size w W) hz2 h => checkF_any u v z2 ls gs pl W (hu.all hW) (hv.all hW) hz2 h)
  have CRR := Lib.hid (fun W (hW : Below w.heap.size w W) hn hb0 hck => ripeT_any u v ls gs z plan W (hu.all hW) (hv.all hW) (hz.all hW) hn hb0 hck)
  have HLN := Lib.hid (fun hb => left_none (ls := ls) (gs := gs) hb)
  have HNP := Lib.hid (fun pl hb hc => no_proof (ls := ls) (gs := gs) (plan := pl) hb hc a b)
  have HPP := Lib.hid (fun h => proof_proved (ls := ls) (gs := gs) (a := a) (b := b) h)
  obtain ⟨ua, uc, rfl⟩ := hu.form
  obtain ⟨va, vc, rfl⟩ := hv.form
  obtain ⟨za, zc, rfl⟩ := hz.form
  have H0 := Lib.hid (show TPS w (.slice ua ls.length uc) (.slice va gs.length vc) a b ((w.alloc (.cells #[.slice ua ls.length uc, .slice va gs.length vc] TFirmT)).alloc (.cells (winA a b) SpanT)) from
    ⟨(BlockAt.new w #[.slice ua ls.length uc, .slice va gs.length vc] TFirmT).alloc _, by have := BlockAt.new (w.alloc (.cells #[.slice ua ls.length uc, .slice va gs.length vc] TFirmT)) (winA a b) SpanT; simpa using this, below_alloc2 (below_alloc2 (Below.refl w.heap.size w) _) _⟩)
  have hI : Ints (((w.alloc (.cells #[.slice ua ls.length uc, .slice va gs.length vc] TFirmT)).alloc (.cells (winA a b) SpanT)).alloc (.cells #[.int .i64 0, .int .i64 1, .int .i64 2, .int .i64 4, .int .i64 8] 3)) (.slice (some ⟨w.heap.size + 1 + 1, 0, none⟩) 5 5) [0, 1, 2, 4, 8] := by
    have := RowsOf.laid (xs := [0, 1, 2, 4, 8]) intL_len (BlockAt.new ((w.alloc (.cells #[.slice ua ls.length uc, .slice va gs.length vc] TFirmT)).alloc (.cells (winA a b) SpanT)) #[.int .i64 0, .int .i64 1, .int .i64 2, .int .i64 4, .int .i64 8] 3) (n := 5) rfl rfl
    simpa using this
  have C1 := Lib.hid (CX _ _ hI)
  have H0a := Lib.hid (TPS.al H0.out (.cells #[.int .i64 0, .int .i64 1, .int .i64 2, .int .i64 4, .int .i64 8] 3))
  clear hu hv hz hI CX H0
  go_enter Try.func15, Try.ntmps15
  go_wp2_with fail
  refine C1.out.mono ?_
  rintro e w1 ⟨ea, ec, rfl, _, hb1⟩
  have H1 := Lib.hid (TPS.step H0a.out hb1)
  clear hb1 H0a C1
  have x0 : World.cell? _ _ = some (.slice ua ls.length uc) := H1.out.1.cell 0
  have x1 : World.cell? _ _ = some (.slice va gs.length vc) := H1.out.1.cell 1
  have x2 : World.cell? _ _ = some (.int .i64 a) := H1.out.2.1.cell 0
  have x3 : World.cell? _ _ = some (.int .i64 b) := H1.out.2.1.cell 1
  by_cases h1 : 20 < plan.length
  · have d1 : decide ((plan.length : Int) > 20) = true := decide_eq_true (by omega)
    have d2 : decide (20 < (plan.length : Int)) = true := decide_eq_true (by omega)
    have d3 : decide (20 < plan.length) = true := decide_eq_true h1
    go_wp2
    go_ret
    exact ⟨rfl, H1.out.2.2⟩
  have d1 : decide ((plan.length : Int) > 20) = false := decide_eq_false (by omega)
  have d2 : decide (20 < (plan.length : Int)) = false := decide_eq_false (by omega)
  have d3 : decide (20 < plan.length) = false := decide_eq_false h1
  by_cases h2 : 8 < gs.length
  · have d4 : decide ((gs.length : Int) > 8) = true := decide_eq_true (by omega)
    have d5 : decide (8 < (gs.length : Int)) = true := decide_eq_true (by omega)
    have d6 : decide (8 < gs.length) = true := decide_eq_true h2
    go_wp2
    go_ret
    exact ⟨rfl, H1.out.2.2⟩
  have d4 : decide ((gs.length : Int) > 8) = false := decide_eq_false (by omega)
  have d5 : decide (8 < (gs.length : Int)) = false := decide_eq_false (by omega)
  have d6 : decide (8 < gs.length) = false := decide_eq_false h2
  by_cases h3 : 3 < ls.length
  · have d7 : decide ((ls.length : Int) > 3) = true := decide_eq_true (by omega)
    have d8 : decide (3 < (ls.length : Int)) = true := decide_eq_true (by omega)
    have d9 : decide (3 < ls.length) = true := decide_eq_true h3
    go_wp2
    go_ret
    exact ⟨rfl, H1.out.2.2⟩
  have d7 : decide ((ls.length : Int) > 3) = false := decide_eq_false (by omega)
  have d8 : decide (3 < (ls.length : Int)) = false := decide_eq_false (by omega)
  have d9 : decide (3 < ls.length) = false := decide_eq_false h3
  have CC1 := Lib.hid (fun W hW => CC.out W hW (by omega))
  clear CC
  by_cases hb0 : Lf.bthE ls gs = 0
  case neg =>
    have hce : Lf.chkE ls gs plan = Lf.bthE ls gs := by unfold Lf.chkE; rw [if_neg hb0]
    rw [hce] at CC1
    clear hce HLN HNP HPP CI CV CD CRR
    generalize Lf.bthE ls gs = E at *
    have hd : (E == 0) = false := beq_eq_false_iff_ne.2 hb0
    have hd2 : (E != 0) = true := by rw [bne, hd]; rfl
    go_wp2_with fail
    refine (CP.out _ H1.out.2.2).mono ?_
    rintro e w2 ⟨pa, pn, pc, fa, fn, fc, rfl, hb1, _, _⟩
    have H2 := Lib.hid (TPS.step H1.out hb1)
    clear hb1 x0 x1 x2 x3
    have x0 : World.cell? _ _ = some (.slice ua ls.length uc) := H2.out.1.cell 0
    have x1 : World.cell? _ _ = some (.slice va gs.length vc) := H2.out.1.cell 1
    have x2 : World.cell? _ _ = some (.int .i64 a) := H2.out.2.1.cell 0
    have x3 : World.cell? _ _ = some (.int .i64 b) := H2.out.2.1.cell 1
    go_wp2_with fail
    refine (CC1.out _ H2.out.2.2).mono ?_
    rintro e w3 ⟨rfl, hb1⟩
    have H3 := Lib.hid (TPS.step H2.out hb1)
    clear hb1
    go_wp2
    go_ret
    exact ⟨by simp, H3.out.2.2⟩
  have HM := Lib.hid (HLN.out hb0)
  have HT3 := Lib.hid (fun hc => HNP.out plan hb0 hc)
  have HT2 := Lib.hid (fun hc => HNP.out (plP ls gs) hb0 hc)
  have HPL := Lib.hid (plP_short (ls := ls) (gs := gs) (by omega))
  have CR := Lib.hid (fun W hW hc => CRR.out W hW (by omega) hb0 hc)
  rw [hb0] at CP CV
  clear hb0 HLN HNP CRR
  unfold oV at CV
  go_wp2_with fail
  refine (CP.out _ H1.out.2.2).mono ?_
  rintro e w2 ⟨pa, pn, pc, fa, fn, fc, rfl, hb1, _, hLI⟩
  have H2 := Lib.hid (TPS.step H1.out hb1)
  have HLI := Lib.hid (hLI (by trivial))
  clear hb1 hLI x0 x1 x2 x3 d1 d2 d3 d4 d5 d6 d7 d8 d9 CP
  have CD1 := Lib.hid (fun W (hW : Below w.heap.size w W) (h3 : Below w2.heap.size w2 W) => CD.out (.slice pa pn pc) (plP ls gs) W hW (HLI.out.1.all h3) HPL.out)
  have HFN : Hid (fn = 0 ↔ Lf.chkE ls gs (plP ls gs) = 0) := Lib.hid (by
    obtain ⟨_, _, e, _⟩ := HLI.out.2
    injection e with _ e _
    rw [e]; exact HM.out)
  clear CD HLI HM HPL
  generalize oa (pv ls gs) = p at *
  generalize ob (pv ls gs) = q at *
  generalize (pv ls gs).isSome = S at *
  generalize Lf.isP ls gs a b = R at *
  generalize Lf.chkE ls gs plan = E1 at *
  generalize Lf.chkE ls gs (plP ls gs) = E2 at *
  have x0 : World.cell? _ _ = some (.slice ua ls.length uc) := H2.out.1.cell 0
  have x1 : World.cell? _ _ = some (.slice va gs.length vc) := H2.out.1.cell 1
  have x2 : World.cell? _ _ = some (.int .i64 a) := H2.out.2.1.cell 0
  have x3 : World.cell? _ _ = some (.int .i64 b) := H2.out.2.1.cell 1
  go_wp2_with fail
  refine (CI.out _ H2.out.2.2).mono ?_
  rintro e w3 ⟨rfl, hb1⟩
  have H3 := Lib.hid (TPS.step H2.out hb1)
  have HB3 := Lib.hid hb1
  clear hb1 x0 x1 x2 x3
  have x0 : World.cell? _ _ = some (.slice ua ls.length uc) := H3.out.1.cell 0
  have x1 : World.cell? _ _ = some (.slice va gs.length vc) := H3.out.1.cell 1
  have x2 : World.cell? _ _ = some (.int .i64 a) := H3.out.2.1.cell 0
  have x3 : World.cell? _ _ = some (.int .i64 b) := H3.out.2.1.cell 1
  go_wp2_with fail
  refine (CV.out _ H3.out.2.2).mono ?_
  rintro e w4 ⟨rfl, hb1⟩
  have H4 := Lib.hid (TPS.step H3.out hb1)
  have HB4 := Lib.hid (below_alloc2 (below_step HB3.out hb1) (.cells (winA p q) WinT))
  clear hb1 x0 x1 x2 x3
  have H5 := Lib.hid (TPS.al H4.out (.cells (winA p q) WinT))
  have x0 : World.cell? _ _ = some (.slice ua ls.length uc) := H5.out.1.cell 0
  have x1 : World.cell? _ _ = some (.slice va gs.length vc) := H5.out.1.cell 1
  have x2 : World.cell? _ _ = some (.int .i64 a) := H5.out.2.1.cell 0
  have x3 : World.cell? _ _ = some (.int .i64 b) := H5.out.2.1.cell 1
  go_wp2_with fail
  refine (CD1.out _ H5.out.2.2 HB4.out).mono ?_
  rintro e w6 ⟨rfl, hb1⟩
  have H6 := Lib.hid (TPS.step H5.out hb1)
  clear hb1 x0 x1 x2 x3 CD1 HB3 HB4 CI CV
  by_cases hE2 : E2 = 0
  · obtain ⟨hr, hs⟩ := HT2.out hE2
    have hf := HFN.out.2 hE2
    subst hr hs hf hE2
    clear HPP HT2 HFN
    have x0 : World.cell? _ _ = some (.slice ua ls.length uc) := H6.out.1.cell 0
    have x1 : World.cell? _ _ = some (.slice va gs.length vc) := H6.out.1.cell 1
    have x2 : World.cell? _ _ = some (.int .i64 a) := H6.out.2.1.cell 0
    have x3 : World.cell? _ _ = some (.int .i64 b) := H6.out.2.1.cell 1
    by_cases hE1 : E1 = 0
    · have q1 : (E1 == 0) = true := beq_iff_eq.2 hE1
      have q2 : (E1 != 0) = false := by rw [bne, q1]; rfl
      have CR1 := Lib.hid (fun W hW => CR.out W hW hE1)
      go_wp2_with fail
      refine (CC1.out _ H6.out.2.2).mono ?_
      rintro e w7 ⟨rfl, hb1⟩
      have H7 := Lib.hid (TPS.step H6.out hb1)
      clear hb1 x0 x1 x2 x3
      have x0 : World.cell? _ _ = some (.slice ua ls.length uc) := H7.out.1.cell 0
      have x1 : World.cell? _ _ = some (.slice va gs.length vc) := H7.out.1.cell 1
      go_wp2_with fail
      refine (CR1.out _ H7.out.2.2).mono ?_
      rintro e w8 ⟨rfl, hb1⟩
      have H8 := Lib.hid (TPS.step H7.out hb1)
      clear hb1 x0 x1
      go_wp2
      go_ret
      exact ⟨rfl, H8.out.2.2⟩
    · have q1 : (E1 == 0) = false := beq_eq_false_iff_ne.2 hE1
      have q2 : (E1 != 0) = true := by rw [bne, q1]; rfl
      go_wp2_with fail
      refine (CC1.out _ H6.out.2.2).mono ?_
      rintro e w7 ⟨rfl, hb1⟩
      have H7 := Lib.hid (TPS.step H6.out hb1)
      clear hb1 x0 x1 x2 x3
      go_wp2
      go_ret
      exact ⟨rfl, H7.out.2.2⟩
  have hf : fn ≠ 0 := fun h => hE2 (HFN.out.1 h)
  have p1 : (E2 == 0) = false := beq_eq_false_iff_ne.2 hE2
  have p2 : decide ((fn : Int) = 0) = false := decide_eq_false (by omega)
  have p3 : ((fn : Int) == 0) = false := beq_eq_false_iff_ne.2 (by omega)
  have p4 : decide (fn = 0) = false := decide_eq_false hf
  have p5 : (fn == 0) = false := beq_eq_false_iff_ne.2 hf
  clear HT2 HFN
  cases R
  · cases S
    · clear HPP
      have x0 : World.cell? _ _ = some (.slice ua ls.length uc) := H6.out.1.cell 0
      have x1 : World.cell? _ _ = some (.slice va gs.length vc) := H6.out.1.cell 1
      have x2 : World.cell? _ _ = some (.int .i64 a) := H6.out.2.1.cell 0
      have x3 : World.cell? _ _ = some (.int .i64 b) := H6.out.2.1.cell 1
      by_cases hE1 : E1 = 0
      · have q1 : (E1 == 0) = true := beq_iff_eq.2 hE1
        have q2 : (E1 != 0) = false := by rw [bne, q1]; rfl
        have CR1 := Lib.hid (fun W hW => CR.out W hW hE1)
        go_wp2_with fail
        refine (CC1.out _ H6.out.2.2).mono ?_
        rintro e w7 ⟨rfl, hb1⟩
        have H7 := Lib.hid (TPS.step H6.out hb1)
        clear hb1 x0 x1 x2 x3
        have x0 : World.cell? _ _ = some (.slice ua ls.length uc) := H7.out.1.cell 0
        have x1 : World.cell? _ _ = some (.slice va gs.length vc) := H7.out.1.cell 1
        go_wp2_with fail
        refine (CR1.out _ H7.out.2.2).mono ?_
        rintro e w8 ⟨rfl, hb1⟩
        have H8 := Lib.hid (TPS.step H7.out hb1)
        clear hb1 x0 x1
        go_wp2
        go_ret
        exact ⟨rfl, H8.out.2.2⟩
      · have q1 : (E1 == 0) = false := beq_eq_false_iff_ne.2 hE1
        have q2 : (E1 != 0) = true := by rw [bne, q1]; rfl
        go_wp2_with fail
        refine (CC1.out _ H6.out.2.2).mono ?_
        rintro e w7 ⟨rfl, hb1⟩
        have H7 := Lib.hid (TPS.step H6.out hb1)
        clear hb1 x0 x1 x2 x3
        go_wp2
        go_ret
        exact ⟨rfl, H7.out.2.2⟩
    · clear HPP
      have x0 : World.cell? _ _ = some (.slice ua ls.length uc) := H6.out.1.cell 0
      have x1 : World.cell? _ _ = some (.slice va gs.length vc) := H6.out.1.cell 1
      have x2 : World.cell? _ _ = some (.int .i64 a) := H6.out.2.1.cell 0
      have x3 : World.cell? _ _ = some (.int .i64 b) := H6.out.2.1.cell 1
      by_cases hE1 : E1 = 0
      · have q1 : (E1 == 0) = true := beq_iff_eq.2 hE1
        have q2 : (E1 != 0) = false := by rw [bne, q1]; rfl
        obtain ⟨hr, hs⟩ := HT3.out hE1
        cases hs
      · have q1 : (E1 == 0) = false := beq_eq_false_iff_ne.2 hE1
        have q2 : (E1 != 0) = true := by rw [bne, q1]; rfl
        go_wp2_with fail
        refine (CC1.out _ H6.out.2.2).mono ?_
        rintro e w7 ⟨rfl, hb1⟩
        have H7 := Lib.hid (TPS.step H6.out hb1)
        clear hb1 x0 x1 x2 x3
        go_wp2
        go_ret
        exact ⟨rfl, H7.out.2.2⟩
  · cases S
    · have := HPP.out rfl
      cases this
    · clear HPP
      have x0 : World.cell? _ _ = some (.slice ua ls.length uc) := H6.out.1.cell 0
      have x1 : World.cell? _ _ = some (.slice va gs.length vc) := H6.out.1.cell 1
      have x2 : World.cell? _ _ = some (.int .i64 a) := H6.out.2.1.cell 0
      have x3 : World.cell? _ _ = some (.int .i64 b) := H6.out.2.1.cell 1
      by_cases hE1 : E1 = 0
      · have q1 : (E1 == 0) = true := beq_iff_eq.2 hE1
        have q2 : (E1 != 0) = false := by rw [bne, q1]; rfl
        obtain ⟨hr, hs⟩ := HT3.out hE1
        cases hs
      · have q1 : (E1 == 0) = false := beq_eq_false_iff_ne.2 hE1
        have q2 : (E1 != 0) = true := by rw [bne, q1]; rfl
        go_wp2_with fail
        refine (CC1.out _ H6.out.2.2).mono ?_
        rintro e w7 ⟨rfl, hb1⟩
        have H7 := Lib.hid (TPS.step H6.out hb1)
        clear hb1 x0 x1 x2 x3
        go_wp2
        go_ret
        exact ⟨rfl, H7.out.2.2⟩
end Go.Proofs.Ytabfcnfddemblaa.Lo
