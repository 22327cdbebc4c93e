/- LoftExcludes returns true, whatever the lofts, the goods, the plan and the window. -/
import Derived.Test.YtabfcnfddemblaaLf58
import Derived.Test.YtabfcnfddemblaaLfS
import Derived.Test.YtabfcnfddemblaaLf27
namespace Go.Proofs.Ytabfcnfddemblaa.Lo
open Go.RowKit

abbrev FirmT : TypeId := 74
abbrev SpanT : TypeId := 89
set_option maxRecDepth 100000 in
set_option maxHeartbeats 2000000 in
theorem large_any (ua va : Option Addr) (n m : Nat) (uc vc : Nat) (z : Value) (plan : List Lf.L) (w : World) (hz : Loads w z plan) : Calls Try.prog 43 #[.agg #[.slice ua n uc, .slice va m vc], z] w fun e w' => ∃ b : Bool, e = .returned (.bool b) ∧ (b = false → (n ≤ 10 ∧ m ≤ 20) ∧ plan.length ≤ 20 ∧ ∀ j (hj : j < plan.length), plan[j].gs.length ≤ 20 ∧ plan[j].hs.length ≤ 40) ∧ Below w.heap.size w w' := by
  obtain ⟨za, zc, rfl⟩ := hz.form
  have HZ := Lib.hid (loads_row hz)
  have HX := Lib.hid (And.intro (BlockAt.new w #[.slice ua n uc, .slice va m vc] FirmT) (below_alloc2 (Below.refl w.heap.size w) (.cells #[.slice ua n uc, .slice va m vc] FirmT)))
  have x0 : World.cell? _ _ = some (.slice ua n uc) := HX.out.1.cell 0
  have x1 : World.cell? _ _ = some (.slice va m vc) := HX.out.1.cell 1
  clear hz
  by_cases h1 : 10 < n
  · have d1 : decide ((n : Int) > 10) = true := decide_eq_true (by omega)
    have d2 : decide (10 < (n : Int)) = true := decide_eq_true (by omega)
    have d3 : decide (10 < n) = true := decide_eq_true h1
    go_enter Try.func43, Try.ntmps43
    go_wp2
    go_ret
    exact ⟨true, rfl, fun h => by (cases h), HX.out.2⟩
  have d1 : decide ((n : Int) > 10) = false := decide_eq_false (by omega)
  have d2 : decide (10 < (n : Int)) = false := decide_eq_false (by omega)
  have d3 : decide (10 < n) = false := decide_eq_false h1
  by_cases h2 : 20 < m
  · have d4 : decide ((m : Int) > 20) = true := decide_eq_true (by omega)
    have d5 : decide (20 < (m : Int)) = true := decide_eq_true (by omega)
    have d6 : decide (20 < m) = true := decide_eq_true h2
    go_enter Try.func43, Try.ntmps43
    go_wp2
    go_ret
    exact ⟨true, rfl, fun h => by (cases h), HX.out.2⟩
  have d4 : decide ((m : Int) > 20) = false := decide_eq_false (by omega)
  have d5 : decide (20 < (m : Int)) = false := decide_eq_false (by omega)
  have d6 : decide (20 < m) = false := decide_eq_false h2
  by_cases h3 : 20 < plan.length
  · have d7 : decide ((plan.length : Int) > 20) = true := decide_eq_true (by omega)
    have d8 : decide (20 < (plan.length : Int)) = true := decide_eq_true (by omega)
    have d9 : decide (20 < plan.length) = true := decide_eq_true h3
    go_enter Try.func43, Try.ntmps43
    go_wp2
    go_ret
    exact ⟨true, rfl, fun h => by (cases h), HX.out.2⟩
  have d7 : decide ((plan.length : Int) > 20) = false := decide_eq_false (by omega)
  have d8 : decide (20 < (plan.length : Int)) = false := decide_eq_false (by omega)
  have d9 : decide (20 < plan.length) = false := decide_eq_false h3
  go_enter Try.func43, Try.ntmps43
  go_wp2
  clear x0 x1 d1 d2 d3 d4 d5 d6 d7 d8 d9
  go_loopw [5] (fun t wr => ∃ k : Nat, k ≤ plan.length ∧ t = .int .i64 k ∧ Hid ((∀ j (hj : j < plan.length), j < k → plan[j].gs.length ≤ 20 ∧ plan[j].hs.length ≤ 40) ∧ Below w.heap.size w wr)) (fun t _ => plan.length - (intOf t).toNat)
  case atStart => exact ⟨0, Nat.zero_le _, rfl, Lib.hid ⟨fun j hj h => absurd h (Nat.not_lt_zero _), HX.out.2⟩⟩
  case round =>
    obtain ⟨k, hk, rfl, hg⟩ := hrel
    clear HX
    by_cases hlt : k < plan.length
    · obtain ⟨b, off, rfl, hb, hr⟩ := HZ.out k hlt
      obtain ⟨p, q, ⟨c0, c1, c2, c3⟩, hI1, hI2⟩ := hr.all hg.out.2 hb
      obtain ⟨pa, pc, rfl⟩ := hI1.form
      obtain ⟨qa, qc, rfl⟩ := hI2.form
      have HI : Hid (plan[k].gs.length ≤ 20 ∧ plan[k].hs.length ≤ 40 → ∀ j (hj : j < plan.length), j < k + 1 → plan[j].gs.length ≤ 20 ∧ plan[j].hs.length ≤ 40) := Lib.hid fun h j hj hjk => by
        by_cases e : j = k
        · subst e; exact h
        · exact hg.out.1 j hj (by omega)
      have HW := Lib.hid hg.out.2
      clear hg hI1 hI2
      generalize plan[k] = x at *
      obtain ⟨xl, xa, xh, xg⟩ := x
      dsimp only at *
      by_cases h4 : 20 < xg.length
      · have d1 : decide ((xg.length : Int) > 20) = true := decide_eq_true (by omega)
        have d2 : decide (20 < (xg.length : Int)) = true := decide_eq_true (by omega)
        have d3 : decide (20 < xg.length) = true := decide_eq_true h4
        go_wp2
        go_ret
        exact ⟨true, rfl, fun h => by (cases h), HW.out⟩
      have d1 : decide ((xg.length : Int) > 20) = false := decide_eq_false (by omega)
      have d2 : decide (20 < (xg.length : Int)) = false := decide_eq_false (by omega)
      have d3 : decide (20 < xg.length) = false := decide_eq_false h4
      by_cases h5 : 40 < xh.length
      · have d4 : decide ((xh.length : Int) > 40) = true := decide_eq_true (by omega)
        have d5 : decide (40 < (xh.length : Int)) = true := decide_eq_true (by omega)
        have d6 : decide (40 < xh.length) = true := decide_eq_true h5
        go_wp2
        go_ret
        exact ⟨true, rfl, fun h => by (cases h), HW.out⟩
      have d4 : decide ((xh.length : Int) > 40) = false := decide_eq_false (by omega)
      have d5 : decide (40 < (xh.length : Int)) = false := decide_eq_false (by omega)
      have d6 : decide (40 < xh.length) = false := decide_eq_false h5
      have HI2 := Lib.hid (HI.out ⟨by omega, by omega⟩)
      clear HI
      go_wp2
      go_roundw
      case rel => exact ⟨k + 1, by omega, by go_num, Lib.hid ⟨HI2.out, HW.out⟩⟩
      case measure => simp [intOf]; omega
    · obtain rfl : k = plan.length := by omega
      have HG := Lib.hid hg.out
      clear hg
      go_wp2
      go_ret
      exact ⟨false, rfl, fun _ => ⟨⟨by omega, by omega⟩, by omega, fun j hj => HG.out.1 j hj hj⟩, HG.out.2⟩
/-- What lies in memory while the law looks at proofs. -/
def LPS (w : World) (u v : Value) (a b : Int) (W : World) : Prop := BlockAt W w.heap.size #[u, v] FirmT ∧ BlockAt W (w.heap.size + 1) (winA a b) SpanT ∧ Below w.heap.size w W
theorem LPS.step {w : World} {u v : Value} {a b : Int} {W W2 : World} (h : LPS w u v a b W) (hb : Below W.heap.size W W2) : LPS w u v a b W2 := ⟨h.1.below hb h.1.lt, h.2.1.below hb h.2.1.lt, below_step h.2.2 hb⟩
theorem LPS.al {w : World} {u v : Value} {a b : Int} {W : World} (h : LPS w u v a b W) (o : Obj) : LPS w u v a b (W.alloc o) := ⟨h.1.alloc o, h.2.1.alloc o, below_alloc2 h.2.2 o⟩
theorem LPS.drew {w : World} {u v : Value} {a b : Int} {W : World} (h : LPS w u v a b W) : LPS w u v a b W.drew := ⟨h.1.drew, h.2.1.drew, below_drewN h.2.2 1⟩
theorem excl_all {ls : List Lf.F} {gs : List Lf.G} {a b : Int} (h : Lf.isP ls gs a b = true) : Lf.bthE ls gs = 0 ∧ ∀ plan, Lf.chkE ls gs plan ≠ 0 := by
  unfold Lf.isP at h
  rw [Bool.and_eq_true, decide_eq_true_eq] at h
  refine ⟨h.1, fun plan hc => ?_⟩
  unfold Lf.chkE at hc
  rw [if_pos h.1] at hc
  have := Lf.excl (a := a) (b := b) h.1 hc
  rw [h.2] at this; cases this
theorem left_some {ls : List Lf.F} {gs : List Lf.G} (hb : Lf.bthE ls gs = 0) (h : Lf.chkE ls gs (plP ls gs) ≠ 0) : 0 < ((plF ls gs).mergeSort fun x y => decide (x ≤ y)).length := by
  rw [List.length_mergeSort]
  apply List.length_pos_iff.2
  intro hc
  exact h ((Lf.plan_ok hb (fun n => odr_mem) (odr_nodup gs)).1.2 hc)
theorem plP_len {ls : List Lf.F} {gs : List Lf.G} (h8 : gs.length ≤ 8) : (plP ls gs).length ≤ 20 := by
  have := (pln_len ls gs gs.length (Nat.le_refl _)).1
  rw [plnS_end] at this
  have h2 : (plP ls gs).length ≤ gs.length := this
  omega
set_option maxRecDepth 100000 in
set_option maxHeartbeats 8000000 in
theorem excludes_walk (u v : Value) (ls : List Lf.F) (gs : List Lf.G) (z : Value) (plan : List Lf.L) (a b : Int) (w : World) (hu : Lofts w u ls) (hv : Goods w v gs) (hz : Loads w z plan) :
    Calls Try.prog 13 #[.agg #[u, v], z, winV a b] w fun e w' => e = .returned (.bool true) ∧ Below w.heap.size w w' := by
  have CI := Lib.hid (fun W (hW : Below w.heap.size w W) => isProofF_any u v ls gs a b W (hu.all hW) (hv.all hW))
  have CP := Lib.hid (fun W (hW : Below w.heap.size w W) => plan_any u v ls gs W (hu.all hW) (hv.all hW))
  have CC := Lib.hid (fun W (hW : Below w.heap.size w W) h => checkF_any u v z ls gs plan W (hu.all hW) (hv.all hW) (hz.all hW) h)
  have CD := Lib.hid (fun z2 pl W (hW : Below w.heap.size w W) hz2 h => checkF_any u v z2 ls gs pl W (hu.all hW) (hv.all hW) hz2 h)
  have CS := Lib.hid (fun W => sane_any W)
  have CL := Lib.hid (fun W (hW : Below w.heap.size w W) (ua va : Option Addr) (uc vc : Nat) => large_any ua va ls.length gs.length uc vc z plan W (hz.all hW))
  have HX := Lib.hid (fun h => excl_all (ls := ls) (gs := gs) (a := a) (b := b) h)
  have HLS := Lib.hid (fun hb h => left_some (ls := ls) (gs := gs) hb h)
  obtain ⟨ua, uc, rfl⟩ := hu.form
  obtain ⟨va, vc, rfl⟩ := hv.form
  obtain ⟨za, zc, rfl⟩ := hz.form
  have H0 := Lib.hid (show LPS w (.slice ua ls.length uc) (.slice va gs.length vc) a b ((w.alloc (.cells #[.slice ua ls.length uc, .slice va gs.length vc] FirmT)).alloc (.cells (winA a b) SpanT)) from
    ⟨(BlockAt.new w #[.slice ua ls.length uc, .slice va gs.length vc] FirmT).alloc _, by have := BlockAt.new (w.alloc (.cells #[.slice ua ls.length uc, .slice va gs.length vc] FirmT)) (winA a b) SpanT; simpa using this, below_alloc2 (below_alloc2 (Below.refl w.heap.size w) _) _⟩)
  clear hu hv hz
  go_enter Try.func13, Try.ntmps13
  have x0 : World.cell? _ _ = some (.slice ua ls.length uc) := H0.out.1.cell 0
  have x1 : World.cell? _ _ = some (.slice va gs.length vc) := H0.out.1.cell 1
  have x2 : World.cell? _ _ = some (.int .i64 a) := H0.out.2.1.cell 0
  have x3 : World.cell? _ _ = some (.int .i64 b) := H0.out.2.1.cell 1
  go_wp2_with fail
  refine (CL.out _ H0.out.2.2 ua va uc vc).mono ?_
  rintro e w1 ⟨bl, rfl, hbf, hb1⟩
  have H1 := Lib.hid (LPS.step H0.out hb1)
  have HBF := Lib.hid hbf
  clear hbf
  clear hb1 x0 x1 x2 x3
  cases bl
  case true =>
    go_wp2_with fail
    refine (CS.out _).mono ?_
    rintro e w4 ⟨rfl, hb1⟩
    have H4 := Lib.hid (LPS.step H1.out hb1)
    clear hb1
    go_wp2
    go_ret
    exact ⟨rfl, H4.out.2.2⟩
  have HP20 := Lib.hid (HBF.out rfl).2.1
  clear HBF
  generalize hR : Lf.isP ls gs a b = R at *
  have x0 : World.cell? _ _ = some (.slice ua ls.length uc) := H1.out.1.cell 0
  have x1 : World.cell? _ _ = some (.slice va gs.length vc) := H1.out.1.cell 1
  have x2 : World.cell? _ _ = some (.int .i64 a) := H1.out.2.1.cell 0
  have x3 : World.cell? _ _ = some (.int .i64 b) := H1.out.2.1.cell 1
  go_wp2_with fail
  refine (CI.out _ H1.out.2.2).mono ?_
  rintro e w2 ⟨rfl, hb1⟩
  have H2 := Lib.hid (LPS.step H1.out hb1)
  clear hb1 x0 x1 x2 x3
  cases R
  case false =>
    go_wp2_with fail
    refine (CS.out _).mono ?_
    rintro e w4 ⟨rfl, hb1⟩
    have H4 := Lib.hid (LPS.step H2.out hb1)
    clear hb1
    go_wp2
    go_ret
    exact ⟨rfl, H4.out.2.2⟩
  obtain ⟨hb0, hck⟩ := HX.out rfl
  have h8 := (bth_ok hb0).2.2.2
  have HLP := Lib.hid (HLS.out hb0 (hck _))
  have HPL := Lib.hid (plP_len (ls := ls) h8)
  have CP1 := Lib.hid (fun W hW => CP.out W hW)
  rw [hb0] at CP1
  have HC1 := Lib.hid (hck plan)
  have HC2 := Lib.hid (hck (plP ls gs))
  clear HX HLS hR CP hb0 hck h8 CI CL
  have x0 : World.cell? _ _ = some (.slice ua ls.length uc) := H2.out.1.cell 0
  have x1 : World.cell? _ _ = some (.slice va gs.length vc) := H2.out.1.cell 1
  have x2 : World.cell? _ _ = some (.int .i64 a) := H2.out.2.1.cell 0
  have x3 : World.cell? _ _ = some (.int .i64 b) := H2.out.2.1.cell 1
  go_wp2_with fail
  refine (CP1.out _ H2.out.2.2).mono ?_
  rintro e w3 ⟨pa, pn, pc, fa, fn, fc, rfl, hb1, _, hLI⟩
  have H3 := Lib.hid (LPS.step H2.out hb1)
  have HLI := Lib.hid (hLI (by trivial))
  clear hLI
  clear hb1 x0 x1 x2 x3
  have CD1 := Lib.hid (fun W (hW : Below w.heap.size w W) (h3 : Below w3.heap.size w3 W) => CD.out (.slice pa pn pc) (plP ls gs) W hW (HLI.out.1.all h3) HPL.out)
  have CC1 := Lib.hid (fun W hW => CC.out W hW HP20.out)
  have HFN : Hid (0 < fn) := Lib.hid (by
    obtain ⟨_, _, e, _⟩ := HLI.out.2
    injection e with _ e _
    rw [e]; exact HLP.out)
  have hfn := HFN.out
  have d1 : decide ((fn : Int) > 0) = true := decide_eq_true (by omega)
  have d2 : decide (0 < (fn : Int)) = true := decide_eq_true (by omega)
  have d3 : decide (0 < fn) = true := decide_eq_true hfn
  clear CC CD HLP HPL HP20 HLI HFN CP1
  generalize Lf.chkE ls gs plan = E1 at *
  generalize Lf.chkE ls gs (plP ls gs) = E2 at *
  have hE1 : (E1 == 0) = false := beq_eq_false_iff_ne.2 HC1.out
  have hE1' : (E1 != 0) = true := by rw [bne, hE1]; rfl
  have hE2 : (E2 == 0) = false := beq_eq_false_iff_ne.2 HC2.out
  have hE2' : (E2 != 0) = true := by rw [bne, hE2]; rfl
  have x0 : World.cell? _ _ = some (.slice ua ls.length uc) := H3.out.1.cell 0
  have x1 : World.cell? _ _ = some (.slice va gs.length vc) := H3.out.1.cell 1
  have x2 : World.cell? _ _ = some (.int .i64 a) := H3.out.2.1.cell 0
  have x3 : World.cell? _ _ = some (.int .i64 b) := H3.out.2.1.cell 1
  go_wp2_with fail
  refine (CC1.out _ H3.out.2.2).mono ?_
  rintro e w4 ⟨rfl, hb1⟩
  have H4 := Lib.hid (LPS.step H3.out hb1)
  have HB34 := Lib.hid hb1
  clear hb1 x0 x1 x2 x3
  have x0 : World.cell? _ _ = some (.slice ua ls.length uc) := H4.out.1.cell 0
  have x1 : World.cell? _ _ = some (.slice va gs.length vc) := H4.out.1.cell 1
  have x2 : World.cell? _ _ = some (.int .i64 a) := H4.out.2.1.cell 0
  have x3 : World.cell? _ _ = some (.int .i64 b) := H4.out.2.1.cell 1
  go_wp2_with fail
  refine (CD1.out _ H4.out.2.2 HB34.out).mono ?_
  rintro e w5 ⟨rfl, hb1⟩
  have H5 := Lib.hid (LPS.step H4.out hb1)
  clear hb1 x0 x1 x2 x3
  go_wp2_with fail
  refine (CS.out _).mono ?_
  rintro e w6 ⟨rfl, hb1⟩
  have H6 := Lib.hid (LPS.step H5.out hb1)
  clear hb1
  go_wp2
  go_ret
  exact ⟨rfl, H6.out.2.2⟩
end Go.Proofs.Ytabfcnfddemblaa.Lo
