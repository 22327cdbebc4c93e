/- LoftPlans returns true, whatever the lofts and the goods. -/
import Derived.Test.YtabfcnfddemblaaLf67
import Derived.Test.YtabfcnfddemblaaLf62
import Derived.Test.YtabfcnfddemblaaLf58
import Derived.Test.YtabfcnfddemblaaLfS
namespace Go.Proofs.Ytabfcnfddemblaa.Lo
open Go.RowKit

abbrev FirmT : TypeId := 74
set_option maxRecDepth 100000 in
set_option maxHeartbeats 2000000 in
theorem large_nil (ua va : Option Addr) (n m : Nat) (uc vc : Nat) (w : World) : Calls Try.prog 43 #[.agg #[.slice ua n uc, .slice va m vc], .slice none 0 0] w fun e w' => e = .returned (.bool (decide (10 < n) || decide (20 < m))) ∧ Below w.heap.size w w' := by
  have HX := Lib.hid (And.intro (BlockAt.new w #[.slice ua n uc, .slice va m vc] FirmT) (below_alloc2 (Below.refl w.heap.size w) (.cells #[.slice ua n uc, .slice va m vc] FirmT)))
  have x0 : World.cell? _ _ = some (.slice ua n uc) := HX.out.1.cell 0
  have x1 : World.cell? _ _ = some (.slice va m vc) := HX.out.1.cell 1
  by_cases h1 : 10 < n
  · have d1 : decide ((n : Int) > 10) = true := decide_eq_true (by omega)
    have d2 : decide (10 < (n : Int)) = true := decide_eq_true (by omega)
    have d3 : decide (10 < n) = true := decide_eq_true h1
    rw [d3, Bool.true_or]
    go_enter Try.func43, Try.ntmps43
    go_wp2
    go_ret
    exact ⟨rfl, HX.out.2⟩
  have d1 : decide ((n : Int) > 10) = false := decide_eq_false (by omega)
  have d2 : decide (10 < (n : Int)) = false := decide_eq_false (by omega)
  have d3 : decide (10 < n) = false := decide_eq_false h1
  rw [d3, Bool.false_or]
  by_cases h2 : 20 < m
  · have d4 : decide ((m : Int) > 20) = true := decide_eq_true (by omega)
    have d5 : decide (20 < (m : Int)) = true := decide_eq_true (by omega)
    have d6 : decide (20 < m) = true := decide_eq_true h2
    rw [d6]
    go_enter Try.func43, Try.ntmps43
    go_wp2
    go_ret
    exact ⟨rfl, HX.out.2⟩
  have d4 : decide ((m : Int) > 20) = false := decide_eq_false (by omega)
  have d5 : decide (20 < (m : Int)) = false := decide_eq_false (by omega)
  have d6 : decide (20 < m) = false := decide_eq_false h2
  rw [d6]
  go_enter Try.func43, Try.ntmps43
  go_wp2
  clear x0 x1
  go_loopw [5] (fun t wr => t = .int .i64 0 ∧ Hid (Below w.heap.size w wr)) (fun _ _ => 0)
  case atStart => exact ⟨rfl, Lib.hid HX.out.2⟩
  case round =>
    obtain ⟨rfl, hg⟩ := hrel
    go_wp2
    go_ret
    exact ⟨rfl, hg.out⟩
/-- What lies in memory while the law looks at plans. -/
def PWS (w : World) (u v : Value) (W : World) : Prop := BlockAt W w.heap.size #[u, v] FirmT ∧ Below w.heap.size w W
theorem PWS.step {w : World} {u v : Value} {W W2 : World} (h : PWS w u v W) (hb : Below W.heap.size W W2) : PWS w u v W2 := ⟨h.1.below hb h.1.lt, below_step h.2 hb⟩
theorem plan_kept {ls : List Lf.F} {gs : List Lf.G} (hb : Lf.bthE ls gs = 0) : (plP ls gs).length ≤ 8 ∧ (∀ k (hk : k < (plP ls gs).length), (plP ls gs)[k].hs.length ≤ 100 ∧ (plP ls gs)[k].gs.length ≤ 100) ∧ ((plF ls gs).mergeSort fun x y => decide (x ≤ y)).length ≤ 8 := by
  have h8 := (bth_ok hb).2.2.2
  have h1 := pln_len ls gs gs.length (Nat.le_refl _)
  have h2 := pln_PI hb gs.length
  rw [plnS_end] at h1 h2
  dsimp only at h1 h2
  refine ⟨by omega, fun k hk => ?_, by rw [List.length_mergeSort]; omega⟩
  obtain ⟨_, _, h3, _, h4⟩ := Lf.vLE_iff.1 (h2.ok _ (List.getElem_mem hk)).1
  have h5 := Lf.st_len h4
  have h6 := (Lf.vHt_iff.1 h3).1
  exact ⟨by omega, by omega⟩
theorem plan_none {ls : List Lf.F} {gs : List Lf.G} (hb : Lf.bthE ls gs = 0) (h : ((plF ls gs).mergeSort fun x y => decide (x ≤ y)).length = 0) : Lf.chkE ls gs (plP ls gs) = 0 := by
  rw [List.length_mergeSort] at h
  exact (Lf.plan_ok hb (fun n => odr_mem) (odr_nodup gs)).1.2 (List.length_eq_zero_iff.1 h)
set_option maxRecDepth 100000 in
set_option maxHeartbeats 8000000 in
theorem plans_walk (u v : Value) (ls : List Lf.F) (gs : List Lf.G) (w : World) (hu : Lofts w u ls) (hv : Goods w v gs) :
    Calls Try.prog 10 #[.agg #[u, v]] w fun e w' => e = .returned (.bool true) ∧ Below w.heap.size w w' := by
  have CP := Lib.hid (fun W (hW : Below w.heap.size w W) => plan_any u v ls gs W (hu.all hW) (hv.all hW))
  have CR := Lib.hid (fun W (hW : Below w.heap.size w W) => rplan_any u v ls gs W (hu.all hW) (hv.all hW))
  have CD := Lib.hid (fun z2 pl W (hW : Below w.heap.size w W) hz2 h => checkF_any u v z2 ls gs pl W (hu.all hW) (hv.all hW) hz2 h)
  have CS := Lib.hid (fun W => sane_any W)
  have HKE := Lib.hid (fun hb => plan_kept (ls := ls) (gs := gs) hb)
  have HNO := Lib.hid (fun hb h => plan_none (ls := ls) (gs := gs) hb h)
  obtain ⟨ua, uc, rfl⟩ := hu.form
  obtain ⟨va, vc, rfl⟩ := hv.form
  have CL := Lib.hid (fun W => large_nil ua va ls.length gs.length uc vc W)
  have H0 := Lib.hid (show PWS w (.slice ua ls.length uc) (.slice va gs.length vc) (w.alloc (.cells #[.slice ua ls.length uc, .slice va gs.length vc] FirmT)) from
    ⟨BlockAt.new w #[.slice ua ls.length uc, .slice va gs.length vc] FirmT, below_alloc2 (Below.refl w.heap.size w) _⟩)
  clear hu hv
  go_enter Try.func10, Try.ntmps10
  have x0 : World.cell? _ _ = some (.slice ua ls.length uc) := H0.out.1.cell 0
  have x1 : World.cell? _ _ = some (.slice va gs.length vc) := H0.out.1.cell 1
  go_wp2_with fail
  refine (CL.out _).mono ?_
  rintro e w1 ⟨rfl, hb1⟩
  have H1 := Lib.hid (PWS.step H0.out hb1)
  clear hb1 x0 x1
  clear CL
  generalize (decide (10 < ls.length) || decide (20 < gs.length)) = bl at *
  cases bl
  case true =>
    go_wp2_with fail
    refine (CS.out _).mono ?_
    rintro e w9 ⟨rfl, hb1⟩
    have H9 := Lib.hid (PWS.step H1.out hb1)
    clear hb1
    go_wp2
    go_ret
    exact ⟨rfl, H9.out.2⟩
  by_cases hb0 : Lf.bthE ls gs = 0
  case neg =>
    have HN := Lib.hid hb0
    clear HKE HNO CD
    have CP1 := Lib.hid (fun W hW => CP.out W hW)
    have CR1 := Lib.hid (fun W hW => CR.out W hW)
    clear CP CR
    generalize Lf.bthE ls gs = E at *
    have hd : (E == 0) = false := beq_eq_false_iff_ne.2 hb0
    have hd2 : (E != 0) = true := by rw [bne, hd]; rfl
    have hd3 : (E != E) = false := by simp
    clear hb0
    have x0 : World.cell? _ _ = some (.slice ua ls.length uc) := H1.out.1.cell 0
    have x1 : World.cell? _ _ = some (.slice va gs.length vc) := H1.out.1.cell 1
    go_wp2_with fail
    refine (CP1.out _ H1.out.2).mono ?_
    rintro e w2 ⟨pa, pn, pc, fa, fn, fc, rfl, hb1, hLN, _⟩
    have H2 := Lib.hid (PWS.step H1.out hb1)
    obtain ⟨⟨rfl, rfl, rfl⟩, rfl, rfl, rfl⟩ := hLN HN.out
    clear hb1 x0 x1
    have x0 : World.cell? _ _ = some (.slice ua ls.length uc) := H2.out.1.cell 0
    have x1 : World.cell? _ _ = some (.slice va gs.length vc) := H2.out.1.cell 1
    go_wp2_with fail
    refine (CR1.out _ H2.out.2).mono ?_
    rintro e w3 ⟨pa, pn, pc, fa, fn, fc, rfl, hb1, hLN, _⟩
    have H3 := Lib.hid (PWS.step H2.out hb1)
    obtain ⟨⟨rfl, rfl, rfl⟩, rfl, rfl, rfl⟩ := hLN HN.out
    clear hb1 x0 x1
    have CX := Lib.hid (fun W => rsameLoads_any (.slice none 0 0) (.slice none 0 0) [] W (loads_kv (base := 0) (L := []) (OwnG.nil _ _) (fun j hj => absurd hj (Nat.not_lt_zero _))) (loads_kv (base := 0) (L := []) (OwnG.nil _ _) (fun j hj => absurd hj (Nat.not_lt_zero _))) (by simp) (fun k hk => absurd hk (Nat.not_lt_zero _)))
    have CY := Lib.hid (fun W => sameInts_any (.slice none 0 0) (.slice none 0 0) [] W (ints_nil W none 0) (ints_nil W none 0) (by simp))
    go_wp2_with fail
    refine (CX.out _).mono ?_
    rintro e w4 ⟨rfl, hb1⟩
    have H4 := Lib.hid (PWS.step H3.out hb1)
    clear hb1
    go_wp2_with fail
    refine (CY.out _).mono ?_
    rintro e w5 ⟨rfl, hb1⟩
    have H5 := Lib.hid (PWS.step H4.out hb1)
    clear hb1
    go_wp2_with fail
    refine (CS.out _).mono ?_
    rintro e w9 ⟨rfl, hb1⟩
    have H9 := Lib.hid (PWS.step H5.out hb1)
    clear hb1
    go_wp2
    go_ret
    exact ⟨rfl, H9.out.2⟩
  obtain ⟨hk1, hk2, hk3⟩ := HKE.out hb0
  have HN0 := Lib.hid (HNO.out hb0)
  have CP1 := Lib.hid (fun W hW => CP.out W hW)
  have CR1 := Lib.hid (fun W hW => CR.out W hW)
  rw [hb0] at CP1 CR1
  clear HKE HNO CP CR hb0
  generalize plP ls gs = PP at *
  generalize ((plF ls gs).mergeSort fun x y => decide (x ≤ y)) = FF at *
  have x0 : World.cell? _ _ = some (.slice ua ls.length uc) := H1.out.1.cell 0
  have x1 : World.cell? _ _ = some (.slice va gs.length vc) := H1.out.1.cell 1
  go_wp2_with fail
  refine (CP1.out _ H1.out.2).mono ?_
  rintro e w2 ⟨pa, pn, pc, fa, fn, fc, rfl, hb1, _, hLI⟩
  have H2 := Lib.hid (PWS.step H1.out hb1)
  have HLI := Lib.hid (hLI (by trivial))
  clear hLI
  clear hb1 x0 x1
  have x0 : World.cell? _ _ = some (.slice ua ls.length uc) := H2.out.1.cell 0
  have x1 : World.cell? _ _ = some (.slice va gs.length vc) := H2.out.1.cell 1
  go_wp2_with fail
  refine (CR1.out _ H2.out.2).mono ?_
  rintro e w3 ⟨qa, qn, qc, ga, gn, gc, rfl, hb1, _, hLI⟩
  have H3 := Lib.hid (PWS.step H2.out hb1)
  have HLR := Lib.hid (hLI (by trivial))
  clear hLI
  have HL3 := Lib.hid (And.intro (HLI.out.1.all hb1) (HLI.out.2.all hb1))
  clear hb1 x0 x1
  have hfn : fn = FF.length := by
    obtain ⟨_, _, e, _⟩ := HL3.out.2
    injection e with _ e _
  subst hfn
  have CX := Lib.hid (rsameLoads_any (.slice pa pn pc) (.slice qa qn qc) PP w3 HL3.out.1 HLR.out.1 (by omega) hk2)
  have CY := Lib.hid (fun W (hW : Below w3.heap.size w3 W) => sameInts_any (.slice fa FF.length fc) (.slice ga gn gc) FF W (HL3.out.2.all hW) (HLR.out.2.all hW) (by omega))
  have CD1 := Lib.hid (fun W (hW : Below w.heap.size w W) (h3 : Below w3.heap.size w3 W) => CD.out (.slice pa pn pc) PP W hW (HL3.out.1.all h3) (by omega))
  clear CP1 CR1 CD HLI HLR HL3 hk2
  go_wp2_with fail
  refine CX.out.mono ?_
  rintro e w4 ⟨rfl, hb1⟩
  have H4 := Lib.hid (And.intro (PWS.step H3.out hb1) hb1)
  clear hb1
  go_wp2_with fail
  refine (CY.out _ H4.out.2).mono ?_
  rintro e w5 ⟨rfl, hb1⟩
  have H5 := Lib.hid (PWS.step H4.out.1 hb1)
  have HB5 := Lib.hid (below_step H4.out.2 hb1)
  clear hb1 CX CY
  by_cases hf : 0 < FF.length
  · have d1 : decide ((FF.length : Int) > 0) = true := decide_eq_true (by omega)
    have d2 : decide (0 < (FF.length : Int)) = true := decide_eq_true (by omega)
    have d3 : decide (0 < FF.length) = true := decide_eq_true (by omega)
    go_wp2_with fail
    refine (CS.out _).mono ?_
    rintro e w9 ⟨rfl, hb1⟩
    have H9 := Lib.hid (PWS.step H5.out hb1)
    clear hb1
    go_wp2
    go_ret
    exact ⟨rfl, H9.out.2⟩
  have d1 : decide ((FF.length : Int) > 0) = false := decide_eq_false (by omega)
  have d2 : decide (0 < (FF.length : Int)) = false := decide_eq_false (by omega)
  have d3 : decide (0 < FF.length) = false := decide_eq_false (by omega)
  have HC := HN0.out (by omega)
  rw [HC] at CD1
  clear HC HN0
  have x0 : World.cell? _ _ = some (.slice ua ls.length uc) := H5.out.1.cell 0
  have x1 : World.cell? _ _ = some (.slice va gs.length vc) := H5.out.1.cell 1
  go_wp2_with fail
  refine (CD1.out _ H5.out.2 HB5.out).mono ?_
  rintro e w6 ⟨rfl, hb1⟩
  have H6 := Lib.hid (PWS.step H5.out hb1)
  clear hb1 x0 x1
  go_wp2_with fail
  refine (CS.out _).mono ?_
  rintro e w9 ⟨rfl, hb1⟩
  have H9 := Lib.hid (PWS.step H6.out hb1)
  clear hb1
  go_wp2
  go_ret
  exact ⟨rfl, H9.out.2⟩
end Go.Proofs.Ytabfcnfddemblaa.Lo
