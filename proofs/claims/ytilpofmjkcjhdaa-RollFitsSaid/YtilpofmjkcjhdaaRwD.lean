/- RollFits returns true, whatever the band, the articles and the piece. -/
import Derived.Test.YtilpofmjkcjhdaaRwC
namespace Go.Proofs.Ytilpofmjkcjhdaa
open Go.RowKit

def Ro.fitsR (rs : List Bd.R) (al : List Ro.A) (x : Ro.X) : Bool := if Ro.layE rs al = 0 then Ro.fitX (Bd.exp rs) al x else false
set_option maxRecDepth 20000 in
set_option maxHeartbeats 2000000 in
theorem numFits_any (v u : Value) (rs : List Bd.R) (al : List Ro.A) (x : Ro.X) (w : World) (hv : Runs w v rs) (hu : Arts w u al) (hl : rs.length ≤ 1000) (hal : al.length ≤ 1000) :
    Calls Try.prog 18 #[v, u, pcV x] w fun e w' => e = .returned (.tuple #[.bool (Ro.fitsR rs al x), .int .i64 (Ro.layE rs al)]) ∧ Below w.heap.size w w' := by
  obtain ⟨xf, xa⟩ := x
  have bX := BlockAt.new w #[.int .i64 xf, .int .i64 xa] PcT
  have hw := below_alloc2 (Below.refl w.heap.size w) (.cells #[.int .i64 xf, .int .i64 xa] PcT)
  have HX := Lib.hid bX
  by_cases hz : Ro.layE rs al = 0
  · obtain ⟨h1, h2, h3, h4, h5, h6⟩ := Ro.lay_facts hz
    have LY := Lib.hid (lay_good v u rs al _ (hv.all hw) (hu.all hw) hl hal hz)
    have WO := Lib.hid (fun (bv ov : Value) W (ho : Offs W ov rs al) => tfits_any bv ov ((Bd.exp rs).length : Int) rs al ⟨xf, xa⟩ W ho h2 h6 h5)
    have hR : Ro.fitsR rs al ⟨xf, xa⟩ = Ro.fitX (Bd.exp rs) al ⟨xf, xa⟩ := if_pos hz
    rw [hR, hz]
    have HB0 := Lib.hid hw
    obtain ⟨va, vc, rfl⟩ := hv.form
    obtain ⟨ua, uc, rfl, _⟩ := hu
    clear hv hz h1 h2 h3 h6 hR bX hw
    generalize Ro.fitX (Bd.exp rs) al ⟨xf, xa⟩ = r at *
    generalize ((Bd.exp rs).length : Int) = n at *
    obtain ⟨vl, hvl⟩ : ∃ y, y = rs.length := ⟨_, rfl⟩
    rw [← hvl] at LY ⊢
    clear hvl hl
    go_enter Try.func18, Try.ntmps18
    go_wp2_with fail
    refine LY.out.mono ?_
    rintro e w1 ⟨oa, oc, rfl, ho, hb1⟩
    have ho2 := ho.all ((Below.refl _ _).alloc (Nat.le_refl _) (.cells (tabA (.slice va vl vc) n (.slice oa al.length oc)) TabT))
    have HB := Lib.hid (below_alloc2 (below_step HB0.out hb1) (.cells (tabA (.slice va vl vc) n (.slice oa al.length oc)) TabT))
    have C := Lib.hid (WO.out (.slice va vl vc) _ _ ho2)
    have bX1 := (HX.out.below hb1 HX.out.lt).alloc (.cells (tabA (.slice va vl vc) n (.slice oa al.length oc)) TabT)
    have x0 : World.cell? _ _ = some (.int .i64 xf) := bX1.cell 0
    have x1 : World.cell? _ _ = some (.int .i64 xa) := bX1.cell 1
    clear ho ho2 hb1 LY WO HB0 HX bX1
    go_wp2_with fail
    refine C.out.mono ?_
    rintro e w2 ⟨rfl, hb2⟩
    have HW := Lib.hid (below_step HB.out hb2)
    clear hb2 HB C x0 x1
    go_wp2
    go_ret2
    exact ⟨rfl, HW.out⟩
  · have LY := Lib.hid (lay_bad v u rs al _ (hv.all hw) (hu.all hw) hl hal hz)
    have hR : Ro.fitsR rs al ⟨xf, xa⟩ = false := if_neg hz
    rw [hR]
    have HB0 := Lib.hid hw
    obtain ⟨va, vc, rfl⟩ := hv.form
    obtain ⟨ua, uc, rfl, _⟩ := hu
    generalize Ro.layE rs al = q at *
    have hd : (q == 0) = false := beq_eq_false_iff_ne.2 hz
    have hd2 : (q != 0) = true := by rw [bne, hd]; rfl
    clear hv hz hR bX hw HX
    go_enter Try.func18, Try.ntmps18
    go_wp2_with fail
    refine LY.out.mono ?_
    rintro e w1 ⟨rfl, hb1⟩
    have HB := Lib.hid (below_alloc2 (below_step HB0.out hb1) (.cells (tabA (.slice none 0 0) 0 (.slice none 0 0)) TabT))
    clear hb1 LY HB0
    go_wp2
    go_ret2
    exact ⟨rfl, HB.out⟩

set_option maxRecDepth 20000 in
set_option maxHeartbeats 2000000 in
theorem refFitsR_any (v u : Value) (rs : List Bd.R) (al : List Ro.A) (x : Ro.X) (w : World) (hv : Runs w v rs) (hu : Arts w u al) (hl : rs.length ≤ 1000) (hal : al.length ≤ 1000) :
    Calls Try.prog 19 #[v, u, pcV x] w fun e w' => e = .returned (.tuple #[.bool (Ro.fitsR rs al x), .int .i64 (Ro.layE rs al)]) ∧ Below w.heap.size w w' := by
  obtain ⟨xf, xa⟩ := x
  have bX := BlockAt.new w #[.int .i64 xf, .int .i64 xa] PcT
  have hw := below_alloc2 (Below.refl w.heap.size w) (.cells #[.int .i64 xf, .int .i64 xa] PcT)
  have HX := Lib.hid bX
  by_cases hz : Ro.layE rs al = 0
  · obtain ⟨h1, h2, h3, h4, h5, h6⟩ := Ro.lay_facts hz
    have LY := Lib.hid (marks_ok v u rs al _ (hv.all hw) (hu.all hw) hl hal hz)
    have WO := Lib.hid (fun (mv : Value) W (hW : Below w.heap.size w W) (ho : Mks W mv (Bd.exp rs)) => refFits_any mv u (Bd.exp rs) al ⟨xf, xa⟩ W ho (hu.all hW) h6 h4 h5)
    have hR : Ro.fitsR rs al ⟨xf, xa⟩ = Ro.fitX (Bd.exp rs) al ⟨xf, xa⟩ := if_pos hz
    rw [hR, hz]
    have HB0 := Lib.hid hw
    obtain ⟨va, vc, rfl⟩ := hv.form
    obtain ⟨ua, uc, rfl, _⟩ := hu
    clear hv hz h1 h2 h3 h6 hR bX hw
    generalize Ro.fitX (Bd.exp rs) al ⟨xf, xa⟩ = r at *
    generalize Bd.exp rs = ms at *
    obtain ⟨vl, hvl⟩ : ∃ y, y = rs.length := ⟨_, rfl⟩
    rw [← hvl] at LY ⊢
    clear hvl hl
    go_enter Try.func19, Try.ntmps19
    go_wp2_with fail
    refine LY.out.mono ?_
    rintro e w1 ⟨mv, rfl, ho, hb1⟩
    have hm := ho.mks
    obtain ⟨ma, mc, hmv, _⟩ := ho.mks
    subst hmv
    have HB := Lib.hid (below_step HB0.out hb1)
    have C := Lib.hid (WO.out _ _ HB.out hm)
    have bX1 := HX.out.below hb1 HX.out.lt
    have x0 : World.cell? _ _ = some (.int .i64 xf) := bX1.cell 0
    have x1 : World.cell? _ _ = some (.int .i64 xa) := bX1.cell 1
    clear ho hm hb1 LY WO HB0 HX bX1
    go_wp2_with fail
    refine C.out.mono ?_
    rintro e w2 ⟨rfl, hb2⟩
    have HW := Lib.hid (below_step HB.out hb2)
    clear hb2 HB C x0 x1
    go_wp2
    go_ret2
    exact ⟨rfl, HW.out⟩
  · have LY := Lib.hid (marks_bad v u rs al _ (hv.all hw) (hu.all hw) hl hal hz)
    have hR : Ro.fitsR rs al ⟨xf, xa⟩ = false := if_neg hz
    rw [hR]
    have HB0 := Lib.hid hw
    obtain ⟨va, vc, rfl⟩ := hv.form
    obtain ⟨ua, uc, rfl, _⟩ := hu
    generalize Ro.layE rs al = q at *
    have hd : (q == 0) = false := beq_eq_false_iff_ne.2 hz
    have hd2 : (q != 0) = true := by rw [bne, hd]; rfl
    clear hv hz hR bX hw HX
    go_enter Try.func19, Try.ntmps19
    go_wp2_with fail
    refine LY.out.mono ?_
    rintro e w1 ⟨rfl, hb1⟩
    have HB := Lib.hid (below_step HB0.out hb1)
    clear hb1 LY HB0
    go_wp2
    go_ret2
    exact ⟨rfl, HB.out⟩

set_option maxRecDepth 20000 in
set_option maxHeartbeats 4000000 in
theorem fits_walk (v u : Value) (rs : List Bd.R) (al : List Ro.A) (xf xa : Int) (w : World) (hv : Runs w v rs) (hu : Arts w u al) :
    Calls Try.prog 3 #[v, u, .agg #[.int .i64 xf, .int .i64 xa]] w fun e w' => e = .returned (.bool true) ∧ Below w.heap.size w w' := by
  have bX := BlockAt.new w #[.int .i64 xf, .int .i64 xa] PcT
  have hw := below_alloc2 (Below.refl w.heap.size w) (.cells #[.int .i64 xf, .int .i64 xa] PcT)
  have HX := Lib.hid (And.intro bX hw)
  have LO := Lib.hid (rollLong_any v u (.slice none 0 0) rs al.length 0 _ (hv.all hw) (by obtain ⟨a, c, h, _⟩ := hu; exact ⟨a, c, h⟩) ⟨none, 0, rfl⟩)
  have KN := Lib.hid (fun W => rollKnown_any W)
  cases hL : (decide (100 < rs.length) || (decide (40 < al.length) || decide (400 < 0)))
  case true =>
    rw [hL] at LO
    obtain ⟨va, vc, rfl⟩ := hv.form
    obtain ⟨ua, uc, rfl, _⟩ := hu
    clear hv hL bX hw
    go_enter Try.func3, Try.ntmps3
    go_wp2_with fail
    refine LO.out.mono ?_
    rintro e w1 ⟨rfl, hb1⟩
    have HB1 := Lib.hid (below_step HX.out.2 hb1)
    clear hb1 LO HX
    go_wp2_with fail
    refine (KN.out _).mono ?_
    rintro e w2 ⟨rfl, hb2⟩
    have HB2 := Lib.hid (below_step HB1.out hb2)
    clear hb2 HB1 KN
    go_wp2
    go_ret
    exact ⟨rfl, HB2.out⟩
  case false =>
    rw [hL] at LO
    simp only [Bool.or_eq_false_iff, decide_eq_false_iff_not] at hL
    have hl : rs.length ≤ 1000 := by omega
    have hal : al.length ≤ 1000 := by omega
    have NF := Lib.hid (fun W (hW : Below w.heap.size w W) => numFits_any v u rs al ⟨xf, xa⟩ W (hv.all hW) (hu.all hW) hl hal)
    have RF := Lib.hid (fun W (hW : Below w.heap.size w W) => refFitsR_any v u rs al ⟨xf, xa⟩ W (hv.all hW) (hu.all hW) hl hal)
    have NV := Lib.hid (fun W (hW : Below w.heap.size w W) => rollValidate_any u al W (hu.all hW) hal)
    have RV := Lib.hid (fun W (hW : Below w.heap.size w W) => rollRefValidate_any u al W (hu.all hW) hal)
    generalize Ro.fitsR rs al ⟨xf, xa⟩ = r at *
    generalize Ro.layE rs al = q at *
    generalize Ro.valA al = p at *
    have e1 : (p == p) = true := beq_self_eq_true _
    have e2 : (q == q) = true := beq_self_eq_true _
    have e3 : (r == r) = true := beq_self_eq_true _
    obtain ⟨va, vc, rfl⟩ := hv.form
    obtain ⟨ua, uc, rfl, _⟩ := hu
    clear hv hL bX hw hl hal
    go_enter Try.func3, Try.ntmps3
    go_wp2_with fail
    refine LO.out.mono ?_
    rintro e w1 ⟨rfl, hb1⟩
    have H1 := Lib.hid (And.intro (HX.out.1.below hb1 HX.out.1.lt) (below_step HX.out.2 hb1))
    clear hb1 LO HX
    have x0 : World.cell? _ _ = some (.int .i64 xf) := H1.out.1.cell 0
    have x1 : World.cell? _ _ = some (.int .i64 xa) := H1.out.1.cell 1
    go_wp2_with fail
    refine (NF.out _ H1.out.2).mono ?_
    rintro e w2 ⟨rfl, hb2⟩
    have H2 := Lib.hid (And.intro (H1.out.1.below hb2 H1.out.1.lt) (below_step H1.out.2 hb2))
    clear hb2 H1 NF x0 x1
    have x0 : World.cell? _ _ = some (.int .i64 xf) := H2.out.1.cell 0
    have x1 : World.cell? _ _ = some (.int .i64 xa) := H2.out.1.cell 1
    go_wp2_with fail
    refine (RF.out _ H2.out.2).mono ?_
    rintro e w3 ⟨rfl, hb3⟩
    have H3 := Lib.hid (below_step H2.out.2 hb3)
    clear hb3 H2 RF x0 x1
    go_wp2_with fail
    refine (NV.out _ H3.out).mono ?_
    rintro e w4 ⟨rfl, hb4⟩
    have H4 := Lib.hid (below_step H3.out hb4)
    clear hb4 H3 NV
    go_wp2_with fail
    refine (RV.out _ H4.out).mono ?_
    rintro e w5 ⟨rfl, hb5⟩
    have H5 := Lib.hid (below_step H4.out hb5)
    clear hb5 H4 RV
    go_wp2_with fail
    refine (KN.out _).mono ?_
    rintro e w6 ⟨rfl, hb6⟩
    have H6 := Lib.hid (below_step H5.out hb6)
    clear hb6 H5 KN
    go_wp2
    go_ret
    exact ⟨rfl, H6.out⟩
end Go.Proofs.Ytilpofmjkcjhdaa
