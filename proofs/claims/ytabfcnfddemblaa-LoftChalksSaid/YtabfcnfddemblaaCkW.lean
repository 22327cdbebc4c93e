/- LoftChalks returns true, whatever the runs and the hanging. -/
import Derived.Test.YtabfcnfddemblaaCk3
import Derived.Test.YtabfcnfddemblaaLfS
namespace Go.Proofs.Ytabfcnfddemblaa.Lo
open Go.RowKit

theorem chE_zero {rs : List Bd.R} {h : Lf.H} (hz : chE rs h = 0) : Bd.valE rs = 0 ∧ Lf.polE h (Bd.len rs) = 0 ∧ Bd.Is (chR rs h) (Bd.ch (Bd.exp rs) 0 (Lf.polL h (Bd.len rs))) := by
  by_cases hv : Bd.valE rs = 0
  · by_cases hp : Lf.polE h (Bd.len rs) = 0
    · by_cases hc : 40 < Bd.rc (Bd.ch (Bd.exp rs) 0 (Lf.polL h (Bd.len rs)))
      · rw [(chE_big hv hp hc).1] at hz
        cases hz
      · exact ⟨hv, hp, (chE_ok hv hp (by omega)).2⟩
    · rw [(chE_pol hv hp).1] at hz
      exact absurd hz hp
  · rw [(chE_val (h := h) hv).1] at hz
    exact absurd hz hv
theorem chR_len (rs : List Bd.R) (h : Lf.H) : (chR rs h).length ≤ 40 := by
  by_cases hz : chE rs h = 0
  · exact (Bd.valE_zero (chE_zero hz).2.2.1).1
  · unfold chR
    rw [if_neg hz]
    simp
/-- Each pole's place has its mark. -/
theorem chalk_at {rs : List Bd.R} {h : Lf.H} (hz : chE rs h = 0) {p : Int} (hp : p ∈ Lf.polL h (Bd.len rs)) : Bd.atE (chR rs h) p = 0 ∧ bits BinOp.and IntKind.i64 (Bd.atM (chR rs h) p).f 1 = 1 := by
  obtain ⟨hv, hpo, hI⟩ := chE_zero hz
  have hok := (pol_ok (Bd.len_valid hv).1 hpo).1
  generalize Lf.polL h (Bd.len rs) = P at *
  generalize chR rs h = R at *
  rw [Bd.len_exp (Bd.valE_pos hv)] at hok
  obtain ⟨h1, h2, h3⟩ := Bd.ch_at (E := Bd.exp rs) (Int.le_refl 0) hok hp
  have hl := Bd.ch_len (E := Bd.exp rs) (Int.le_refl 0) hok
  obtain ⟨i1, i2, i3⟩ := hI
  have h4 := Bd.len_exp (Bd.valE_pos i1)
  rw [i3, hl] at h4
  have h5 : p < Bd.len R := by omega
  refine ⟨Bd.at_in i1 h1 h5, ?_⟩
  rw [Bd.atM_in i1 h1 h5, i3, show p.toNat = (p - 0).toNat by omega, h3]
  refine Bd.pole_mark (m := (Bd.exp rs).getD p.toNat default) ?_
  have : p.toNat < (Bd.exp rs).length := by omega
  rw [List.getD_eq_getElem?_getD, List.getElem?_eq_getElem this]
  exact Bd.exp_okM hv _ (List.getElem_mem this)
set_option maxRecDepth 100000 in
set_option maxHeartbeats 8000000 in
theorem chalks_walk (v : Value) (rs : List Bd.R) (h : Lf.H) (w : World) (hv : Runs w v rs) :
    Calls Try.prog 6 #[v, hangV h] w fun e w' => e = .returned (.bool true) ∧ Below w.heap.size w w' := by
  have CM := Lib.hid (fun W => mine_any h W)
  have CO := Lib.hid (fun W => other_any h W)
  have CA := Lib.hid (fun W (hW : Below w.heap.size w W) hl => chalk_any v rs h W (hv.all hW) hl)
  have CB := Lib.hid (fun W (hW : Below w.heap.size w W) hl => rchalk_any v rs h W (hv.all hW) hl)
  have CX := Lib.hid (fun u1 u2 (R : List Bd.R) W h1 h2 hl => same_runs_any u1 u2 R R W h1 h2 hl hl)
  have CL := Lib.hid (fun W (hW : Below w.heap.size w W) hl => num_length_any v rs W (hv.all hW) hl)
  have CP := Lib.hid (fun W => poles_any h (Bd.len rs) W)
  have CT := Lib.hid (fun u (R : List Bd.R) p W hu hl => num_at_any u R p W hu hl)
  have CS := Lib.hid (fun W => sane_any W)
  have HCZ := Lib.hid (fun hz => chE_zero (rs := rs) (h := h) hz)
  have HAT := Lib.hid (fun hz p hp => chalk_at (rs := rs) (h := h) hz (p := p) hp)
  have HRL := Lib.hid (chR_len rs h)
  have HLR : Hid (Bd.valE rs = 0 → Bd.lenR rs = Bd.len rs) := Lib.hid (fun hz => by unfold Bd.lenR; rw [if_pos hz])
  have HPL : Hid (Bd.valE rs = 0 → Lf.polE h (Bd.len rs) = 0 → (Lf.polL h (Bd.len rs)).length ≤ 1000) := Lib.hid (fun hv hp => (pol_ok (Bd.len_valid hv).1 hp).2)
  obtain ⟨va, vc, rfl⟩ := hv.form
  have H0 := Lib.hid (And.intro (BlockAt.new w (hangA h) 23) (below_alloc2 (Below.refl w.heap.size w) (.cells (hangA h) 23)))
  clear hv
  go_enter Try.func6, Try.ntmps6
  by_cases hl : 100 < rs.length
  · have d1 : decide ((rs.length : Int) > 100) = true := decide_eq_true (by omega)
    have d2 : decide (100 < (rs.length : Int)) = true := decide_eq_true (by omega)
    have d3 : decide (100 < rs.length) = true := decide_eq_true hl
    go_wp2_with fail
    refine (CS.out _).mono ?_
    rintro e w9 ⟨rfl, hb1⟩
    have H9 := Lib.hid (below_step H0.out.2 hb1)
    clear hb1
    go_wp2
    go_ret
    exact ⟨rfl, H9.out⟩
  have d1 : decide ((rs.length : Int) > 100) = false := decide_eq_false (by omega)
  have d2 : decide (100 < (rs.length : Int)) = false := decide_eq_false (by omega)
  have d3 : decide (100 < rs.length) = false := decide_eq_false hl
  have hl2 : rs.length ≤ 1000 := by omega
  generalize chE rs h = RE at *
  generalize chR rs h = RR at *
  generalize Bd.lenR rs = LR at *
  generalize Bd.valE rs = VE at *
  generalize Lf.polL h (Bd.len rs) = P at *
  generalize Lf.polE h (Bd.len rs) = PE at *
  generalize Bd.len rs = n at *
  obtain ⟨hd, hs, hy, hr, hf⟩ := h
  have y0 : World.cell? _ _ = some (.int .i64 hd) := H0.out.1.cell 0
  have y1 : World.cell? _ _ = some (.int .i64 hs) := H0.out.1.cell 1
  have y2 : World.cell? _ _ = some (.int .i64 hy) := H0.out.1.cell 2
  have y3 : World.cell? _ _ = some (.int .i64 hr) := H0.out.1.cell 3
  have y4 : World.cell? _ _ = some (.int .i64 hf) := H0.out.1.cell 4
  go_wp2_with fail
  refine (CM.out _).mono ?_
  rintro e w1 ⟨rfl, hb1⟩
  have H1 := Lib.hid (And.intro (H0.out.1.below hb1 H0.out.1.lt) (below_step H0.out.2 hb1))
  clear hb1 H0 y0 y1 y2 y3 y4
  go_wp2_with fail
  refine (CA.out _ H1.out.2 hl2).mono ?_
  rintro e w2 ⟨x, rfl, ho, hb1⟩
  have H2 := Lib.hid (And.intro (H1.out.1.below hb1 H1.out.1.lt) (And.intro (below_step H1.out.2 hb1) ho.runs))
  obtain ⟨xa, xc, rfl⟩ := ho.runs.form
  clear hb1 H1 ho CA
  have y0 : World.cell? _ _ = some (.int .i64 hd) := H2.out.1.cell 0
  have y1 : World.cell? _ _ = some (.int .i64 hs) := H2.out.1.cell 1
  have y2 : World.cell? _ _ = some (.int .i64 hy) := H2.out.1.cell 2
  have y3 : World.cell? _ _ = some (.int .i64 hr) := H2.out.1.cell 3
  have y4 : World.cell? _ _ = some (.int .i64 hf) := H2.out.1.cell 4
  go_wp2_with fail
  refine (CO.out _).mono ?_
  rintro e w3 ⟨rfl, hb1⟩
  have H3 := Lib.hid (And.intro (H2.out.1.below hb1 H2.out.1.lt) (And.intro (below_step H2.out.2.1 hb1) (H2.out.2.2.all hb1)))
  clear hb1 H2 y0 y1 y2 y3 y4 CO
  go_wp2_with fail
  refine (CB.out _ H3.out.2.1 hl2).mono ?_
  rintro e w4 ⟨y, rfl, ho, hb1⟩
  have H4 := Lib.hid (And.intro (H3.out.1.below hb1 H3.out.1.lt) (And.intro (below_step H3.out.2.1 hb1) (And.intro (H3.out.2.2.all hb1) ho.runs)))
  obtain ⟨ya, yc, rfl⟩ := ho.runs.form
  clear hb1 H3 ho CB
  have CX1 := Lib.hid (CX.out (.slice xa RR.length xc) (.slice ya RR.length yc) RR w4 H4.out.2.2.1 H4.out.2.2.2 (by have := HRL.out; omega))
  go_wp2_with fail
  refine CX1.out.mono ?_
  rintro e w5 ⟨rfl, hb1⟩
  have H5 := Lib.hid (And.intro (H4.out.1.below hb1 H4.out.1.lt) (And.intro (below_step H4.out.2.1 hb1) (H4.out.2.2.1.all hb1)))
  clear hb1 H4 CX1 CX
  by_cases hE : RE = 0
  case neg =>
    have e1 : (RE == 0) = false := beq_eq_false_iff_ne.2 hE
    have e2 : (RE != 0) = true := by rw [bne, e1]; rfl
    clear HCZ HAT
    go_wp2_with fail
    refine (CS.out _).mono ?_
    rintro e w9 ⟨rfl, hb1⟩
    have H9 := Lib.hid (below_step H5.out.2.1 hb1)
    clear hb1
    go_wp2
    go_ret
    exact ⟨rfl, H9.out⟩
  obtain ⟨z1, z2, _⟩ := HCZ.out hE
  have HA2 := Lib.hid (HAT.out hE)
  have z3 := HLR.out z1
  have hpl := HPL.out z1 z2
  subst z3 hE z1 z2
  clear HCZ HAT HLR HPL
  go_wp2_with fail
  refine (CL.out _ H5.out.2.1 hl2).mono ?_
  rintro e w6 ⟨rfl, hb1⟩
  have H6 := Lib.hid (And.intro (H5.out.1.below hb1 H5.out.1.lt) (And.intro (below_step H5.out.2.1 hb1) (H5.out.2.2.all hb1)))
  clear hb1 H5 CL
  have y0 : World.cell? _ _ = some (.int .i64 hd) := H6.out.1.cell 0
  have y1 : World.cell? _ _ = some (.int .i64 hs) := H6.out.1.cell 1
  have y2 : World.cell? _ _ = some (.int .i64 hy) := H6.out.1.cell 2
  have y3 : World.cell? _ _ = some (.int .i64 hr) := H6.out.1.cell 3
  have y4 : World.cell? _ _ = some (.int .i64 hf) := H6.out.1.cell 4
  go_wp2_with fail
  refine (CM.out _).mono ?_
  rintro e w7 ⟨rfl, hb1⟩
  have H7 := Lib.hid (And.intro (below_step H6.out.2.1 hb1) (H6.out.2.2.all hb1))
  clear hb1 H6 y0 y1 y2 y3 y4 CM
  go_wp2_with fail
  refine (CP.out _).mono ?_
  rintro e W8 ⟨pa, pc, rfl, hpo, hb1⟩
  have H8 := Lib.hid (And.intro (below_step H7.out.1 hb1) (And.intro (H7.out.2.all hb1) (OwnI.ints hpo)))
  have HPT := Lib.hid (Ints.at (OwnI.ints hpo))
  clear hb1 H7 hpo CP
  go_wp2
  go_loopw [13] (fun t wr => ∃ k : Nat, k ≤ P.length ∧ t = .int .i64 k ∧ Hid (Below W8.heap.size W8 wr)) (fun t _ => P.length - (intOf t).toNat)
  case atStart => exact ⟨0, Nat.zero_le _, rfl, Lib.hid (Below.refl _ _)⟩
  case round =>
    obtain ⟨k, hk, rfl, hg⟩ := hrel
    by_cases hlt : k < P.length
    · have jd : decide (k < P.length) = true := decide_eq_true hlt
      obtain ⟨ob, oo, hoa, hob, hoc⟩ := HPT.out k hlt
      subst hoa
      have y0 := (hg.out.cell (p := ⟨ob, oo + k, none⟩) hob).trans hoc
      rw [show P.getD k 0 = P[k] by simp [hlt]] at y0
      obtain ⟨a1, a2⟩ := HA2.out P[k] (List.getElem_mem hlt)
      have CT1 := Lib.hid (CT.out (.slice xa RR.length xc) RR P[k] wr (H8.out.2.1.all hg.out) (by have := HRL.out; omega))
      rw [a1] at CT1
      clear a1 hob hoc
      generalize P[k] = p at *
      generalize Bd.atM RR p = mk at *
      go_wp2_with fail
      refine CT1.out.mono ?_
      rintro e w9 ⟨rfl, hb1⟩
      have H9 := Lib.hid (below_step hg.out (below_alloc2 hb1 (.cells #[.int .i64 mk.t, .int .i64 mk.s, .int .i64 mk.f] 58)))
      clear hb1 CT1 hg y0
      go_wp2
      go_roundw
      case rel => exact ⟨k + 1, by omega, by go_num, Lib.hid H9.out⟩
      case measure => simp [intOf]; omega
    · obtain rfl : k = P.length := by omega
      have jd : decide (P.length < P.length) = false := decide_eq_false (Nat.lt_irrefl _)
      have HB8 := Lib.hid (below_step H8.out.1 hg.out)
      clear hg
      go_wp2_with fail
      refine (CS.out _).mono ?_
      rintro e w9 ⟨rfl, hb1⟩
      have H9 := Lib.hid (below_step HB8.out hb1)
      clear hb1
      go_wp2
      go_ret
      exact ⟨rfl, H9.out⟩
end Go.Proofs.Ytabfcnfddemblaa.Lo
