/- A band with the marks of its poles: of the program. -/
import Derived.Test.YtabfcnfddemblaaCk1
import Derived.Test.YtabfcnfddemblaaLfS
namespace Go.Proofs.Ytabfcnfddemblaa.Lo
open Go.RowKit

theorem join_no {a b : List Bd.R} {A B : List Bd.M} (ha : Bd.Is a A) (hb : Bd.Is b B) (h : 40 < Bd.rc (A ++ B)) : Bd.joinR a b = [] := by
  obtain ⟨a1, a2, rfl⟩ := ha
  obtain ⟨b1, b2, rfl⟩ := hb
  have hp := Bd.pos_append.2 ⟨Bd.valE_pos a1, Bd.valE_pos b1⟩
  have h1 := Bd.nrm_rc (Bd.norm_nrm hp)
  rw [Bd.norm_exp hp, Bd.exp_append] at h1
  unfold Bd.joinR
  rw [if_pos (Bd.bothE_zero.2 ⟨a1, b1⟩)]
  exact (Bd.told_large (.inl (by omega))).2
/-- What chalking a band answers. -/
def chE (rs : List Bd.R) (h : Lf.H) : Int := if Bd.valE rs ≠ 0 then Bd.valE rs else if Lf.polE h (Bd.len rs) ≠ 0 then Lf.polE h (Bd.len rs) else if 40 < Bd.rc (Bd.ch (Bd.exp rs) 0 (Lf.polL h (Bd.len rs))) then 4 else 0
def chR (rs : List Bd.R) (h : Lf.H) : List Bd.R := if chE rs h = 0 then Bd.norm (Bd.ofM (Bd.ch (Bd.exp rs) 0 (Lf.polL h (Bd.len rs)))) else []
theorem chE_val {rs : List Bd.R} {h : Lf.H} (hv : Bd.valE rs ≠ 0) : chE rs h = Bd.valE rs ∧ chR rs h = [] := by
  have h1 : chE rs h = Bd.valE rs := by unfold chE; rw [if_pos hv]
  exact ⟨h1, by unfold chR; rw [if_neg (by rw [h1]; exact hv)]⟩
theorem chE_pol {rs : List Bd.R} {h : Lf.H} (hv : Bd.valE rs = 0) (hp : Lf.polE h (Bd.len rs) ≠ 0) : chE rs h = Lf.polE h (Bd.len rs) ∧ chR rs h = [] := by
  have h1 : chE rs h = Lf.polE h (Bd.len rs) := by unfold chE; rw [if_neg (by rw [hv]; decide), if_pos hp]
  exact ⟨h1, by unfold chR; rw [if_neg (by rw [h1]; exact hp)]⟩
theorem chE_big {rs : List Bd.R} {h : Lf.H} (hv : Bd.valE rs = 0) (hp : Lf.polE h (Bd.len rs) = 0) (hc : 40 < Bd.rc (Bd.ch (Bd.exp rs) 0 (Lf.polL h (Bd.len rs)))) : chE rs h = 4 ∧ chR rs h = [] := by
  have h1 : chE rs h = 4 := by unfold chE; rw [if_neg (by rw [hv]; decide), if_neg (by rw [hp]; decide), if_pos hc]
  exact ⟨h1, by unfold chR; rw [if_neg (by rw [h1]; decide)]⟩
theorem pl_sorted {h : Lf.H} (hd : 1 ≤ h.d) (k : Nat) : (Lf.pl h k).Pairwise (· < ·) := by
  unfold Lf.pl
  rw [List.pairwise_map]
  refine List.pairwise_lt_range.imp fun {a b} hab => ?_
  have h1 : 2 * h.d * (a : Int) < 2 * h.d * (b : Int) := Int.mul_lt_mul_of_pos_left (by omega) (by omega)
  omega
/-- Poles lie in order within the band. -/
theorem pol_ok {h : Lf.H} {n : Int} (hn : 0 ≤ n) (hp : Lf.polE h n = 0) : Bd.okP n 0 (Lf.polL h n) ∧ (Lf.polL h n).length ≤ 1000 := by
  have hc : (Lf.vH h && Lf.rng 0 1000000 n) = true := by
    apply Decidable.byContradiction
    intro hc
    rw [(pol_bad (by simpa using hc)).1] at hp
    cases hp
  have hk : Lf.np h n ≤ 1000 := by
    apply Decidable.byContradiction
    intro hk
    rw [(pol_many hc (by omega)).1] at hp
    cases hp
  rw [(pol_few hc hk).2]
  rw [Bool.and_eq_true] at hc
  obtain ⟨⟨d1, d2⟩, ⟨s1, s2⟩, _⟩ := Lf.vH_iff.1 hc.1
  refine ⟨Bd.okP_of hn (fun p hp => ?_) (pl_sorted d1 _), by rw [Lf.pl_len]; exact hk⟩
  unfold Lf.pl at hp
  obtain ⟨i, hi, rfl⟩ := List.mem_map.1 hp
  rw [List.mem_range] at hi
  have h1 := (Lf.np_iff d1 i).1 hi
  have h2 : 0 ≤ 2 * h.d * (i : Int) := Int.mul_nonneg (by omega) (by omega)
  omega
theorem chE_ok {rs : List Bd.R} {h : Lf.H} (hv : Bd.valE rs = 0) (hp : Lf.polE h (Bd.len rs) = 0) (hc : Bd.rc (Bd.ch (Bd.exp rs) 0 (Lf.polL h (Bd.len rs))) ≤ 40) : chE rs h = 0 ∧ Bd.Is (chR rs h) (Bd.ch (Bd.exp rs) 0 (Lf.polL h (Bd.len rs))) := by
  have h1 : chE rs h = 0 := by unfold chE; rw [if_neg (by rw [hv]; decide), if_neg (by rw [hp]; decide), if_neg (by omega)]
  have hn := Bd.len_exp (Bd.valE_pos hv)
  have hb := Bd.len_valid hv
  have ho := (pol_ok hb.1 hp).1
  rw [hn] at ho
  refine ⟨h1, ?_⟩
  unfold chR
  rw [if_pos h1]
  rw [← hn] at ho
  have hl := Bd.ch_len (E := Bd.exp rs) (Int.le_refl 0) (by rw [← hn]; exact ho)
  exact Bd.ofM_is (Bd.ch_ok (Bd.exp_okM hv) (Int.le_refl 0) (by rw [← hn]; exact ho)) hc (by rw [hl]; omega)
set_option maxRecDepth 20000 in
set_option maxHeartbeats 4000000 in
theorem chalked_any (v : Value) (rs : List Bd.R) (f p : Int) (w : World) (hv : Runs w v rs) (hV : Bd.valE rs = 0) (h0 : 0 ≤ f) (h1 : f ≤ p) (h2 : p < Bd.len rs) :
    Calls Try.prog 67 #[v, .int .i64 f, .int .i64 p] w fun e w' => ∃ x, e = .returned (.tuple #[x, .int .i64 (if 40 < Bd.rc (Bd.pcM (Bd.exp rs) f p) then 4 else 0)]) ∧ (Bd.rc (Bd.pcM (Bd.exp rs) f p) ≤ 40 → ∃ r a c, x = .slice a r.length c ∧ Bd.Is r (Bd.pcM (Bd.exp rs) f p) ∧ Own w.heap.size w' x r) ∧ Below w.heap.size w w' := by
  have hb := Bd.len_valid hV
  have h40 := (Bd.valE_zero hV).1
  obtain ⟨p1, p2, p3, p4⟩ := Bd.piece_ok hV h0 h1 h2
  have CS := Lib.hid (num_slice_any v rs f (p + 1) w hv (by omega))
  rw [p1] at CS
  have CF := Lib.hid (fun x W hx => num_flaw_any x (Bd.sliR rs f (p + 1)) (p - f) (p - f + 1) 1 W hx (by omega))
  rw [p3] at CF
  have HI := Lib.hid p4
  obtain ⟨va, vc, rfl⟩ := hv.form
  clear hv hV p1 p2 p3 p4 h40
  generalize Bd.chaR (Bd.sliR rs f (p + 1)) (p - f) (p - f + 1) (Bd.chFOk 1) (Bd.chF 1) = T at *
  generalize Bd.sliR rs f (p + 1) = Q at *
  generalize Bd.pcM (Bd.exp rs) f p = X at *
  have HIF : Hid ((if 40 < Bd.rc X then (4 : Int) else 0) = if 40 < Bd.rc X then 4 else 0) := Lib.hid rfl
  generalize hE : (if 40 < Bd.rc X then (4 : Int) else 0) = E at *
  have g1 : IntKind.i64.wrap (p + 1) = p + 1 := IntWalk.i64_in _ ⟨by omega, by omega⟩
  have g2 : IntKind.i64.wrap (p - f) = p - f := IntWalk.i64_in _ ⟨by omega, by omega⟩
  have g3 : IntKind.i64.wrap (p - f + 1) = p - f + 1 := IntWalk.i64_in _ ⟨by omega, by omega⟩
  clear HIF hE
  go_enter Try.func67, Try.ntmps67
  go_wp2_with fail
  refine CS.out.mono ?_
  rintro e w1 ⟨x, rfl, ho, hb1⟩
  have CF1 := Lib.hid (CF.out x w1 ho.runs)
  obtain ⟨xa, xc, rfl⟩ := ho.runs.form
  have HB := Lib.hid hb1
  clear ho hb1 CS CF
  go_wp2_with fail
  refine CF1.out.mono ?_
  rintro e w2 ⟨y, rfl, ho, hb2⟩
  have H2 := Lib.hid (And.intro (ho.mono HB.out.size) (below_step HB.out hb2))
  obtain ⟨ya, yc, rfl⟩ := ho.runs.form
  clear ho hb2 CF1 HB
  go_wp2
  refine bodyPost_ret (results_tmp2 rfl _ _ _) rfl ?_
  exact ⟨_, rfl, fun hr => ⟨T, ya, yc, rfl, HI.out hr, H2.out.1⟩, H2.out.2⟩
set_option maxRecDepth 20000 in
set_option maxHeartbeats 8000000 in
theorem chalk_any (v : Value) (rs : List Bd.R) (h : Lf.H) (w : World) (hv : Runs w v rs) (hl : rs.length ≤ 1000) :
    Calls Try.prog 30 #[v, hangV h] w fun e w' => ∃ x, e = .returned (.tuple #[x, .int .i64 (chE rs h)]) ∧ Own w.heap.size w' x (chR rs h) ∧ Below w.heap.size w w' := by
  have CL := Lib.hid (fun W (hW : Below w.heap.size w W) => num_length_any v rs W (hv.all hW) hl)
  have CP := Lib.hid (fun n W => poles_any h n W)
  have CC := Lib.hid (fun f p W (hW : Below w.heap.size w W) => chalked_any v rs f p W (hv.all hW))
  have CS := Lib.hid (fun f t W (hW : Below w.heap.size w W) => num_slice_any v rs f t W (hv.all hW) hl)
  have CJ := Lib.hid (fun v u rs qs W hv hu h1 h2 => num_join_any v u rs qs W hv hu h1 h2)
  obtain ⟨va, vc, rfl⟩ := hv.form
  have HB0 := Lib.hid (And.intro (BlockAt.new w (hangA h) HangT) (below_alloc2 (Below.refl w.heap.size w) (.cells (hangA h) HangT)))
  clear hv
  go_enter Try.func30, Try.ntmps30
  by_cases hV : Bd.valE rs = 0
  case neg =>
    have HN := Lib.hid (chE_val (h := h) hV)
    rw [HN.out.1]
    have hd : (Bd.valE rs == 0) = false := beq_eq_false_iff_ne.2 hV
    have hd2 : (Bd.valE rs != 0) = true := by rw [bne, hd]; rfl
    generalize Bd.valE rs = V at *
    clear hV CP CC CS CJ
    go_wp2_with fail
    refine (CL.out _ HB0.out.2).mono ?_
    rintro e w1 ⟨rfl, hb1⟩
    have HB1 := Lib.hid (below_step HB0.out.2 hb1)
    clear hb1 CL HB0
    go_wp2
    refine bodyPost_ret (results_tmp2 rfl _ _ _) rfl ?_
    exact ⟨(.slice none 0 0), rfl, by rw [HN.out.2]; exact Own.nil _ _, HB1.out⟩
  have hlen := Bd.len_valid hV
  have hln : Bd.lenR rs = Bd.len rs := by unfold Bd.lenR; rw [if_pos hV]
  rw [hln, hV] at CL
  clear hln
  by_cases hP : Lf.polE h (Bd.len rs) = 0
  case neg =>
    have HN := Lib.hid (chE_pol hV hP)
    rw [HN.out.1]
    have hd : (Lf.polE h (Bd.len rs) == 0) = false := beq_eq_false_iff_ne.2 hP
    have hd2 : (Lf.polE h (Bd.len rs) != 0) = true := by rw [bne, hd]; rfl
    have CP1 := Lib.hid (fun W => CP.out (Bd.len rs) W)
    generalize Lf.polE h (Bd.len rs) = V at *
    generalize Bd.len rs = n at *
    clear hV hP CC CS CJ CP
    go_wp2_with fail
    refine (CL.out _ HB0.out.2).mono ?_
    rintro e w1 ⟨rfl, hb1⟩
    have HB1 := Lib.hid (And.intro (HB0.out.1.below hb1 HB0.out.1.lt) (below_step HB0.out.2 hb1))
    clear hb1 CL HB0
    have x0 : World.cell? _ _ = some (.int .i64 h.d) := HB1.out.1.cell 0
    have x1 : World.cell? _ _ = some (.int .i64 h.s) := HB1.out.1.cell 1
    have x2 : World.cell? _ _ = some (.int .i64 h.y) := HB1.out.1.cell 2
    have x3 : World.cell? _ _ = some (.int .i64 h.r) := HB1.out.1.cell 3
    have x4 : World.cell? _ _ = some (.int .i64 h.f) := HB1.out.1.cell 4
    go_wp2_with fail
    refine (CP1.out _).mono ?_
    rintro e w2 ⟨pa, pc, rfl, _, hb2⟩
    have HB2 := Lib.hid (below_step HB1.out.2 hb2)
    clear hb2 CP1 HB1 x0 x1 x2 x3 x4
    go_wp2
    refine bodyPost_ret (results_tmp2 rfl _ _ _) rfl ?_
    exact ⟨(.slice none 0 0), rfl, by rw [HN.out.2]; exact Own.nil _ _, HB2.out⟩
  obtain ⟨hok, hpl⟩ := pol_ok hlen.1 hP
  have HBIG := Lib.hid (fun hc => chE_big (h := h) hV hP hc)
  have HOK := Lib.hid (fun hc => chE_ok (h := h) hV hP hc)
  have HPC := Lib.hid (fun f p h0 h1 h2 => (Bd.piece_ok (rs := rs) (f := f) (p := p) hV h0 h1 h2).1)
  have hEn := Bd.len_exp (Bd.valE_pos hV)
  have CC1 := Lib.hid (fun f p W hW => CC.out f p W hW hV)
  have HCL := Lib.hid (Bd.ch_len (E := Bd.exp rs) (Int.le_refl 0) (by rw [← hEn]; exact hok))
  have HSL : Hid (∀ f : Int, 0 ≤ f → f ≤ Bd.len rs → Bd.sliE rs f (Bd.len rs) = 0 ∧ Bd.Is (Bd.sliR rs f (Bd.len rs)) (((Bd.exp rs).take (Bd.len rs).toNat).drop f.toNat)) := Lib.hid (fun f h0 h1 => ⟨Bd.sliE_ok hV h0 h1 (Int.le_refl _), Bd.is_slice (Bd.sliE_ok hV h0 h1 (Int.le_refl _))⟩)
  have HOKP := Lib.hid hok
  have CP1 := Lib.hid (CP.out (Bd.len rs))
  rw [hP] at CP1
  generalize chE rs h = RE at *
  generalize chR rs h = RR at *
  generalize Lf.polL h (Bd.len rs) = P at *
  have HEN := Lib.hid hEn
  clear hV hP CC CP hok HPC hEn
  generalize hgE : Bd.exp rs = E at *
  generalize hgn : Bd.len rs = n at *
  clear hgE hgn
  go_wp2_with fail
  refine (CL.out _ HB0.out.2).mono ?_
  rintro e w1 ⟨rfl, hb1⟩
  have HB1 := Lib.hid (And.intro (HB0.out.1.below hb1 HB0.out.1.lt) (below_step HB0.out.2 hb1))
  clear hb1 CL HB0
  have x0 : World.cell? _ _ = some (.int .i64 h.d) := HB1.out.1.cell 0
  have x1 : World.cell? _ _ = some (.int .i64 h.s) := HB1.out.1.cell 1
  have x2 : World.cell? _ _ = some (.int .i64 h.y) := HB1.out.1.cell 2
  have x3 : World.cell? _ _ = some (.int .i64 h.r) := HB1.out.1.cell 3
  have x4 : World.cell? _ _ = some (.int .i64 h.f) := HB1.out.1.cell 4
  go_wp2_with fail
  refine (CP1.out _).mono ?_
  rintro e W2 ⟨pa, pc, rfl, hpo, hb2⟩
  have HB2 := Lib.hid (And.intro (OwnI.ints hpo) (below_step HB1.out.2 hb2))
  clear hpo hb2 CP1 HB1 x0 x1 x2 x3 x4
  go_wp2
  go_loopw [9, 10, 35] (fun s f t wr => ∃ (k : Nat) (fr : Int) (a : Option Addr) (c : Nat) (q : List Bd.R), k ≤ P.length ∧ s = .slice a q.length c ∧ f = .int .i64 fr ∧ t = .int .i64 k ∧ (0 ≤ fr ∧ fr ≤ n ∧ q.length ≤ 40) ∧ Hid ((∃ A, Bd.Is q A ∧ A ++ Bd.ch E fr (P.drop k) = Bd.ch E 0 P) ∧ Bd.okP n fr (P.drop k)) ∧ Hid (Own W2.heap.size wr (.slice a q.length c) q ∧ Below W2.heap.size W2 wr)) (fun _ _ t _ => P.length - (intOf t).toNat)
  case atStart => exact ⟨0, 0, none, 0, [], Nat.zero_le _, rfl, rfl, rfl, ⟨Int.le_refl _, hlen.1, by simp⟩, Lib.hid ⟨⟨[], ⟨by rfl, by simp [Bd.nrm], rfl⟩, rfl⟩, HOKP.out⟩, Lib.hid ⟨Own.nil _ _, Below.refl _ _⟩⟩
  case round =>
    obtain ⟨k, fr, a, c, q, hk, rfl, rfl, rfl, ⟨hf0, hfn, hq40⟩, hg, hG⟩ := hrel
    by_cases hlt : k < P.length
    · obtain ⟨⟨A, hA1, hA2⟩, hA3⟩ := hg.out
      rw [List.drop_eq_getElem_cons hlt] at hA2 hA3
      obtain ⟨hp1, hp2, hA4⟩ := hA3
      obtain ⟨ob, oo, hoa, hob, hoc⟩ := Ints.at HB2.out.1 k hlt
      subst hoa
      have y0 := (hG.out.2.cell (p := ⟨ob, oo + k, none⟩) hob).trans hoc
      rw [show P.getD k 0 = P[k] by simp [hlt]] at y0
      have CC2 := Lib.hid (CC1.out fr P[k] wr (below_step HB2.out.2 hG.out.2) hf0 hp1 hp2)
      rw [Bd.ch_pc] at hA2
      have HA := Lib.hid (And.intro hA1 (And.intro hA2 hA4))
      have HBG1 : Hid (40 < Bd.rc (Bd.pcM E fr P[k]) → 40 < Bd.rc (Bd.ch E 0 P)) := Lib.hid (fun hc => by
        rw [← hA2]
        have h1 := Bd.rc_left (Bd.pcM E fr P[k]) (Bd.ch E (P[k] + 1) (P.drop (k + 1)))
        have h2 := Bd.rc_right A (Bd.pcM E fr P[k] ++ Bd.ch E (P[k] + 1) (P.drop (k + 1)))
        omega)
      have HBG2 : Hid (40 < Bd.rc (A ++ Bd.pcM E fr P[k]) → 40 < Bd.rc (Bd.ch E 0 P)) := Lib.hid (fun hc => by
        rw [← hA2, ← List.append_assoc]
        have h1 := Bd.rc_left (A ++ Bd.pcM E fr P[k]) (Bd.ch E (P[k] + 1) (P.drop (k + 1)))
        omega)
      have HLN : Hid (A.length + (Bd.pcM E fr P[k]).length ≤ 1000000) := Lib.hid (by
        have h1 := HCL.out
        rw [← hA2, List.length_append, List.length_append] at h1
        have h2 := HEN.out
        omega)
      clear hg hA1 hA2 hA4 hob hoc
      generalize P[k] = p at *
      have hkd : decide (k < P.length) = true := decide_eq_true hlt
      have g1 : IntKind.i64.wrap (p + 1) = p + 1 := IntWalk.i64_in _ ⟨by omega, by omega⟩
      go_wp2_with fail
      refine CC2.out.mono ?_
      rintro e w3 ⟨x, rfl, hx, hb3⟩
      have H3 := Lib.hid (And.intro (hG.out.1.all hb3) (below_step hG.out.2 hb3))
      have HX := Lib.hid hx
      have hsz3 := hG.out.2.size
      clear hb3 hx CC2 hG y0
      by_cases hc : 40 < Bd.rc (Bd.pcM E fr p)
      · rw [if_pos hc]
        have HBB := Lib.hid (HBIG.out (HBG1.out hc))
        clear HX HBG1 HBG2 HLN HA
        have HB4 := Lib.hid (below_step HB2.out.2 H3.out.2)
        go_wp2
        refine bodyPost_ret (results_tmp2 rfl _ _ _) rfl ?_
        exact ⟨(.slice none 0 0), congrArg (fun V => Ending.returned (Value.tuple #[Value.slice none 0 0, Value.int IntKind.i64 V])) HBB.out.1.symm, by rw [HBB.out.2]; exact Own.nil _ _, HB4.out⟩
      rw [if_neg hc]
      obtain ⟨r, xa, xc, rfl, hr, hxo⟩ := HX.out (by omega)
      have hr40 := (Bd.valE_zero hr.1).1
      have CJ1 := Lib.hid (CJ.out (.slice a q.length c) (.slice xa r.length xc) q r w3 H3.out.1.runs hxo.runs (by omega) (by omega))
      obtain ⟨j1, j2⟩ := Bd.join_ok HA.out.1 hr HLN.out
      rw [j1] at CJ1
      have HJ := Lib.hid j2
      clear hr j1 j2 hxo HX HBG1 HLN
      go_wp2_with fail
      refine CJ1.out.mono ?_
      rintro e w4 ⟨y, rfl, hy, hb4⟩
      have H4 := Lib.hid (And.intro (hy.mono H3.out.2.size) (below_step H3.out.2 hb4))
      obtain ⟨ya, yc, rfl⟩ := hy.runs.form
      clear hb4 hy CJ1 H3
      by_cases hc2 : 40 < Bd.rc (A ++ Bd.pcM E fr p)
      · rw [if_pos hc2]
        have HBB := Lib.hid (HBIG.out (HBG2.out hc2))
        clear HBG2 HA HJ
        have HB5 := Lib.hid (below_step HB2.out.2 H4.out.2)
        go_wp2
        refine bodyPost_ret (results_tmp2 rfl _ _ _) rfl ?_
        exact ⟨(.slice none 0 0), congrArg (fun V => Ending.returned (Value.tuple #[Value.slice none 0 0, Value.int IntKind.i64 V])) HBB.out.1.symm, by rw [HBB.out.2]; exact Own.nil _ _, HB5.out⟩
      rw [if_neg hc2]
      have hj40 := (Bd.valE_zero (HJ.out (by omega)).1).1
      have HREL : Hid ((∃ A, Bd.Is (Bd.joinR q r) A ∧ A ++ Bd.ch E (p + 1) (P.drop (k + 1)) = Bd.ch E 0 P) ∧ Bd.okP n (p + 1) (P.drop (k + 1))) := Lib.hid ⟨⟨_, HJ.out (by omega), by rw [List.append_assoc]; exact HA.out.2.1⟩, HA.out.2.2⟩
      clear HBG2 HA HJ
      generalize Bd.joinR q r = q2 at *
      go_wp2
      go_roundw
      case rel => exact ⟨k + 1, p + 1, ya, yc, q2, by omega, rfl, by go_num, by go_num, ⟨by omega, by omega, hj40⟩, Lib.hid HREL.out, Lib.hid H4.out⟩
      case measure => simp [intOf]; omega
    · obtain rfl : k = P.length := by omega
      obtain ⟨⟨A, hA1, hA2⟩, hA3⟩ := hg.out
      rw [List.drop_length] at hA2
      obtain ⟨s1, s2⟩ := HSL.out fr hf0 hfn
      have hdr : (E.take n.toNat).drop fr.toNat = E.drop fr.toNat := by rw [List.take_of_length_le (by have := HEN.out; omega)]
      rw [hdr] at s2
      have CS1 := Lib.hid (CS.out fr n wr (below_step HB2.out.2 hG.out.2))
      rw [s1] at CS1
      have HA := Lib.hid (And.intro hA1 (And.intro (show A ++ E.drop fr.toNat = Bd.ch E 0 P from hA2) s2))
      have HLN : Hid (A.length + (E.drop fr.toNat).length ≤ 1000000) := Lib.hid (by
        have h1 := HCL.out
        rw [← HA.out.2.1, List.length_append] at h1
        have h2 := HEN.out
        omega)
      have h40 := (Bd.valE_zero s2.1).1
      clear hg hA1 hA2 hA3 s1 s2 hdr CS
      generalize Bd.sliR rs fr n = r at *
      have hkd : decide (P.length < P.length) = false := decide_eq_false (Nat.lt_irrefl _)
      go_wp2_with fail
      refine CS1.out.mono ?_
      rintro e w3 ⟨x, rfl, hx, hb3⟩
      have H3 := Lib.hid (And.intro (hG.out.1.all hb3) (below_step hG.out.2 hb3))
      have CJ1 := Lib.hid (CJ.out (.slice a q.length c) x q r w3 H3.out.1.runs hx.runs (by omega) (by omega))
      obtain ⟨xa, xc, rfl⟩ := hx.runs.form
      have hsz3 := HB2.out.2.size
      obtain ⟨j1, j2⟩ := Bd.join_ok HA.out.1 HA.out.2.2 HLN.out
      have HJ := Lib.hid j2
      have HRES : Hid ((if 40 < Bd.rc (A ++ E.drop fr.toNat) then (4 : Int) else 0) = RE ∧ Bd.joinR q r = RR) := Lib.hid (by
        by_cases hc : 40 < Bd.rc (A ++ E.drop fr.toNat)
        · rw [if_pos hc]
          have h1 := join_no HA.out.1 HA.out.2.2 hc
          rw [HA.out.2.1] at hc
          have h2 := HBIG.out hc
          exact ⟨h2.1.symm, by rw [h1, h2.2]⟩
        · rw [if_neg hc]
          have h1 := HJ.out (by omega)
          rw [HA.out.2.1] at hc h1
          have h2 := HOK.out (by omega)
          exact ⟨h2.1.symm, Bd.is_uniq h1 h2.2⟩)
      rw [j1, HRES.out.1] at CJ1
      clear j1 j2 hx hb3 CS1 hG
      go_wp2_with fail
      refine CJ1.out.mono ?_
      rintro e w4 ⟨y, rfl, hy, hb4⟩
      have H4 := Lib.hid (And.intro (hy.mono (Nat.le_trans hsz3 H3.out.2.size)) (below_step HB2.out.2 (below_step H3.out.2 hb4)))
      obtain ⟨ya, yc, rfl⟩ := hy.runs.form
      clear hb4 hy CJ1 H3
      have H5 := Lib.hid (show Own w.heap.size w4 (.slice ya (Bd.joinR q r).length yc) RR from by have h1 := H4.out.1; rwa [HRES.out.2] at h1 ⊢)
      clear HA HJ
      go_wp2
      refine bodyPost_ret (results_tmp2 rfl _ _ _) rfl ?_
      exact ⟨_, rfl, H5.out, H4.out.2⟩
end Go.Proofs.Ytabfcnfddemblaa.Lo
