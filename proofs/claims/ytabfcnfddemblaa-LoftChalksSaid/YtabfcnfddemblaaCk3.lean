/- A band with the marks of its poles: of the reference. -/
import Derived.Test.YtabfcnfddemblaaCk2
namespace Go.Proofs.Ytabfcnfddemblaa.Lo
open Go.RowKit

theorem Bd.run_at {rs : List Bd.R} (hp : Bd.pos rs) {i : Nat} (hi : i < rs.length) {p : Int} (h1 : Bd.len (rs.take i) ≤ p) (h2 : p < Bd.len (rs.take (i + 1))) : (Bd.exp rs)[p.toNat]? = some rs[i].m := by
  have e : Bd.exp rs = Bd.exp (rs.take i) ++ Bd.exp (rs.drop i) := by rw [← Bd.exp_append, List.take_append_drop]
  have h3 := Bd.len_exp (Bd.pos_take hp i)
  rw [Bd.len_take_succ hi] at h2
  rw [e, drop_run hi, List.getElem?_append_right (by omega)]
  show (List.replicate rs[i].l.toNat rs[i].m ++ Bd.exp (rs.drop (i + 1)))[_]? = _
  rw [List.getElem?_append_left (by rw [List.length_replicate]; omega), List.getElem?_replicate, if_pos (by omega)]
theorem Bd.run_seg {rs : List Bd.R} (hp : Bd.pos rs) {i : Nat} (hi : i < rs.length) {f j : Int} (h1 : Bd.len (rs.take i) ≤ f) (h2 : f ≤ j) (h3 : j ≤ Bd.len (rs.take (i + 1))) : ((Bd.exp rs).take j.toNat).drop f.toNat = List.replicate (j - f).toNat rs[i].m := by
  have h0 := (Bd.len_take_le hp i).1
  apply List.ext_getElem?
  intro k
  rw [List.getElem?_drop, List.getElem?_take, List.getElem?_replicate]
  by_cases c : k < (j - f).toNat
  · rw [if_pos c, if_pos (by omega)]
    have h4 := Bd.run_at hp hi (p := f + k) (by omega) (by omega)
    rw [← h4]
    congr 1
    omega
  · rw [if_neg c, if_neg (by omega)]
/-- A pole's step within a run. -/
theorem Bd.ck_step {rs : List Bd.R} (hp : Bd.pos rs) {i : Nat} (hi : i < rs.length) {f p : Int} {ps : List Int} {o : List Bd.R} {X : List Bd.M} (ho : Bd.pos o) (h1 : Bd.len (rs.take i) ≤ f) (h2 : f ≤ p) (h3 : p < Bd.len (rs.take (i + 1)))
    (hX : Bd.exp o ++ Bd.ch (Bd.exp rs) f (p :: ps) = X) :
    (f < p → Bd.pos ((o ++ [⟨p - f, rs[i].m⟩]) ++ [⟨1, Bd.chF 1 rs[i].m⟩]) ∧ Bd.exp ((o ++ [⟨p - f, rs[i].m⟩]) ++ [⟨1, Bd.chF 1 rs[i].m⟩]) ++ Bd.ch (Bd.exp rs) (p + 1) ps = X) ∧
    (f = p → Bd.pos (o ++ [⟨1, Bd.chF 1 rs[i].m⟩]) ∧ Bd.exp (o ++ [⟨1, Bd.chF 1 rs[i].m⟩]) ++ Bd.ch (Bd.exp rs) (p + 1) ps = X) := by
  have h4 := Bd.run_seg hp hi h1 h2 (by omega)
  have h5 := Bd.run_at hp hi (p := p) (by omega) h3
  have h6 : (Bd.exp rs).getD p.toNat default = rs[i].m := by rw [List.getD_eq_getElem?_getD, h5]; rfl
  rw [Bd.ch_pc] at hX
  unfold Bd.pcM at hX
  rw [h4, h6] at hX
  have h1p : ∀ m : Bd.M, Bd.pos [⟨1, m⟩] := fun m r hr => by
    rw [List.mem_singleton] at hr
    subst hr
    exact (by decide : (0 : Int) < 1)
  have h1e : ∀ m : Bd.M, Bd.exp [⟨1, m⟩] = [m] := fun m => by rw [Bd.exp_one]; rfl
  refine ⟨fun h => ⟨Bd.pos_append.2 ⟨Bd.pos_append.2 ⟨ho, fun r hr => ?_⟩, h1p _⟩, ?_⟩, fun h => ⟨Bd.pos_append.2 ⟨ho, h1p _⟩, ?_⟩⟩
  · rw [List.mem_singleton] at hr
    subst hr
    show 0 < p - f
    omega
  · rw [Bd.exp_append, Bd.exp_append, h1e, Bd.exp_one, ← hX]
    try simp only [List.append_assoc]
  · rw [Bd.exp_append, h1e, ← hX]
    subst h
    try simp
/-- The rest of a run. -/
theorem Bd.ck_end {rs : List Bd.R} (hp : Bd.pos rs) {i : Nat} (hi : i < rs.length) {f t : Int} {ps : List Int} {o : List Bd.R} {X : List Bd.M} (ho : Bd.pos o) (h1 : Bd.len (rs.take i) ≤ f) (h2 : f < t) (h3 : t = Bd.len (rs.take (i + 1))) (hk : Bd.okP (Bd.len rs) t ps)
    (hX : Bd.exp o ++ Bd.ch (Bd.exp rs) f ps = X) : Bd.pos (o ++ [⟨t - f, rs[i].m⟩]) ∧ Bd.exp (o ++ [⟨t - f, rs[i].m⟩]) ++ Bd.ch (Bd.exp rs) t ps = X := by
  have h0 := (Bd.len_take_le hp i).1
  rw [Bd.len_exp hp] at hk
  rw [Bd.ch_skip (by omega) (by omega) hk, Bd.run_seg hp hi h1 (by omega) (by omega)] at hX
  refine ⟨Bd.pos_append.2 ⟨ho, fun r hr => ?_⟩, ?_⟩
  · rw [List.mem_singleton] at hr
    subst hr
    show 0 < t - f
    omega
  · rw [Bd.exp_append, Bd.exp_one, List.append_assoc]
    exact hX
set_option maxRecDepth 20000 in
set_option maxHeartbeats 16000000 in
theorem rchalk_any (v : Value) (rs : List Bd.R) (h : Lf.H) (w : World) (hv : Runs w v rs) (hl : rs.length ≤ 1000) :
    Calls Try.prog 31 #[v, hangV h] w fun e w' => ∃ x, e = .returned (.tuple #[x, .int .i64 (chE rs h)]) ∧ Own w.heap.size w' x (chR rs h) ∧ Below w.heap.size w w' := by
  have CL := Lib.hid (fun W (hW : Below w.heap.size w W) => ref_length_any v rs W (hv.all hW) hl)
  have CP := Lib.hid (fun n W => rpoles_any h n W)
  have HV0 := Lib.hid hv
  obtain ⟨va, vc, rfl⟩ := hv.form
  have HB0 := Lib.hid (And.intro (BlockAt.new w (hangA h) RHangT) (below_alloc2 (Below.refl w.heap.size w) (.cells (hangA h) RHangT)))
  clear hv
  go_enter Try.func31, Try.ntmps31
  by_cases hV : Bd.valE rs = 0
  case neg =>
    have HN := Lib.hid (chE_val (h := h) hV)
    rw [HN.out.1]
    have hd : (Bd.valE rs == 0) = false := beq_eq_false_iff_ne.2 hV
    have hd2 : (Bd.valE rs != 0) = true := by rw [bne, hd]; rfl
    generalize Bd.valE rs = V at *
    clear hV CP
    go_wp2_with fail
    refine (CL.out _ HB0.out.2).mono ?_
    rintro e w1 ⟨rfl, hb1⟩
    have HB1 := Lib.hid (below_step HB0.out.2 hb1)
    clear hb1 CL HB0
    go_wp2
    refine bodyPost_ret (results_tmp2 rfl _ _ _) rfl ?_
    exact ⟨(.slice none 0 0), rfl, by rw [HN.out.2]; exact Own.nil _ _, HB1.out⟩
  have hlen := Bd.len_valid hV
  have hln : Bd.lenR rs = Bd.len rs := by unfold Bd.lenR; rw [if_pos hV]
  rw [hln, hV] at CL
  clear hln
  by_cases hP : Lf.polE h (Bd.len rs) = 0
  case neg =>
    have HN := Lib.hid (chE_pol hV hP)
    rw [HN.out.1]
    have hd : (Lf.polE h (Bd.len rs) == 0) = false := beq_eq_false_iff_ne.2 hP
    have hd2 : (Lf.polE h (Bd.len rs) != 0) = true := by rw [bne, hd]; rfl
    have CP1 := Lib.hid (fun W => CP.out (Bd.len rs) W)
    generalize Lf.polE h (Bd.len rs) = V at *
    generalize Bd.len rs = n at *
    clear hV hP CP
    go_wp2_with fail
    refine (CL.out _ HB0.out.2).mono ?_
    rintro e w1 ⟨rfl, hb1⟩
    have HB1 := Lib.hid (And.intro (HB0.out.1.below hb1 HB0.out.1.lt) (below_step HB0.out.2 hb1))
    clear hb1 CL HB0
    have x0 : World.cell? _ _ = some (.int .i64 h.d) := HB1.out.1.cell 0
    have x1 : World.cell? _ _ = some (.int .i64 h.s) := HB1.out.1.cell 1
    have x2 : World.cell? _ _ = some (.int .i64 h.y) := HB1.out.1.cell 2
    have x3 : World.cell? _ _ = some (.int .i64 h.r) := HB1.out.1.cell 3
    have x4 : World.cell? _ _ = some (.int .i64 h.f) := HB1.out.1.cell 4
    go_wp2_with fail
    refine (CP1.out _).mono ?_
    rintro e w2 ⟨pa, pc, rfl, _, hb2⟩
    have HB2 := Lib.hid (below_step HB1.out.2 hb2)
    clear hb2 CP1 HB1 x0 x1 x2 x3 x4
    go_wp2
    refine bodyPost_ret (results_tmp2 rfl _ _ _) rfl ?_
    exact ⟨(.slice none 0 0), rfl, by rw [HN.out.2]; exact Own.nil _ _, HB2.out⟩
  obtain ⟨hok, hpl⟩ := pol_ok hlen.1 hP
  have HBIG := Lib.hid (fun hc => chE_big (h := h) hV hP hc)
  have HOK := Lib.hid (fun hc => chE_ok (h := h) hV hP hc)
  have hEn := Bd.len_exp (Bd.valE_pos hV)
  have HCL := Lib.hid (Bd.ch_len (E := Bd.exp rs) (Int.le_refl 0) (by rw [← hEn]; exact hok))
  have HOKP := Lib.hid hok
  have CP1 := Lib.hid (CP.out (Bd.len rs))
  rw [hP] at CP1
  generalize chE rs h = RE at *
  generalize chR rs h = RR at *
  generalize Lf.polL h (Bd.len rs) = P at *
  have HEN := Lib.hid hEn
  have hpos := Bd.valE_pos hV
  have HSTEP := Lib.hid (fun i (hi : i < rs.length) f p ps o X ho h1 h2 h3 hX => Bd.ck_step hpos hi (f := f) (p := p) (ps := ps) (o := o) (X := X) ho h1 h2 h3 hX)
  have HENDS := Lib.hid (fun i (hi : i < rs.length) f t ps o X ho h1 h2 h3 hk hX => Bd.ck_end hpos hi (f := f) (t := t) (ps := ps) (o := o) (X := X) ho h1 h2 h3 hk hX)
  have HTK := Lib.hid (fun i => Bd.len_take_le hpos i)
  have HVS := Lib.hid (fun W (hW : Below w.heap.size w W) => (HV0.out.all hW).look)
  have HRP := Lib.hid hpos
  have hr40 := (Bd.valE_zero hV).1
  clear hV hP CP hok hEn hpos
  have HLT := Lib.hid (show Bd.len (rs.take rs.length) = Bd.len rs by rw [List.take_length])
  generalize Bd.exp rs = E at *
  generalize Bd.len rs = n at *
  go_wp2_with fail
  refine (CL.out _ HB0.out.2).mono ?_
  rintro e w1 ⟨rfl, hb1⟩
  have HB1 := Lib.hid (And.intro (HB0.out.1.below hb1 HB0.out.1.lt) (below_step HB0.out.2 hb1))
  clear hb1 CL HB0
  have x0 : World.cell? _ _ = some (.int .i64 h.d) := HB1.out.1.cell 0
  have x1 : World.cell? _ _ = some (.int .i64 h.s) := HB1.out.1.cell 1
  have x2 : World.cell? _ _ = some (.int .i64 h.y) := HB1.out.1.cell 2
  have x3 : World.cell? _ _ = some (.int .i64 h.r) := HB1.out.1.cell 3
  have x4 : World.cell? _ _ = some (.int .i64 h.f) := HB1.out.1.cell 4
  go_wp2_with fail
  refine (CP1.out _).mono ?_
  rintro e W0 ⟨pa, pc, rfl, hpo, hb2⟩
  have HB2 := Lib.hid (And.intro (OwnI.ints hpo) (below_step HB1.out.2 hb2))
  clear hpo hb2 CP1 HB1 x0 x1 x2 x3 x4
  obtain ⟨i0, hi0, hz0, hz1, hz2⟩ := info_parts infoRun
  obtain ⟨ao, ac, hao, hlk⟩ := HVS.out W0 HB2.out.2
  injection hao with hq1 _ hq2
  subst hq1 hq2
  have HLK := Lib.hid hlk
  have HPT := Lib.hid (Ints.at HB2.out.1)
  clear hlk HVS
  go_wp2
  go_loopw [9, 10, 11, 12] (fun s f kk tt wr => ∃ (i k : Nat) (fr : Int) (a : Option Addr) (c : Nat) (o : List Bd.R), (i ≤ rs.length ∧ k ≤ P.length ∧ o.length ≤ 2 * k + i) ∧ s = .slice a o.length c ∧ f = .int .i64 fr ∧ kk = .int .i64 k ∧ tt = .int .i64 i ∧ Hid (fr = Bd.len (rs.take i) ∧ Bd.pos o ∧ Bd.exp o ++ Bd.ch E fr (P.drop k) = Bd.ch E 0 P ∧ Bd.okP n fr (P.drop k)) ∧ Hid (Own W0.heap.size wr (.slice a o.length c) o ∧ Below W0.heap.size W0 wr)) (fun _ _ _ tt _ => rs.length - (intOf tt).toNat)
  case atStart => exact ⟨0, 0, 0, none, 0, [], ⟨Nat.zero_le _, Nat.zero_le _, by simp⟩, rfl, rfl, rfl, rfl, Lib.hid ⟨rfl, Bd.pos_nil, rfl, HOKP.out⟩, Lib.hid ⟨Own.nil _ _, Below.refl _ _⟩⟩
  case round =>
    obtain ⟨i, k, fr, a, c, o, ⟨hi, hk, hol⟩, rfl, rfl, rfl, rfl, hg, hG⟩ := hrel
    by_cases hlt : i < rs.length
    · obtain ⟨b, off, rfl, hb, hr⟩ := HLK.out i hlt
      have hT1 := HTK.out i
      have hT2 := HTK.out (i + 1)
      have hTS := Bd.len_take_succ hlt
      have HTS := Lib.hid hTS
      have hrp := HRP.out rs[i] (List.getElem_mem hlt)
      have HS2 := Lib.hid (HSTEP.out i hlt)
      have HE2 := Lib.hid (fun f ps o X ho h1 h2 hk hX => HENDS.out i hlt f (Bd.len (rs.take (i + 1))) ps o X ho h1 h2 rfl hk hX)
      obtain ⟨rfl, hg1, hg2, hg3⟩ := hg.out
      have HGS := Lib.hid (And.intro hg1 (And.intro hg2 hg3))
      have HR := Lib.hid hr
      clear hg hg1 hg2 hg3 hr hTS
      generalize hgt : Bd.len (rs.take (i + 1)) = t at *
      have HTT := Lib.hid hgt.symm
      clear hgt
      generalize Bd.len (rs.take i) = S at *
      generalize rs[i] = r at *
      obtain ⟨c0, _, _, _⟩ := HR.out.below hG.out.2 hb
      have g1 : IntKind.i64.wrap (S + r.l) = t := by
        have h9 := HTS.out
        rw [show S + r.l = t from h9.symm]
        exact IntWalk.i64_in _ ⟨by omega, by omega⟩
      have hkd : decide (i < rs.length) = true := decide_eq_true hlt
      have hSt : S ≤ t := by
        have h9 := HTS.out
        omega
      go_wp2
      go_loopw [9, 10, 11] (fun s f kk wr => ∃ (k : Nat) (fr : Int) (a : Option Addr) (c : Nat) (o : List Bd.R), (k ≤ P.length ∧ o.length ≤ 2 * k + i ∧ S ≤ fr ∧ fr ≤ t) ∧ s = .slice a o.length c ∧ f = .int .i64 fr ∧ kk = .int .i64 k ∧ Hid (Bd.pos o ∧ Bd.exp o ++ Bd.ch E fr (P.drop k) = Bd.ch E 0 P ∧ Bd.okP n fr (P.drop k)) ∧ Hid (Own W0.heap.size wr (.slice a o.length c) o ∧ Below W0.heap.size W0 wr)) (fun _ _ kk _ => P.length - (intOf kk).toNat)
      case atStart => exact ⟨k, S, a, c, o, ⟨hk, hol, Int.le_refl _, by omega⟩, rfl, rfl, rfl, Lib.hid HGS.out, Lib.hid hG.out⟩
      case round =>
        clear hk hol HGS hG c0
        obtain ⟨k, fr, a, c, o, ⟨hk, hol, hS, hfT⟩, rfl, rfl, rfl, hg, hG⟩ := hrel
        by_cases hkl : k < P.length
        · have jd : decide (k < P.length) = true := decide_eq_true hkl
          obtain ⟨hg1, hg2, hg3⟩ := hg.out
          rw [List.drop_eq_getElem_cons hkl] at hg2 hg3
          obtain ⟨hp1, hp2, hp3⟩ := hg3
          obtain ⟨ob, oo, hoa, hob, hoc⟩ := HPT.out k hkl
          subst hoa
          have HPD : Hid (P.getD k 0 = P[k]) := Lib.hid (by simp [hkl])
          have y0 := (hG.out.2.cell (p := ⟨ob, oo + k, none⟩) hob).trans hoc
          rw [show P.getD k 0 = P[k] from HPD.out] at y0
          by_cases hpt : P[k] < t
          · have HS3 := Lib.hid (HS2.out fr P[k] (P.drop (k + 1)) o _ hg1 hS hp1 hpt hg2)
            have HP3 := Lib.hid hp3
            have g3 : IntKind.i64.wrap (P[k] + 1) = P[k] + 1 := IntWalk.i64_in _ ⟨by omega, by omega⟩
            have g4 : IntKind.i64.wrap (P[k] - fr) = P[k] - fr := IntWalk.i64_in _ ⟨by omega, by omega⟩
            clear hg hg1 hg2 hp3
            generalize P[k] = p at *
            have jp : decide (p < t) = true := decide_eq_true hpt
            by_cases hgt : fr < p
            · have jg : decide (p > fr) = true := decide_eq_true hgt
              have jg2 : decide (fr < p) = true := decide_eq_true hgt
              have HREL := Lib.hid (show Bd.pos ((o ++ [(⟨p - fr, r.m⟩ : Bd.R)]) ++ [(⟨1, Bd.chF 1 r.m⟩ : Bd.R)]) ∧ Bd.exp ((o ++ [(⟨p - fr, r.m⟩ : Bd.R)]) ++ [(⟨1, Bd.chF 1 r.m⟩ : Bd.R)]) ++ Bd.ch E (p + 1) (P.drop (k + 1)) = Bd.ch E 0 P ∧ Bd.okP n (p + 1) (P.drop (k + 1)) from ⟨(HS3.out.1 hgt).1, (HS3.out.1 hgt).2, HP3.out⟩)
              clear HS3 HP3
              obtain ⟨_, c1, c2, c3⟩ := HR.out.below hG.out.2 hb
              have y0 := (hG.out.2.cell (p := ⟨ob, oo + k, none⟩) hob).trans hoc
              rw [show P.getD k 0 = p from HPD.out] at y0
              have HS15 := Lib.hid (show (fun W => W.cell? ⟨ob, oo + k, none⟩ = some (.int .i64 p) ∧ W.cell? ⟨b, off + i * 4 + 1, none⟩ = some (.int .i64 r.m.t) ∧ W.cell? ⟨b, off + i * 4 + 2, none⟩ = some (.int .i64 r.m.s) ∧ W.cell? ⟨b, off + i * 4 + 3, none⟩ = some (.int .i64 r.m.f)) wr.drew from ⟨y0, c1, c2, c3⟩)
              have HQ := Lib.hid (show Own W0.heap.size wr.drew (.slice a o.length c) o ∧ Below W0.heap.size W0 wr.drew from ⟨hG.out.1.drewN 1, below_drewN hG.out.2 1⟩)
              have HSA : Hid (∀ W, Below W0.heap.size W0 W → (fun W => W.cell? ⟨ob, oo + k, none⟩ = some (.int .i64 p) ∧ W.cell? ⟨b, off + i * 4 + 1, none⟩ = some (.int .i64 r.m.t) ∧ W.cell? ⟨b, off + i * 4 + 2, none⟩ = some (.int .i64 r.m.s) ∧ W.cell? ⟨b, off + i * 4 + 3, none⟩ = some (.int .i64 r.m.f)) W) := Lib.hid (fun W hW => by
                obtain ⟨_, c1, c2, c3⟩ := HR.out.below hW hb
                have y0 := (hW.cell (p := ⟨ob, oo + k, none⟩) hob).trans hoc
                rw [show P.getD k 0 = p from HPD.out] at y0
                exact ⟨y0, c1, c2, c3⟩)
              go_wp2
              refine wp_region_seq [(0, true), (1, true), (2, true), (3, true), (4, true), (5, true), (6, true), (7, true), (8, true), (9, true), (10, true), (11, true), (12, true), (13, false), (14, false), (15, true)] (fun W => W.cell? ⟨ob, oo + k, none⟩ = some (.int .i64 p) ∧ W.cell? ⟨b, off + i * 4 + 1, none⟩ = some (.int .i64 r.m.t) ∧ W.cell? ⟨b, off + i * 4 + 2, none⟩ = some (.int .i64 r.m.s) ∧ W.cell? ⟨b, off + i * 4 + 3, none⟩ = some (.int .i64 r.m.f))
                (by kernel_rfl) (by kernel_rfl) (by kernel_rfl) (by kernel_rfl) (fun d _ _ _ _ h => by cases d <;> exact h) HS15.out (fun _ => ?_)
              clear c1 c2 c3 y0 hG
              repeat (first | (refine SeqH.take (v := ?_) rfl (by rfl) ?_ ?_; rotate_left; (· intro w hSw; (try dsimp only at hSw); obtain ⟨q0, q1, q2, q3⟩ := hSw; go_simp; (try with_reducible rfl)); simp only [Act.put, List.setIfInBounds_toArray, List.set_cons_zero, List.set_cons_succ]) | (refine SeqH.skip rfl (by rfl) ?_; simp only [Act.put, List.setIfInBounds_toArray, List.set_cons_zero, List.set_cons_succ]))
              refine SeqH.step rfl (by rfl) (fun K hK => ?_)
              go_simp
              try dsimp only
              refine hK.out _ _ (HSA.out _ (below_alloc2 HQ.out.2 _)) (fun _ => ?_)
              clear hK K
              try simp only [Act.put, List.setIfInBounds_toArray, List.set_cons_zero, List.set_cons_succ]
              refine SeqH.step rfl (by rfl) (fun K hK => ?_)
              have hown3 := HQ.out.1
              have hsz : W0.heap.size ≤ wr.heap.size := HQ.out.2.size
              have hca := runC_at wr.drew ⟨p - fr, r.m⟩ 112
              unfold Own at hown3
              refine wp_append_own _ _ _ 51 rfl W0.heap.size 112 i0 (.agg #[.int .i64 0, .int .i64 0, .int .i64 0, .int .i64 0]) 4 32 Try.underlying51 hi0 hz0 hz1 hz2 rfl (by decide) _ _ _ rfl (hown3.alloc _) _ 1 1 (runC ⟨p - fr, r.m⟩) rfl rfl hca (runC_one _) (by unfold maxLen; omega) (by omega) (by first | omega | (simp; omega)) ?_
              intro v8 w8 hr8 hg8 _
              have hw8 := (below_alloc2 HQ.out.2 (.cells #[.int .i64 (p - fr), .int .i64 r.m.t, .int .i64 r.m.s, .int .i64 r.m.f] 112)).grown hg8 (by first | omega | (simp; omega)) (fun j e => (World.ownsRow.lt hown3 j e).1)
              try dsimp only
              refine hK.out _ _ (HSA.out _ hw8) (fun _ => ?_)
              clear hK K
              try simp only [Act.put, List.setIfInBounds_toArray, List.set_cons_zero, List.set_cons_succ]
              have hp8 := Own.pushed (a := o) (r := ⟨p - fr, r.m⟩) hr8
              obtain ⟨a8, c8, e8⟩ := hp8.runs.form
              subst e8
              have HO := Lib.hid (And.intro hp8 hw8)
              have hl8 : (o ++ [(⟨p - fr, r.m⟩ : Bd.R)]).length ≤ 2 * k + 1 + i := by rw [List.length_append]; simp; omega
              clear hr8 hg8 hw8 hp8 hown3 hca HQ hsz HSA HS15
              generalize (o ++ [(⟨p - fr, r.m⟩ : Bd.R)]) = o1 at *
              repeat (first | (refine SeqH.take (v := ?_) rfl (by rfl) ?_ ?_; rotate_left; (· intro w hSw; (try dsimp only at hSw); obtain ⟨q0, q1, q2, q3⟩ := hSw; go_simp; (try with_reducible rfl)); simp only [Act.put, List.setIfInBounds_toArray, List.set_cons_zero, List.set_cons_succ]) | (refine SeqH.skip rfl (by rfl) ?_; simp only [Act.put, List.setIfInBounds_toArray, List.set_cons_zero, List.set_cons_succ]))
              refine SeqH.done ?_
              obtain ⟨_, c1, c2, c3⟩ := HR.out.below HO.out.2 hb
              have y0 := (HO.out.2.cell (p := ⟨ob, oo + k, none⟩) hob).trans hoc
              rw [show P.getD k 0 = p from HPD.out] at y0
              have hown3 : Own W0.heap.size (w8.alloc (.cells #[.int .i64 r.m.t, .int .i64 r.m.s, .int .i64 (Bd.orV r.m.f 1)] 58)) _ o1 := HO.out.1.alloc _
              have hw3 : Below W0.heap.size W0 (w8.alloc (.cells #[.int .i64 r.m.t, .int .i64 r.m.s, .int .i64 (Bd.orV r.m.f 1)] 58)) := below_alloc2 HO.out.2 _
              have hsz := HO.out.2.size
              have hca := runC_at (w8.alloc (.cells #[.int .i64 r.m.t, .int .i64 r.m.s, .int .i64 (Bd.orV r.m.f 1)] 58)) ⟨1, Bd.chF 1 r.m⟩ 112
              rw [show ((w8.alloc (.cells #[.int .i64 r.m.t, .int .i64 r.m.s, .int .i64 (Bd.orV r.m.f 1)] 58))).heap.size = w8.heap.size + 1 by simp] at hca
              unfold Own at hown3
              go_wp2_with (at_builtin; refine wpList_append_own _ rfl _ _ 51 rfl W0.heap.size 112 i0 (.agg #[.int .i64 0, .int .i64 0, .int .i64 0, .int .i64 0]) 4 32 Try.underlying51 hi0 hz0 hz1 hz2 rfl (by decide) _ _ _ rfl (hown3.alloc _) _ 1 1 (runC ⟨1, Bd.chF 1 r.m⟩) rfl rfl ?c1 (runC_one _) ?c3 ?c4 ?c5 ?_)
              case c1 => first | exact hca | exact fun j u h => h | (simp only [World.size_alloc] at hca; exact hca)
              case c3 => unfold maxLen; omega
              case c4 => omega
              case c5 => first | omega | (have := hsz; simp; omega)
              intro v9 w9 hr9 hg9 _
              have hw9 := (below_alloc2 hw3 (.cells #[.int .i64 1, .int .i64 r.m.t, .int .i64 r.m.s, .int .i64 (Bd.orV r.m.f 1)] 112)).grown hg9 (by have := hsz; simp; omega) (fun j e => (World.ownsRow.lt hown3 j e).1)
              have hp9 := Own.pushed (a := o1) (r := ⟨1, Bd.chF 1 r.m⟩) hr9
              obtain ⟨a9, c9, e9⟩ := hp9.runs.form
              subst e9
              have H9 := Lib.hid (And.intro hp9 hw9)
              clear hr9 hg9 hw9 hp9 hown3 hw3 hca c1 c2 c3 y0 HO hsz
              have y9 := (H9.out.2.cell (p := ⟨ob, oo + k, none⟩) hob).trans hoc
              rw [show P.getD k 0 = p from HPD.out] at y9
              have hl9 : (o1 ++ [(⟨1, Bd.chF 1 r.m⟩ : Bd.R)]).length ≤ 2 * (k + 1) + i := by rw [List.length_append]; simp; omega
              generalize o1 ++ [(⟨1, Bd.chF 1 r.m⟩ : Bd.R)] = o9 at *
              go_wp2
              go_roundw
              case rel => exact ⟨k + 1, p + 1, a9, c9, o9, ⟨by omega, hl9, by omega, by omega⟩, rfl, by go_num, by go_num, Lib.hid HREL.out, Lib.hid H9.out⟩
              case measure => simp [intOf]; omega
            · obtain rfl : fr = p := by omega
              have jg : decide (fr > fr) = false := decide_eq_false (Int.lt_irrefl _)
              have jg2 : decide (fr < fr) = false := decide_eq_false (Int.lt_irrefl _)
              have HREL := Lib.hid (show Bd.pos (o ++ [(⟨1, Bd.chF 1 r.m⟩ : Bd.R)]) ∧ Bd.exp (o ++ [(⟨1, Bd.chF 1 r.m⟩ : Bd.R)]) ++ Bd.ch E (fr + 1) (P.drop (k + 1)) = Bd.ch E 0 P ∧ Bd.okP n (fr + 1) (P.drop (k + 1)) from ⟨(HS3.out.2 rfl).1, (HS3.out.2 rfl).2, HP3.out⟩)
              have HO := Lib.hid hG.out
              clear HS3 HP3 hG y0
              obtain ⟨_, c1, c2, c3⟩ := HR.out.below HO.out.2 hb
              have y0 := (HO.out.2.cell (p := ⟨ob, oo + k, none⟩) hob).trans hoc
              rw [show P.getD k 0 = fr from HPD.out] at y0
              have hown3 : Own W0.heap.size (wr.alloc (.cells #[.int .i64 r.m.t, .int .i64 r.m.s, .int .i64 (Bd.orV r.m.f 1)] 58)) _ o := HO.out.1.alloc _
              have hw3 : Below W0.heap.size W0 (wr.alloc (.cells #[.int .i64 r.m.t, .int .i64 r.m.s, .int .i64 (Bd.orV r.m.f 1)] 58)) := below_alloc2 HO.out.2 _
              have hsz := HO.out.2.size
              have hca := runC_at (wr.alloc (.cells #[.int .i64 r.m.t, .int .i64 r.m.s, .int .i64 (Bd.orV r.m.f 1)] 58)) ⟨1, Bd.chF 1 r.m⟩ 112
              rw [show ((wr.alloc (.cells #[.int .i64 r.m.t, .int .i64 r.m.s, .int .i64 (Bd.orV r.m.f 1)] 58))).heap.size = wr.heap.size + 1 by simp] at hca
              unfold Own at hown3
              go_wp2_with (at_builtin; refine wpList_append_own _ rfl _ _ 51 rfl W0.heap.size 112 i0 (.agg #[.int .i64 0, .int .i64 0, .int .i64 0, .int .i64 0]) 4 32 Try.underlying51 hi0 hz0 hz1 hz2 rfl (by decide) _ _ _ rfl (hown3.alloc _) _ 1 1 (runC ⟨1, Bd.chF 1 r.m⟩) rfl rfl ?c1 (runC_one _) ?c3 ?c4 ?c5 ?_)
              case c1 => first | exact hca | exact fun j u h => h | (simp only [World.size_alloc] at hca; exact hca)
              case c3 => unfold maxLen; omega
              case c4 => omega
              case c5 => first | omega | (have := hsz; simp; omega)
              intro v9 w9 hr9 hg9 _
              have hw9 := (below_alloc2 hw3 (.cells #[.int .i64 1, .int .i64 r.m.t, .int .i64 r.m.s, .int .i64 (Bd.orV r.m.f 1)] 112)).grown hg9 (by have := hsz; simp; omega) (fun j e => (World.ownsRow.lt hown3 j e).1)
              have hp9 := Own.pushed (a := o) (r := ⟨1, Bd.chF 1 r.m⟩) hr9
              obtain ⟨a9, c9, e9⟩ := hp9.runs.form
              subst e9
              have H9 := Lib.hid (And.intro hp9 hw9)
              clear hr9 hg9 hw9 hp9 hown3 hw3 hca c1 c2 c3 y0 HO hsz
              have y9 := (H9.out.2.cell (p := ⟨ob, oo + k, none⟩) hob).trans hoc
              rw [show P.getD k 0 = fr from HPD.out] at y9
              have hl9 : (o ++ [(⟨1, Bd.chF 1 r.m⟩ : Bd.R)]).length ≤ 2 * (k + 1) + i := by rw [List.length_append]; simp; omega
              generalize o ++ [(⟨1, Bd.chF 1 r.m⟩ : Bd.R)] = o9 at *
              go_wp2
              go_roundw
              case rel => exact ⟨k + 1, fr + 1, a9, c9, o9, ⟨by omega, hl9, by omega, by omega⟩, rfl, by go_num, by go_num, Lib.hid HREL.out, Lib.hid H9.out⟩
              case measure => simp [intOf]; omega
          · have HXO : Hid (Bd.okP n t (P.drop k)) := Lib.hid (by
              rw [List.drop_eq_getElem_cons hkl]
              exact ⟨by omega, hp2, hp3⟩)
            have jp : decide (P[k] < t) = false := decide_eq_false hpt
            clear hg1 hg2 hp3
            by_cases hft : fr < t
            · have hft2 : decide (fr < t) = true := decide_eq_true hft
              have HREL := Lib.hid (HE2.out fr (P.drop k) o _ hg.out.1 hS hft HXO.out hg.out.2.1)
              have HO := Lib.hid hG.out
              clear hg hG
              obtain ⟨_, c1, c2, c3⟩ := HR.out.below HO.out.2 hb
              have g2 : IntKind.i64.wrap (t - fr) = t - fr := IntWalk.i64_in _ ⟨by omega, by omega⟩
              have hown3 := HO.out.1
              have hsz := HO.out.2.size
              have hca := runC_at wr ⟨t - fr, r.m⟩ 112
              unfold Own at hown3
              go_wp2_with (at_builtin; refine wpList_append_own _ rfl _ _ 51 rfl W0.heap.size 112 i0 (.agg #[.int .i64 0, .int .i64 0, .int .i64 0, .int .i64 0]) 4 32 Try.underlying51 hi0 hz0 hz1 hz2 rfl (by decide) _ _ _ rfl (hown3.alloc _) _ 1 1 (runC ⟨t - fr, r.m⟩) rfl rfl ?c1 (runC_one _) ?c3 ?c4 ?c5 ?_)
              case c1 => first | exact hca | exact fun j u h => h | (simp only [World.size_alloc] at hca; exact hca)
              case c3 => unfold maxLen; omega
              case c4 => omega
              case c5 => first | omega | (have := hsz; simp; omega)
              intro v9 w9 hr9 hg9 _
              have hw9 := (below_alloc2 HO.out.2 (.cells #[.int .i64 (t - fr), .int .i64 r.m.t, .int .i64 r.m.s, .int .i64 r.m.f] 112)).grown hg9 (by have := hsz; simp; omega) (fun j e => (World.ownsRow.lt hown3 j e).1)
              have hp9 := Own.pushed (a := o) (r := ⟨t - fr, r.m⟩) hr9
              obtain ⟨a9, c9, e9⟩ := hp9.runs.form
              subst e9
              have H9 := Lib.hid (And.intro hp9 hw9)
              have hl9 : (o ++ [(⟨t - fr, r.m⟩ : Bd.R)]).length ≤ 2 * k + (i + 1) := by rw [List.length_append]; simp; omega
              clear hr9 hg9 hw9 hp9 hown3 hca c1 c2 c3 HO hsz
              generalize o ++ [(⟨t - fr, r.m⟩ : Bd.R)] = o9 at *
              go_wp2
              go_roundw
              case rel => exact ⟨i + 1, k, t, a9, c9, o9, ⟨by omega, by omega, hl9⟩, rfl, by go_num, by go_num, by go_num, Lib.hid ⟨HTT.out, HREL.out.1, HREL.out.2, HXO.out⟩, Lib.hid H9.out⟩
              case measure => simp [intOf]; omega
            · obtain rfl : fr = t := by omega
              have hft2 : decide (fr < fr) = false := decide_eq_false (Int.lt_irrefl _)
              go_wp2
              go_roundw
              case rel => exact ⟨i + 1, k, fr, a, c, o, ⟨by omega, by omega, by omega⟩, rfl, by go_num, by go_num, by go_num, Lib.hid ⟨HTT.out, hg.out.1, hg.out.2.1, HXO.out⟩, Lib.hid hG.out⟩
              case measure => simp [intOf]; omega
        · obtain rfl : k = P.length := by omega
          have jd : decide (P.length < P.length) = false := decide_eq_false (Nat.lt_irrefl _)
          have HXO : Hid (Bd.okP n t (P.drop P.length)) := Lib.hid (by
            rw [List.drop_length]
            show t ≤ n
            omega)
          by_cases hft : fr < t
          · have hft2 : decide (fr < t) = true := decide_eq_true hft
            have HREL := Lib.hid (HE2.out fr (P.drop P.length) o _ hg.out.1 hS hft HXO.out hg.out.2.1)
            have HO := Lib.hid hG.out
            clear hg hG
            obtain ⟨_, c1, c2, c3⟩ := HR.out.below HO.out.2 hb
            have g2 : IntKind.i64.wrap (t - fr) = t - fr := IntWalk.i64_in _ ⟨by omega, by omega⟩
            have hown3 := HO.out.1
            have hsz := HO.out.2.size
            have hca := runC_at wr ⟨t - fr, r.m⟩ 112
            unfold Own at hown3
            go_wp2_with (at_builtin; refine wpList_append_own _ rfl _ _ 51 rfl W0.heap.size 112 i0 (.agg #[.int .i64 0, .int .i64 0, .int .i64 0, .int .i64 0]) 4 32 Try.underlying51 hi0 hz0 hz1 hz2 rfl (by decide) _ _ _ rfl (hown3.alloc _) _ 1 1 (runC ⟨t - fr, r.m⟩) rfl rfl ?c1 (runC_one _) ?c3 ?c4 ?c5 ?_)
            case c1 => first | exact hca | exact fun j u h => h | (simp only [World.size_alloc] at hca; exact hca)
            case c3 => unfold maxLen; omega
            case c4 => omega
            case c5 => first | omega | (have := hsz; simp; omega)
            intro v9 w9 hr9 hg9 _
            have hw9 := (below_alloc2 HO.out.2 (.cells #[.int .i64 (t - fr), .int .i64 r.m.t, .int .i64 r.m.s, .int .i64 r.m.f] 112)).grown hg9 (by have := hsz; simp; omega) (fun j e => (World.ownsRow.lt hown3 j e).1)
            have hp9 := Own.pushed (a := o) (r := ⟨t - fr, r.m⟩) hr9
            obtain ⟨a9, c9, e9⟩ := hp9.runs.form
            subst e9
            have H9 := Lib.hid (And.intro hp9 hw9)
            have hl9 : (o ++ [(⟨t - fr, r.m⟩ : Bd.R)]).length ≤ 2 * P.length + (i + 1) := by rw [List.length_append]; simp; omega
            clear hr9 hg9 hw9 hp9 hown3 hca c1 c2 c3 HO hsz
            generalize o ++ [(⟨t - fr, r.m⟩ : Bd.R)] = o9 at *
            go_wp2
            go_roundw
            case rel => exact ⟨i + 1, P.length, t, a9, c9, o9, ⟨by omega, by omega, hl9⟩, rfl, by go_num, by go_num, by go_num, Lib.hid ⟨HTT.out, HREL.out.1, HREL.out.2, HXO.out⟩, Lib.hid H9.out⟩
            case measure => simp [intOf]; omega
          · obtain rfl : fr = t := by omega
            have hft2 : decide (fr < fr) = false := decide_eq_false (Int.lt_irrefl _)
            go_wp2
            go_roundw
            case rel => exact ⟨i + 1, P.length, fr, a, c, o, ⟨by omega, by omega, by omega⟩, rfl, by go_num, by go_num, by go_num, Lib.hid ⟨HTT.out, hg.out.1, hg.out.2.1, HXO.out⟩, Lib.hid hG.out⟩
            case measure => simp [intOf]; omega
    · obtain rfl : i = rs.length := by omega
      obtain ⟨hg1, hg2, hg3, hg4⟩ := hg.out
      have HOX : Hid (Bd.pos o ∧ Bd.exp o = Bd.ch E 0 P ∧ Bd.len o ≤ 1000000) := Lib.hid (by
        have h1 := HLT.out
        have h2 : Bd.ch E fr (P.drop k) = [] := by
          have h3 := Bd.ch_len (E := E) (f := fr) (ps := P.drop k) (by omega) (by rw [← HEN.out]; exact hg4)
          apply List.length_eq_zero_iff.1
          have := HEN.out
          omega
        rw [h2, List.append_nil] at hg3
        have h4 := HCL.out
        have h5 := HEN.out
        refine ⟨hg2, hg3, ?_⟩
        rw [Bd.len_exp hg2, hg3, h4]
        omega)
      have HW5 := Lib.hid (And.intro hG.out.1.runs.look (below_step HB2.out.2 hG.out.2))
      have hjd : decide (rs.length < rs.length) = false := decide_eq_false (Nat.lt_irrefl _)
      obtain ⟨W5, hW5⟩ : ∃ W, W = wr := ⟨_, rfl⟩
      subst hW5
      clear hg hg1 hg2 hg3 hg4 hG HSTEP HENDS HTK HLK HPT HLT HOKP HRP
      go_wp2
      have HLO : Hid (∀ k (hk : k < o.length), ∃ b off, a = some ⟨b, off, none⟩ ∧ b < W5.heap.size ∧ RunAt W5 b (off + k * 4) o[k]) := Lib.hid (by
        obtain ⟨ao2, ac2, e2, hl2⟩ := HW5.out.1
        injection e2 with e3 _ e4
        subst e3
        exact hl2)
      have hol3 : o.length ≤ 3000 := by omega
      have hlb := HOX.out.2.2
      clear hol hk
      go_loopw [15, 16] (fun s t wr => ∃ k : Nat, k ≤ o.length ∧ t = .int .i64 k ∧ Own W5.heap.size wr s (Bd.norm (o.take k)) ∧ Below W5.heap.size W5 wr) (fun _ t _ => o.length - (intOf t).toNat)
      case atStart => exact ⟨0, Nat.zero_le _, rfl, Own.nil _ _, Below.refl _ _⟩
      case round =>
        obtain ⟨k, hk, rfl, hown, hw⟩ := hrel
        by_cases hlt : k < o.length
        · obtain ⟨b, off, hob, hb, hck⟩ := HLO.out k hlt
          subst hob
          obtain ⟨c0, c1, c2, c3⟩ := hck.below hw hb
          clear hck
          have hns := Bd.norm_take_succ hlt
          rcases Bd.snoc_cases (Bd.norm (o.take k)) with he | ⟨a, q, he⟩
          · have h1 := HOX.out.1 o[k] (List.getElem_mem hlt)
            rw [he] at hown hns
            rw [Bd.push_nil] at hns
            have HN := Lib.hid hns
            clear hns he
            generalize o[k] = r at *
            obtain ⟨ga, gc, rfl⟩ := hown.empty
            go_wp2
            go_quiet (fail)
            obtain ⟨wq, hq⟩ : ∃ wq : World, wq = wr.drewN nq := ⟨_, rfl⟩
            have hown' : Own W5.heap.size wq (.slice ga 0 gc) [] := by rw [hq]; exact hown.drewN _
            have hw' : Below W5.heap.size W5 wq := by rw [hq]; exact below_drewN hw _
            have c0' : wq.cell? ⟨b, off + k * 4, none⟩ = some (.int .i64 r.l) := by rw [hq]; exact c0
            have c1' : wq.cell? ⟨b, off + k * 4 + 1, none⟩ = some (.int .i64 r.m.t) := by rw [hq]; exact c1
            have c2' : wq.cell? ⟨b, off + k * 4 + 2, none⟩ = some (.int .i64 r.m.s) := by rw [hq]; exact c2
            have c3' : wq.cell? ⟨b, off + k * 4 + 3, none⟩ = some (.int .i64 r.m.f) := by rw [hq]; exact c3
            rw [← hq]
            clear hq hown hw c0 c1 c2 c3
            go_wp2_with (at_builtin; refine wpList_append_own _ rfl _ _ 51 rfl W5.heap.size 112 i0 (.agg #[.int .i64 0, .int .i64 0, .int .i64 0, .int .i64 0]) 4 32 Try.underlying51 hi0 hz0 hz1 hz2 rfl (by decide) _ _ _ rfl (hown'.alloc _) ⟨wq.heap.size, 0, none⟩ 1 1 (runC r) rfl rfl (runC_at wq r _) (runC_one r) ?c3 ?c4 ?c5 ?_)
            case c3 => unfold maxLen; simp
            case c4 => simp
            case c5 => have := hw'.size; simp; omega
            intro v' w1 hown1 hgrow _
            have hw1 := (hw'.alloc hw'.size _).grown hgrow (by have := hw'.size; simp; omega) (fun j e => (World.ownsRow.lt hown' j e).1)
            have hown2 := Own.pushed (a := []) hown1
            clear hown1 hgrow hown' hw' c0' c1' c2' c3'
            go_wp2
            go_roundw
            case rel => exact ⟨k + 1, by omega, by go_num, by rw [HN.out]; exact hown2, hw1⟩
            case measure => simp [intOf]; omega
          · obtain ⟨h1, h2, h3, h4⟩ := Bd.norm_last HOX.out.1 hlt he
            rw [he] at hown hns
            rw [Bd.push_snoc] at hns
            obtain ⟨g, cp, rfl, hg1, hg2, hg3, hg4, d0, d1, d2, d3⟩ := hown.snoc
            have HN := Lib.hid hns
            clear hns he
            generalize o[k] = r at *
            by_cases hmk : q.m = r.m
            · have hmk' := hmk
              have e1 : (q.m.t == r.m.t) = true := by simp [hmk]
              have e2 : (q.m.s == r.m.s) = true := by simp [hmk]
              have e3 : (q.m.f == r.m.f) = true := by simp [hmk]
              have HN' := Lib.hid (HN.out.trans (if_pos hmk))
              clear hmk hmk' HN
              go_wp2
              go_quiet (fail)
              obtain ⟨wq, hq⟩ : ∃ wq : World, wq = wr.drewN nq := ⟨_, rfl⟩
              have hown' : Own W5.heap.size wq (.slice (some ⟨g, 0, none⟩) (a.length + 1) cp) (a ++ [q]) := by rw [hq]; exact hown.drewN _
              have hw' : Below W5.heap.size W5 wq := by rw [hq]; exact below_drewN hw _
              have c0' : wq.cell? ⟨b, off + k * 4, none⟩ = some (.int .i64 r.l) := by rw [hq]; exact c0
              have d0' : wq.cell? ⟨g, a.length * 4, none⟩ = some (.int .i64 q.l) := by rw [hq]; exact d0
              have f0' : wq.frozen? ⟨g, a.length * 4, none⟩ = false := by rw [hq]; exact hg4 _
              rw [← hq]
              clear hq hown hw c0 c1 c2 c3 d0 d1 d2 d3 hg4 e1 e2 e3
              go_wp2
              have hs := hown'.setL (q.l + r.l)
              have hsw := hw'.setCell (p := ⟨g, a.length * 4, none⟩) hg1 (.int .i64 (q.l + r.l))
              have HS := Lib.hid (And.intro hs hsw)
              clear hs hsw hown' hw'
              go_region
              go_wp2
              go_roundw
              case rel => exact ⟨k + 1, by omega, by go_num, by rw [HN'.out]; exact HS.out.1, HS.out.2.drew⟩
              case measure => simp [intOf]; omega
            · have HN' := Lib.hid (HN.out.trans (if_neg hmk))
              rcases m_ne hmk with e1 | ⟨e1, e2⟩ | ⟨e1, e2, e3⟩
              all_goals
                clear hmk HN
                go_wp2
                go_quiet (fail)
                obtain ⟨wq, hq⟩ : ∃ wq : World, wq = wr.drewN nq := ⟨_, rfl⟩
                have hown' : Own W5.heap.size wq (.slice (some ⟨g, 0, none⟩) (a.length + 1) cp) (a ++ [q]) := by rw [hq]; exact hown.drewN _
                have hw' : Below W5.heap.size W5 wq := by rw [hq]; exact below_drewN hw _
                have c0' : wq.cell? ⟨b, off + k * 4, none⟩ = some (.int .i64 r.l) := by rw [hq]; exact c0
                have c1' : wq.cell? ⟨b, off + k * 4 + 1, none⟩ = some (.int .i64 r.m.t) := by rw [hq]; exact c1
                have c2' : wq.cell? ⟨b, off + k * 4 + 2, none⟩ = some (.int .i64 r.m.s) := by rw [hq]; exact c2
                have c3' : wq.cell? ⟨b, off + k * 4 + 3, none⟩ = some (.int .i64 r.m.f) := by rw [hq]; exact c3
                rw [← hq]
                clear hq hown hw c0 c1 c2 c3 d0 d1 d2 d3
                have hl1 : (a ++ [q]).length = a.length + 1 := by simp
                have hr : wq.ownsRow W5.heap.size 112 4 (.slice (some ⟨g, 0, none⟩) (a.length + 1) cp) (a.length + 1) (cellsR (a ++ [q])) := by rw [← hl1]; unfold Own at hown'; rw [hl1] at hown' ⊢; exact hown'
                have HL := Lib.hid hl1
                clear hl1
                go_wp2_with (at_builtin; refine wpList_append_own _ rfl _ _ 51 rfl W5.heap.size 112 i0 (.agg #[.int .i64 0, .int .i64 0, .int .i64 0, .int .i64 0]) 4 32 Try.underlying51 hi0 hz0 hz1 hz2 rfl (by decide) _ _ _ rfl (hr.alloc _) ⟨wq.heap.size, 0, none⟩ 1 1 (runC r) rfl rfl (runC_at wq r _) (runC_one r) (by unfold maxLen; omega) (by omega) (by have := hw'.size; simp; omega) ?_)
                intro v' w1 hown1 hgrow _
                have hw1 := (hw'.alloc hw'.size _).grown hgrow (by have := hw'.size; simp; omega) (fun j e => (World.ownsRow.lt hown' j e).1)
                have hown2 := Own.pushed (a := a ++ [q]) (by rw [HL.out]; exact hown1)
                clear hown1 hgrow hown' hw' c0' c1' c2' c3' hr
                go_wp2
                go_roundw
                case rel => exact ⟨k + 1, by omega, by go_num, by rw [HN'.out]; exact hown2, hw1⟩
                case measure => simp [intOf]; omega
        · obtain rfl : k = o.length := by omega
          rw [List.take_length] at hown
          have HRES := Lib.hid (show (40 < (Bd.norm o).length → RE = 4 ∧ RR = []) ∧ ((Bd.norm o).length ≤ 40 → RE = 0 ∧ Bd.norm o = RR) from by
            have h1 := Bd.nrm_rc (Bd.norm_nrm HOX.out.1)
            rw [Bd.norm_exp HOX.out.1, HOX.out.2.1] at h1
            rw [h1]
            refine ⟨fun hc => HBIG.out hc, fun hc => ?_⟩
            have h2 := HOK.out hc
            refine ⟨h2.1, Bd.nrm_unique (Bd.norm_nrm HOX.out.1) h2.2.2.1 ?_⟩
            rw [Bd.norm_exp HOX.out.1, HOX.out.2.1, h2.2.2.2])
          have H5 := Lib.hid (And.intro hown (below_step HW5.out.2 hw))
          have hsz := HW5.out.2.size
          obtain ⟨ja, jc, hjf⟩ := hown.runs.form
          subst hjf
          clear hown hw
          have hjd2 : decide (o.length < o.length) = false := decide_eq_false (Nat.lt_irrefl _)
          by_cases hc : 40 < (Bd.norm o).length
          · have d1 : decide (((Bd.norm o).length : Int) > 40) = true := decide_eq_true (by omega)
            have d2 : decide (40 < ((Bd.norm o).length : Int)) = true := decide_eq_true (by omega)
            go_wp2
            refine bodyPost_ret (results_tmp2 rfl _ _ _) rfl ?_
            exact ⟨.slice none 0 0, congrArg (fun V => Ending.returned (Value.tuple #[Value.slice none 0 0, Value.int IntKind.i64 V])) (HRES.out.1 hc).1.symm, by rw [(HRES.out.1 hc).2]; exact Own.nil _ _, H5.out.2⟩
          · have d1 : decide (((Bd.norm o).length : Int) > 40) = false := decide_eq_false (by omega)
            have d2 : decide (40 < ((Bd.norm o).length : Int)) = false := decide_eq_false (by omega)
            have HR2 := Lib.hid (HRES.out.2 (by omega))
            have H6 := Lib.hid (show Own w.heap.size wr (.slice ja (Bd.norm o).length jc) RR from by have h1 := H5.out.1.mono hsz; rwa [HR2.out.2] at h1 ⊢)
            go_wp2
            refine bodyPost_ret (results_tmp2 rfl _ _ _) rfl ?_
            exact ⟨_, congrArg (fun V => Ending.returned (Value.tuple #[Value.slice ja (Bd.norm o).length jc, Value.int IntKind.i64 V])) HR2.out.1.symm, H6.out, H5.out.2⟩
end Go.Proofs.Ytabfcnfddemblaa.Lo
