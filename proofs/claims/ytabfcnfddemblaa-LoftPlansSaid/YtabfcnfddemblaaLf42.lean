/- What the goods of a load need together: of the program. -/
import Derived.Test.YtabfcnfddemblaaLf41
namespace Go.Proofs.Ytabfcnfddemblaa.Lo
open Go.RowKit

theorem tog_zero (gs : List Lf.G) (l : List Int) : Lf.tog gs l 0 = Lf.gat gs (l.getD 0 0) := rfl
theorem tog_next (gs : List Lf.G) (l : List Int) (k : Nat) : Lf.tog gs l (k + 1) = Lf.tg1 (Lf.tog gs l k) (Lf.gat gs (l.getD (k + 1) 0)) := rfl
/-- A demand, a result's cell and the sum in boxes. -/
def TgS (w : World) (u v : Value) (t : Lf.G) (W : World) : Prop := BlockAt W w.heap.size #[u, v] DemT ∧ BlockAt W (w.heap.size + 1) (gdA ⟨0, 0, 0, 0, 0⟩) GoodT ∧ BlockAt W (w.heap.size + 2) (gdA t) GoodT ∧ Below w.heap.size w W
theorem TgS.al {w : World} {u v : Value} {t : Lf.G} {W : World} (h : TgS w u v t W) (o : Obj) : TgS w u v t (W.alloc o) := ⟨h.1.alloc o, h.2.1.alloc o, h.2.2.1.alloc o, below_alloc2 h.2.2.2 o⟩
theorem TgS.drew {w : World} {u v : Value} {t : Lf.G} {W : World} (h : TgS w u v t W) : TgS w u v t W.drew := ⟨h.1.drew, h.2.1.drew, h.2.2.1.drew, below_drewN h.2.2.2 1⟩
theorem TgS.set {w : World} {u v : Value} {t t2 : Lf.G} {W : World} (h : TgS w u v t W) (i : Nat) (x : Int) (ht : (gdA t).setIfInBounds i (.int .i64 x) = gdA t2) : TgS w u v t2 (W.setCell ⟨w.heap.size + 2, i, none⟩ (.int .i64 x)) :=
  ⟨h.1.other (by omega) _, h.2.1.other (by omega) _, by rw [← ht]; exact h.2.2.1.set i _, below_set h.2.2.2 (by omega) _⟩
theorem gd_get {gs : List Lf.G} {i : Nat} (h : i < gs.length) : Lf.gat gs (i : Int) = gs[i] := by rw [Lf.gat_at (by simpa using h)]; rfl
set_option maxRecDepth 100000 in
set_option maxHeartbeats 8000000 in
theorem together_any (ua va : Option Addr) (n1 uc vc : Nat) (q : Value) (gs : List Lf.G) (gl : List Int) (w : World) (hv : Goods w (.slice va gs.length vc) gs) (hq : Ints w q gl) (hne : 0 < gl.length) (hG : ∀ k (hk : k < gs.length), Lf.okG gs[k] = true) (h8 : gs.length ≤ 8) (hst : Lf.stB gl gs.length = true) :
    Calls Try.prog 126 #[.agg #[.slice ua n1 uc, .slice va gs.length vc], q] w fun e w' => e = .returned (gdV (Lf.togA gs gl)) ∧ Below w.heap.size w w' := by
  have hl8 := Lf.st_len hst
  have HBD := Lib.hid (fun k hk => Lf.st_bd (Lf.stB_iff.1 hst) k hk)
  have HTB := Lib.hid (fun k hk => Lf.tog_bd hG (fun j hj => Lf.st_bd (Lf.stB_iff.1 hst) j hj) k hk)
  have HA := Lib.hid (fun W (hW : Below w.heap.size w W) => hq.all hW)
  obtain ⟨qa, qc, rfl⟩ := hq.form
  obtain ⟨_, _, hvf, _, hvk⟩ := id hv
  injection hvf with hv1 hv2 hv3
  subst hv1
  subst hv3
  have HV := Lib.hid hvk
  have HI := Lib.hid (fun W (hW : Below w.heap.size w W) k hk => Ints.at (HA.out W hW) k hk)
  have hqc : gl.length ≤ qc := by
    obtain ⟨_, _, e, h, _⟩ := id hq
    injection e with e1 e2 e3
    omega
  have HT0 := Lib.hid (tog_zero gs gl)
  have HTN := Lib.hid (fun k => tog_next gs gl k)
  have HOK := Lib.hid hG
  have HTA : Hid (Lf.togA gs gl = Lf.tog gs gl (gl.length - 1)) := Lib.hid rfl
  obtain ⟨R, hR⟩ : ∃ R, R = Lf.togA gs gl := ⟨_, rfl⟩
  rw [← hR] at HTA ⊢
  clear hR hq hv hvk HA hG hst
  obtain ⟨M, hM⟩ : ∃ M, gl.length = M + 1 := ⟨gl.length - 1, by omega⟩
  rw [hM, show M + 1 - 1 = M by omega] at HTA
  -- the first goods
  obtain ⟨b, off, rfl, hb, c0⟩ := HI.out w (Below.refl _ _) 0 hne
  have hb0 := HBD.out 0 hne
  obtain ⟨i, hi⟩ : ∃ i : Nat, gl.getD 0 0 = (i : Int) := ⟨(gl.getD 0 0).toNat, by omega⟩
  have hil : i < gs.length := by omega
  obtain ⟨gb, go, rfl, hgb, hgc⟩ := HV.out i hil
  have HT0 : Hid (Lf.tog gs gl 0 = gs[i]) := Lib.hid (by rw [HT0.out, hi]; exact gd_get hil)
  rw [hi, Nat.add_zero] at c0
  obtain ⟨W1, hW1⟩ : ∃ W, W = ((w.alloc (.cells #[.slice ua n1 uc, .slice (some ⟨gb, go, none⟩) gs.length vc] DemT)).alloc (.cells (gdA ⟨0, 0, 0, 0, 0⟩) GoodT)).drew := ⟨_, rfl⟩
  have hT1 : BlockAt W1 w.heap.size #[.slice ua n1 uc, .slice (some ⟨gb, go, none⟩) gs.length vc] DemT ∧ BlockAt W1 (w.heap.size + 1) (gdA ⟨0, 0, 0, 0, 0⟩) GoodT ∧ W1.heap.size = w.heap.size + 2 ∧ Below w.heap.size w W1 := by
    rw [hW1]
    exact ⟨((BlockAt.new w #[.slice ua n1 uc, .slice (some ⟨gb, go, none⟩) gs.length vc] DemT).alloc _).drew, by have := (BlockAt.new (w.alloc (.cells #[.slice ua n1 uc, .slice (some ⟨gb, go, none⟩) gs.length vc] DemT)) (gdA ⟨0, 0, 0, 0, 0⟩) GoodT); simpa using this.drew,
     by simp [World.drew], below_drewN (below_alloc2 (below_alloc2 (Below.refl w.heap.size w) _) _) 1⟩
  have H1 := Lib.hid (And.intro hW1 hT1)
  have HSB := Lib.hid (fun W (hW : Below W1.heap.size W1 W) => show W.cell? ⟨w.heap.size, 1, none⟩ = some (.slice (some ⟨gb, go, none⟩) gs.length vc) ∧ W.cell? ⟨b, off, none⟩ = some (.int .i64 (i : Int)) ∧ CellsAt (gdC gs[i]) W gb (go + i * 5) from
    ⟨(hT1.1.below hW hT1.1.lt).cell 1, ((below_step hT1.2.2.2 hW).cell (p := ⟨b, off, none⟩) hb).trans c0, hgc.below (below_step hT1.2.2.2 hW) hgb⟩)
  clear hgc hi hb0 hW1 hT1 c0
  generalize hg0 : gs[i] = g0 at *
  have HG0 := Lib.hid hg0
  clear hg0
  obtain ⟨gp, gn, gm, ga, gu⟩ := g0
  rw [hM]
  have hml : M + 1 ≤ qc := by omega
  clear hne
  have HM := Lib.hid hM
  go_enter Try.func126, Try.ntmps126
  go_wp2_with fail
  refine wp_region_seq [(0, true), (1, true), (2, true), (3, true), (4, true), (5, true), (6, true), (7, false), (8, false)] (fun W => W.cell? ⟨w.heap.size, 1, none⟩ = some (.slice (some ⟨gb, go, none⟩) gs.length vc) ∧ W.cell? ⟨b, off, none⟩ = some (.int .i64 (i : Int)) ∧ CellsAt (gdC ⟨gp, gn, gm, ga, gu⟩) W gb (go + i * 5))
    (by kernel_rfl) (by kernel_rfl) (by kernel_rfl) (by kernel_rfl) (fun d _ _ _ _ h => by cases d <;> exact h) (HSB.out _ (by rw [H1.out.1]; exact Below.refl _ _)) (fun _ => ?_)
  rw [show ((w.alloc (.cells #[.slice ua n1 uc, .slice (some ⟨gb, go, none⟩) gs.length vc] DemT)).alloc (.cells (gdA ⟨0, 0, 0, 0, 0⟩) GoodT)).drew = W1 from H1.out.1.symm]
  repeat (first | (refine SeqH.take (v := ?_) rfl (by rfl) ?_ ?_; rotate_left; (· intro w hSw; (try dsimp only at hSw); obtain ⟨q0, q1, q2⟩ := hSw; go_simp; obtain ⟨r0, r1, r2, r3, r4⟩ := gd_at q2; go_simp; (try with_reducible rfl)); simp only [Act.put, List.setIfInBounds_toArray, List.set_cons_zero, List.set_cons_succ]) | (refine SeqH.skip rfl (by rfl) ?_; simp only [Act.put, List.setIfInBounds_toArray, List.set_cons_zero, List.set_cons_succ]))
  refine SeqH.step rfl (by rfl) (fun K hK => ?_)
  go_simp
  rw [H1.out.2.2.2.1]
  obtain ⟨Y1, hY⟩ : ∃ Z, W1.alloc (.cells (gdA ⟨0, 0, 0, 0, 0⟩) GoodT) = Z := ⟨_, rfl⟩
  have hT1 : TgS w (.slice ua n1 uc) (.slice (some ⟨gb, go, none⟩) gs.length vc) ⟨0, 0, 0, 0, 0⟩ Y1 := by
    rw [← hY]
    exact ⟨H1.out.2.1.alloc _, H1.out.2.2.1.alloc _, by have := BlockAt.new W1 (gdA ⟨0, 0, 0, 0, 0⟩) GoodT; rw [H1.out.2.2.2.1] at this; exact this, below_alloc2 H1.out.2.2.2.2 _⟩
  have hB1 : Below W1.heap.size W1 Y1 := by rw [← hY]; exact below_alloc2 (Below.refl _ _) _
  rw [hY]
  try dsimp only
  refine hK.out _ _ (HSB.out _ hB1) (fun _ => ?_)
  clear hK K hY
  try simp only [Act.put, List.setIfInBounds_toArray, List.set_cons_zero, List.set_cons_succ]
  have z0 := hT1.2.2.1.cell 0
  have f0 := hT1.2.2.1.frozen 0
  have z1 := hT1.2.2.1.cell 1
  have f1 := hT1.2.2.1.frozen 1
  have z2 := hT1.2.2.1.cell 2
  have f2 := hT1.2.2.1.frozen 2
  have z3 := hT1.2.2.1.cell 3
  have f3 := hT1.2.2.1.frozen 3
  have z4 := hT1.2.2.1.cell 4
  have f4 := hT1.2.2.1.frozen 4
  refine SeqH.step rfl (by rfl) (fun K hK => ?_)
  go_simp
  obtain ⟨Y2, hY⟩ : ∃ Z, (((((Y1.setCell ⟨w.heap.size + 2, 0, none⟩ (.int .i64 gp)).setCell ⟨w.heap.size + 2, 1, none⟩ (.int .i64 gn)).setCell ⟨w.heap.size + 2, 2, none⟩ (.int .i64 gm)).setCell ⟨w.heap.size + 2, 3, none⟩ (.int .i64 ga)).setCell ⟨w.heap.size + 2, 4, none⟩ (.int .i64 gu)) = Z := ⟨_, rfl⟩
  have hT2 : TgS w (.slice ua n1 uc) (.slice (some ⟨gb, go, none⟩) gs.length vc) ⟨gp, gn, gm, ga, gu⟩ Y2 := by
    rw [← hY]
    exact ((((hT1.set (t2 := ⟨gp, 0, 0, 0, 0⟩) 0 gp rfl).set (t2 := ⟨gp, gn, 0, 0, 0⟩) 1 gn rfl).set (t2 := ⟨gp, gn, gm, 0, 0⟩) 2 gm rfl).set (t2 := ⟨gp, gn, gm, ga, 0⟩) 3 ga rfl).set (t2 := ⟨gp, gn, gm, ga, gu⟩) 4 gu rfl
  have hB2 : Below W1.heap.size W1 Y2 := by
    rw [← hY]
    have hs := H1.out.2.2.2.1
    exact ((((hB1.setCell (p := ⟨w.heap.size + 2, 0, none⟩) (by dsimp only; omega) _).setCell (p := ⟨w.heap.size + 2, 1, none⟩) (by dsimp only; omega) _).setCell (p := ⟨w.heap.size + 2, 2, none⟩) (by dsimp only; omega) _).setCell (p := ⟨w.heap.size + 2, 3, none⟩) (by dsimp only; omega) _).setCell (p := ⟨w.heap.size + 2, 4, none⟩) (by dsimp only; omega) _
  rw [hY]
  try dsimp only
  refine hK.out _ _ (HSB.out _ hB2) (fun _ => ?_)
  have HT2 := Lib.hid hT2
  clear hK K hY z0 z1 z2 z3 z4 f0 f1 f2 f3 f4 hT1 hT2 hB1 hB2 H1 HSB
  try simp only [Act.put, List.setIfInBounds_toArray, List.set_cons_zero, List.set_cons_succ]
  refine SeqH.done ?_
  by_cases hq1 : qc = 1
  · subst hq1
    obtain rfl : M = 0 := by omega
    have HE := Lib.hid (HTA.out.trans HT0.out)
    clear HBD HTB HI HV HTN HOK HTA HT0 HG0 hqc hml HM hM
    go_wp2
    go_loopw [19] (fun t wr => t = .int .i64 0 ∧ Hid (TgS w (.slice ua n1 uc) (.slice (some ⟨gb, go, none⟩) gs.length vc) ⟨gp, gn, gm, ga, gu⟩ wr)) (fun _ _ => 0)
    case atStart => exact ⟨rfl, HT2⟩
    case round =>
      obtain ⟨rfl, HT⟩ := hrel
      clear HT2
      have r0 := HT.out.2.1.frozen 0
      have r1 := HT.out.2.1.frozen 1
      have r2 := HT.out.2.1.frozen 2
      have r3 := HT.out.2.1.frozen 3
      have r4 := HT.out.2.1.frozen 4
      have s0 : World.cell? _ _ = some (.int .i64 0) := HT.out.2.1.cell 0
      have s1 : World.cell? _ _ = some (.int .i64 0) := HT.out.2.1.cell 1
      have s2 : World.cell? _ _ = some (.int .i64 0) := HT.out.2.1.cell 2
      have s3 : World.cell? _ _ = some (.int .i64 0) := HT.out.2.1.cell 3
      have s4 : World.cell? _ _ = some (.int .i64 0) := HT.out.2.1.cell 4
      have t0 : World.cell? _ _ = some (.int .i64 gp) := HT.out.2.2.1.cell 0
      have t1 : World.cell? _ _ = some (.int .i64 gn) := HT.out.2.2.1.cell 1
      have t2 : World.cell? _ _ = some (.int .i64 gm) := HT.out.2.2.1.cell 2
      have t3 : World.cell? _ _ = some (.int .i64 ga) := HT.out.2.2.1.cell 3
      have t4 : World.cell? _ _ = some (.int .i64 gu) := HT.out.2.2.1.cell 4
      have hlt1 := HT.out.2.1.lt
      have hlt2 := HT.out.2.2.1.lt
      go_wp2
      have HR := Lib.hid (((((HT.out.2.1.set 0 (.int .i64 gp)).set 1 (.int .i64 gn)).set 2 (.int .i64 gm)).set 3 (.int .i64 ga)).set 4 (.int .i64 gu))
      have v0 : World.cell? _ _ = some (.int .i64 gp) := HR.out.cell 0
      have v1 : World.cell? _ _ = some (.int .i64 gn) := HR.out.cell 1
      have v2 : World.cell? _ _ = some (.int .i64 gm) := HR.out.cell 2
      have v3 : World.cell? _ _ = some (.int .i64 ga) := HR.out.cell 3
      have v4 : World.cell? _ _ = some (.int .i64 gu) := HR.out.cell 4
      refine bodyPost_ret (v := gdV ⟨gp, gn, gm, ga, gu⟩) (by simp [results, Try.results126, go_sem, v0, v1, v2, v3, v4]) rfl ⟨by rw [HE.out], ?_⟩
      exact below_set (below_set (below_set (below_set (below_set HT.out.2.2.2 (by omega) _) (by omega) _) (by omega) _) (by omega) _) (by omega) _
  have hq2 : 1 < qc := by omega
  have HM2 := Lib.hid (And.intro hM hml)
  clear hq1 hqc hM HM HG0
  go_wp2
  go_loopw [19] (fun t wr => ∃ (k : Nat) (g : Lf.G), k ≤ M ∧ t = .int .i64 k ∧ Hid (g = Lf.tog gs gl k ∧ TgS w (.slice ua n1 uc) (.slice (some ⟨gb, go, none⟩) gs.length vc) g wr)) (fun t _ => M - (intOf t).toNat)
  case atStart => exact ⟨0, ⟨gp, gn, gm, ga, gu⟩, Nat.zero_le _, rfl, Lib.hid ⟨HT0.out.symm, HT2.out⟩⟩
  case round =>
    obtain ⟨k, ⟨tp, tn, tm, ta, tu⟩, hk, rfl, hg⟩ := hrel
    clear HT2 HT0
    by_cases hlt : k < M
    · have hk1 : k + 1 < gl.length := by have := HM2.out.1; omega
      obtain ⟨b2, off2, e2, hb2, c0⟩ := HI.out _ hg.out.2.2.2.2 (k + 1) hk1
      injection e2 with e2
      injection e2 with e3 e4
      subst e3
      subst e4
      have hbk := HBD.out (k + 1) hk1
      have htk := HTB.out k (by omega)
      have htk1 := HTB.out (k + 1) hk1
      obtain ⟨x, hx⟩ : ∃ x : Nat, gl.getD (k + 1) 0 = (x : Int) := ⟨(gl.getD (k + 1) 0).toNat, by omega⟩
      have hxl : x < gs.length := by omega
      obtain ⟨b3, off3, e2, hb3, hr⟩ := HV.out x hxl
      injection e2 with e2
      injection e2 with e3 e4
      subst e3
      subst e4
      obtain ⟨y0, y1, y2, y3, y4⟩ := gd_at (hr.below hg.out.2.2.2.2 hb3)
      have HN := HTN.out k
      rw [hx, gd_get hxl] at HN
      rw [hx] at c0
      have hok := Lf.okG_iff.1 (HOK.out x hxl)
      rw [← hg.out.1] at HN htk
      rw [HN] at htk1
      have HTn := Lib.hid HN
      have HG := Lib.hid hg.out.2
      have hoff : off + (k + 1) = off + 1 + k := by omega
      rw [hoff] at c0
      have hb3' : gb < wr.heap.size := Nat.lt_of_lt_of_le hb3 hg.out.2.2.2.2.size
      have hx0 : decide ((x : Int) < 0) = false := decide_eq_false (by omega)
      clear hg hr HN hbk hx hoff
      generalize gs[x] = s at *
      obtain ⟨sp, sn, sm, sa, su⟩ := s
      dsimp only [Lf.tg1] at *
      have g1 : IntKind.i64.wrap (tp + sp) = tp + sp := IntWalk.i64_in _ ⟨by omega, by omega⟩
      obtain ⟨p2, hp2⟩ : ∃ p2, tp + sp = p2 := ⟨_, rfl⟩
      obtain ⟨n2, hn2⟩ : ∃ n2, (if tn < sn then sn else tn) = n2 := ⟨_, rfl⟩
      obtain ⟨m2, hm2⟩ : ∃ m2, (if sm < tm then sm else tm) = m2 := ⟨_, rfl⟩
      obtain ⟨a2, ha2⟩ : ∃ a2, (if ta < sa then sa else ta) = a2 := ⟨_, rfl⟩
      obtain ⟨u2, hu2⟩ : ∃ u2, (if su < tu then su else tu) = u2 := ⟨_, rfl⟩
      rw [hp2, show max tn sn = n2 by rw [← hn2]; split <;> omega, show min tm sm = m2 by rw [← hm2]; split <;> omega, show max ta sa = a2 by rw [← ha2]; split <;> omega, show min tu su = u2 by rw [← hu2]; split <;> omega] at HTn
      rw [hp2] at g1
      clear hok htk htk1 HBD HTB
      have HA1 := Lib.hid ((HG.out.al (.cells (gdA ⟨sp, sn, sm, sa, su⟩) GoodT)))
      have d1 : World.cell? _ _ = some (.slice (some ⟨gb, go, none⟩) gs.length vc) := HG.out.1.cell 1
      have z0 : World.cell? _ _ = some (.int .i64 tp) := HA1.out.2.2.1.cell 0
      have f0 := HA1.out.2.2.1.frozen 0
      have hlt2 := HA1.out.2.2.1.lt
      go_wp2_with fail
      have hne : w.heap.size + 2 < wr.heap.size := HG.out.2.2.1.lt
      have HA2 := Lib.hid (HA1.out.set (t2 := ⟨p2, tn, tm, ta, tu⟩) 0 p2 rfl)
      have HS2 := Lib.hid ((BlockAt.new wr (gdA ⟨sp, sn, sm, sa, su⟩) GoodT).other (B' := w.heap.size + 2) (i := 0) (by omega) (.int .i64 p2))
      clear z0 f0 d1 y0 y1 y2 y3 y4 c0 hlt2 HA1
      obtain ⟨X2, hX2⟩ : ∃ X, X = (wr.alloc (.cells (gdA ⟨sp, sn, sm, sa, su⟩) GoodT)).setCell ⟨w.heap.size + 2, 0, none⟩ (.int .i64 p2) := ⟨_, rfl⟩
      rw [← hX2] at HA2 HS2
      rw [show (wr.alloc (.cells (gdA ⟨sp, sn, sm, sa, su⟩) GoodT)).setCell ⟨w.heap.size + 2, 0, none⟩ (.int .i64 p2) = X2 from hX2.symm]
      clear hX2
      obtain ⟨Y2, hY2⟩ : ∃ X, X = X2.drew := ⟨_, rfl⟩
      have HA2y : Hid (TgS w (.slice ua n1 uc) (.slice (some ⟨gb, go, none⟩) gs.length vc) ⟨p2, tn, tm, ta, tu⟩ Y2) := Lib.hid (by rw [hY2]; exact HA2.out.drew)
      have HS2y : Hid (BlockAt Y2 wr.heap.size (gdA ⟨sp, sn, sm, sa, su⟩) GoodT) := Lib.hid (by rw [hY2]; exact HS2.out.drew)
      have HSS := Lib.hid (show (fun W => W.cell? ⟨wr.heap.size, 1, none⟩ = some (.int .i64 sn) ∧ W.cell? ⟨wr.heap.size, 2, none⟩ = some (.int .i64 sm)) Y2 from ⟨HS2y.out.cell 1, HS2y.out.cell 2⟩)
      have HSb := Lib.hid (HS2y.out.other (B' := w.heap.size + 2) (i := 1) (by omega) (.int .i64 n2))
      have HSc := Lib.hid (HSb.out.other (B' := w.heap.size + 2) (i := 2) (by omega) (.int .i64 m2))
      have HSS1 := Lib.hid (show (fun W => W.cell? ⟨wr.heap.size, 1, none⟩ = some (.int .i64 sn) ∧ W.cell? ⟨wr.heap.size, 2, none⟩ = some (.int .i64 sm)) (Y2.setCell ⟨w.heap.size + 2, 1, none⟩ (.int .i64 n2)) from ⟨HSb.out.cell 1, HSb.out.cell 2⟩)
      have HSS2 := Lib.hid (show (fun W => W.cell? ⟨wr.heap.size, 1, none⟩ = some (.int .i64 sn) ∧ W.cell? ⟨wr.heap.size, 2, none⟩ = some (.int .i64 sm)) ((Y2.setCell ⟨w.heap.size + 2, 1, none⟩ (.int .i64 n2)).setCell ⟨w.heap.size + 2, 2, none⟩ (.int .i64 m2)) from ⟨HSc.out.cell 1, HSc.out.cell 2⟩)
      refine wp_region_meet (β := Unit) (.take 0 <| .take 2 <| .take 5 <| .take 7 <| .take 3 <| .take 8 <| .two 1 (.take 4 <| .one 6 <| .take 9 <| .take 10 <| .one 11 <| .take 12 <| .one 13 <| .done) 6 (.take 9 <| .one 1 <| .take 4 <| .take 10 <| .one 11 <| .take 12 <| .one 13 <| .done)) (fun W => W.cell? ⟨wr.heap.size, 1, none⟩ = some (.int .i64 sn) ∧ W.cell? ⟨wr.heap.size, 2, none⟩ = some (.int .i64 sm))
        (fun _ => [(34, .pointer (some ⟨w.heap.size + 2, 1, none⟩)), (35, .int .i64 tn), (36, .pointer (some ⟨wr.heap.size, 1, none⟩)), (37, .int .i64 sn), (38, .int .i64 n2), (39, .pointer (some ⟨w.heap.size + 2, 2, none⟩)), (40, .int .i64 tm), (41, .pointer (some ⟨wr.heap.size, 2, none⟩)), (42, .int .i64 sm), (43, .int .i64 m2), (44, .pointer (some ⟨w.heap.size + 2, 1, none⟩)), (45, .pointer (some ⟨w.heap.size + 2, 2, none⟩))])
        (fun _ W => W = (Y2.setCell ⟨w.heap.size + 2, 1, none⟩ (.int .i64 n2)).setCell ⟨w.heap.size + 2, 2, none⟩ (.int .i64 m2))
        (by kernel_rfl) (by kernel_rfl) (by kernel_rfl) (by kernel_rfl) (by rw [← hY2]; exact HSS.out) (fun _ => ?_) (fun _ _ hF => ?_)
      · rw [← hY2]
        have z1 : World.cell? _ _ = some (.int .i64 tn) := HA2y.out.2.2.1.cell 1
        have f1 := HA2y.out.2.2.1.frozen 1
        have z2 : World.cell? _ _ = some (.int .i64 tm) := HA2y.out.2.2.1.cell 2
        have f2 := HA2y.out.2.2.1.frozen 2
        clear hY2
        repeat (refine SeqT.ld (v := ?_) rfl (by rfl) ?_ ?_; rotate_left; (· intro w hSw; obtain ⟨q0, q1⟩ := hSw; go_simp; (try with_reducible rfl)); simp only [Act.put, List.setIfInBounds_toArray, List.set_cons_zero, List.set_cons_succ])
        refine ⟨wpOp_stepS rfl (by rfl) (fun K hK => ?_), wpOp_stepS rfl (by rfl) (fun K hK => ?_)⟩
        · go_simp
          try dsimp only
          refine hK.out _ _ HSS.out (fun _ => ?_)
          clear hK K
          try simp only [Act.put, List.setIfInBounds_toArray, List.set_cons_zero, List.set_cons_succ]
          repeat (refine SeqT.ld (v := ?_) rfl (by rfl) ?_ ?_; rotate_left; (· intro w hSw; obtain ⟨q0, q1⟩ := hSw; go_simp; (try with_reducible rfl)); simp only [Act.put, List.setIfInBounds_toArray, List.set_cons_zero, List.set_cons_succ])
          refine SeqT.step rfl (by rfl) (fun K hK => ?_)
          go_simp
          try dsimp only
          refine hK.out _ _ HSS.out (fun _ => ?_)
          clear hK K
          try simp only [Act.put, List.setIfInBounds_toArray, List.set_cons_zero, List.set_cons_succ]
          repeat (refine SeqT.ld (v := ?_) rfl (by rfl) ?_ ?_; rotate_left; (· intro w hSw; obtain ⟨q0, q1⟩ := hSw; go_simp; (try with_reducible rfl)); simp only [Act.put, List.setIfInBounds_toArray, List.set_cons_zero, List.set_cons_succ])
          refine SeqT.step rfl (by rfl) (fun K hK => ?_)
          go_simp
          try dsimp only
          refine hK.out _ _ HSS1.out (fun _ => ?_)
          clear hK K
          try simp only [Act.put, List.setIfInBounds_toArray, List.set_cons_zero, List.set_cons_succ]
          repeat (refine SeqT.ld (v := ?_) rfl (by rfl) ?_ ?_; rotate_left; (· intro w hSw; obtain ⟨q0, q1⟩ := hSw; go_simp; (try with_reducible rfl)); simp only [Act.put, List.setIfInBounds_toArray, List.set_cons_zero, List.set_cons_succ])
          refine SeqT.step rfl (by rfl) (fun K hK => ?_)
          go_simp
          try dsimp only
          refine hK.out _ _ HSS2.out (fun _ => ?_)
          clear hK K
          try simp only [Act.put, List.setIfInBounds_toArray, List.set_cons_zero, List.set_cons_succ]
          exact SeqT.fin ⟨rfl, (), by (simp only [putAll, Act.put, List.setIfInBounds_toArray, List.set_cons_zero, List.set_cons_succ]), rfl⟩
        · go_simp
          try dsimp only
          refine hK.out _ _ HSS.out (fun _ => ?_)
          clear hK K
          try simp only [Act.put, List.setIfInBounds_toArray, List.set_cons_zero, List.set_cons_succ]
          repeat (refine SeqT.ld (v := ?_) rfl (by rfl) ?_ ?_; rotate_left; (· intro w hSw; obtain ⟨q0, q1⟩ := hSw; go_simp; (try with_reducible rfl)); simp only [Act.put, List.setIfInBounds_toArray, List.set_cons_zero, List.set_cons_succ])
          refine SeqT.step rfl (by rfl) (fun K hK => ?_)
          go_simp
          try dsimp only
          refine hK.out _ _ HSS.out (fun _ => ?_)
          clear hK K
          try simp only [Act.put, List.setIfInBounds_toArray, List.set_cons_zero, List.set_cons_succ]
          repeat (refine SeqT.ld (v := ?_) rfl (by rfl) ?_ ?_; rotate_left; (· intro w hSw; obtain ⟨q0, q1⟩ := hSw; go_simp; (try with_reducible rfl)); simp only [Act.put, List.setIfInBounds_toArray, List.set_cons_zero, List.set_cons_succ])
          refine SeqT.step rfl (by rfl) (fun K hK => ?_)
          go_simp
          try dsimp only
          refine hK.out _ _ HSS1.out (fun _ => ?_)
          clear hK K
          try simp only [Act.put, List.setIfInBounds_toArray, List.set_cons_zero, List.set_cons_succ]
          repeat (refine SeqT.ld (v := ?_) rfl (by rfl) ?_ ?_; rotate_left; (· intro w hSw; obtain ⟨q0, q1⟩ := hSw; go_simp; (try with_reducible rfl)); simp only [Act.put, List.setIfInBounds_toArray, List.set_cons_zero, List.set_cons_succ])
          refine SeqT.step rfl (by rfl) (fun K hK => ?_)
          go_simp
          try dsimp only
          refine hK.out _ _ HSS2.out (fun _ => ?_)
          clear hK K
          try simp only [Act.put, List.setIfInBounds_toArray, List.set_cons_zero, List.set_cons_succ]
          exact SeqT.fin ⟨rfl, (), by (simp only [putAll, Act.put, List.setIfInBounds_toArray, List.set_cons_zero, List.set_cons_succ]), rfl⟩
      subst hF
      simp only [putAll, Act.put, List.setIfInBounds_toArray, List.set_cons_zero, List.set_cons_succ]
      have HA2n := Lib.hid ((HA2y.out.set (t2 := ⟨p2, n2, tm, ta, tu⟩) 1 n2 rfl).set (t2 := ⟨p2, n2, m2, ta, tu⟩) 2 m2 rfl)
      obtain ⟨Y2n, hY2n⟩ : ∃ X, X = (Y2.setCell ⟨w.heap.size + 2, 1, none⟩ (.int .i64 n2)).setCell ⟨w.heap.size + 2, 2, none⟩ (.int .i64 m2) := ⟨_, rfl⟩
      rw [← hY2n] at HA2n HSc
      rw [← hY2n]
      have HS2n := Lib.hid HSc.out
      clear hY2 hY2n HA2 HS2 HA2y HS2y HSS HSS1 HSS2 HSb HSc
      go_wp2_with fail
      obtain ⟨Y3, hY3⟩ : ∃ X, X = Y2n.drew := ⟨_, rfl⟩
      have HA2ny : Hid (TgS w (.slice ua n1 uc) (.slice (some ⟨gb, go, none⟩) gs.length vc) ⟨p2, n2, m2, ta, tu⟩ Y3) := Lib.hid (by rw [hY3]; exact HA2n.out.drew)
      have HS2ny : Hid (BlockAt Y3 wr.heap.size (gdA ⟨sp, sn, sm, sa, su⟩) GoodT) := Lib.hid (by rw [hY3]; exact HS2n.out.drew)
      have HSS := Lib.hid (show (fun W => W.cell? ⟨wr.heap.size, 3, none⟩ = some (.int .i64 sa) ∧ W.cell? ⟨wr.heap.size, 4, none⟩ = some (.int .i64 su)) Y3 from ⟨HS2ny.out.cell 3, HS2ny.out.cell 4⟩)
      have HSb := Lib.hid (HS2ny.out.other (B' := w.heap.size + 2) (i := 3) (by omega) (.int .i64 a2))
      have HSc := Lib.hid (HSb.out.other (B' := w.heap.size + 2) (i := 4) (by omega) (.int .i64 u2))
      have HSS1 := Lib.hid (show (fun W => W.cell? ⟨wr.heap.size, 3, none⟩ = some (.int .i64 sa) ∧ W.cell? ⟨wr.heap.size, 4, none⟩ = some (.int .i64 su)) (Y3.setCell ⟨w.heap.size + 2, 3, none⟩ (.int .i64 a2)) from ⟨HSb.out.cell 3, HSb.out.cell 4⟩)
      have HSS2 := Lib.hid (show (fun W => W.cell? ⟨wr.heap.size, 3, none⟩ = some (.int .i64 sa) ∧ W.cell? ⟨wr.heap.size, 4, none⟩ = some (.int .i64 su)) ((Y3.setCell ⟨w.heap.size + 2, 3, none⟩ (.int .i64 a2)).setCell ⟨w.heap.size + 2, 4, none⟩ (.int .i64 u2)) from ⟨HSc.out.cell 3, HSc.out.cell 4⟩)
      refine wp_region_meet (β := Unit) (.take 0 <| .take 2 <| .take 5 <| .take 7 <| .take 3 <| .take 8 <| .two 1 (.take 4 <| .one 6 <| .take 9 <| .take 10 <| .one 11 <| .take 12 <| .one 13 <| .done) 6 (.take 9 <| .one 1 <| .take 4 <| .take 10 <| .one 11 <| .take 12 <| .one 13 <| .done)) (fun W => W.cell? ⟨wr.heap.size, 3, none⟩ = some (.int .i64 sa) ∧ W.cell? ⟨wr.heap.size, 4, none⟩ = some (.int .i64 su))
        (fun _ => [(46, .pointer (some ⟨w.heap.size + 2, 3, none⟩)), (47, .int .i64 ta), (48, .pointer (some ⟨wr.heap.size, 3, none⟩)), (49, .int .i64 sa), (50, .int .i64 a2), (51, .pointer (some ⟨w.heap.size + 2, 4, none⟩)), (52, .int .i64 tu), (53, .pointer (some ⟨wr.heap.size, 4, none⟩)), (54, .int .i64 su), (55, .int .i64 u2), (56, .pointer (some ⟨w.heap.size + 2, 3, none⟩)), (57, .pointer (some ⟨w.heap.size + 2, 4, none⟩))])
        (fun _ W => W = (Y3.setCell ⟨w.heap.size + 2, 3, none⟩ (.int .i64 a2)).setCell ⟨w.heap.size + 2, 4, none⟩ (.int .i64 u2))
        (by kernel_rfl) (by kernel_rfl) (by kernel_rfl) (by kernel_rfl) (by rw [← hY3]; exact HSS.out) (fun _ => ?_) (fun _ _ hF => ?_)
      · rw [← hY3]
        have z1 : World.cell? _ _ = some (.int .i64 ta) := HA2ny.out.2.2.1.cell 3
        have f1 := HA2ny.out.2.2.1.frozen 3
        have z2 : World.cell? _ _ = some (.int .i64 tu) := HA2ny.out.2.2.1.cell 4
        have f2 := HA2ny.out.2.2.1.frozen 4
        clear hY3
        repeat (refine SeqT.ld (v := ?_) rfl (by rfl) ?_ ?_; rotate_left; (· intro w hSw; obtain ⟨q0, q1⟩ := hSw; go_simp; (try with_reducible rfl)); simp only [Act.put, List.setIfInBounds_toArray, List.set_cons_zero, List.set_cons_succ])
        refine ⟨wpOp_stepS rfl (by rfl) (fun K hK => ?_), wpOp_stepS rfl (by rfl) (fun K hK => ?_)⟩
        · go_simp
          try dsimp only
          refine hK.out _ _ HSS.out (fun _ => ?_)
          clear hK K
          try simp only [Act.put, List.setIfInBounds_toArray, List.set_cons_zero, List.set_cons_succ]
          repeat (refine SeqT.ld (v := ?_) rfl (by rfl) ?_ ?_; rotate_left; (· intro w hSw; obtain ⟨q0, q1⟩ := hSw; go_simp; (try with_reducible rfl)); simp only [Act.put, List.setIfInBounds_toArray, List.set_cons_zero, List.set_cons_succ])
          refine SeqT.step rfl (by rfl) (fun K hK => ?_)
          go_simp
          try dsimp only
          refine hK.out _ _ HSS.out (fun _ => ?_)
          clear hK K
          try simp only [Act.put, List.setIfInBounds_toArray, List.set_cons_zero, List.set_cons_succ]
          repeat (refine SeqT.ld (v := ?_) rfl (by rfl) ?_ ?_; rotate_left; (· intro w hSw; obtain ⟨q0, q1⟩ := hSw; go_simp; (try with_reducible rfl)); simp only [Act.put, List.setIfInBounds_toArray, List.set_cons_zero, List.set_cons_succ])
          refine SeqT.step rfl (by rfl) (fun K hK => ?_)
          go_simp
          try dsimp only
          refine hK.out _ _ HSS1.out (fun _ => ?_)
          clear hK K
          try simp only [Act.put, List.setIfInBounds_toArray, List.set_cons_zero, List.set_cons_succ]
          repeat (refine SeqT.ld (v := ?_) rfl (by rfl) ?_ ?_; rotate_left; (· intro w hSw; obtain ⟨q0, q1⟩ := hSw; go_simp; (try with_reducible rfl)); simp only [Act.put, List.setIfInBounds_toArray, List.set_cons_zero, List.set_cons_succ])
          refine SeqT.step rfl (by rfl) (fun K hK => ?_)
          go_simp
          try dsimp only
          refine hK.out _ _ HSS2.out (fun _ => ?_)
          clear hK K
          try simp only [Act.put, List.setIfInBounds_toArray, List.set_cons_zero, List.set_cons_succ]
          exact SeqT.fin ⟨rfl, (), by (simp only [putAll, Act.put, List.setIfInBounds_toArray, List.set_cons_zero, List.set_cons_succ]), rfl⟩
        · go_simp
          try dsimp only
          refine hK.out _ _ HSS.out (fun _ => ?_)
          clear hK K
          try simp only [Act.put, List.setIfInBounds_toArray, List.set_cons_zero, List.set_cons_succ]
          repeat (refine SeqT.ld (v := ?_) rfl (by rfl) ?_ ?_; rotate_left; (· intro w hSw; obtain ⟨q0, q1⟩ := hSw; go_simp; (try with_reducible rfl)); simp only [Act.put, List.setIfInBounds_toArray, List.set_cons_zero, List.set_cons_succ])
          refine SeqT.step rfl (by rfl) (fun K hK => ?_)
          go_simp
          try dsimp only
          refine hK.out _ _ HSS.out (fun _ => ?_)
          clear hK K
          try simp only [Act.put, List.setIfInBounds_toArray, List.set_cons_zero, List.set_cons_succ]
          repeat (refine SeqT.ld (v := ?_) rfl (by rfl) ?_ ?_; rotate_left; (· intro w hSw; obtain ⟨q0, q1⟩ := hSw; go_simp; (try with_reducible rfl)); simp only [Act.put, List.setIfInBounds_toArray, List.set_cons_zero, List.set_cons_succ])
          refine SeqT.step rfl (by rfl) (fun K hK => ?_)
          go_simp
          try dsimp only
          refine hK.out _ _ HSS1.out (fun _ => ?_)
          clear hK K
          try simp only [Act.put, List.setIfInBounds_toArray, List.set_cons_zero, List.set_cons_succ]
          repeat (refine SeqT.ld (v := ?_) rfl (by rfl) ?_ ?_; rotate_left; (· intro w hSw; obtain ⟨q0, q1⟩ := hSw; go_simp; (try with_reducible rfl)); simp only [Act.put, List.setIfInBounds_toArray, List.set_cons_zero, List.set_cons_succ])
          refine SeqT.step rfl (by rfl) (fun K hK => ?_)
          go_simp
          try dsimp only
          refine hK.out _ _ HSS2.out (fun _ => ?_)
          clear hK K
          try simp only [Act.put, List.setIfInBounds_toArray, List.set_cons_zero, List.set_cons_succ]
          exact SeqT.fin ⟨rfl, (), by (simp only [putAll, Act.put, List.setIfInBounds_toArray, List.set_cons_zero, List.set_cons_succ]), rfl⟩
      subst hF
      simp only [putAll, Act.put, List.setIfInBounds_toArray, List.set_cons_zero, List.set_cons_succ]
      have HA2nn := Lib.hid ((HA2ny.out.set (t2 := ⟨p2, n2, m2, a2, tu⟩) 3 a2 rfl).set (t2 := ⟨p2, n2, m2, a2, u2⟩) 4 u2 rfl)
      obtain ⟨Y3n, hY3n⟩ : ∃ X, X = (Y3.setCell ⟨w.heap.size + 2, 3, none⟩ (.int .i64 a2)).setCell ⟨w.heap.size + 2, 4, none⟩ (.int .i64 u2) := ⟨_, rfl⟩
      rw [← hY3n] at HA2nn HSc
      rw [← hY3n]
      have HS2nn := Lib.hid HSc.out
      clear hY3 hY3n HA2n HS2n HA2ny HS2ny HSS HSS1 HSS2 HSb HSc
      go_wp2
      go_roundw
      case rel => exact ⟨k + 1, ⟨p2, n2, m2, a2, u2⟩, by omega, by go_num, Lib.hid ⟨HTn.out.symm, HA2nn.out⟩⟩
      case measure => simp [intOf]; omega
    · obtain rfl : k = M := by omega
      have HE := Lib.hid (HTA.out.trans hg.out.1.symm)
      have HT := Lib.hid hg.out.2
      clear hg HTN HTA HBD HTB HI HV HOK
      have r0 := HT.out.2.1.frozen 0
      have r1 := HT.out.2.1.frozen 1
      have r2 := HT.out.2.1.frozen 2
      have r3 := HT.out.2.1.frozen 3
      have r4 := HT.out.2.1.frozen 4
      have s0 : World.cell? _ _ = some (.int .i64 0) := HT.out.2.1.cell 0
      have s1 : World.cell? _ _ = some (.int .i64 0) := HT.out.2.1.cell 1
      have s2 : World.cell? _ _ = some (.int .i64 0) := HT.out.2.1.cell 2
      have s3 : World.cell? _ _ = some (.int .i64 0) := HT.out.2.1.cell 3
      have s4 : World.cell? _ _ = some (.int .i64 0) := HT.out.2.1.cell 4
      have t0 : World.cell? _ _ = some (.int .i64 tp) := HT.out.2.2.1.cell 0
      have t1 : World.cell? _ _ = some (.int .i64 tn) := HT.out.2.2.1.cell 1
      have t2 : World.cell? _ _ = some (.int .i64 tm) := HT.out.2.2.1.cell 2
      have t3 : World.cell? _ _ = some (.int .i64 ta) := HT.out.2.2.1.cell 3
      have t4 : World.cell? _ _ = some (.int .i64 tu) := HT.out.2.2.1.cell 4
      have hlt1 := HT.out.2.1.lt
      have hlt2 := HT.out.2.2.1.lt
      go_wp2
      have HR := Lib.hid (((((HT.out.2.1.set 0 (.int .i64 tp)).set 1 (.int .i64 tn)).set 2 (.int .i64 tm)).set 3 (.int .i64 ta)).set 4 (.int .i64 tu))
      have v0 : World.cell? _ _ = some (.int .i64 tp) := HR.out.cell 0
      have v1 : World.cell? _ _ = some (.int .i64 tn) := HR.out.cell 1
      have v2 : World.cell? _ _ = some (.int .i64 tm) := HR.out.cell 2
      have v3 : World.cell? _ _ = some (.int .i64 ta) := HR.out.cell 3
      have v4 : World.cell? _ _ = some (.int .i64 tu) := HR.out.cell 4
      refine bodyPost_ret (v := gdV ⟨tp, tn, tm, ta, tu⟩) (by simp [results, Try.results126, go_sem, v0, v1, v2, v3, v4]) rfl ⟨by rw [HE.out], ?_⟩
      exact below_set (below_set (below_set (below_set (below_set HT.out.2.2.2 (by omega) _) (by omega) _) (by omega) _) (by omega) _) (by omega) _
end Go.Proofs.Ytabfcnfddemblaa.Lo
