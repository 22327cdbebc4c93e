/- The first error of a plan: Check of the program. -/
import Derived.Test.YtabfcnfddemblaaLfMi
namespace Go.Proofs.Ytabfcnfddemblaa.Lo
open Go.RowKit

theorem loads_row {w : World} {a : Option Addr} {n c : Nat} {ps : List Lf.L} (h : Loads w (.slice a n c) ps) : ∀ k (hk : k < ps.length), ∃ b off, a = some ⟨b, off, none⟩ ∧ b < w.heap.size ∧ LoadAt w b (off + k * 4) ps[k] := by
  obtain ⟨a2, c2, e, _, hk⟩ := h
  injection e with e1 e2 e3
  subst e1
  exact hk
/-- The errors of a load in turn: by itself, of what is known, behind others. -/
theorem ckL_step {ls : List Lf.F} {gs : List Lf.G} {plan : List Lf.L} {k : Nat} (hk : k < plan.length) :
    Lf.ckL ls gs plan (plan.length - k) k = if Lf.ldE ls gs (plan.take k) plan[k] = 0 then Lf.ckL ls gs plan (plan.length - (k + 1)) (k + 1) else Lf.ldE ls gs (plan.take k) plan[k] := by
  rw [show plan.length - k = (plan.length - (k + 1)) + 1 by omega, Lf.ckL, show plan.getD k default = plan[k] by simp [hk]]
theorem ldE_v {ls : List Lf.F} {gs : List Lf.G} {pre : List Lf.L} {x : Lf.L} (h : Lf.vLE ls gs x ≠ 0) : Lf.ldE ls gs pre x = Lf.vLE ls gs x := by
  unfold Lf.ldE Lf.slE; rw [if_neg h, if_neg h]
def ckX (ls : List Lf.F) (gs : List Lf.G) (x : Lf.L) : Int := Lf.ckE (Lf.fat ls x.l).p (Lf.wm (Lf.fat ls x.l).rs x.hs x.hs.length) (Lf.end' x) x (Lf.togA gs x.gs)
def afX (pre : List Lf.L) (x : Lf.L) : Int := if pre.any (Lf.shr x) = true then 8 else if pre.any (Lf.mts x) = true then 10 else 0
theorem ldE_c {ls : List Lf.F} {gs : List Lf.G} {pre : List Lf.L} {x : Lf.L} (h : Lf.vLE ls gs x = 0) (h2 : ckX ls gs x ≠ 0) : Lf.ldE ls gs pre x = ckX ls gs x := by
  unfold Lf.ldE Lf.slE; rw [if_pos h]; unfold ckX at h2; rw [if_neg h2]; rfl
theorem ldE_a {ls : List Lf.F} {gs : List Lf.G} {pre : List Lf.L} {x : Lf.L} (h : Lf.vLE ls gs x = 0) (h2 : ckX ls gs x = 0) : Lf.ldE ls gs pre x = afX pre x := by
  unfold Lf.ldE Lf.slE; rw [if_pos h]; unfold ckX at h2; rw [if_pos h2]; rfl
/-- A demand's box and the loads that are known so far. -/
def CkS (W0 : World) (B : Nat) (u v sl : Value) (L : List KV) (W : World) : Prop := BlockAt W B #[u, v] DemT ∧ OwnKv W0.heap.size W sl L ∧ Below W0.heap.size W0 W
theorem CkS.step {W0 : World} {B : Nat} {u v sl : Value} {L : List KV} {W W2 : World} (h : CkS W0 B u v sl L W) (hb : Below W.heap.size W W2) : CkS W0 B u v sl L W2 := ⟨h.1.below hb h.1.lt, h.2.1.all hb, below_step h.2.2 hb⟩
theorem kvC_one (k : KV) (h1 : k.u.oneCell' = true) (h2 : k.v.oneCell' = true) : ∀ u ∈ kvC k, u.oneCell' = true := by
  intro u h
  simp only [kvC, List.mem_cons, List.not_mem_nil, or_false] at h
  rcases h with rfl | rfl | rfl | rfl | rfl | rfl | rfl | rfl | rfl | rfl | rfl <;> first | exact h1 | exact h2 | rfl
set_option maxRecDepth 100000 in
set_option maxHeartbeats 8000000 in
theorem checkF_any (u v z : Value) (ls : List Lf.F) (gs : List Lf.G) (plan : List Lf.L) (w : World) (hu : Lofts w u ls) (hv : Goods w v gs) (hz : Loads w z plan) (hp20 : plan.length ≤ 20) :
    Calls Try.prog 46 #[u, v, z] w fun e w' => e = .returned (.int .i64 (Lf.chkE ls gs plan)) ∧ Below w.heap.size w w' := by
  have CB := Lib.hid (fun W (hW : Below w.heap.size w W) => both_any u v ls gs W (hu.all hW) (hv.all hW))
  have CV := Lib.hid (fun (x : Lf.L) p q W (hp : Ints W p x.hs) (hq : Ints W q x.gs) ua uc va vc h3 h8 => validK_any ua va ls.length gs.length uc vc x.l x.a p q x.hs x.gs W hp hq h3 h8 (Lf.vLE ls gs x) (fun h => vLE_loft h) (fun h h2 => vLE_bad h h2) (fun h h2 => vLE_ok h h2))
  have CK := Lib.hid (fun (x : Lf.L) p q W (hW : Below w.heap.size w W) (hp : Ints W p x.hs) (hq : Ints W q x.gs) hb0 hx => know_any u v p q ls gs x W (hu.all hW) (hv.all hW) hp hq hb0 hx)
  have CA := Lib.hid (fun (l : List KV) x W (hW : Below w.heap.size w W) va vc h8 hv hl hn => checkAll_any u va vc gs x l W h8 hv hl hn)
  obtain ⟨R, hR⟩ : ∃ R, R = Lf.chkE ls gs plan := ⟨_, rfl⟩
  rw [← hR]
  have HR := Lib.hid hR
  clear hR
  obtain ⟨ua, uc, rfl⟩ := hu.form
  obtain ⟨va, vc, rfl⟩ := hv.form
  obtain ⟨za, zc, rfl⟩ := hz.form
  have HZ := Lib.hid (loads_row hz)
  have HW0 := Lib.hid (Below.refl w.heap.size w)
  clear hu hv hz
  by_cases hb0 : Lf.bthE ls gs = 0
  case neg =>
    have HE : Hid (R = Lf.bthE ls gs) := Lib.hid (by rw [HR.out, Lf.chkE, if_neg hb0])
    generalize Lf.bthE ls gs = E at *
    have hd : (E == 0) = false := beq_eq_false_iff_ne.2 hb0
    have hd2 : (E != 0) = true := by rw [bne, hd]; rfl
    clear CV CK CA HR HZ
    go_enter Try.func46, Try.ntmps46
    go_wp2_with fail
    refine (CB.out _ HW0.out).mono ?_
    rintro e w1 ⟨rfl, hb1⟩
    have HB := Lib.hid hb1
    clear hb1
    go_wp2
    go_ret
    exact ⟨ret_int HE.out.symm, HB.out⟩
  obtain ⟨_, h3, _, h8⟩ := bth_ok hb0
  have HB0 := Lib.hid hb0
  have HR0 : Hid (R = Lf.ckL ls gs plan (plan.length - 0) 0) := Lib.hid (by rw [HR.out, Lf.chkE, if_pos hb0]; rfl)
  have HRE : Hid (∀ L : List KV, L.map KV.x = plan → R = Lf.ckL ls gs plan (plan.length - plan.length) plan.length → R = (if Lf.cov gs (L.map KV.x) = true then 0 else 11)) := Lib.hid (fun L hL h => by rw [h, Nat.sub_self, Lf.ckL, hL])
  rw [hb0] at CB
  clear hb0 HR
  have HST := Lib.hid (fun k (hk : k < plan.length) => ckL_step (ls := ls) (gs := gs) hk)
  have i0e := info_parts infoLoadK
  obtain ⟨i0, hi0, hz0, hz1, hz2⟩ := i0e
  go_enter Try.func46, Try.ntmps46
  go_wp2_with fail
  refine (CB.out _ HW0.out).mono ?_
  rintro e w1 ⟨rfl, hb1⟩
  obtain ⟨W0, hW0⟩ : ∃ W, W = w1.alloc (.cells #[.slice ua ls.length uc, .slice va gs.length vc] DemT) := ⟨_, rfl⟩
  have HD := Lib.hid (show CkS W0 w1.heap.size (.slice ua ls.length uc) (.slice va gs.length vc) (.slice none 0 0) [] W0 from ⟨by rw [hW0]; exact BlockAt.new _ _ _, OwnG.nil _ _, Below.refl _ _⟩)
  have HW1 : Hid (Below w.heap.size w W0) := Lib.hid (by rw [hW0]; exact below_alloc2 hb1 _)
  have HE9 := Lib.hid hW0.symm
  clear hb1 CB HW0 hW0
  go_wp2
  rw [show w1.alloc (.cells #[.slice ua ls.length uc, .slice va gs.length vc] DemT) = W0 from HE9.out]
  clear HE9
  go_loopw [9, 27] (fun s t wr => ∃ (k : Nat) (L : List KV) (a : Option Addr) (c : Nat), k ≤ plan.length ∧ L.length ≤ 20 ∧ s = .slice a L.length c ∧ t = .int .i64 k ∧ Hid ((L.map KV.x = plan.take k ∧ R = Lf.ckL ls gs plan (plan.length - k) k ∧ L.length = k ∧ ∀ j (hj : j < L.length), KvW w L[j]) ∧ CkS W0 w1.heap.size (.slice ua ls.length uc) (.slice va gs.length vc) (.slice a L.length c) L wr)) (fun _ t _ => plan.length - (intOf t).toNat)
  case atStart => exact ⟨0, [], none, 0, Nat.zero_le _, by simp, rfl, rfl, Lib.hid ⟨⟨rfl, HR0.out, rfl, fun j hj => absurd hj (Nat.not_lt_zero _)⟩, HD.out⟩⟩
  case round =>
    obtain ⟨k, L, a, c, hk, hL20, rfl, rfl, hg⟩ := hrel
    clear HD HR0
    have hbw : Below w.heap.size w wr := ⟨hg.out.2.2.2.os.trans HW1.out.os, hg.out.2.2.2.tape.trans HW1.out.tape, hg.out.2.2.2.output.trans HW1.out.output, Nat.le_trans HW1.out.size hg.out.2.2.2.size, fun b hb => (hg.out.2.2.2.block b (Nat.lt_of_lt_of_le hb HW1.out.size)).trans (HW1.out.block b hb)⟩
    by_cases hlt : k < plan.length
    · obtain ⟨zb, zo, rfl, hzb, hzr⟩ := HZ.out k hlt
      obtain ⟨p, q, ⟨c0, c1, c2, c3⟩, hI1, hI2⟩ := hzr
      obtain ⟨pa, pc, rfl⟩ := hI1.form
      obtain ⟨qa, qc, rfl⟩ := hI2.form
      have y0 := (hbw.cell (p := ⟨zb, zo + k * 4, none⟩) hzb).trans c0
      have y1 := (hbw.cell (p := ⟨zb, zo + k * 4 + 1, none⟩) hzb).trans c1
      have y2 := (hbw.cell (p := ⟨zb, zo + k * 4 + 2, none⟩) hzb).trans c2
      have y3 := (hbw.cell (p := ⟨zb, zo + k * 4 + 3, none⟩) hzb).trans c3
      have HSk := Lib.hid (HST.out k hlt)
      have HTK : Hid (plan.take (k + 1) = plan.take k ++ [plan[k]]) := Lib.hid (List.take_succ_eq_append_getElem hlt)
      have HII := Lib.hid (And.intro hI1 hI2)
      have HIN := Lib.hid hg.out.1
      have HS1 := Lib.hid (And.intro (hg.out.2.step (below_alloc2 (Below.refl _ _) (.cells (ldA plan[k].l plan[k].a (.slice pa plan[k].hs.length pc) (.slice qa plan[k].gs.length qc)) LoadT))) (And.intro (BlockAt.new wr (ldA plan[k].l plan[k].a (.slice pa plan[k].hs.length pc) (.slice qa plan[k].gs.length qc)) LoadT) (below_alloc2 hbw (.cells (ldA plan[k].l plan[k].a (.slice pa plan[k].hs.length pc) (.slice qa plan[k].gs.length qc)) LoadT))))
      clear c0 c1 c2 c3 hI1 hI2 hg hbw
      generalize hX : plan[k] = x at *
      have CV1 := Lib.hid (CV.out x (.slice pa x.hs.length pc) (.slice qa x.gs.length qc) _ (HII.out.1.all HS1.out.2.2) (HII.out.2.all HS1.out.2.2) ua uc va vc (by omega) (by omega))
      have HLV := Lib.hid (fun h => ldE_v (ls := ls) (gs := gs) (pre := plan.take k) (x := x) h)
      have HLC := Lib.hid (fun h h2 => ldE_c (ls := ls) (gs := gs) (pre := plan.take k) (x := x) h h2)
      have HLA := Lib.hid (fun h h2 => ldE_a (ls := ls) (gs := gs) (pre := plan.take k) (x := x) h h2)
      have CK1 := Lib.hid (fun W hW h1 h2 hx => CK.out x (.slice pa x.hs.length pc) (.slice qa x.gs.length qc) W hW h1 h2 HB0.out hx)
      have HVZ := Lib.hid (fun h => vLE_zero (ls := ls) (gs := gs) (x := x) h)
      have HCX : Hid (ckX ls gs x = if (Lf.fat ls x.l).p < (Lf.togA gs x.gs).p then 6 else if x.a < (Lf.togA gs x.gs).a then 7 else if Lf.rng (Lf.togA gs x.gs).n (Lf.togA gs x.gs).m (Lf.wm (Lf.fat ls x.l).rs x.hs x.hs.length) = true then (if (Lf.togA gs x.gs).u < x.a + (x.hs.length : Int) then 12 else 0) else 9) := Lib.hid rfl
      have HAF : Hid (∀ L : List KV, L.map KV.x = plan.take k → afX (plan.take k) x = if L.any (fun y => Lf.shr x y.x) = true then 8 else if L.any (fun y => Lf.mts x y.x) = true then 10 else 0) := Lib.hid (fun L hL => by
        unfold afX; rw [← hL, List.any_map, List.any_map]; rfl)
      clear CV CK hX
      obtain ⟨xl, xa, xh, xg⟩ := x
      dsimp only at *
      generalize Lf.vLE ls gs ⟨xl, xa, xh, xg⟩ = V at *
      generalize Lf.ldE ls gs (plan.take k) ⟨xl, xa, xh, xg⟩ = D at *
      generalize ckX ls gs ⟨xl, xa, xh, xg⟩ = C at *
      generalize afX (plan.take k) ⟨xl, xa, xh, xg⟩ = A at *
      have x0 : World.cell? _ _ = some (.int .i64 xl) := HS1.out.2.1.cell 0
      have x1 : World.cell? _ _ = some (.int .i64 xa) := HS1.out.2.1.cell 1
      have x2 : World.cell? _ _ = some (.slice pa xh.length pc) := HS1.out.2.1.cell 2
      have x3 : World.cell? _ _ = some (.slice qa xg.length qc) := HS1.out.2.1.cell 3
      have d0 : World.cell? _ _ = some (.slice ua ls.length uc) := HS1.out.1.1.cell 0
      have d1 : World.cell? _ _ = some (.slice va gs.length vc) := HS1.out.1.1.cell 1
      go_wp2_with fail
      refine CV1.out.mono ?_
      rintro e w2 ⟨rfl, hb1⟩
      have HS2 := Lib.hid (And.intro (HS1.out.1.step hb1) (And.intro (HS1.out.2.1.below hb1 HS1.out.2.1.lt) (below_step HS1.out.2.2 hb1)))
      clear hb1 x0 x1 x2 x3 d0 d1 y0 y1 y2 y3 CV1 HS1
      by_cases hV : V = 0
      case neg =>
        have HE : Hid (R = V) := Lib.hid (by rw [HIN.out.2.1, HSk.out, HLV.out hV, if_neg hV])
        have hd : (V == 0) = false := beq_eq_false_iff_ne.2 hV
        have hd2 : (V != 0) = true := by rw [bne, hd]; rfl
        clear HLV HLC HLA CK1 HVZ HCX HAF HSk HRE hV
        go_wp2
        go_ret
        exact ⟨ret_int HE.out.symm, HS2.out.2.2⟩
      obtain ⟨hvl, hva, hvh, hvn, hvs⟩ := HVZ.out hV
      have hh12 := (Lf.vHt_iff.1 hvh).1.2
      have hg8 := Lf.st_len hvs
      subst hV
      have CK2 := Lib.hid (CK1.out _ HS2.out.2.2 (HII.out.1.all HS2.out.2.2) (HII.out.2.all HS2.out.2.2) rfl)
      have HLC1 := Lib.hid (fun h => HLC.out rfl h)
      have HLA1 := Lib.hid (fun h => HLA.out rfl h)
      clear HLV HLC HLA CK1 HVZ hvh hvs hvn hvl
      generalize Lf.wm (Lf.fat ls xl).rs xh xh.length = M at *
      generalize Lf.togA gs xg = T at *
      generalize (Lf.fat ls xl).p = F at *
      obtain ⟨tp, tn, tm, ta, tu⟩ := T
      dsimp only at *
      have x0 : World.cell? _ _ = some (.int .i64 xl) := HS2.out.2.1.cell 0
      have x1 : World.cell? _ _ = some (.int .i64 xa) := HS2.out.2.1.cell 1
      have x2 : World.cell? _ _ = some (.slice pa xh.length pc) := HS2.out.2.1.cell 2
      have x3 : World.cell? _ _ = some (.slice qa xg.length qc) := HS2.out.2.1.cell 3
      have d0 : World.cell? _ _ = some (.slice ua ls.length uc) := HS2.out.1.1.cell 0
      have d1 : World.cell? _ _ = some (.slice va gs.length vc) := HS2.out.1.1.cell 1
      go_wp2_with fail
      refine CK2.out.mono ?_
      rintro e w3 ⟨rfl, hb1⟩
      have hb2 := below_alloc2 hb1 (.cells (kA ⟨⟨xl, xa, xh, xg⟩, .slice pa xh.length pc, .slice qa xg.length qc, F, M, ⟨tp, tn, tm, ta, tu⟩⟩) KvT)
      have HS3 := Lib.hid (And.intro (HS2.out.1.step hb2) (And.intro (HS2.out.2.1.below hb2 HS2.out.2.1.lt) (And.intro (BlockAt.new w3 (kA ⟨⟨xl, xa, xh, xg⟩, .slice pa xh.length pc, .slice qa xg.length qc, F, M, ⟨tp, tn, tm, ta, tu⟩⟩) KvT) (below_step HS2.out.2.2 hb2))))
      clear hb1 hb2 x0 x1 x2 x3 d0 d1 CK2 HS2
      have CC := Lib.hid (fun W => checkK_any xl xa pa xh.length pc (.slice qa xg.length qc) F M ⟨tp, tn, tm, ta, tu⟩ W ⟨by omega, by omega⟩ (by omega))
      dsimp only at CC
      rw [← HCX.out] at CC
      have k0 : World.cell? _ _ = some (.int .i64 xl) := HS3.out.2.2.1.cell 0
      have k1 : World.cell? _ _ = some (.int .i64 xa) := HS3.out.2.2.1.cell 1
      have k2 : World.cell? _ _ = some (.slice pa xh.length pc) := HS3.out.2.2.1.cell 2
      have k3 : World.cell? _ _ = some (.slice qa xg.length qc) := HS3.out.2.2.1.cell 3
      have k4 : World.cell? _ _ = some (.int .i64 F) := HS3.out.2.2.1.cell 4
      have k5 : World.cell? _ _ = some (.int .i64 M) := HS3.out.2.2.1.cell 5
      have k6 : World.cell? _ _ = some (.int .i64 tp) := HS3.out.2.2.1.cell 6
      have k7 : World.cell? _ _ = some (.int .i64 tn) := HS3.out.2.2.1.cell 7
      have k8 : World.cell? _ _ = some (.int .i64 tm) := HS3.out.2.2.1.cell 8
      have k9 : World.cell? _ _ = some (.int .i64 ta) := HS3.out.2.2.1.cell 9
      have k10 : World.cell? _ _ = some (.int .i64 tu) := HS3.out.2.2.1.cell 10
      go_wp2_with fail
      refine (CC.out _).mono ?_
      rintro e w4 ⟨rfl, hb1⟩
      have HS4 := Lib.hid (And.intro (HS3.out.1.step hb1) (And.intro (HS3.out.2.1.below hb1 HS3.out.2.1.lt) (And.intro (HS3.out.2.2.1.below hb1 HS3.out.2.2.1.lt) (below_step HS3.out.2.2.2 hb1))))
      clear hb1 k0 k1 k2 k3 k4 k5 k6 k7 k8 k9 k10 CC HS3 HCX
      by_cases hC : C = 0
      case neg =>
        have HE : Hid (R = C) := Lib.hid (by rw [HIN.out.2.1, HSk.out, HLC1.out hC, if_neg hC])
        have hd : (C == 0) = false := beq_eq_false_iff_ne.2 hC
        have hd2 : (C != 0) = true := by rw [bne, hd]; rfl
        clear HLC1 HLA1 HAF HSk HRE hC
        go_wp2
        go_ret
        exact ⟨ret_int HE.out.symm, HS4.out.2.2.2⟩
      subst hC
      have HD9 := Lib.hid (HLA1.out rfl)
      have hKW : KvW w ⟨⟨xl, xa, xh, xg⟩, .slice pa xh.length pc, .slice qa xg.length qc, F, M, ⟨tp, tn, tm, ta, tu⟩⟩ := ⟨⟨HII.out.1, HII.out.2⟩, ⟨by show 0 ≤ xa; omega, by show xa ≤ 1000; omega⟩, by show xh.length ≤ 1000; omega, by show xg.length ≤ 1000; omega⟩
      have HKW := Lib.hid hKW
      have CF := Lib.hid (checkAfter_any ⟨⟨xl, xa, xh, xg⟩, .slice pa xh.length pc, .slice qa xg.length qc, F, M, ⟨tp, tn, tm, ta, tu⟩⟩ (.slice a L.length c) L w4 (hKW.all HS4.out.2.2.2) (OwnG.rows kvC_len HS4.out.1.2.1) (fun j hj => (HIN.out.2.2.2 j hj).all HS4.out.2.2.2) (by omega))
      dsimp only at CF
      rw [← HAF.out L HIN.out.1] at CF
      clear HLC1 HLA1 HAF hKW
      have k0 : World.cell? _ _ = some (.int .i64 xl) := HS4.out.2.2.1.cell 0
      have k1 : World.cell? _ _ = some (.int .i64 xa) := HS4.out.2.2.1.cell 1
      have k2 : World.cell? _ _ = some (.slice pa xh.length pc) := HS4.out.2.2.1.cell 2
      have k3 : World.cell? _ _ = some (.slice qa xg.length qc) := HS4.out.2.2.1.cell 3
      have k4 : World.cell? _ _ = some (.int .i64 F) := HS4.out.2.2.1.cell 4
      have k5 : World.cell? _ _ = some (.int .i64 M) := HS4.out.2.2.1.cell 5
      have k6 : World.cell? _ _ = some (.int .i64 tp) := HS4.out.2.2.1.cell 6
      have k7 : World.cell? _ _ = some (.int .i64 tn) := HS4.out.2.2.1.cell 7
      have k8 : World.cell? _ _ = some (.int .i64 tm) := HS4.out.2.2.1.cell 8
      have k9 : World.cell? _ _ = some (.int .i64 ta) := HS4.out.2.2.1.cell 9
      have k10 : World.cell? _ _ = some (.int .i64 tu) := HS4.out.2.2.1.cell 10
      go_wp2_with fail
      refine CF.out.mono ?_
      rintro e w5 ⟨rfl, hb1⟩
      have HS5 := Lib.hid (And.intro (HS4.out.1.step hb1) (And.intro (HS4.out.2.2.1.below hb1 HS4.out.2.2.1.lt) (below_step HS4.out.2.2.2 hb1)))
      clear hb1 k0 k1 k2 k3 k4 k5 k6 k7 k8 k9 k10 CF HS4
      by_cases hA : A = 0
      case neg =>
        have HE : Hid (R = A) := Lib.hid (by rw [HIN.out.2.1, HSk.out, HD9.out, if_neg hA])
        have hd : (A == 0) = false := beq_eq_false_iff_ne.2 hA
        have hd2 : (A != 0) = true := by rw [bne, hd]; rfl
        clear HSk HRE hA HD9
        go_wp2
        go_ret
        exact ⟨ret_int HE.out.symm, HS5.out.2.2⟩
      subst hA
      have HRN : Hid (R = Lf.ckL ls gs plan (plan.length - (k + 1)) (k + 1)) := Lib.hid (by rw [HIN.out.2.1, HSk.out, HD9.out, if_pos rfl])
      have hown := HS5.out.1.2.1
      have hsz := HS5.out.1.2.2.size
      have hca := cells_new (cs := kvC ⟨⟨xl, xa, xh, xg⟩, .slice pa xh.length pc, .slice qa xg.length qc, F, M, ⟨tp, tn, tm, ta, tu⟩⟩) w5 KvT
      clear HSk HD9
      have k0 : World.cell? _ _ = some (.int .i64 xl) := HS5.out.2.1.cell 0
      have k1 : World.cell? _ _ = some (.int .i64 xa) := HS5.out.2.1.cell 1
      have k2 : World.cell? _ _ = some (.slice pa xh.length pc) := HS5.out.2.1.cell 2
      have k3 : World.cell? _ _ = some (.slice qa xg.length qc) := HS5.out.2.1.cell 3
      have k4 : World.cell? _ _ = some (.int .i64 F) := HS5.out.2.1.cell 4
      have k5 : World.cell? _ _ = some (.int .i64 M) := HS5.out.2.1.cell 5
      have k6 : World.cell? _ _ = some (.int .i64 tp) := HS5.out.2.1.cell 6
      have k7 : World.cell? _ _ = some (.int .i64 tn) := HS5.out.2.1.cell 7
      have k8 : World.cell? _ _ = some (.int .i64 tm) := HS5.out.2.1.cell 8
      have k9 : World.cell? _ _ = some (.int .i64 ta) := HS5.out.2.1.cell 9
      have k10 : World.cell? _ _ = some (.int .i64 tu) := HS5.out.2.1.cell 10
      go_wp2_with (at_builtin; refine wpList_append_own _ rfl _ _ 134 rfl W0.heap.size KvT i0 _ 11 120 Try.underlying134 hi0 hz0 hz1 hz2 rfl (by decide) _ _ _ rfl (hown.alloc _) ⟨w5.heap.size, 0, none⟩ 1 1 (kvC ⟨⟨xl, xa, xh, xg⟩, .slice pa xh.length pc, .slice qa xg.length qc, F, M, ⟨tp, tn, tm, ta, tu⟩⟩) rfl rfl ?c1 (kvC_one _ rfl rfl) ?c3 ?c4 ?c5 ?_)
      case c1 => first | exact hca | exact fun j u h => h
      case c3 => unfold maxLen; omega
      case c4 => omega
      case c5 => first | omega | (simp; omega)
      intro v' w9 hr9 hg9 _
      have hw9 := (below_alloc2 HS5.out.1.2.2 (.cells (kvC ⟨⟨xl, xa, xh, xg⟩, .slice pa xh.length pc, .slice qa xg.length qc, F, M, ⟨tp, tn, tm, ta, tu⟩⟩).toArray KvT)).grown hg9 (by simp; omega) (fun j e => (World.ownsRow.lt hown j e).1)
      have hp9 : OwnKv W0.heap.size w9 v' (L ++ [⟨⟨xl, xa, xh, xg⟩, .slice pa xh.length pc, .slice qa xg.length qc, F, M, ⟨tp, tn, tm, ta, tu⟩⟩]) := OwnG.pushed hr9
      have hb9 : BlockAt w9 w1.heap.size #[.slice ua ls.length uc, .slice va gs.length vc] DemT := (HS5.out.1.1.alloc (.cells (kvC ⟨⟨xl, xa, xh, xg⟩, .slice pa xh.length pc, .slice qa xg.length qc, F, M, ⟨tp, tn, tm, ta, tu⟩⟩).toArray KvT)).kept hg9 (BlockAt.not_row (HS5.out.1.1.alloc (.cells (kvC ⟨⟨xl, xa, xh, xg⟩, .slice pa xh.length pc, .slice qa xg.length qc, F, M, ⟨tp, tn, tm, ta, tu⟩⟩).toArray KvT)) (by decide) (hown.alloc _))
      have HLL : Hid ((L ++ [(⟨⟨xl, xa, xh, xg⟩, .slice pa xh.length pc, .slice qa xg.length qc, F, M, ⟨tp, tn, tm, ta, tu⟩⟩ : KV)]).map KV.x = plan.take (k + 1) ∧ R = Lf.ckL ls gs plan (plan.length - (k + 1)) (k + 1) ∧ (L ++ [(⟨⟨xl, xa, xh, xg⟩, .slice pa xh.length pc, .slice qa xg.length qc, F, M, ⟨tp, tn, tm, ta, tu⟩⟩ : KV)]).length = k + 1 ∧ ∀ j (hj : j < (L ++ [(⟨⟨xl, xa, xh, xg⟩, .slice pa xh.length pc, .slice qa xg.length qc, F, M, ⟨tp, tn, tm, ta, tu⟩⟩ : KV)]).length), KvW w (L ++ [(⟨⟨xl, xa, xh, xg⟩, .slice pa xh.length pc, .slice qa xg.length qc, F, M, ⟨tp, tn, tm, ta, tu⟩⟩ : KV)])[j]) := Lib.hid (by
        refine ⟨by rw [List.map_append, HIN.out.1, HTK.out]; rfl, HRN.out, by rw [List.length_append, HIN.out.2.2.1]; rfl, fun j hj => ?_⟩
        rw [List.length_append] at hj
        by_cases c : j < L.length
        · rw [List.getElem_append_left c]; exact HIN.out.2.2.2 j c
        · obtain rfl : j = L.length := by simp at hj; omega
          simp only [List.getElem_append_right (Nat.le_refl _), Nat.sub_self, List.getElem_cons_zero]
          exact HKW.out)
      obtain ⟨a9', c9', e9⟩ := (hp9.rows kvC_len).form
      subst e9
      have H9 := Lib.hid (show CkS W0 w1.heap.size (.slice ua ls.length uc) (.slice va gs.length vc) _ _ w9 from ⟨hb9, hp9, hw9⟩)
      have hkk : (L ++ [(⟨⟨xl, xa, xh, xg⟩, .slice pa xh.length pc, .slice qa xg.length qc, F, M, ⟨tp, tn, tm, ta, tu⟩⟩ : KV)]).length ≤ 20 := by rw [HLL.out.2.2.1]; omega
      clear hown hsz hca hr9 hg9 hw9 hp9 hb9 HIN HTK HRN HII HKW HS5 k0 k1 k2 k3 k4 k5 k6 k7 k8 k9 k10
      generalize L ++ [(⟨⟨xl, xa, xh, xg⟩, .slice pa xh.length pc, .slice qa xg.length qc, F, M, ⟨tp, tn, tm, ta, tu⟩⟩ : KV)] = L9 at *
      go_wp2
      go_roundw
      case rel => exact ⟨k + 1, L9, a9', c9', by omega, hkk, rfl, by go_num, Lib.hid ⟨HLL.out, H9.out⟩⟩
      case measure => simp [intOf]; omega
    · obtain rfl : k = plan.length := by omega
      have HRF := Lib.hid (HRE.out L (by rw [hg.out.1.1, List.take_of_length_le (Nat.le_refl _)]) hg.out.1.2.1)
      have CA1 := Lib.hid (CA.out L (.slice a L.length c) wr hbw va vc h8 (OwnG.rows kvC_len hg.out.2.2.1) (fun j hj => (hg.out.1.2.2.2 j hj).all hbw) (by omega))
      rw [← HRF.out] at CA1
      have HS := Lib.hid (And.intro hg.out.2.1 hbw)
      have d0 : World.cell? _ _ = some (.slice ua ls.length uc) := hg.out.2.1.cell 0
      have d1 : World.cell? _ _ = some (.slice va gs.length vc) := hg.out.2.1.cell 1
      clear hg hbw HRE HRF CA
      go_wp2_with fail
      refine CA1.out.mono ?_
      rintro e w2 ⟨rfl, hb1⟩
      have HB := Lib.hid (below_step HS.out.2 hb1)
      clear hb1
      go_wp2
      go_ret
      exact ⟨rfl, HB.out⟩
end Go.Proofs.Ytabfcnfddemblaa.Lo
