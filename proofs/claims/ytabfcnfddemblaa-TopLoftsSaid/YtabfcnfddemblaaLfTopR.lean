/- Whether every load makes its goods ripe: of the chief law. -/
import Derived.Test.YtabfcnfddemblaaLfTopA
namespace Go.Proofs.Ytabfcnfddemblaa.Lo
open Go.RowKit

theorem setsA5 (a0 a1 a2 a3 a4 c0 c1 c2 c3 c4 : Value) : setsA #[c0, c1, c2, c3, c4] 0 [a0, a1, a2, a3, a4] = #[a0, a1, a2, a3, a4] := by simp [setsA]
theorem store5 {W Y X : World} {B N : Nat} {g g2 : Lf.G} (h : BlockAt W B (gdA g) GoodT) (hX : Below N X W) (hN : N ≤ B) (hY : setsW W B 0 (gdC g2) = Y) : BlockAt Y B (gdA g2) GoodT ∧ Below N X Y := by
  subst hY
  refine ⟨?_, setsW_below hN _ 0 W hX⟩
  have := setsW_block (gdC g2) 0 W (gdA g) h
  unfold gdC at this ⊢
  rw [setsA5] at this
  exact this
abbrev TFirmT : TypeId := 74
set_option maxRecDepth 100000 in
set_option maxHeartbeats 8000000 in
theorem ripeT_any (u v : Value) (ls : List Lf.F) (gs : List Lf.G) (z : Value) (plan : List Lf.L) (w : World) (hu : Lofts w u ls) (hv : Goods w v gs) (hz : Loads w z plan) (hn : plan.length ≤ 20) (hb0 : Lf.bthE ls gs = 0) (hck : Lf.chkE ls gs plan = 0) :
    Calls Try.prog 57 #[.agg #[u, v], z] w fun e w' => e = .returned (.bool true) ∧ Below w.heap.size w w' := by
  have HRK := Lib.hid (fun k hk => ripK_of (ls := ls) (gs := gs) (plan := plan) hb0 hck k hk)
  have CD := Lib.hid (fun (g : Lf.G) W (hW : Below w.heap.size w W) => daysF_any u ls g W (hu.all hW))
  have h38 := bth_ok hb0
  have hg8 := h38.2.2.2
  have hl3 := h38.2.1
  clear h38
  obtain ⟨ua, uc, rfl⟩ := hu.form
  obtain ⟨va, vc, rfl⟩ := hv.form
  obtain ⟨za, zc, rfl⟩ := hz.form
  have HZ := Lib.hid (loads_row hz)
  have HU := Lib.hid (lofts_row hu)
  have HV : Hid (∀ k (hk : k < gs.length), ∃ b off, va = some ⟨b, off, none⟩ ∧ b < w.heap.size ∧ CellsAt (gdC gs[k]) w b (off + k * 5)) := Lib.hid (by
    obtain ⟨a2, c2, e, _, hk⟩ := hv
    injection e with e1 e2 e3
    subst e1
    exact hk)
  have HX := Lib.hid (And.intro (BlockAt.new w #[.slice ua ls.length uc, .slice va gs.length vc] TFirmT) (below_alloc2 (Below.refl w.heap.size w) (.cells #[.slice ua ls.length uc, .slice va gs.length vc] TFirmT)))
  clear hu hv hz hb0 hck
  go_enter Try.func57, Try.ntmps57
  go_wp2
  go_loopw [5] (fun t wr => ∃ k : Nat, k ≤ plan.length ∧ t = .int .i64 k ∧ Hid (BlockAt wr w.heap.size #[.slice ua ls.length uc, .slice va gs.length vc] TFirmT ∧ Below w.heap.size w wr)) (fun t _ => plan.length - (intOf t).toNat)
  case atStart => exact ⟨0, Nat.zero_le _, rfl, Lib.hid HX.out⟩
  case round =>
    obtain ⟨k, hk, rfl, hg⟩ := hrel
    clear HX
    by_cases hlt : k < plan.length
    · obtain ⟨zb, zo, rfl, hzb, hzr⟩ := HZ.out k hlt
      obtain ⟨p, q, ⟨c0, c1, c2, c3⟩, hI1, hI2⟩ := hzr.all hg.out.2 hzb
      obtain ⟨pa, pc, rfl⟩ := hI1.form
      obtain ⟨qa, qc, rfl⟩ := hI2.form
      obtain ⟨⟨hl, hh12, hx8⟩, hwe, hgo⟩ := HRK.out k hlt
      obtain ⟨ln, hln⟩ : ∃ n : Nat, plan[k].l = (n : Int) := ⟨plan[k].l.toNat, by omega⟩
      have hlt2 : ln < ls.length := by omega
      have hfat : Lf.fat ls plan[k].l = ls[ln] := by unfold Lf.fat; rw [hln]; simp [hlt2]
      rw [hfat] at hwe hgo
      rw [hln] at c0
      obtain ⟨fb, fo, rfl, hfb, hfc⟩ := HU.out ln hlt2
      obtain ⟨fv, ⟨d0, d1⟩, hfI⟩ := hfc.all hg.out.2 hfb
      obtain ⟨fa, fc, rfl⟩ := hfI.form
      have hsw := hg.out.2.size
      have hzw : zb < wr.heap.size := by omega
      have hfw : fb < wr.heap.size := by omega
      clear hfat hl hln hfc hzr HZ HU HRK c1
      generalize ls[ln] = f at *
      generalize plan[k] = x at *
      obtain ⟨fp, fr⟩ := f
      obtain ⟨xl, xa, xh, xg⟩ := x
      dsimp only at *
      have CW := Lib.hid (fun W (hW : Below wr.heap.size wr W) => warmF_any fp (.slice fa fr.length fc) (.slice pa xh.length pc) fr xh W (hfI.all hW) (hI1.all hW))
      rw [hwe] at CW
      generalize Lf.wR ⟨fp, fr⟩ xh = M at *
      have HGO := Lib.hid hgo
      have HI2 := Lib.hid hI2
      have HSX : Hid (∀ W, BlockAt W w.heap.size #[.slice (some ⟨fb, fo, none⟩) ls.length uc, .slice va gs.length vc] TFirmT → Below wr.heap.size wr W → (fun W => W.cell? ⟨w.heap.size, 0, none⟩ = some (.slice (some ⟨fb, fo, none⟩) ls.length uc) ∧ W.cell? ⟨zb, zo + k * 4, none⟩ = some (.int .i64 (ln : Nat)) ∧ W.cell? ⟨zb, zo + k * 4 + 2, none⟩ = some (.slice pa xh.length pc) ∧ W.cell? ⟨fb, fo + ln * 2, none⟩ = some (.int .i64 fp) ∧ W.cell? ⟨fb, fo + ln * 2 + 1, none⟩ = some (.slice fa fr.length fc)) W) := Lib.hid fun W h1 h2 => ⟨h1.cell 0, (h2.cell (p := ⟨zb, zo + k * 4, none⟩) hzw).trans c0, (h2.cell (p := ⟨zb, zo + k * 4 + 2, none⟩) hzw).trans c2, (h2.cell (p := ⟨fb, fo + ln * 2, none⟩) hfw).trans d0, (h2.cell (p := ⟨fb, fo + ln * 2 + 1, none⟩) hfw).trans d1⟩
      have HC23 : Hid (∀ W, Below wr.heap.size wr W → W.cell? ⟨zb, zo + k * 4 + 2, none⟩ = some (.slice pa xh.length pc) ∧ W.cell? ⟨zb, zo + k * 4 + 3, none⟩ = some (.slice qa xg.length qc)) := Lib.hid fun W h2 => ⟨(h2.cell (p := ⟨zb, zo + k * 4 + 2, none⟩) hzw).trans c2, (h2.cell (p := ⟨zb, zo + k * 4 + 3, none⟩) hzw).trans c3⟩
      have HS1 := Lib.hid (And.intro hg.out.1.drew (And.intro (below_drewN hg.out.2 1) (below_drewN (Below.refl wr.heap.size wr) 1)))
      have hkd : decide (k < plan.length) = true := decide_eq_true hlt
      clear hg hI1 hI2 hfI hgo c0 c2 c3 d0 d1 hwe
      go_wp2_with fail
      refine wp_region_seq [(0, true), (1, true), (2, true), (3, true), (4, true), (5, true), (6, true), (7, true), (8, true), (9, true), (10, true), (11, true), (12, true), (13, true), (14, false), (15, true), (16, true), (17, true), (18, true), (19, true)] (fun W => W.cell? ⟨w.heap.size, 0, none⟩ = some (.slice (some ⟨fb, fo, none⟩) ls.length uc) ∧ W.cell? ⟨zb, zo + k * 4, none⟩ = some (.int .i64 (ln : Nat)) ∧ W.cell? ⟨zb, zo + k * 4 + 2, none⟩ = some (.slice pa xh.length pc) ∧ W.cell? ⟨fb, fo + ln * 2, none⟩ = some (.int .i64 fp) ∧ W.cell? ⟨fb, fo + ln * 2 + 1, none⟩ = some (.slice fa fr.length fc))
        (by kernel_rfl) (by kernel_rfl) (by kernel_rfl) (by kernel_rfl) (fun d _ _ _ _ h => by cases d <;> exact h) (HSX.out _ HS1.out.1 HS1.out.2.2) (fun _ => ?_)
      repeat (first | (refine SeqH.take (v := ?_) rfl (by rfl) ?_ ?_; rotate_left; (· intro w hSw; (try dsimp only at hSw); obtain ⟨q0, q1, q2, q3, q4⟩ := hSw; go_simp; (try with_reducible rfl)); simp only [Act.put, List.setIfInBounds_toArray, List.set_cons_zero, List.set_cons_succ]) | (refine SeqH.skip rfl (by rfl) ?_; simp only [Act.put, List.setIfInBounds_toArray, List.set_cons_zero, List.set_cons_succ]))
      refine SeqH.step rfl (by rfl) (fun K hK => ?_)
      go_simp
      go_at_call 35
      refine (CW.out _ HS1.out.2.2).mono ?_
      rintro e w7 ⟨rfl, hb1⟩
      try dsimp only
      have HS2 := Lib.hid (And.intro (HS1.out.1.below hb1 HS1.out.1.lt) (And.intro (below_step HS1.out.2.1 hb1) (below_step HS1.out.2.2 hb1)))
      clear hb1 HS1
      refine hK.out _ _ (HSX.out _ HS2.out.1 HS2.out.2.2) (fun _ => ?_)
      clear hK K
      try simp only [Act.put, List.setIfInBounds_toArray, List.set_cons_zero, List.set_cons_succ]
      repeat (first | (refine SeqH.take (v := ?_) rfl (by rfl) ?_ ?_; rotate_left; (· intro w hSw; (try dsimp only at hSw); obtain ⟨q0, q1, q2, q3, q4⟩ := hSw; go_simp; (try with_reducible rfl)); simp only [Act.put, List.setIfInBounds_toArray, List.set_cons_zero, List.set_cons_succ]) | (refine SeqH.skip rfl (by rfl) ?_; simp only [Act.put, List.setIfInBounds_toArray, List.set_cons_zero, List.set_cons_succ]))
      refine SeqH.done ?_
      have HC := Lib.hid (HC23.out _ HS2.out.2.2)
      have HI3 := Lib.hid (HI2.out.all HS2.out.2.2)
      have HSS := Lib.hid (And.intro HS2.out.1 HS2.out.2.1)
      have hzb2 : zb < w7.heap.size := by have := HS2.out.2.1.size; omega
      clear HSX HC23 HI2 HS2 CW hsw
      go_wp2
      go_loopw [8] (fun t W2 => ∃ j : Nat, j ≤ xg.length ∧ t = .int .i64 j ∧ Hid (BlockAt W2 w.heap.size #[.slice (some ⟨fb, fo, none⟩) ls.length uc, .slice va gs.length vc] TFirmT ∧ Below w.heap.size w W2 ∧ Below w7.heap.size w7 W2)) (fun t _ => xg.length - (intOf t).toNat)
      case atStart => exact ⟨0, Nat.zero_le _, rfl, Lib.hid ⟨HSS.out.1, HSS.out.2, Below.refl _ _⟩⟩
      case round =>
        obtain ⟨j, hj, rfl, hg⟩ := hrel
        have y2 := (hg.out.2.2.cell (p := ⟨zb, zo + k * 4 + 2, none⟩) hzb2).trans HC.out.1
        have y3 := (hg.out.2.2.cell (p := ⟨zb, zo + k * 4 + 3, none⟩) hzb2).trans HC.out.2
        by_cases hlt3 : j < xg.length
        · obtain ⟨hn0, hE, hD, hM1, hM2⟩ := HGO.out j hlt3
          obtain ⟨qb, qo, rfl, hqb, hqc⟩ := Ints.at (HI3.out.all hg.out.2.2) j hlt3
          obtain ⟨n, hnn⟩ : ∃ n : Nat, xg.getD j 0 = (n : Int) := ⟨(xg.getD j 0).toNat, by omega⟩
          have hng : n < gs.length := by omega
          obtain ⟨gb, go, rfl, hgb, hgc⟩ := HV.out n hng
          obtain ⟨g0, g1, g2, g3, g4⟩ := gd_at (hgc.below hg.out.2.1 hgb)
          rw [hnn] at hqc
          have hgat : Lf.gat gs (xg.getD j 0) = gs[n] := by unfold Lf.gat; rw [hnn]; simp [hng]
          rw [hgat] at hE hD hM1 hM2
          have CD1 := Lib.hid (fun W hW => CD.out gs[n] W hW)
          rw [hE] at CD1
          clear hE hn0 hnn hgat
          generalize dyR ls gs[n] = D at *
          generalize gs[n] = g at *
          obtain ⟨gp, gn, gm, ga, gu⟩ := g
          dsimp only at *
          obtain ⟨X0, hX0⟩ : ∃ W, W = wr.drew := ⟨_, rfl⟩
          have hXs : X0.heap.size = wr.heap.size := by rw [hX0]; rfl
          have hw7 := hg.out.2.2.size
          have hw0 := hg.out.2.1.size
          have HW0 := Lib.hid (show BlockAt X0 w.heap.size #[.slice (some ⟨fb, fo, none⟩) ls.length uc, .slice (some ⟨gb, go, none⟩) gs.length vc] TFirmT ∧ Below w.heap.size w X0 ∧ Below w7.heap.size w7 X0 from by rw [hX0]; exact ⟨hg.out.1.drew, below_drewN hg.out.2.1 1, below_drewN hg.out.2.2 1⟩)
          have HX0 := Lib.hid hX0
          have HSB : Hid (∀ W, Below X0.heap.size X0 W → W.cell? ⟨w.heap.size, 1, none⟩ = some (.slice (some ⟨gb, go, none⟩) gs.length vc) ∧ W.cell? ⟨zb, zo + k * 4 + 3, none⟩ = some (.slice (some ⟨qb, qo, none⟩) xg.length qc) ∧ W.cell? ⟨qb, qo + j, none⟩ = some (.int .i64 (n : Int)) ∧ CellsAt (gdC ⟨gp, gn, gm, ga, gu⟩) W gb (go + n * 5)) := Lib.hid fun W hW => by
            have hc : ∀ b i, b < wr.heap.size → W.cell? ⟨b, i, none⟩ = wr.cell? ⟨b, i, none⟩ := fun b i hb => by
              rw [hW.cell (p := ⟨b, i, none⟩) (by show b < _; omega), hX0]; rfl
            exact ⟨(hW.cell (p := ⟨w.heap.size, 1, none⟩) (by show w.heap.size < _; have := HW0.out.1.lt; omega)).trans (HW0.out.1.cell 1), (hc _ _ (by omega)).trans y3, (hc _ _ (by first | exact hqb | omega)).trans hqc, fun i u hi => by
              rw [hc _ _ (by omega)]
              exact (hgc.below hg.out.2.1 hgb) i u hi⟩
          have y2' := y2
          have HY2 : Hid (∀ W, Below X0.heap.size X0 W → W.cell? ⟨zb, zo + k * 4 + 2, none⟩ = some (.slice pa xh.length pc)) := Lib.hid fun W hW => by
            rw [hW.cell (p := ⟨zb, zo + k * 4 + 2, none⟩) (by show zb < _; omega), hX0]; exact y2
          have hjd : decide (j < xg.length) = true := decide_eq_true hlt3
          clear hg y2 y2' hqc hgc hX0 hqb
          go_wp2_with fail
          refine wp_region_seq [(0, true), (1, true), (2, true), (3, true), (4, true), (5, true), (6, true), (7, true), (8, true), (9, true), (10, true), (11, true), (12, false), (13, false)] (fun W => W.cell? ⟨w.heap.size, 1, none⟩ = some (.slice (some ⟨gb, go, none⟩) gs.length vc) ∧ W.cell? ⟨zb, zo + k * 4 + 3, none⟩ = some (.slice (some ⟨qb, qo, none⟩) xg.length qc) ∧ W.cell? ⟨qb, qo + j, none⟩ = some (.int .i64 (n : Int)) ∧ CellsAt (gdC ⟨gp, gn, gm, ga, gu⟩) W gb (go + n * 5))
            (by kernel_rfl) (by kernel_rfl) (by kernel_rfl) (by kernel_rfl) (fun d _ _ _ _ h => by cases d <;> exact h) (HSB.out _ (by rw [HX0.out]; exact Below.refl _ _)) (fun _ => ?_)
          rw [show wr.drew = X0 from HX0.out.symm]
          clear y3
          repeat (first | (refine SeqH.take (v := ?_) rfl (by rfl) ?_ ?_; rotate_left; (· intro w hSw; (try dsimp only at hSw); obtain ⟨q0, q1, q2, q3⟩ := hSw; go_simp; obtain ⟨r0, r1, r2, r3, r4⟩ := gd_at q3; go_simp; (try with_reducible rfl)); simp only [Act.put, List.setIfInBounds_toArray, List.set_cons_zero, List.set_cons_succ]) | (refine SeqH.skip rfl (by rfl) ?_; simp only [Act.put, List.setIfInBounds_toArray, List.set_cons_zero, List.set_cons_succ]))
          refine SeqH.step rfl (by rfl) (fun K hK => ?_)
          go_simp
          obtain ⟨Y1, hY⟩ : ∃ Z, X0.alloc (.cells (gdA ⟨0, 0, 0, 0, 0⟩) GoodT) = Z := ⟨_, rfl⟩
          have hT1 : BlockAt Y1 X0.heap.size (gdA ⟨0, 0, 0, 0, 0⟩) GoodT := by rw [← hY]; exact BlockAt.new _ _ _
          have hB1 : Below X0.heap.size X0 Y1 := by rw [← hY]; exact below_alloc2 (Below.refl _ _) _
          rw [hY]
          try dsimp only
          refine hK.out _ _ (HSB.out _ hB1) (fun _ => ?_)
          clear hK K hY
          try simp only [Act.put, List.setIfInBounds_toArray, List.set_cons_zero, List.set_cons_succ]
          rw [hXs] at hT1
          have z0 := hT1.cell 0
          have f0 := hT1.frozen 0
          have z1 := hT1.cell 1
          have f1 := hT1.frozen 1
          have z2 := hT1.cell 2
          have f2 := hT1.frozen 2
          have z3 := hT1.cell 3
          have f3 := hT1.frozen 3
          have z4 := hT1.cell 4
          have f4 := hT1.frozen 4
          refine SeqH.step rfl (by rfl) (fun K hK => ?_)
          go_simp
          obtain ⟨Y2, hY⟩ : ∃ Z, (((((Y1.setCell ⟨wr.heap.size, 0, none⟩ (.int .i64 gp)).setCell ⟨wr.heap.size, 1, none⟩ (.int .i64 gn)).setCell ⟨wr.heap.size, 2, none⟩ (.int .i64 gm)).setCell ⟨wr.heap.size, 3, none⟩ (.int .i64 ga)).setCell ⟨wr.heap.size, 4, none⟩ (.int .i64 gu)) = Z := ⟨_, rfl⟩
          obtain ⟨hT2, hB2⟩ := store5 (W := Y1) (Y := Y2) (B := wr.heap.size) (X := X0) (N := X0.heap.size) (g := ⟨0, 0, 0, 0, 0⟩) (g2 := ⟨gp, gn, gm, ga, gu⟩) hT1 hB1 (by omega) hY
          rw [hY]
          try dsimp only
          refine hK.out _ _ (HSB.out _ hB2) (fun _ => ?_)
          have HT2 := Lib.hid (And.intro hT2 (And.intro (HW0.out.1.below hB2 HW0.out.1.lt) (And.intro (below_step HW0.out.2.1 hB2) (below_step HW0.out.2.2 hB2))))
          have HY3 := Lib.hid (HY2.out _ hB2)
          have hzY : zb < Y2.heap.size := by have := hB2.size; omega
          clear hK K hY z0 z1 z2 z3 z4 f0 f1 f2 f3 f4 hT1 hT2 hB1 hB2 HSB HX0 HW0 HY2
          try simp only [Act.put, List.setIfInBounds_toArray, List.set_cons_zero, List.set_cons_succ]
          refine SeqH.done ?_
          have x0 : World.cell? _ _ = some (.slice (some ⟨fb, fo, none⟩) ls.length uc) := HT2.out.2.1.cell 0
          have b0 : World.cell? _ _ = some (.int .i64 gp) := HT2.out.1.cell 0
          have b1 : World.cell? _ _ = some (.int .i64 gn) := HT2.out.1.cell 1
          have b2 : World.cell? _ _ = some (.int .i64 gm) := HT2.out.1.cell 2
          have b3 : World.cell? _ _ = some (.int .i64 ga) := HT2.out.1.cell 3
          have b4 : World.cell? _ _ = some (.int .i64 gu) := HT2.out.1.cell 4
          go_wp2_with fail
          refine (CD1.out _ HT2.out.2.2.1).mono ?_
          rintro e w8 ⟨rfl, hb1⟩
          have HR := Lib.hid (And.intro (HT2.out.2.1.below hb1 HT2.out.2.1.lt) (And.intro (below_step HT2.out.2.2.1 hb1) (below_step HT2.out.2.2.2 hb1)))
          have HB8 := Lib.hid (HT2.out.1.below hb1 HT2.out.1.lt)
          have y2 := (hb1.cell (p := ⟨zb, zo + k * 4 + 2, none⟩) hzY).trans HY3.out
          clear hb1 x0 b0 b1 b2 b3 b4 HT2 HY3 CD1
          have b1 : World.cell? _ _ = some (.int .i64 gn) := HB8.out.cell 1
          have b2 : World.cell? _ _ = some (.int .i64 gm) := HB8.out.cell 2
          have k1 : decide (0 < D) = true := decide_eq_true hD.1
          have k2 : decide (M < gn) = false := decide_eq_false (by omega)
          have k3 : decide (gm < M) = false := decide_eq_false (by omega)
          have k4 : decide ((xh.length : Int) < (D : Int)) = false := decide_eq_false (by omega)
          have k5 : decide (xh.length < D) = false := decide_eq_false (by omega)
          have k6 : decide (M > gm) = false := k3
          have k7 : decide ((D : Int) > (xh.length : Int)) = false := k4
          go_wp2
          go_roundw
          case rel => exact ⟨j + 1, by omega, by go_num, Lib.hid HR.out⟩
          case measure => simp [intOf]; omega
        · obtain rfl : j = xg.length := by omega
          have HE := Lib.hid (And.intro hg.out.1 hg.out.2.1)
          clear hg
          go_wp2
          go_roundw
          case rel => exact ⟨k + 1, by omega, by go_num, Lib.hid HE.out⟩
          case measure => simp [intOf]; omega
    · obtain rfl : k = plan.length := by omega
      have HE := Lib.hid hg.out.2
      clear hg
      go_wp2
      go_ret
      exact ⟨rfl, HE.out⟩
end Go.Proofs.Ytabfcnfddemblaa.Lo
