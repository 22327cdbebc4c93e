/- The first error of a plan: Check of the reference. -/
import Derived.Test.YtabfcnfddemblaaLf49
namespace Go.Proofs.Ytabfcnfddemblaa.Lo
open Go.RowKit

theorem ldE_s {ls : List Lf.F} {gs : List Lf.G} {pre : List Lf.L} {x : Lf.L} (h : Lf.slE ls gs x ≠ 0) : Lf.ldE ls gs pre x = Lf.slE ls gs x := by unfold Lf.ldE; rw [if_neg h]
theorem ldE_o {ls : List Lf.F} {gs : List Lf.G} {pre : List Lf.L} {x : Lf.L} (h : Lf.slE ls gs x = 0) : Lf.ldE ls gs pre x = afX pre x := by unfold Lf.ldE; rw [if_pos h]; rfl
theorem shr_swap (pre : List Lf.L) (x : Lf.L) : pre.any (Lf.shr x) = x.gs.any (fun n => Lf.hsG pre n) := by
  rw [Bool.eq_iff_iff, List.any_eq_true, List.any_eq_true]
  constructor
  · rintro ⟨y, hy, h⟩
    obtain ⟨n, hn, h2⟩ := List.any_eq_true.1 h
    obtain ⟨m, hm, h3⟩ := List.any_eq_true.1 h2
    exact ⟨n, hn, List.any_eq_true.2 ⟨y, hy, List.any_eq_true.2 ⟨m, hm, decide_eq_true (of_decide_eq_true h3).symm⟩⟩⟩
  · rintro ⟨n, hn, h⟩
    obtain ⟨y, hy, h2⟩ := List.any_eq_true.1 h
    obtain ⟨m, hm, h3⟩ := List.any_eq_true.1 h2
    exact ⟨y, hy, List.any_eq_true.2 ⟨n, hn, List.any_eq_true.2 ⟨m, hm, decide_eq_true (of_decide_eq_true h3).symm⟩⟩⟩
theorem mts_tkn (pre : List Lf.L) (x : Lf.L) : pre.any (Lf.mts x) = pre.any (tkn x.l x.a (Lf.end' x)) := by
  congr 1; funext y; exact (tkn_mts x y).symm
theorem slE_vLE {ls : List Lf.F} {gs : List Lf.G} {x : Lf.L} (h : Lf.slE ls gs x = 0) : Lf.vLE ls gs x = 0 := by
  unfold Lf.slE at h
  by_cases c : Lf.vLE ls gs x = 0
  · exact c
  · rw [if_neg c] at h; exact absurd h c
theorem loads_take {w : World} {a : Option Addr} {n c : Nat} {ps : List Lf.L} (h : Loads w (.slice a n c) ps) (i : Nat) (hi : i ≤ ps.length) : Loads w (.slice a i c) (ps.take i) := by
  obtain ⟨a2, c2, e, hc, hk⟩ := h
  injection e with e1 e2 e3
  subst e1 e3
  have hl : (ps.take i).length = i := by rw [List.length_take]; omega
  refine ⟨a, c, by rw [hl], by rw [hl]; omega, fun k hk2 => ?_⟩
  obtain ⟨b, off, q1, q2, q3⟩ := hk k (by omega)
  exact ⟨b, off, q1, q2, by rw [List.getElem_take]; exact q3⟩
theorem cov_all {gs : List Lf.G} {plan : List Lf.L} (h : ∀ j : Nat, j < gs.length → Lf.hsG plan (j : Int) = true) : Lf.cov gs plan = true := List.all_eq_true.2 fun j hj => h j (List.mem_range.1 hj)
theorem cov_not {gs : List Lf.G} {plan : List Lf.L} {j : Nat} (hj : j < gs.length) (h : Lf.hsG plan (j : Int) = false) : Lf.cov gs plan = false := Bool.eq_false_iff.2 fun hc => by
  have := List.all_eq_true.1 hc j (List.mem_range.2 hj)
  rw [h] at this; cases this
set_option maxRecDepth 100000 in
set_option maxHeartbeats 8000000 in
theorem rcheckF_any (u v z : Value) (ls : List Lf.F) (gs : List Lf.G) (plan : List Lf.L) (w : World) (hu : Lofts w u ls) (hv : Goods w v gs) (hz : Loads w z plan) (hp20 : plan.length ≤ 20) (hsm : ∀ j (hj : j < plan.length), plan[j].gs.length ≤ 1000 ∧ plan[j].hs.length ≤ 1000) :
    Calls Try.prog 47 #[u, v, z] w fun e w' => e = .returned (.int .i64 (Lf.chkE ls gs plan)) ∧ Below w.heap.size w w' := by
  have CB := Lib.hid (fun W (hW : Below w.heap.size w W) => rboth_any u v ls gs W (hu.all hW) (hv.all hW))
  have CY := Lib.hid (fun (x : Lf.L) p q W (hW : Below w.heap.size w W) (hp : Ints W p x.hs) (hq : Ints W q x.gs) hb0 => by_any u v p q ls gs x W (hu.all hW) (hv.all hW) hp hq hb0)
  obtain ⟨R, hR⟩ : ∃ R, R = Lf.chkE ls gs plan := ⟨_, rfl⟩
  rw [← hR]
  have HR := Lib.hid hR
  clear hR
  obtain ⟨ua, uc, rfl⟩ := hu.form
  obtain ⟨va, vc, rfl⟩ := hv.form
  obtain ⟨za, zc, rfl⟩ := hz.form
  have hzc : plan.length ≤ zc := by
    obtain ⟨_, _, e, h, _⟩ := id hz
    injection e with e1 e2 e3
    omega
  have HZ := Lib.hid (loads_row hz)
  have HSM := Lib.hid hsm
  have HZT := Lib.hid (fun W (hW : Below w.heap.size w W) i (hi : i ≤ plan.length) => loads_take (hz.all hW) i hi)
  have HW0 := Lib.hid (Below.refl w.heap.size w)
  clear hu hv hz hsm
  by_cases hb0 : Lf.bthE ls gs = 0
  case neg =>
    have HE : Hid (R = Lf.bthE ls gs) := Lib.hid (by rw [HR.out, Lf.chkE, if_neg hb0])
    generalize Lf.bthE ls gs = E at *
    have hd : (E == 0) = false := beq_eq_false_iff_ne.2 hb0
    have hd2 : (E != 0) = true := by rw [bne, hd]; rfl
    clear CY HR HZ HSM HZT
    go_enter Try.func47, Try.ntmps47
    go_wp2_with fail
    refine (CB.out _ HW0.out).mono ?_
    rintro e w1 ⟨rfl, hb1⟩
    have HB := Lib.hid hb1
    clear hb1
    go_wp2
    go_ret
    exact ⟨ret_int HE.out.symm, HB.out⟩
  obtain ⟨_, h3, _, h8⟩ := bth_ok hb0
  have HB0 := Lib.hid hb0
  have HR0 : Hid (R = Lf.ckL ls gs plan (plan.length - 0) 0) := Lib.hid (by rw [HR.out, Lf.chkE, if_pos hb0]; rfl)
  have HRE : Hid (R = Lf.ckL ls gs plan (plan.length - plan.length) plan.length → R = (if Lf.cov gs plan = true then 0 else 11)) := Lib.hid (fun h => by rw [h, Nat.sub_self, Lf.ckL])
  rw [hb0] at CB
  clear hb0 HR
  have HST := Lib.hid (fun k (hk : k < plan.length) => ckL_step (ls := ls) (gs := gs) hk)
  go_enter Try.func47, Try.ntmps47
  go_wp2_with fail
  refine (CB.out _ HW0.out).mono ?_
  rintro e w1 ⟨rfl, hb1⟩
  have HW1 := Lib.hid hb1
  clear hb1 CB HW0
  go_wp2
  go_loopw [7, 8] (fun s t wr => ∃ (k : Nat), k ≤ plan.length ∧ s = .int .i64 0 ∧ t = .int .i64 k ∧ Hid ((R = Lf.ckL ls gs plan (plan.length - k) k ∧ ∀ j (hj : j < plan.length), j < k → Lf.slE ls gs plan[j] = 0) ∧ Below w.heap.size w wr)) (fun _ t _ => plan.length - (intOf t).toNat)
  case atStart => exact ⟨0, Nat.zero_le _, rfl, rfl, Lib.hid ⟨⟨HR0.out, fun j hj h => absurd h (Nat.not_lt_zero _)⟩, HW1.out⟩⟩
  case round =>
    obtain ⟨i, hi, rfl, rfl, hg⟩ := hrel
    clear HW1 HR0
    by_cases hlt : i < plan.length
    · obtain ⟨zb, zo, rfl, hzb, hzr⟩ := HZ.out i hlt
      obtain ⟨p, q, ⟨c0, c1, c2, c3⟩, hI1, hI2⟩ := hzr
      obtain ⟨pa, pc, rfl⟩ := hI1.form
      obtain ⟨qa, qc, rfl⟩ := hI2.form
      have y0 := (hg.out.2.cell (p := ⟨zb, zo + i * 4, none⟩) hzb).trans c0
      have y1 := (hg.out.2.cell (p := ⟨zb, zo + i * 4 + 1, none⟩) hzb).trans c1
      have y2 := (hg.out.2.cell (p := ⟨zb, zo + i * 4 + 2, none⟩) hzb).trans c2
      have y3 := (hg.out.2.cell (p := ⟨zb, zo + i * 4 + 3, none⟩) hzb).trans c3
      have HSk := Lib.hid (HST.out i hlt)
      have HII := Lib.hid (And.intro hI1 hI2)
      have HIN := Lib.hid hg.out.1
      have HSI := HSM.out i hlt
      have HPR : Hid (∀ j (hj : j < (plan.take i).length), ((0 ≤ (plan.take i)[j].a ∧ (plan.take i)[j].a ≤ 1000) ∧ (plan.take i)[j].hs.length ≤ 1000) ∧ (plan.take i)[j].gs.length ≤ 1000) := Lib.hid (fun j hj => by
        have hj2 : j < i := by rw [List.length_take] at hj; omega
        rw [List.getElem_take]
        have h1 := (vLE_zero (slE_vLE (hg.out.1.2 j (by omega) hj2))).2.1
        have h2 := HSM.out j (by omega)
        exact ⟨⟨⟨by omega, by omega⟩, h2.2⟩, h2.1⟩)
      have hpl : (plan.take i).length ≤ 1000 := by rw [List.length_take]; omega
      have HS1 := Lib.hid (And.intro (BlockAt.new wr (ldA plan[i].l plan[i].a (.slice pa plan[i].hs.length pc) (.slice qa plan[i].gs.length qc)) LoadT) (below_alloc2 hg.out.2 (.cells (ldA plan[i].l plan[i].a (.slice pa plan[i].hs.length pc) (.slice qa plan[i].gs.length qc)) LoadT)))
      clear c0 c1 c2 c3 hI1 hI2 hg
      generalize hX : plan[i] = x at *
      have HX := Lib.hid hX
      have CY1 := Lib.hid (CY.out x (.slice pa x.hs.length pc) (.slice qa x.gs.length qc) _ HS1.out.2 (HII.out.1.all HS1.out.2) (HII.out.2.all HS1.out.2) HB0.out)
      have HLS := Lib.hid (fun h => ldE_s (ls := ls) (gs := gs) (pre := plan.take i) (x := x) h)
      have HLO := Lib.hid (fun h => ldE_o (ls := ls) (gs := gs) (pre := plan.take i) (x := x) h)
      have HVZ := Lib.hid (fun h => (vLE_zero (ls := ls) (gs := gs) (x := x) (slE_vLE h)).2.1)
      have HAF : Hid (afX (plan.take i) x = if x.gs.any (fun n => Lf.hsG (plan.take i) n) = true then 8 else if (plan.take i).any (tkn x.l x.a (Lf.end' x)) = true then 10 else 0) := Lib.hid (by unfold afX; rw [shr_swap, mts_tkn])
      have HE' : Hid (Lf.end' x = x.a + (x.hs.length : Int)) := Lib.hid rfl
      clear hX
      obtain ⟨xl, xa, xh, xg⟩ := x
      dsimp only at *
      generalize hSL : Lf.slE ls gs ⟨xl, xa, xh, xg⟩ = V at *
      have HSL := Lib.hid hSL
      generalize Lf.ldE ls gs (plan.take i) ⟨xl, xa, xh, xg⟩ = D at *
      generalize afX (plan.take i) ⟨xl, xa, xh, xg⟩ = A at *
      generalize Lf.end' ⟨xl, xa, xh, xg⟩ = EN at *
      clear hSL
      have x0 : World.cell? _ _ = some (.int .i64 xl) := HS1.out.1.cell 0
      have x1 : World.cell? _ _ = some (.int .i64 xa) := HS1.out.1.cell 1
      have x2 : World.cell? _ _ = some (.slice pa xh.length pc) := HS1.out.1.cell 2
      have x3 : World.cell? _ _ = some (.slice qa xg.length qc) := HS1.out.1.cell 3
      go_wp2_with fail
      refine CY1.out.mono ?_
      rintro e w2 ⟨rfl, hb1⟩
      have HS2 := Lib.hid (And.intro (HS1.out.1.below hb1 HS1.out.1.lt) (below_step HS1.out.2 hb1))
      clear hb1 x0 x1 x2 x3 y0 y1 y2 y3 CY1 HS1 CY
      by_cases hV : V = 0
      case neg =>
        have HE : Hid (R = V) := Lib.hid (by rw [HIN.out.1, HSk.out, HLS.out hV, if_neg hV])
        have hd : (V == 0) = false := beq_eq_false_iff_ne.2 hV
        have hd2 : (V != 0) = true := by rw [bne, hd]; rfl
        clear HLS HLO HVZ HAF HSk HRE hV
        go_wp2
        go_ret
        exact ⟨ret_int HE.out.symm, HS2.out.2⟩
      obtain ⟨hva0, hva1⟩ := HVZ.out hV
      subst hV
      have HLA := Lib.hid (HLO.out rfl)
      obtain ⟨B, hB⟩ : ∃ B, B = wr.heap.size := ⟨_, rfl⟩
      rw [← hB] at HS2
      have HBB := Lib.hid hB
      clear HLS HLO HVZ hB
      obtain ⟨AN, hAN⟩ : ∃ b, b = xg.any (fun n => Lf.hsG (plan.take i) n) := ⟨_, rfl⟩
      rw [← hAN] at HAF
      have HAH : Hid (∀ j (hj : j < xg.length), Lf.hsG (plan.take i) xg[j] = true → AN = true) := Lib.hid (fun j hj h => by rw [hAN]; exact any_hit (f := fun n => Lf.hsG (plan.take i) n) hj h)
      have HAM : Hid ((∀ j (hj : j < xg.length), Lf.hsG (plan.take i) xg[j] = false) → AN = false) := Lib.hid (fun h => by rw [hAN]; exact any_miss (f := fun n => Lf.hsG (plan.take i) n) h)
      clear hAN
      go_wp2
      rw [← HBB.out]
      go_loopw [10] (fun t wr => ∃ (k : Nat), k ≤ xg.length ∧ t = .int .i64 k ∧ Hid ((∀ j (hj : j < xg.length), j < k → Lf.hsG (plan.take i) xg[j] = false) ∧ BlockAt wr B (ldA xl xa (.slice pa xh.length pc) (.slice qa xg.length qc)) LoadT ∧ Below w.heap.size w wr)) (fun t _ => xg.length - (intOf t).toNat)
      case atStart => exact ⟨0, Nat.zero_le _, rfl, Lib.hid ⟨fun j hj h => absurd h (Nat.not_lt_zero _), HS2.out⟩⟩
      case round =>
        obtain ⟨k, hk, rfl, hg⟩ := hrel
        clear HS2
        have x3 : World.cell? _ _ = some (.slice qa xg.length qc) := hg.out.2.1.cell 3
        by_cases hlk : k < xg.length
        · obtain ⟨gb, goff, rfl, hgb, hc0⟩ := Ints.at (HII.out.2.all hg.out.2.2) k hlk
          rw [show xg.getD k 0 = xg[k] by simp [hlk]] at hc0
          have HHk := Lib.hid (HAH.out k hlk)
          have HNk : Hid (Lf.hsG (plan.take i) xg[k] = false → ∀ j (hj : j < xg.length), j < k + 1 → Lf.hsG (plan.take i) xg[j] = false) := Lib.hid fun h j hj hjk => by
            by_cases e : j = k
            · subst e; exact h
            · exact hg.out.1 j hj (by omega)
          have HS3 := Lib.hid hg.out.2
          generalize xg[k] = y at *
          have HC3 := Lib.hid (show (fun W => W.cell? ⟨B, 0, none⟩ = some (.int .i64 xl) ∧ W.cell? ⟨B, 1, none⟩ = some (.int .i64 xa) ∧ W.cell? ⟨B, 2, none⟩ = some (.slice pa xh.length pc) ∧ W.cell? ⟨B, 3, none⟩ = some (.slice (some ⟨gb, goff, none⟩) xg.length qc) ∧ W.cell? ⟨gb, goff + k, none⟩ = some (.int .i64 y)) wr.drew from ⟨HS3.out.1.drew.cell 0, HS3.out.1.drew.cell 1, HS3.out.1.drew.cell 2, HS3.out.1.drew.cell 3, hc0⟩)
          have CL := Lib.hid (loaded_any (.slice (some ⟨zb, zo, none⟩) i zc) (plan.take i) y wr.drew (HZT.out _ (below_drewN HS3.out.2 1) i (by omega)) hpl (fun j hj => (HPR.out j hj).2))
          generalize Lf.hsG (plan.take i) y = r at *
          have dk : decide (k < xg.length) = true := decide_eq_true hlk
          clear hg hc0
          go_wp2_with fail
          refine wp_region_seq [(0, true), (1, true), (2, true), (3, true), (4, true), (5, true), (6, true), (7, true), (8, false)] (fun W => W.cell? ⟨B, 0, none⟩ = some (.int .i64 xl) ∧ W.cell? ⟨B, 1, none⟩ = some (.int .i64 xa) ∧ W.cell? ⟨B, 2, none⟩ = some (.slice pa xh.length pc) ∧ W.cell? ⟨B, 3, none⟩ = some (.slice (some ⟨gb, goff, none⟩) xg.length qc) ∧ W.cell? ⟨gb, goff + k, none⟩ = some (.int .i64 y))
            (by kernel_rfl) (by kernel_rfl) (by kernel_rfl) (by kernel_rfl) (fun d _ _ _ _ h => by cases d <;> exact h) HC3.out (fun _ => ?_)
          repeat (first | (refine SeqH.take (v := ?_) rfl (by rfl) ?_ ?_; rotate_left; (· intro w hSw; (try dsimp only at hSw); obtain ⟨q0, q1, q2, q3, q4⟩ := hSw; go_simp; (try rw [if_pos (by omega)]); (try with_reducible rfl)); simp only [Act.put, List.setIfInBounds_toArray, List.set_cons_zero, List.set_cons_succ]) | (refine SeqH.skip rfl (by rfl) ?_; simp only [Act.put, List.setIfInBounds_toArray, List.set_cons_zero, List.set_cons_succ]))
          refine SeqH.step rfl (by rfl) (fun K hK => ?_)
          go_simp
          go_at_call 92
          refine (CL.out).mono ?_
          rintro e w7 ⟨rfl, rfl⟩
          try dsimp only
          refine hK.out _ _ (HC3.out) (fun _ => ?_)
          clear hK K
          try simp only [Act.put, List.setIfInBounds_toArray, List.set_cons_zero, List.set_cons_succ]
          repeat (first | (refine SeqH.take (v := ?_) rfl (by rfl) ?_ ?_; rotate_left; (· intro w hSw; (try dsimp only at hSw); obtain ⟨q0, q1, q2, q3, q4⟩ := hSw; go_simp; (try with_reducible rfl)); simp only [Act.put, List.setIfInBounds_toArray, List.set_cons_zero, List.set_cons_succ]) | (refine SeqH.skip rfl (by rfl) ?_; simp only [Act.put, List.setIfInBounds_toArray, List.set_cons_zero, List.set_cons_succ]))
          refine SeqH.done ?_
          clear x3
          cases r
          · have HN2 := Lib.hid (HNk.out rfl)
            clear HHk HNk
            go_wp2
            go_roundw
            case rel => exact ⟨k + 1, by omega, by go_num, Lib.hid ⟨HN2.out, HS3.out.1.drew, below_drewN HS3.out.2 1⟩⟩
            case measure => simp [intOf]; omega
          · have hAN := HHk.out rfl
            have HE : Hid (R = 8) := Lib.hid (by rw [HIN.out.1, HSk.out, HLA.out, HAF.out, hAN]; rfl)
            clear HHk HNk hAN
            go_wp2
            go_ret
            exact ⟨ret_int HE.out.symm, below_drewN HS3.out.2 1⟩
        · obtain rfl : k = xg.length := by omega
          have hAN := HAM.out (fun j hj => hg.out.1 j hj hj)
          rw [hAN, if_neg (by decide)] at HAF
          have HS3 := Lib.hid hg.out.2
          clear hg hAN HAH HAM
          have HC3 := Lib.hid (show (fun W => W.cell? ⟨B, 0, none⟩ = some (.int .i64 xl) ∧ W.cell? ⟨B, 1, none⟩ = some (.int .i64 xa) ∧ W.cell? ⟨B, 2, none⟩ = some (.slice pa xh.length pc) ∧ W.cell? ⟨B, 3, none⟩ = some (.slice qa xg.length qc)) wr.drew from ⟨HS3.out.1.drew.cell 0, HS3.out.1.drew.cell 1, HS3.out.1.drew.cell 2, HS3.out.1.drew.cell 3⟩)
          have CE := Lib.hid (endR_any xl xa pa xh.length pc (.slice qa xg.length qc) wr.drew ⟨by omega, by omega⟩ HSI.2)
          rw [← HE'.out] at CE
          have CT := Lib.hid (fun W (hW : Below w.heap.size w W) => taken_any (.slice (some ⟨zb, zo, none⟩) i zc) (plan.take i) xl xa EN W (HZT.out _ hW i (by omega)) hpl (fun j hj => (HPR.out j hj).1))
          generalize (plan.take i).any (tkn xl xa EN) = r at *
          go_wp2_with fail
          clear x3
          refine wp_region_seq [(0, true), (1, true), (2, true), (3, true), (4, true), (5, true), (6, true), (7, true), (8, false), (9, false)] (fun W => W.cell? ⟨B, 0, none⟩ = some (.int .i64 xl) ∧ W.cell? ⟨B, 1, none⟩ = some (.int .i64 xa) ∧ W.cell? ⟨B, 2, none⟩ = some (.slice pa xh.length pc) ∧ W.cell? ⟨B, 3, none⟩ = some (.slice qa xg.length qc))
            (by kernel_rfl) (by kernel_rfl) (by kernel_rfl) (by kernel_rfl) (fun d _ _ _ _ h => by cases d <;> exact h) HC3.out (fun _ => ?_)
          repeat (first | (refine SeqH.take (v := ?_) rfl (by rfl) ?_ ?_; rotate_left; (· intro w hSw; (try dsimp only at hSw); obtain ⟨q0, q1, q2, q3⟩ := hSw; go_simp; (try rw [if_pos (by omega)]); (try with_reducible rfl)); simp only [Act.put, List.setIfInBounds_toArray, List.set_cons_zero, List.set_cons_succ]) | (refine SeqH.skip rfl (by rfl) ?_; simp only [Act.put, List.setIfInBounds_toArray, List.set_cons_zero, List.set_cons_succ]))
          refine SeqH.step rfl (by rfl) (fun K hK => ?_)
          go_simp
          go_at_call 94
          refine (CE.out).mono ?_
          rintro e w7 ⟨rfl, hb1⟩
          try dsimp only
          have HS5 := Lib.hid (And.intro (HS3.out.1.drew.below hb1 HS3.out.1.drew.lt) (below_step (below_drewN HS3.out.2 1) hb1))
          clear hb1
          refine hK.out _ _ (⟨HS5.out.1.cell 0, HS5.out.1.cell 1, HS5.out.1.cell 2, HS5.out.1.cell 3⟩) (fun _ => ?_)
          clear hK K
          try simp only [Act.put, List.setIfInBounds_toArray, List.set_cons_zero, List.set_cons_succ]
          repeat (first | (refine SeqH.take (v := ?_) rfl (by rfl) ?_ ?_; rotate_left; (· intro w hSw; (try dsimp only at hSw); obtain ⟨q0, q1, q2, q3⟩ := hSw; go_simp; (try rw [if_pos (by omega)]); (try with_reducible rfl)); simp only [Act.put, List.setIfInBounds_toArray, List.set_cons_zero, List.set_cons_succ]) | (refine SeqH.skip rfl (by rfl) ?_; simp only [Act.put, List.setIfInBounds_toArray, List.set_cons_zero, List.set_cons_succ]))
          refine SeqH.step rfl (by rfl) (fun K hK => ?_)
          go_simp
          go_at_call 93
          refine (CT.out _ HS5.out.2).mono ?_
          rintro e w7 ⟨rfl, hb1⟩
          try dsimp only
          have HS6 := Lib.hid (And.intro (HS5.out.1.below hb1 HS5.out.1.lt) (below_step HS5.out.2 hb1))
          clear hb1
          refine hK.out _ _ (⟨HS6.out.1.cell 0, HS6.out.1.cell 1, HS6.out.1.cell 2, HS6.out.1.cell 3⟩) (fun _ => ?_)
          clear hK K
          try simp only [Act.put, List.setIfInBounds_toArray, List.set_cons_zero, List.set_cons_succ]
          repeat (first | (refine SeqH.take (v := ?_) rfl (by rfl) ?_ ?_; rotate_left; (· intro w hSw; (try dsimp only at hSw); obtain ⟨q0, q1, q2, q3⟩ := hSw; go_simp; (try with_reducible rfl)); simp only [Act.put, List.setIfInBounds_toArray, List.set_cons_zero, List.set_cons_succ]) | (refine SeqH.skip rfl (by rfl) ?_; simp only [Act.put, List.setIfInBounds_toArray, List.set_cons_zero, List.set_cons_succ]))
          refine SeqH.done ?_
          clear CT CE HS3 HC3 HS5
          cases r
          · have HRN : Hid (R = Lf.ckL ls gs plan (plan.length - (i + 1)) (i + 1)) := Lib.hid (by rw [HIN.out.1, HSk.out, HLA.out, HAF.out]; rfl)
            have HSN : Hid (∀ j (hj : j < plan.length), j < i + 1 → Lf.slE ls gs plan[j] = 0) := Lib.hid fun j hj hji => by
              by_cases e : j = i
              · subst e; rw [HX.out]; exact HSL.out
              · exact HIN.out.2 j hj (by omega)
            go_wp2
            go_roundw
            case rel => exact ⟨i + 1, by omega, rfl, by go_num, Lib.hid ⟨⟨HRN.out, HSN.out⟩, HS6.out.2⟩⟩
            case measure => simp [intOf]; omega
          · have HE : Hid (R = 10) := Lib.hid (by rw [HIN.out.1, HSk.out, HLA.out, HAF.out]; rfl)
            go_wp2
            go_ret
            exact ⟨ret_int HE.out.symm, HS6.out.2⟩
    · obtain rfl : i = plan.length := by omega
      have HRF := Lib.hid (HRE.out hg.out.1.1)
      have HW := Lib.hid hg.out.2
      have CL := Lib.hid (fun (j : Nat) W (hW : Below w.heap.size w W) => loaded_any (.slice za plan.length zc) plan j W (by have h := HZT.out W hW plan.length (Nat.le_refl _); rwa [List.take_of_length_le (Nat.le_refl _)] at h) (by omega) (fun j hj => (HSM.out j hj).1))
      have HCA := Lib.hid (fun h => cov_all (gs := gs) (plan := plan) h)
      have HCN := Lib.hid (fun (j : Nat) (hj : j < gs.length) h => cov_not (gs := gs) (plan := plan) hj h)
      clear hg HRE
      generalize Lf.cov gs plan = CV at *
      go_wp2
      go_loopw [11] (fun t wr => ∃ (k : Nat), k ≤ gs.length ∧ t = .int .i64 k ∧ Hid ((∀ j : Nat, j < k → Lf.hsG plan (j : Int) = true) ∧ Below w.heap.size w wr)) (fun t _ => gs.length - (intOf t).toNat)
      case atStart => exact ⟨0, Nat.zero_le _, rfl, Lib.hid ⟨fun j h => absurd h (Nat.not_lt_zero _), HW.out⟩⟩
      case round =>
        obtain ⟨k, hk, rfl, hg⟩ := hrel
        clear HW
        by_cases hlk : k < gs.length
        · have CL1 := Lib.hid (CL.out k wr hg.out.2)
          have HNk := Lib.hid (HCN.out k hlk)
          have HI : Hid (Lf.hsG plan (k : Int) = true → ∀ j : Nat, j < k + 1 → Lf.hsG plan (j : Int) = true) := Lib.hid fun h j hj => by
            by_cases e : j = k
            · subst e; exact h
            · exact hg.out.1 j (by omega)
          have HW := Lib.hid hg.out.2
          clear hg
          generalize Lf.hsG plan (k : Int) = r at *
          go_wp2_with fail
          refine CL1.out.mono ?_
          rintro e w5 ⟨rfl, rfl⟩
          clear CL1
          cases r
          · have HE : Hid (R = 11) := Lib.hid (by rw [HRF.out, HNk.out rfl]; rfl)
            clear HI HNk
            go_wp2
            go_ret
            exact ⟨ret_int HE.out.symm, HW.out⟩
          · have HI2 := Lib.hid (HI.out rfl)
            clear HI HNk
            go_wp2
            go_roundw
            case rel => exact ⟨k + 1, by omega, by go_num, Lib.hid ⟨HI2.out, HW.out⟩⟩
            case measure => simp [intOf]; omega
        · obtain rfl : k = gs.length := by omega
          have HE : Hid (R = 0) := Lib.hid (by rw [HRF.out, HCA.out hg.out.1]; rfl)
          have HW := Lib.hid hg.out.2
          clear hg
          go_wp2
          go_ret
          exact ⟨ret_int HE.out.symm, HW.out⟩
end Go.Proofs.Ytabfcnfddemblaa.Lo
