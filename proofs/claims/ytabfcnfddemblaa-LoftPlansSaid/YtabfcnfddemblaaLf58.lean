/- The plan: of the program. -/
import Derived.Test.YtabfcnfddemblaaLfMh
namespace Go.Proofs.Ytabfcnfddemblaa.Lo
open Go.RowKit

set_option maxRecDepth 100000 in
set_option maxHeartbeats 16000000 in
theorem plan_any (u v : Value) (ls : List Lf.F) (gs : List Lf.G) (w : World) (hu : Lofts w u ls) (hv : Goods w v gs) :
    Calls Try.prog 48 #[u, v] w fun e w' => ∃ a n c d m f, e = .returned (.tuple #[.slice a n c, .slice d m f, .int .i64 (Lf.bthE ls gs)]) ∧ Below w.heap.size w w' ∧ (Lf.bthE ls gs ≠ 0 → (a = none ∧ n = 0 ∧ c = 0) ∧ d = none ∧ m = 0 ∧ f = 0) ∧ (Lf.bthE ls gs = 0 → Loads w' (.slice a n c) (plP ls gs) ∧ Ints w' (.slice d m f) ((plF ls gs).mergeSort fun x y => decide (x ≤ y))) := by
  have CB := Lib.hid (both_any u v ls gs w hu hv)
  have CO := Lib.hid (fun W (hW : Below w.heap.size w W) h8 => order_any u v gs W (hv.all hW) h8)
  have CP := Lib.hid (fun (P : List KV) za zc base n W (hW : Below w.heap.size w W) hb0 hn0 hn hz hP hPl => put_any u v ls gs P za zc base n W (hu.all hW) (hv.all hW) hb0 hn0 hn hz hP hPl)
  have CG := Lib.hid (fun (z : Value) (P : List KV) n W (hW : Below w.heap.size w W) hb0 hn0 hn hz hP hP2 hPl hB => begin_any u v z ls gs P n W (hu.all hW) (hv.all hW) hb0 hn0 hn hz hP hP2 hPl hB)
  obtain ⟨ua, uc, rfl⟩ := hu.form
  obtain ⟨va, vc, rfl⟩ := hv.form
  clear hu hv
  by_cases hb0 : Lf.bthE ls gs = 0
  case neg =>
    clear CO CP CG
    have HN := Lib.hid hb0
    generalize Lf.bthE ls gs = E at *
    have hd : (E == 0) = false := beq_eq_false_iff_ne.2 hb0
    have hd2 : (E != 0) = true := by rw [bne, hd]; rfl
    go_enter Try.func48, Try.ntmps48
    go_wp2_with fail
    refine CB.out.mono ?_
    rintro e w1 ⟨rfl, hb1⟩
    have HB := Lib.hid hb1
    clear hb1 hb0
    go_wp2
    refine bodyPost_ret (results_tmp3 rfl _ _ _) rfl ?_
    exact ⟨none, 0, 0, none, 0, 0, rfl, HB.out, fun _ => ⟨⟨rfl, rfl, rfl⟩, rfl, rfl, rfl⟩, fun h => absurd h HN.out⟩
  obtain ⟨_, h3, _, h8⟩ := bth_ok hb0
  have HB0 := Lib.hid hb0
  have HAT := Lib.hid (fun k hk P F h => pln_at (ls := ls) (gs := gs) hb0 (k := k) hk (P := P) (F := F) h)
  have HS0 : Hid (plnS ls gs 0 = ([], [])) := Lib.hid rfl
  have HEND := Lib.hid (plnS_end ls gs)
  rw [hb0] at CB ⊢
  clear hb0
  obtain ⟨i0, hi0, hz0, hz1, hz2⟩ := info_parts infoLoadK
  obtain ⟨j0, hj0, jz0, jz1, jz2⟩ := info_parts infoInt
  obtain ⟨l0, hl0, lz0, lz1, lz2⟩ := info_parts infoLoad
  go_enter Try.func48, Try.ntmps48
  go_wp2_with fail
  refine CB.out.mono ?_
  rintro e w1 ⟨rfl, hb1⟩
  obtain ⟨W1, hW1⟩ : ∃ W, W = w1.alloc (.cells #[.slice ua ls.length uc, .slice va gs.length vc] DemT) := ⟨_, rfl⟩
  have HD := Lib.hid (show BlockAt W1 w1.heap.size #[.slice ua ls.length uc, .slice va gs.length vc] DemT ∧ Below w.heap.size w W1 from by rw [hW1]; exact ⟨BlockAt.new _ _ _, below_alloc2 hb1 _⟩)
  have HE1 := Lib.hid hW1.symm
  have HX := Lib.hid (BlockAt.new w1 #[.slice ua ls.length uc, .slice va gs.length vc] DemT)
  have CO1 := Lib.hid (CO.out W1 HD.out.2 h8)
  clear hb1 CB hW1 CO
  have x0 : World.cell? _ _ = some (.slice ua ls.length uc) := HX.out.cell 0
  have x1 : World.cell? _ _ = some (.slice va gs.length vc) := HX.out.cell 1
  go_wp2_with fail
  rw [show w1.alloc (.cells #[.slice ua ls.length uc, .slice va gs.length vc] DemT) = W1 from HE1.out]
  refine CO1.out.mono ?_
  rintro e W0 ⟨oa, oc, rfl, ho, hb1⟩
  have HO := Lib.hid (show Ints W0 (.slice oa gs.length oc) (odr gs) ∧ BlockAt W0 w1.heap.size #[.slice ua ls.length uc, .slice va gs.length vc] DemT ∧ Below w.heap.size w W0 from ⟨OwnI.ints ho, HD.out.1.below hb1 HD.out.1.lt, below_step HD.out.2 hb1⟩)
  clear ho hb1 HD HE1 CO1 HX x0 x1
  go_wp2
  go_loopw [9, 10, 30] (fun s f t wr => ∃ (k : Nat) (L : List KV) (F : List Int) (za : Option Addr) (zc : Nat) (fa : Option Addr) (fc : Nat), (k ≤ gs.length ∧ L.length ≤ 8 ∧ F.length ≤ 8) ∧ s = .slice za L.length zc ∧ f = .slice fa F.length fc ∧ t = .int .i64 k ∧ Hid (plnS ls gs k = (L.map KV.x, F) ∧ PlH ls gs W0.heap.size (.slice za L.length zc) (.slice fa F.length fc) L F wr ∧ Below W0.heap.size W0 wr)) (fun _ _ t _ => gs.length - (intOf t).toNat)
  case atStart => exact ⟨0, [], [], none, 0, none, 0, ⟨Nat.zero_le _, by simp, by simp⟩, rfl, rfl, rfl, Lib.hid ⟨HS0.out, PlH.start _ _ _ _, Below.refl _ _⟩⟩
  case round =>
    obtain ⟨k, L, F, za, zc, fa, fc, ⟨hk, hL8, hF8⟩, rfl, rfl, rfl, hg⟩ := hrel
    clear HS0
    have hbw := below_step HO.out.2.2 hg.out.2.2
    by_cases hlt : k < gs.length
    · obtain ⟨hA1, hA2, hA3, hA4, hA5, hA6, hA7⟩ := HAT.out k hlt _ _ hg.out.1
      have hlo : k < (odr gs).length := by rw [odr_len]; exact hlt
      obtain ⟨ob, oo, hoa, hob, hoc⟩ := Ints.at HO.out.1 k hlo
      subst hoa
      have y0 := (hg.out.2.2.cell (p := ⟨ob, oo + k, none⟩) hob).trans hoc
      have hLk : L.length ≤ k := by have := hA1.2.1; rw [List.length_map] at this; exact this
      have hFk := hA1.2.2
      have CPk := Lib.hid (CP.out L za zc W0.heap.size ((odr gs).getD k 0) wr hbw HB0.out hA1.1.1 hA1.1.2 hg.out.2.1.1 (fun j hj => ⟨(hg.out.2.1.2.2 j hj).1, hA2 _ (List.mem_map.2 ⟨L[j], List.getElem_mem hj, rfl⟩)⟩) (by omega))
      have CGk := Lib.hid (fun z W hW hz hP => CG.out z L ((odr gs).getD k 0) W hW HB0.out hA1.1.1 hA1.1.2 hz hP hA3 (by omega) hA4)
      have HST := Lib.hid (And.intro hA5 (And.intro hA6 hA7))
      have HG := Lib.hid hg.out.2
      have hd0 := HO.out.2.1.below hg.out.2.2 HO.out.2.1.lt
      have x0 : World.cell? _ _ = some (.slice ua ls.length uc) := hd0.cell 0
      have x1 : World.cell? _ _ = some (.slice va gs.length vc) := hd0.cell 1
      clear hg hA1 hA2 hA3 hA4 hA5 hA6 hA7 hlo hob hoc hbw hd0 HAT CP CG HEND
      generalize (odr gs).getD k 0 = n at *
      go_wp2_with fail
      refine CPk.out.mono ?_
      rintro e w3 ⟨Q, ok, rfl, hpf, hQ, hQl, hQo, hgr, hQk, hoff⟩
      have HH3 := Lib.hid (And.intro (HG.out.1.put hQo hgr hQk (hoff (.slice fa F.length fc) HG.out.1.flt (fun j hj => (HG.out.1.2.2 j hj).2))) (HG.out.1.zbelow HG.out.2 hgr))
      have HPF := Lib.hid hpf
      have HQQ := Lib.hid hQ
      have HQL := Lib.hid hQl
      clear hpf hQ hQl hQo hgr hQk hoff x0 x1 y0 CPk HG
      cases ok
      case true =>
        have HN := Lib.hid (HST.out.1 (Q.map KV.x) (by rw [HPF.out]; rfl))
        have hQ8 : Q.length ≤ 8 := by rw [HQL.out]; exact hL8
        have HQ2 := Lib.hid (show PlH ls gs W0.heap.size (.slice za Q.length zc) (.slice fa F.length fc) Q F w3 from by rw [HQL.out]; exact HH3.out.1)
        clear HST HPF HQQ CGk
        go_wp2
        go_roundw
        case rel => exact ⟨k + 1, Q, F, za, zc, fa, fc, ⟨by omega, hQ8, hF8⟩, by rw [HQL.out], rfl, by go_num, Lib.hid ⟨HN.out, HQ2.out, HH3.out.2⟩⟩
        case measure => simp [intOf]; omega
      have hQL := HQQ.out rfl
      subst hQL
      have HP0 : Hid (Lf.putF ls gs n (Q.map KV.x) = none) := Lib.hid (by rw [HPF.out]; rfl)
      clear HQQ HQL HPF
      have hbw := below_step HO.out.2.2 HH3.out.2
      have CG1 := Lib.hid (CGk.out (.slice za Q.length zc) w3 hbw (OwnG.rows kvC_len HH3.out.1.1) (fun j hj => (HH3.out.1.2.2 j hj).1.w h8))
      have hd0 := HO.out.2.1.below HH3.out.2 HO.out.2.1.lt
      have x0 : World.cell? _ _ = some (.slice ua ls.length uc) := hd0.cell 0
      have x1 : World.cell? _ _ = some (.slice va gs.length vc) := hd0.cell 1
      clear hbw hd0 CGk
      go_wp2_with fail
      refine CG1.out.mono ?_
      rintro e w4 ⟨x, ok2, rfl, hb4, hbg, hBe, xua, xun, xuc, xva, xvn, xvc, hxu, hxv⟩
      have HH4 := Lib.hid (And.intro (HH3.out.1.all hb4) (below_step HH3.out.2 hb4))
      have HZ4 := Lib.hid (And.intro HH3.out.1.zlt HH3.out.1.flt)
      have HBE := Lib.hid hBe
      have HBG := Lib.hid hbg
      clear hb4 hbg hBe x0 x1 CG1 HH3
      cases ok2
      case true =>
        have HN := Lib.hid (HST.out.2.1 HP0.out x.x (by rw [HBG.out]; rfl))
        have HK4 := Lib.hid (HBE.out rfl)
        clear HST HP0 HBE HBG
        obtain ⟨⟨xl, xa, xh, xg⟩, xu, xv, xr, xm, ⟨xp, xn, xo, xs, xt⟩⟩ := x
        dsimp only at hxu hxv HN
        subst hxu hxv
        dsimp only [kV, kvV]
        have HB9 := Lib.hid (BlockAt.new w4 (kA (⟨⟨xl, xa, xh, xg⟩, .slice xua xun xuc, .slice xva xvn xvc, xr, xm, ⟨xp, xn, xo, xs, xt⟩⟩ : KV)) KvT)
        have hba := below_alloc2 (Below.refl w4.heap.size w4) (.cells (kA (⟨⟨xl, xa, xh, xg⟩, .slice xua xun xuc, .slice xva xvn xvc, xr, xm, ⟨xp, xn, xo, xs, xt⟩⟩ : KV)) KvT)
        have hbb := below_alloc2 hba (.cells (kvC (⟨⟨xl, xa, xh, xg⟩, .slice xua xun xuc, .slice xva xvn xvc, xr, xm, ⟨xp, xn, xo, xs, xt⟩⟩ : KV)).toArray KvT)
        have HA := Lib.hid (And.intro (HH4.out.1.all hbb) (And.intro (below_step HH4.out.2 hbb) (HK4.out.all hbb)))
        have hown := (HH4.out.1.all hba).1
        have hsz := HH4.out.2.size
        have hca := cells_new (cs := kvC (⟨⟨xl, xa, xh, xg⟩, .slice xua xun xuc, .slice xva xvn xvc, xr, xm, ⟨xp, xn, xo, xs, xt⟩⟩ : KV)) (w4.alloc (.cells (kA (⟨⟨xl, xa, xh, xg⟩, .slice xua xun xuc, .slice xva xvn xvc, xr, xm, ⟨xp, xn, xo, xs, xt⟩⟩ : KV)) KvT)) KvT
        clear hba hbb HK4 HH4
        have x0 : World.cell? _ _ = some (.int .i64 xl) := HB9.out.cell 0
        have x1 : World.cell? _ _ = some (.int .i64 xa) := HB9.out.cell 1
        have x2 : World.cell? _ _ = some (.slice xua xun xuc) := HB9.out.cell 2
        have x3 : World.cell? _ _ = some (.slice xva xvn xvc) := HB9.out.cell 3
        have x4 : World.cell? _ _ = some (.int .i64 xr) := HB9.out.cell 4
        have x5 : World.cell? _ _ = some (.int .i64 xm) := HB9.out.cell 5
        have x6 : World.cell? _ _ = some (.int .i64 xp) := HB9.out.cell 6
        have x7 : World.cell? _ _ = some (.int .i64 xn) := HB9.out.cell 7
        have x8 : World.cell? _ _ = some (.int .i64 xo) := HB9.out.cell 8
        have x9 : World.cell? _ _ = some (.int .i64 xs) := HB9.out.cell 9
        have x10 : World.cell? _ _ = some (.int .i64 xt) := HB9.out.cell 10
        go_wp2_with (at_builtin; refine wpList_append_own_at _ rfl _ _ 134 rfl W0.heap.size KvT i0 _ 11 120 Try.underlying134 hi0 hz0 hz1 hz2 rfl (by decide) _ _ _ rfl (hown.alloc _) _ 1 1 (kvC (⟨⟨xl, xa, xh, xg⟩, .slice xua xun xuc, .slice xva xvn xvc, xr, xm, ⟨xp, xn, xo, xs, xt⟩⟩ : KV)) rfl rfl ?c1 (kvC_one _ rfl rfl) ?c3 ?c4 ?c5 ?_)
        case c1 => first | exact hca | (simp only [World.size_alloc] at hca; exact hca) | exact fun j u h => h
        case c3 => unfold maxLen; omega
        case c4 => omega
        case c5 => first | omega | (simp; omega)
        intro v' w9 hr9 hg9 _ hat9
        have hP9 := HA.out.1.pushK HA.out.2.2.1 HA.out.2.2.2.1 HN.out.2 HZ4.out.1 HZ4.out.2 hr9 hg9 hat9 (by simp)
        have hW9 := HA.out.1.zbelow HA.out.2.1 hg9
        obtain ⟨a9, c9, e9⟩ := (hP9.1.rows kvC_len).form
        subst e9
        have HP9 := Lib.hid (And.intro hP9 hW9)
        have HN9 : Hid (plnS ls gs (k + 1) = ((Q ++ [(⟨⟨xl, xa, xh, xg⟩, .slice xua xun xuc, .slice xva xvn xvc, xr, xm, ⟨xp, xn, xo, xs, xt⟩⟩ : KV)]).map KV.x, F)) := Lib.hid (by rw [HN.out.1, List.map_append]; rfl)
        have hl9 : (Q ++ [(⟨⟨xl, xa, xh, xg⟩, .slice xua xun xuc, .slice xva xvn xvc, xr, xm, ⟨xp, xn, xo, xs, xt⟩⟩ : KV)]).length ≤ 8 := by rw [List.length_append]; simp; omega
        clear hown hsz hca hr9 hg9 hat9 hP9 hW9 HA HN HB9 HZ4 x0 x1 x2 x3 x4 x5 x6 x7 x8 x9 x10
        generalize Q ++ [(⟨⟨xl, xa, xh, xg⟩, .slice xua xun xuc, .slice xva xvn xvc, xr, xm, ⟨xp, xn, xo, xs, xt⟩⟩ : KV)] = L9 at *
        go_wp2
        go_roundw
        case rel => exact ⟨k + 1, L9, F, a9, c9, fa, fc, ⟨by omega, hl9, hF8⟩, rfl, rfl, by go_num, Lib.hid ⟨HN9.out, HP9.out⟩⟩
        case measure => simp [intOf]; omega
      have HN := Lib.hid (HST.out.2.2 HP0.out (by rw [HBG.out]; rfl))
      clear HST HP0 HBE HBG
      obtain ⟨⟨xl, xa, xh, xg⟩, xu, xv, xr, xm, ⟨xp, xn, xo, xs, xt⟩⟩ := x
      dsimp only at hxu hxv HN
      subst hxu hxv
      dsimp only [kV, kvV]
      have hba := below_alloc2 (Below.refl w4.heap.size w4) (.cells (kA (⟨⟨xl, xa, xh, xg⟩, .slice xua xun xuc, .slice xva xvn xvc, xr, xm, ⟨xp, xn, xo, xs, xt⟩⟩ : KV)) KvT)
      have hbb := below_alloc2 hba (.cells (intL n).toArray 3)
      have HA := Lib.hid (And.intro (HH4.out.1.all hbb) (below_step HH4.out.2 hbb))
      have hown := (HH4.out.1.all hba).2.1
      have hsz := HH4.out.2.size
      have hca := cells_new (cs := intL n) (w4.alloc (.cells (kA (⟨⟨xl, xa, xh, xg⟩, .slice xua xun xuc, .slice xva xvn xvc, xr, xm, ⟨xp, xn, xo, xs, xt⟩⟩ : KV)) KvT)) 3
      clear hba hbb HH4
      go_wp2_with (at_builtin; refine wpList_append_own_at _ rfl _ _ 24 rfl W0.heap.size 3 j0 _ 1 8 Try.underlying24 hj0 jz0 jz1 jz2 rfl (by decide) _ _ _ rfl (hown.alloc _) _ 1 1 (intL n) rfl rfl ?c1 (intL_one _) ?c3 ?c4 ?c5 ?_)
      case c1 => first | exact hca | (simp only [World.size_alloc] at hca; exact hca) | exact fun j u h => h
      case c3 => unfold maxLen; omega
      case c4 => omega
      case c5 => first | omega | (simp; omega)
      intro v' w9 hr9 hg9 _ hat9
      have hP9 := HA.out.1.pushF hr9 hg9 hat9 (by simp)
      have hW9 := HA.out.1.fbelow HA.out.2 hg9
      obtain ⟨a9, c9, e9⟩ := hP9.2.1.form
      subst e9
      have HP9 := Lib.hid (And.intro hP9 hW9)
      have hl9 : (F ++ [n]).length ≤ 8 := by rw [List.length_append]; simp; omega
      clear hown hsz hca hr9 hg9 hat9 hP9 hW9 HA HZ4
      generalize F ++ [n] = F9 at *
      go_wp2
      go_roundw
      case rel => exact ⟨k + 1, Q, F9, za, zc, a9, c9, ⟨by omega, hL8, hl9⟩, rfl, rfl, by go_num, Lib.hid ⟨HN.out, HP9.out⟩⟩
      case measure => simp [intOf]; omega
    · obtain rfl : k = gs.length := by omega
      have HPE : Hid (L.map KV.x = plP ls gs ∧ F = plF ls gs) := Lib.hid (by
        have h1 := hg.out.1
        rw [HEND.out] at h1
        injection h1 with h1 h2
        exact ⟨h1.symm, h2.symm⟩)
      have HG := Lib.hid hg.out.2
      have CS := Lib.hid (sortI_any (.slice fa F.length fc) F W0.heap.size wr HG.out.1.2.1 (by omega))
      clear hg hbw HAT CP CG HEND
      go_wp2_with fail
      refine CS.out.mono ?_
      rintro e W5 ⟨rfl, hs5, hg5⟩
      have H5 := Lib.hid (And.intro (HG.out.1.sorted hs5 hg5) (below_step HO.out.2.2 (HG.out.1.fbelow HG.out.2 hg5)))
      clear hs5 hg5 CS HG HO
      go_wp2
      go_loopw [15, 59] (fun s t wr => ∃ (k : Nat) (a : Option Addr) (c : Nat), k ≤ L.length ∧ s = .slice a k c ∧ t = .int .i64 k ∧ Hid (OwnG LoadT 4 ldK W5.heap.size wr (.slice a k c) (L.take k) ∧ Below W5.heap.size W5 wr)) (fun _ t _ => L.length - (intOf t).toNat)
      case atStart => exact ⟨0, none, 0, Nat.zero_le _, rfl, rfl, Lib.hid ⟨OwnG.nil _ _, Below.refl _ _⟩⟩
      case round =>
        obtain ⟨k, a, c, hk2, rfl, rfl, hg⟩ := hrel
        by_cases hlt : k < L.length
        · obtain ⟨_, _, hzf, hzc, hzk⟩ := OwnG.rows kvC_len (H5.out.1.1.all hg.out.2)
          injection hzf with hq1 hq2 hq3
          subst hq1 hq3
          obtain ⟨zb, zo, rfl, hzb, hzr⟩ := hzk k hlt
          obtain ⟨⟨c0, c1, c2, c3⟩, ⟨c4, c5⟩, c6, c7, c8, c9, c10⟩ := kv_at hzr
          obtain ⟨xua, xuc, hxu⟩ := (H5.out.1.2.2 k hlt).1.1.1.1.form
          obtain ⟨xva, xvc, hxv⟩ := (H5.out.1.2.2 k hlt).1.1.1.2.form
          have HTK : Hid (L.take (k + 1) = L.take k ++ [L[k]]) := Lib.hid (List.take_succ_eq_append_getElem hlt)
          have hown := hg.out.1
          have hsz := hg.out.2.size
          have hbb := below_alloc2 (below_alloc2 hg.out.2 (.cells (kA L[k]) KvT)) (.cells (ldK L[k]).toArray LoadT)
          clear hzr hzk hg hzc hzb
          generalize L[k] = x at *
          obtain ⟨⟨xl, xa, xh, xg⟩, xu, xv, xr, xm, ⟨xp, xn, xo, xs, xt⟩⟩ := x
          dsimp only at hxu hxv c0 c1 c2 c3 c4 c5 c6 c7 c8 c9 c10
          subst hxu hxv
          have HB9 := Lib.hid (BlockAt.new wr (kA (⟨⟨xl, xa, xh, xg⟩, .slice xua xh.length xuc, .slice xva xg.length xvc, xr, xm, ⟨xp, xn, xo, xs, xt⟩⟩ : KV)) KvT)
          have hown := OwnG.alloc hown (.cells (kA (⟨⟨xl, xa, xh, xg⟩, .slice xua xh.length xuc, .slice xva xg.length xvc, xr, xm, ⟨xp, xn, xo, xs, xt⟩⟩ : KV)) KvT)
          have hca := cells_new (cs := ldK (⟨⟨xl, xa, xh, xg⟩, .slice xua xh.length xuc, .slice xva xg.length xvc, xr, xm, ⟨xp, xn, xo, xs, xt⟩⟩ : KV)) (wr.alloc (.cells (kA (⟨⟨xl, xa, xh, xg⟩, .slice xua xh.length xuc, .slice xva xg.length xvc, xr, xm, ⟨xp, xn, xo, xs, xt⟩⟩ : KV)) KvT)) LoadT
          have htl : (L.take k).length ≤ 8 := by rw [List.length_take]; omega
          have HBB := Lib.hid hbb
          clear hbb
          have x0 : World.cell? _ _ = some (.int .i64 xl) := HB9.out.cell 0
          have x1 : World.cell? _ _ = some (.int .i64 xa) := HB9.out.cell 1
          have x2 : World.cell? _ _ = some (.slice xua xh.length xuc) := HB9.out.cell 2
          have x3 : World.cell? _ _ = some (.slice xva xg.length xvc) := HB9.out.cell 3
          go_wp2_with (at_builtin; refine wpList_append_own_at _ rfl _ _ 75 rfl W5.heap.size LoadT l0 _ 4 64 Try.underlying75 hl0 lz0 lz1 lz2 rfl (by decide) _ _ _ rfl (hown.alloc _) _ 1 1 (ldK (⟨⟨xl, xa, xh, xg⟩, .slice xua xh.length xuc, .slice xva xg.length xvc, xr, xm, ⟨xp, xn, xo, xs, xt⟩⟩ : KV)) rfl rfl ?c1 (ldK_one _ rfl rfl) ?c3 ?c4 ?c5 ?_)
          case c1 => first | exact hca | (simp only [World.size_alloc] at hca; exact hca) | exact fun j u h => h
          case c3 => unfold maxLen; omega
          case c4 => omega
          case c5 => first | omega | (simp; omega)
          intro v' w9 hr9 hg9 _ _
          have hw9 := HBB.out.grown hg9 (by simp; omega) (fun j e => (World.ownsRow.lt hown j e).1)
          have hp9 : OwnG LoadT 4 ldK W5.heap.size w9 v' (L.take k ++ [(⟨⟨xl, xa, xh, xg⟩, .slice xua xh.length xuc, .slice xva xg.length xvc, xr, xm, ⟨xp, xn, xo, xs, xt⟩⟩ : KV)]) := OwnG.pushed (by rw [List.length_take, Nat.min_eq_left (by omega)]; exact hr9)
          rw [← HTK.out] at hp9
          obtain ⟨a9, c9', e9⟩ := (hp9.rows ldK_len).form
          rw [show (L.take (k + 1)).length = k + 1 by rw [List.length_take]; omega] at e9
          subst e9
          have HP9 := Lib.hid (And.intro hp9 hw9)
          clear hown hsz hca hr9 hg9 hp9 hw9 HB9 HBB htl HTK x0 x1 x2 x3 c0 c1 c2 c3 c4 c5 c6 c7 c8 c9 c10
          go_wp2
          go_roundw
          case rel => exact ⟨k + 1, a9, c9', by omega, rfl, by go_num, Lib.hid HP9.out⟩
          case measure => simp [intOf]; omega
        · obtain rfl : k = L.length := by omega
          have HR := Lib.hid (show Below w.heap.size w wr ∧ Loads wr (.slice a L.length c) (plP ls gs) ∧ Ints wr (.slice fa F.length fc) ((plF ls gs).mergeSort fun x y => decide (x ≤ y)) from ⟨below_step H5.out.2 hg.out.2, by
              have h1 := hg.out.1
              rw [List.take_of_length_le (Nat.le_refl _)] at h1
              have h2 := loads_kv h1 (fun j hj => ⟨(H5.out.1.2.2 j hj).1.1.1.1.all hg.out.2, (H5.out.1.2.2 j hj).1.1.1.2.all hg.out.2⟩)
              rw [HPE.out.1] at h2
              exact h2, by
              rw [← HPE.out.2]
              exact (OwnI.ints H5.out.1.2.1).all hg.out.2⟩)
          clear hg H5 HPE
          go_wp2
          refine bodyPost_ret (results_tmp3 rfl _ _ _) rfl ?_
          exact ⟨a, L.length, c, fa, F.length, fc, rfl, HR.out.1, fun h => absurd rfl h, fun _ => HR.out.2⟩
end Go.Proofs.Ytabfcnfddemblaa.Lo
