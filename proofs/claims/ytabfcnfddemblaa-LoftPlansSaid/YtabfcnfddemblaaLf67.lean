/- The plan: of the reference. -/
import Derived.Test.YtabfcnfddemblaaLfMh
import Derived.Test.YtabfcnfddemblaaLf64
import Derived.Test.YtabfcnfddemblaaLf61
import Derived.Test.YtabfcnfddemblaaLf49
import Derived.Test.YtabfcnfddemblaaLf24
namespace Go.Proofs.Ytabfcnfddemblaa.Lo
open Go.RowKit

theorem lfS_len (ls : List Lf.F) (gs : List Lf.G) (k : Nat) (hk : k ≤ gs.length) : (lfS ls gs k).length ≤ k := by
  unfold lfS
  rw [List.length_mergeSort]
  exact (pln_len ls gs k hk).2
/-- The best load so far of the reference, in its box. -/
def BrS (w : World) (b : Lf.L) (p q : Value) (W : World) : Prop := BlockAt W w.heap.size (ldA b.l b.a p q) LoadT ∧ Below w.heap.size w W
theorem BrS.step {w : World} {b : Lf.L} {p q : Value} {W W2 : World} (h : BrS w b p q W) (hb : Below W.heap.size W W2) : BrS w b p q W2 := ⟨h.1.below hb h.1.lt, below_step h.2 hb⟩
theorem BrS.drew {w : World} {b : Lf.L} {p q : Value} {W : World} (h : BrS w b p q W) : BrS w b p q W.drew := ⟨h.1.drew, below_drewN h.2 1⟩
def BrK (base : Nat) (W : World) (b : Lf.L) (p q : Value) : Prop := (OwnI base W p b.hs ∧ OwnI base W q b.gs) ∧ (0 ≤ b.a ∧ b.a ≤ 1000) ∧ b.hs.length ≤ 1000
theorem BrK.all {base : Nat} {W W2 : World} {b : Lf.L} {p q : Value} (h : BrK base W b p q) (hb : Below W.heap.size W W2) : BrK base W2 b p q := ⟨⟨h.1.1.all hb, h.1.2.all hb⟩, h.2⟩
set_option maxRecDepth 100000 in
set_option maxHeartbeats 16000000 in
theorem rplan_any (u v : Value) (ls : List Lf.F) (gs : List Lf.G) (w : World) (hu : Lofts w u ls) (hv : Goods w v gs) :
    Calls Try.prog 49 #[u, v] w fun e w' => ∃ a n c d m f, e = .returned (.tuple #[.slice a n c, .slice d m f, .int .i64 (Lf.bthE ls gs)]) ∧ Below w.heap.size w w' ∧ (Lf.bthE ls gs ≠ 0 → (a = none ∧ n = 0 ∧ c = 0) ∧ d = none ∧ m = 0 ∧ f = 0) ∧ (Lf.bthE ls gs = 0 → Loads w' (.slice a n c) (plP ls gs) ∧ Ints w' (.slice d m f) ((plF ls gs).mergeSort fun x y => decide (x ≤ y))) := by
  have CB := Lib.hid (rboth_any u v ls gs w hu hv)
  have CO := Lib.hid (fun W (hW : Below w.heap.size w W) h8 hG => rorder_any v gs W (hv.all hW) h8 hG)
  have CY := Lib.hid (fun (x : Lf.L) p q W (hW : Below w.heap.size w W) hp hq hb0 => by_any u v p q ls gs x W (hu.all hW) (hv.all hW) hp hq hb0)
  have CG := Lib.hid (fun (z : Value) (P : List Lf.L) (i lo : Nat) W (hW : Below w.heap.size w W) hz hb0 hi hlo hP hPl => rbegun_any u v z ls gs P i lo W (hu.all hW) (hv.all hW) hz hb0 hi hlo hP hPl)
  obtain ⟨ua, uc, rfl⟩ := hu.form
  obtain ⟨va, vc, rfl⟩ := hv.form
  clear hu hv
  by_cases hb0 : Lf.bthE ls gs = 0
  case neg =>
    clear CO CY CG
    have HN := Lib.hid hb0
    generalize Lf.bthE ls gs = E at *
    have hd : (E == 0) = false := beq_eq_false_iff_ne.2 hb0
    have hd2 : (E != 0) = true := by rw [bne, hd]; rfl
    go_enter Try.func49, Try.ntmps49
    go_wp2_with fail
    refine CB.out.mono ?_
    rintro e w1 ⟨rfl, hb1⟩
    have HB := Lib.hid hb1
    clear hb1 hb0
    go_wp2
    refine bodyPost_ret (results_tmp3 rfl _ _ _) rfl ?_
    exact ⟨none, 0, 0, none, 0, 0, rfl, HB.out, fun _ => ⟨⟨rfl, rfl, rfl⟩, rfl, rfl, rfl⟩, fun h => absurd h HN.out⟩
  obtain ⟨_, h3, hG, h8⟩ := bth_ok hb0
  have HB0 := Lib.hid hb0
  have CO1 := Lib.hid (fun W (hW : Below w.heap.size w W) => CO.out W hW h8 (fun k hk => by have := Lf.okG_iff.1 (hG k hk); omega))
  have HAT := Lib.hid (fun k hk P F h => pln_at (ls := ls) (gs := gs) hb0 (k := k) hk (P := P) (F := F) h)
  have HLI := Lib.hid (fun k hk P F h h2 => lfS_ins (ls := ls) (gs := gs) hb0 (k := k) hk (P := P) (F := F) h h2)
  have HLS := Lib.hid (fun k P Q F h h2 => lfS_same (ls := ls) (gs := gs) (k := k) (P := P) (Q := Q) (F := F) h h2)
  have HS0 : Hid (plnS ls gs 0 = ([], []) ∧ lfS ls gs 0 = []) := Lib.hid ⟨rfl, by unfold lfS plnS; simp⟩
  have HEND := Lib.hid (And.intro (plnS_end ls gs) (lfS_end ls gs))
  rw [hb0] at CB ⊢
  clear hb0 CO hG
  obtain ⟨l0, hl0, lz0, lz1, lz2⟩ := info_parts infoLoad
  go_enter Try.func49, Try.ntmps49
  go_wp2_with fail
  refine CB.out.mono ?_
  rintro e w1 ⟨rfl, hb1⟩
  have HB1 := Lib.hid hb1
  clear hb1 CB
  go_wp2_with fail
  refine (CO1.out w1 HB1.out).mono ?_
  rintro e W0 ⟨oa, oc, rfl, ho, hb1⟩
  rw [odr_len] at ho
  have HO := Lib.hid (show Ints W0 (.slice oa gs.length oc) (odr gs) ∧ Below w.heap.size w W0 from ⟨OwnI.ints ho, below_step HB1.out hb1⟩)
  rw [odr_len]
  clear ho hb1 HB1 CO1
  go_wp2
  go_loopw [8, 9, 11] (fun s f t wr => ∃ (k : Nat) (L : List KV) (F : List Int) (za : Option Addr) (zc : Nat) (fa : Option Addr) (fc : Nat), (k ≤ gs.length ∧ L.length ≤ 8 ∧ F.length ≤ 8) ∧ s = .slice za L.length zc ∧ f = .slice fa F.length fc ∧ t = .int .i64 k ∧ Hid ((∃ F0, plnS ls gs k = (L.map KV.x, F0) ∧ F = lfS ls gs k) ∧ PrH ls gs W0.heap.size (.slice za L.length zc) (.slice fa F.length fc) L F wr ∧ Below W0.heap.size W0 wr)) (fun _ _ t _ => gs.length - (intOf t).toNat)
  case atStart => exact ⟨0, [], [], none, 0, none, 0, ⟨Nat.zero_le _, by simp, by simp⟩, rfl, rfl, rfl, Lib.hid ⟨⟨[], HS0.out.1, HS0.out.2.symm⟩, PrH.start _ _ _ _, Below.refl _ _⟩⟩
  case round =>
    obtain ⟨k, L, F, za, zc, fa, fc, ⟨hk, hL8, hF8⟩, rfl, rfl, rfl, hg⟩ := hrel
    clear HS0
    by_cases hlt : k < gs.length
    · obtain ⟨F0, hpl, hFl⟩ := hg.out.1
      obtain ⟨hA1, hA2, hA3, hA4, hA5, hA6, hA7⟩ := HAT.out k hlt _ _ hpl
      have hlo : k < (odr gs).length := by rw [odr_len]; exact hlt
      obtain ⟨ob, oo, hoa, hob, hoc⟩ := Ints.at HO.out.1 k hlo
      subst hoa
      have y0 := (hg.out.2.2.cell (p := ⟨ob, oo + k, none⟩) hob).trans hoc
      have hLk : L.length ≤ k := by have := hA1.2.1; rw [List.length_map] at this; exact this
      have HST := Lib.hid (And.intro hA5 (And.intro hA6 hA7))
      have HFI := Lib.hid (fun h2 => HLI.out k hlt _ _ hpl h2)
      have HFS := Lib.hid (fun Q h2 => HLS.out k _ Q _ hpl h2)
      have hn0 := hA1.1.1
      have hn1 := hA1.1.2
      have HNX : Hid (∀ j (hj : j < L.length), (odr gs).getD k 0 ∉ L[j].x.gs) := Lib.hid (fun j hj => hA2 _ (List.mem_map.2 ⟨L[j], List.getElem_mem hj, rfl⟩))
      have HOK := Lib.hid (And.intro hA3 hA4)
      have HFF := Lib.hid hFl
      have HG := Lib.hid hg.out.2
      clear hg hA1 hA2 hA3 hA4 hA5 hA6 hA7 hlo hob hoc HAT HEND hpl hFl HLI HLS
      generalize (odr gs).getD k 0 = n at *
      go_wp2
      go_loopw [13, 14] (fun s t wr => ∃ (j : Nat) (Q : List KV) (dn : Bool), (j ≤ L.length ∧ Q.length = L.length) ∧ s = .bool dn ∧ t = .int .i64 j ∧ Hid ((dn = false → Q = L ∧ ∀ m (hm : m < L.length), m < j → Lf.ckx ls gs (Lf.full L[m].x n) ≠ 0) ∧ (dn = true → Lf.putF ls gs n (L.map KV.x) = some (Q.map KV.x)) ∧ PrH ls gs W0.heap.size (.slice za L.length zc) (.slice fa F.length fc) Q F wr ∧ Below W0.heap.size W0 wr)) (fun s t _ => L.length - (intOf t).toNat)
      case atStart => exact ⟨0, L, false, ⟨Nat.zero_le _, rfl⟩, rfl, rfl, Lib.hid ⟨fun _ => ⟨rfl, fun m _ h => absurd h (Nat.not_lt_zero _)⟩, fun h => by (cases h), HG.out⟩⟩
      case round =>
        obtain ⟨j, Q, dn, ⟨hj, hQL⟩, rfl, rfl, hg⟩ := hrel
        clear HG
        cases dn
        case true =>
          have HN := Lib.hid (HST.out.1 _ (hg.out.2.1 rfl))
          have HN2 := Lib.hid (show (∃ F0, plnS ls gs (k + 1) = (Q.map KV.x, F0) ∧ F = lfS ls gs (k + 1)) from ⟨F0, HN.out, by rw [HFS.out _ HN.out]; exact HFF.out⟩)
          have HP := Lib.hid (show PrH ls gs W0.heap.size (.slice za Q.length zc) (.slice fa F.length fc) Q F wr ∧ Below W0.heap.size W0 wr from ⟨by rw [hQL]; exact hg.out.2.2.1, hg.out.2.2.2⟩)
          have hQ8 : Q.length ≤ 8 := by omega
          clear hg HST HFI HFS HFF HNX HOK HN
          by_cases hjl : j < L.length
          · have jd : decide (j < L.length) = true := decide_eq_true hjl
            go_wp2
            go_roundw
            case rel => exact ⟨k + 1, Q, F, za, zc, fa, fc, ⟨by omega, hQ8, hF8⟩, by rw [hQL], rfl, by go_num, Lib.hid ⟨HN2.out, HP.out⟩⟩
            case measure => simp [intOf]; omega
          · have jd : decide (j < L.length) = false := decide_eq_false hjl
            go_wp2
            go_roundw
            case rel => exact ⟨k + 1, Q, F, za, zc, fa, fc, ⟨by omega, hQ8, hF8⟩, by rw [hQL], rfl, by go_num, Lib.hid ⟨HN2.out, HP.out⟩⟩
            case measure => simp [intOf]; omega
        obtain ⟨hQ, hck⟩ := hg.out.1 rfl
        subst hQ
        clear hQL
        have HCK := Lib.hid hck
        have HG := Lib.hid hg.out.2.2
        clear hg hck
        by_cases hjl : j < Q.length
        · have jd : decide (j < Q.length) = true := decide_eq_true hjl
          obtain ⟨_, _, hzf, hzc, hzk⟩ := OwnG.rows ldK_len HG.out.1.1
          injection hzf with hq1 hq2 hq3
          subst hq1 hq3
          obtain ⟨zb, zo, rfl, hzb, hzr⟩ := hzk j hjl
          have c0 := hzr 0 _ rfl
          have c1 := hzr 1 _ rfl
          have c2 := hzr 2 _ rfl
          have c3 := hzr 3 _ rfl
          rw [Nat.add_zero] at c0
          have hPk := HG.out.1.2.2 j hjl
          have hnk := HNX.out j hjl
          obtain ⟨xua, xuc, hxu⟩ := hPk.1.1.1.form
          obtain ⟨xva, xvc, hxv⟩ := hPk.1.1.2.form
          obtain ⟨_, _, _, _, hxs⟩ := Lf.vLE_iff.1 hPk.2.2
          have hg8 := Lf.st_len hxs
          obtain ⟨rfl, hzlt⟩ : zo = 0 ∧ zb < wr.heap.size := by
            rcases OwnG.form HG.out.1.1 with h | ⟨g, cap, e, h1, h2, _⟩
            · exact absurd h.1 (by simp)
            · injection e with e1 e2 e3
              injection e1 with e1
              injection e1 with e1 e4
              exact ⟨e4, by omega⟩
          simp only [Nat.zero_add, Nat.add_zero] at c0 c1 c2 c3
          have HVF := Lib.hid (Lf.vLE_full hPk.2.2 hn0 hn1 hnk)
          have HBF := Lib.hid (by_full hPk.2.2 hn0 hn1 hnk)
          have HKR := Lib.hid hPk
          have CP1 := Lib.hid (fun W (hW : Below wr.heap.size wr W) => rput_any (Q[j]'hjl).v (Q[j]'hjl).x.gs n W (hPk.1.1.2.all hW) (by omega))
          have HWB := Lib.hid (below_step HO.out.2 HG.out.2)
          have CY1 := Lib.hid (fun (q : Value) W (hW : Below w.heap.size w W) (hp : Ints W (Q[j]'hjl).u (Q[j]'hjl).x.hs) (hq : Ints W q (Lf.insS n (Q[j]'hjl).x.gs)) => CY.out (Lf.full (Q[j]'hjl).x n) (Q[j]'hjl).u q W hW hp hq HB0.out)
          have HNX2 : Hid (Lf.ckx ls gs (Lf.full (Q[j]'hjl).x n) ≠ 0 → ∀ m (hm : m < Q.length), m < j + 1 → Lf.ckx ls gs (Lf.full Q[m].x n) ≠ 0) := Lib.hid fun h m hm hmj => by
            by_cases e : m = j
            · subst e; exact h
            · exact HCK.out m hm (by omega)
          have HYS : Hid (Lf.ckx ls gs (Lf.full (Q[j]'hjl).x n) = 0 → Lf.putF ls gs n (Q.map KV.x) = some ((Q.map KV.x).set j (Lf.full (Q[j]'hjl).x n))) := Lib.hid fun h => by
            have h1 := putF_at (ls := ls) (gs := gs) (n := n) (Q.map KV.x) j (by rw [List.length_map]; exact hjl) (fun m hm hmj => by rw [List.getElem_map]; exact HCK.out m (by rw [List.length_map] at hm; exact hm) hmj) (by rw [List.getElem_map]; exact h)
            rw [List.getElem_map] at h1
            exact h1
          clear hPk hnk hzr hzk hxs hzc HCK HNX
          generalize Q[j] = x at *
          obtain ⟨⟨xl, xa, xh, xg⟩, xu, xv, xr, xm, xT⟩ := x
          dsimp only at *
          subst hxu hxv
          have HB1 := Lib.hid (BlockAt.new wr (ldA xl xa (.slice xua xh.length xuc) (.slice xva xg.length xvc)) LoadT)
          have HW1 := Lib.hid (below_alloc2 (Below.refl wr.heap.size wr) (.cells (ldA xl xa (.slice xua xh.length xuc) (.slice xva xg.length xvc)) LoadT))
          have x3 : World.cell? _ _ = some (.slice xva xg.length xvc) := HB1.out.cell 3
          go_wp2_with fail
          refine (CP1.out _ HW1.out).mono ?_
          rintro e w2 ⟨na, nc, rfl, ho, hb1⟩
          clear x3 c0 c1 c2 c3
          have hsz2 : wr.heap.size + 1 ≤ w2.heap.size := by have := hb1.size; simpa using this
          have HN2 := Lib.hid ho
          have HB2 := Lib.hid (HB1.out.below hb1 HB1.out.lt)
          have HW2 := Lib.hid (below_step HW1.out hb1)
          clear ho hb1 HB1 HW1 CP1
          have x3 : World.cell? _ _ = some (.slice xva xg.length xvc) := HB2.out.cell 3
          have f3 := HB2.out.frozen 3
          have hlt2 := HB2.out.lt
          obtain ⟨W3, hW3⟩ : ∃ W, W = w2.setCell ⟨wr.heap.size, 3, none⟩ (.slice na (xg.length + 1) nc) := ⟨_, rfl⟩
          have HB3 := Lib.hid (show BlockAt W3 wr.heap.size (ldA xl xa (.slice xua xh.length xuc) (.slice na (xg.length + 1) nc)) LoadT from by rw [hW3]; exact HB2.out.set 3 _)
          have HW3 := Lib.hid (show Below wr.heap.size wr W3 from by rw [hW3]; exact HW2.out.setCell (p := ⟨wr.heap.size, 3, none⟩) (Nat.le_refl _) _)
          have HN3 := Lib.hid (show OwnI wr.heap.size W3 (.slice na (xg.length + 1) nc) (Lf.insS n xg) from by rw [hW3]; exact ownI_setL HB2.out (HN2.out.mono (by simp)) 3 _)
          have HNF : Hid (∀ b o i n2 c, (Value.slice na (xg.length + 1) nc) = .slice (some ⟨b, o, i⟩) n2 c → wr.heap.size ≤ b) := Lib.hid (fun b o i n2 c e => (World.ownsRow.lt HN3.out b (by rw [e]; rfl)).1)
          have HE3 := Lib.hid hW3.symm
          have x0 : World.cell? _ _ = some (.int .i64 xl) := HB2.out.cell 0
          have x1 : World.cell? _ _ = some (.int .i64 xa) := HB2.out.cell 1
          have x2 : World.cell? _ _ = some (.slice xua xh.length xuc) := HB2.out.cell 2
          clear hW3 HN2 HW2
          go_wp2_with fail
          rw [show w2.setCell ⟨wr.heap.size, 3, none⟩ (.slice na (xg.length + 1) nc) = W3 from HE3.out]
          clear x0 x1 x2 x3 f3 hlt2 HB2
          have HNI := Lib.hid (show Ints W3 (.slice na (xg.length + 1) nc) (Lf.insS n xg) from OwnI.ints (by have h1 := HN3.out; have h2 := Lf.insS_len n xg; rw [← h2] at h1 ⊢; exact h1))
          have CY2 := Lib.hid (CY1.out (.slice na (xg.length + 1) nc) W3 (below_step HWB.out HW3.out) (HKR.out.1.1.1.all HW3.out) HNI.out)
          rw [HBF.out] at CY2
          have e5 : Lf.full ⟨xl, xa, xh, xg⟩ n = ⟨xl, xa, xh, Lf.insS n xg⟩ := rfl
          rw [e5] at CY2 HVF HNX2 HYS
          clear e5 HBF CY1 HE3
          dsimp only at CY2
          refine CY2.out.mono ?_
          rintro e w4 ⟨rfl, hb1⟩
          have HB4 := Lib.hid (HB3.out.below hb1 HB3.out.lt)
          have HS4 := Lib.hid (And.intro (below_step HW3.out hb1) (HNI.out.all hb1))
          clear hb1 CY2 HB3 HW3 HN3 HNI HWB
          by_cases hC : Lf.ckx ls gs ⟨xl, xa, xh, Lf.insS n xg⟩ = 0
          case neg =>
            have HN2 := Lib.hid (HNX2.out hC)
            have hd : (Lf.ckx ls gs ⟨xl, xa, xh, Lf.insS n xg⟩ == 0) = false := beq_eq_false_iff_ne.2 hC
            have hd2 : decide (Lf.ckx ls gs ⟨xl, xa, xh, Lf.insS n xg⟩ = 0) = false := decide_eq_false hC
            have HGN := Lib.hid (And.intro (HG.out.1.all HS4.out.1) (below_step HG.out.2 HS4.out.1))
            clear HNX2 HYS hC
            generalize Lf.ckx ls gs ⟨xl, xa, xh, Lf.insS n xg⟩ = C at *
            go_wp2
            go_roundw
            case rel => exact ⟨j + 1, Q, false, ⟨by omega, rfl⟩, rfl, by go_num, Lib.hid ⟨fun _ => ⟨rfl, HN2.out⟩, fun h => by (cases h), HGN.out.1, HGN.out.2⟩⟩
            case measure => simp [intOf]; omega
          have HPF := Lib.hid (HYS.out hC)
          rw [hC]
          clear HNX2 HYS hC
          have HGA := Lib.hid (HG.out.1.all HS4.out.1)
          have hkb : j * 4 + 4 ≤ Q.length * 4 := by omega
          have hcz : ∀ q, q < Q.length * 4 → ∃ u, World.cell? w4 ⟨zb, q, none⟩ = some u := fun q hq => by
            have h1 := World.ownsRow.cellAt HGA.out.1 q hq
            have h2 : q < (Q.flatMap ldK).length := by rw [flat_len ldK_len]; exact hq
            rw [List.getElem?_eq_getElem h2] at h1
            exact ⟨_, h1⟩
          have hfz : ∀ q, World.frozen? w4 ⟨zb, q, none⟩ = false := fun q => World.ownsRow.frozenAt HGA.out.1 q
          obtain ⟨u0, z0⟩ := hcz (j * 4) (by omega)
          have f0 := hfz (j * 4)
          obtain ⟨u1, z1⟩ := hcz (j * 4 + 1) (by omega)
          have f1 := hfz (j * 4 + 1)
          obtain ⟨u2, z2⟩ := hcz (j * 4 + 2) (by omega)
          have f2 := hfz (j * 4 + 2)
          obtain ⟨u3, z3⟩ := hcz (j * 4 + 3) (by omega)
          have f3 := hfz (j * 4 + 3)
          have k0 : World.cell? _ _ = some (.int .i64 xl) := HB4.out.cell 0
          have k1 : World.cell? _ _ = some (.int .i64 xa) := HB4.out.cell 1
          have k2 : World.cell? _ _ = some (.slice xua xh.length xuc) := HB4.out.cell 2
          have k3 : World.cell? _ _ = some (.slice na (xg.length + 1) nc) := HB4.out.cell 3
          clear hcz hfz
          go_wp2
          clear k0 z0 f0 k1 z1 f1 k2 z2 f2 k3 z3 f3
          obtain ⟨Y, hY⟩ : ∃ Z, ((((w4.setCell ⟨zb, j * 4, none⟩ (.int .i64 xl)).setCell ⟨zb, j * 4 + 1, none⟩ (.int .i64 xa)).setCell ⟨zb, j * 4 + 2, none⟩ (.slice xua xh.length xuc)).setCell ⟨zb, j * 4 + 3, none⟩ (.slice na (xg.length + 1) nc)) = Z := ⟨_, rfl⟩
          rw [hY]
          have hYS : setsW w4 zb (j * 4) (ldK (kvOf ls gs ⟨xl, xa, xh, Lf.insS n xg⟩ (.slice xua xh.length xuc) (.slice na (xg.length + 1) nc))) = Y := hY
          have hoff : offV (.slice (some ⟨zb, 0, none⟩) Q.length zc) (.slice na (xg.length + 1) nc) := fun B hB b o i2 n2 c2 e => by
            have h1 := HNF.out b o i2 n2 c2 e
            have h2 : zb = B := by simpa [Value.ownBlock] using hB
            omega
          have hPA := PrH.alter (y := (kvOf ls gs ⟨xl, xa, xh, Lf.insS n xg⟩ (.slice xua xh.length xuc) (.slice na (xg.length + 1) nc))) HGA.out hjl ⟨⟨⟨HKR.out.1.1.1.all HS4.out.1, HS4.out.2⟩, HKR.out.1.2.1, hoff⟩, kvOf_n _ _ _ _ _, HVF.out⟩
          rw [hYS, List.length_set] at hPA
          have HPR := Lib.hid (show (Q.set j (kvOf ls gs ⟨xl, xa, xh, Lf.insS n xg⟩ (.slice xua xh.length xuc) (.slice na (xg.length + 1) nc))).length = Q.length ∧ Lf.putF ls gs n (Q.map KV.x) = some ((Q.set j (kvOf ls gs ⟨xl, xa, xh, Lf.insS n xg⟩ (.slice xua xh.length xuc) (.slice na (xg.length + 1) nc))).map KV.x) ∧ PrH ls gs W0.heap.size (.slice (some ⟨zb, 0, none⟩) Q.length zc) (.slice fa F.length fc) (Q.set j (kvOf ls gs ⟨xl, xa, xh, Lf.insS n xg⟩ (.slice xua xh.length xuc) (.slice na (xg.length + 1) nc))) F Y ∧ Below W0.heap.size W0 Y from ⟨List.length_set, by rw [HPF.out, List.map_set]; rfl, hPA.1, HGA.out.zbelow (below_step HG.out.2 HS4.out.1) hPA.2⟩)
          clear hY hYS hoff hPA HPF HGA HKR HVF HNF HS4 HB4 HG
          generalize Q.set j (kvOf ls gs ⟨xl, xa, xh, Lf.insS n xg⟩ (.slice xua xh.length xuc) (.slice na (xg.length + 1) nc)) = Q2 at *
          go_roundw
          case rel => exact ⟨j + 1, Q2, true, ⟨by omega, HPR.out.1⟩, rfl, by go_num, Lib.hid ⟨fun h => by (cases h), fun _ => HPR.out.2.1, HPR.out.2.2⟩⟩
          case measure => simp [intOf]; omega
        · obtain rfl : j = Q.length := by omega
          have HP0 : Hid (Lf.putF ls gs n (Q.map KV.x) = none) := Lib.hid (putF_no _ (fun m hm => by
            rw [List.length_map] at hm
            rw [List.getElem_map]
            exact HCK.out m hm hm))
          have HS2 := Lib.hid (And.intro (HST.out.2.1 HP0.out) (HST.out.2.2 HP0.out))
          have HLN := Lib.hid (lfS_len ls gs (k + 1) (by omega))
          clear HP0 HCK HST HNX hjl
          obtain ⟨m, rfl⟩ := Int.eq_ofNat_of_zero_le hn0
          obtain ⟨WA, hWA⟩ : ∃ W, W = wr := ⟨_, rfl⟩
          subst hWA
          have HX := Lib.hid (And.intro (BlockAt.new WA (ldA 0 0 (.slice none 0 0) (.slice none 0 0)) LoadT) (below_alloc2 (Below.refl WA.heap.size WA) (.cells (ldA 0 0 (.slice none 0 0) (.slice none 0 0)) LoadT)))
          have HBB0 : Hid (Lf.bgB ls gs (Q.map KV.x) (m : Int) 0 = none) := Lib.hid rfl
          have HLW := Lib.hid (below_step HO.out.2 HG.out.2)
          have CG1 := Lib.hid (fun (lo : Nat) (hlo : lo < ls.length) W (hW : Below WA.heap.size WA W) => CG.out (.slice za Q.length zc) (Q.map KV.x) m lo W (below_step HLW.out hW) (HG.out.1.all hW).loads HB0.out (by omega) hlo (fun x hx => (HOK.out.1 x hx).1) (by rw [List.length_map]; omega))
          have HBD := Lib.hid (fun (lo : Nat) l (hlo : lo < ls.length) h => Lf.vLE_iff.1 (HOK.out.2 lo l hlo h))
          have HNB := Lib.hid (fun i => bgB_next ls gs (Q.map KV.x) (m : Int) i)
          have jd : decide (Q.length < Q.length) = false := decide_eq_false (Nat.lt_irrefl _)
          clear HOK
          go_wp2
          go_loopw [13, 17] (fun s t wr2 => ∃ (i : Nat) (f : Bool) (b : Lf.L) (p q : Value), i ≤ ls.length ∧ s = .bool f ∧ t = .int .i64 i ∧ Hid (Lf.bgB ls gs (Q.map KV.x) (m : Int) i = (if f = true then some b else none) ∧ BrS WA b p q wr2 ∧ (f = true → BrK WA.heap.size wr2 b p q) ∧ ∃ a c d e g h, p = .slice a c d ∧ q = .slice e g h)) (fun _ t _ => ls.length - (intOf t).toNat)
          case atStart => exact ⟨0, false, ⟨0, 0, [], []⟩, .slice none 0 0, .slice none 0 0, Nat.zero_le _, rfl, rfl, Lib.hid ⟨HBB0.out, HX.out, fun h => by (cases h), _, _, _, _, _, _, rfl, rfl⟩⟩
          case round =>
            obtain ⟨i, f, b, p, q, hi, rfl, rfl, hg⟩ := hrel
            clear HX HBB0
            by_cases hlt3 : i < ls.length
            · have C1 := Lib.hid (CG1.out i hlt3 wr hg.out.2.1.2)
              have HN1 := HNB.out i
              rw [hg.out.1] at HN1
              have HN2 := Lib.hid HN1
              have HG3 := Lib.hid hg.out.2
              have HBk := Lib.hid (fun l h => HBD.out i l hlt3 h)
              clear hg HN1
              have hkd : decide (i < ls.length) = true := decide_eq_true hlt3
              go_wp2_with fail
              refine C1.out.mono ?_
              rintro e w5 ⟨y, yp, yq, ok, rfl, hb1, hbg, hy, yua, yun, yuc, yva, yvn, yvc, rfl, rfl⟩
              obtain ⟨xua, xun, xuc, xva, xvn, xvc, hxu, hxv⟩ := HG3.out.2.2
              subst hxu hxv
              have HBG := Lib.hid hbg
              rw [hbg] at HN2 HBk
              have HG5 := Lib.hid (And.intro (HG3.out.1.step hb1) (show f = true → BrK WA.heap.size w5 b _ _ from fun h => (HG3.out.2.1 h).all hb1))
              have HYK : Hid (ok = true → BrK WA.heap.size w5 y (.slice yua yun yuc) (.slice yva yvn yvc)) := Lib.hid (fun h => by
                have h1 := hy h
                have h2 := HBk.out y (by rw [if_pos h])
                exact ⟨⟨h1.1.mono HG3.out.1.2.size, h1.2.mono HG3.out.1.2.size⟩, by omega, by have := (Lf.vHt_iff.1 h2.2.2.1).1; omega⟩)
              clear hb1 hbg hy C1 HG3 HBk
              obtain ⟨yl, ya, yh, yg⟩ := y
              cases ok
              case false =>
                have HNE : Hid (Lf.bgB ls gs (Q.map KV.x) (m : Int) (i + 1) = (if f = true then some b else none)) := Lib.hid (by rw [HN2.out]; rfl)
                clear HYK HBG HN2
                obtain ⟨xl, xa, xh, xg⟩ := b
                dsimp only at *
                obtain ⟨w9, hw9⟩ : ∃ W, W = w5.alloc (.cells (ldA yl ya (.slice yua yun yuc) (.slice yva yvn yvc)) LoadT) := ⟨_, rfl⟩
                obtain ⟨B9, hB9⟩ : ∃ B, B = w5.heap.size := ⟨_, rfl⟩
                have HG9 := Lib.hid (show BrS WA (⟨xl, xa, xh, xg⟩ : Lf.L) (.slice xua xun xuc) (.slice xva xvn xvc) w9 ∧ BlockAt w9 B9 (ldA yl ya (.slice yua yun yuc) (.slice yva yvn yvc)) LoadT ∧ (f = true → BrK WA.heap.size w9 (⟨xl, xa, xh, xg⟩ : Lf.L) (.slice xua xun xuc) (.slice xva xvn xvc)) from by
                  rw [hw9, hB9]
                  exact ⟨HG5.out.1.step (below_alloc2 (Below.refl _ _) _), BlockAt.new _ _ _, fun h => (HG5.out.2 h).all (below_alloc2 (Below.refl _ _) _)⟩)
                have HE9 := Lib.hid (And.intro hw9.symm hB9.symm)
                have hB9lt : WA.heap.size < B9 := by rw [hB9]; exact HG5.out.1.1.lt
                have HS7 := Lib.hid (show (fun W => W.cell? ⟨WA.heap.size, 0, none⟩ = some (.int .i64 xl) ∧ W.cell? ⟨WA.heap.size, 1, none⟩ = some (.int .i64 xa) ∧ W.cell? ⟨WA.heap.size, 2, none⟩ = some (.slice xua xun xuc) ∧ W.cell? ⟨WA.heap.size, 3, none⟩ = some (.slice xva xvn xvc) ∧ W.cell? ⟨B9, 0, none⟩ = some (.int .i64 yl) ∧ W.cell? ⟨B9, 1, none⟩ = some (.int .i64 ya) ∧ W.cell? ⟨B9, 2, none⟩ = some (.slice yua yun yuc) ∧ W.cell? ⟨B9, 3, none⟩ = some (.slice yva yvn yvc)) w9.drew from ⟨HG9.out.1.1.drew.cell 0, HG9.out.1.1.drew.cell 1, HG9.out.1.1.drew.cell 2, HG9.out.1.1.drew.cell 3, HG9.out.2.1.drew.cell 0, HG9.out.2.1.drew.cell 1, HG9.out.2.1.drew.cell 2, HG9.out.2.1.drew.cell 3⟩)
                have HG7 := Lib.hid (And.intro (show BrS WA (⟨xl, xa, xh, xg⟩ : Lf.L) (.slice xua xun xuc) (.slice xva xvn xvc) w9.drew from HG9.out.1.drew) (show BlockAt w9.drew B9 (ldA yl ya (.slice yua yun yuc) (.slice yva yvn yvc)) LoadT from HG9.out.2.1.drew))
                clear hw9 hB9 HG5
                go_wp2_with fail
                rw [show w5.alloc (.cells (ldA yl ya (.slice yua yun yuc) (.slice yva yvn yvc)) LoadT) = w9 from HE9.out.1]
                rw [HE9.out.2]
                refine wp_region_seq [(0, true), (1, true), (2, true), (3, true), (4, true), (5, true), (7, true), (6, false), (8, false), (9, true), (10, true), (11, true)] (fun W => W.cell? ⟨WA.heap.size, 0, none⟩ = some (.int .i64 xl) ∧ W.cell? ⟨WA.heap.size, 1, none⟩ = some (.int .i64 xa) ∧ W.cell? ⟨WA.heap.size, 2, none⟩ = some (.slice xua xun xuc) ∧ W.cell? ⟨WA.heap.size, 3, none⟩ = some (.slice xva xvn xvc) ∧ W.cell? ⟨B9, 0, none⟩ = some (.int .i64 yl) ∧ W.cell? ⟨B9, 1, none⟩ = some (.int .i64 ya) ∧ W.cell? ⟨B9, 2, none⟩ = some (.slice yua yun yuc) ∧ W.cell? ⟨B9, 3, none⟩ = some (.slice yva yvn yvc))
                  (by kernel_rfl) (by kernel_rfl) (by kernel_rfl) (by kernel_rfl) (fun d _ _ _ _ h => by cases d <;> exact h) HS7.out (fun _ => ?_)
                repeat (first | (refine SeqH.take (v := ?_) rfl (by rfl) ?_ ?_; rotate_left; (· intro w hSw; (try dsimp only at hSw); obtain ⟨q0, q1, q2, q3, q4, q5, q6, q7⟩ := hSw; go_simp; (try with_reducible rfl)); simp only [Act.put, List.setIfInBounds_toArray, List.set_cons_zero, List.set_cons_succ]) | (refine SeqH.skip rfl (by rfl) ?_; simp only [Act.put, List.setIfInBounds_toArray, List.set_cons_zero, List.set_cons_succ]) | (refine SeqH.pass rfl (by rfl) (by exact HS7.out) ?_; simp only [Act.put, List.setIfInBounds_toArray, List.set_cons_zero, List.set_cons_succ]))
                refine SeqH.done ?_
                have HGE := Lib.hid HG7.out
                clear HS7 HG7
                have HFN := Lib.hid (fun h => (HG9.out.2.2 h : BrK WA.heap.size w9 (⟨xl, xa, xh, xg⟩ : Lf.L) _ _))
                go_wp2
                go_roundw
                case rel => exact ⟨i + 1, f, (⟨xl, xa, xh, xg⟩ : Lf.L), .slice xua xun xuc, .slice xva xvn xvc, by omega, rfl, by go_num, Lib.hid ⟨HNE.out, HGE.out.1, fun h => HFN.out h, _, _, _, _, _, _, rfl, rfl⟩⟩
                case measure => simp [intOf]; omega
              have HKY := Lib.hid (HYK.out rfl)
              clear HYK HBG
              rw [if_pos rfl] at HN2
              cases f
              case false =>
                rw [if_neg (by decide)] at HN2
                have HNX2 : Hid (Lf.bgB ls gs (Q.map KV.x) (m : Int) (i + 1) = (if true = true then some (⟨yl, ya, yh, yg⟩ : Lf.L) else none)) := Lib.hid (by rw [HN2.out]; rfl)
                obtain ⟨xl, xa, xh, xg⟩ := b
                dsimp only at *
                obtain ⟨w9, hw9⟩ : ∃ W, W = w5.alloc (.cells (ldA yl ya (.slice yua yun yuc) (.slice yva yvn yvc)) LoadT) := ⟨_, rfl⟩
                obtain ⟨B9, hB9⟩ : ∃ B, B = w5.heap.size := ⟨_, rfl⟩
                have HG9 := Lib.hid (show BrS WA (⟨xl, xa, xh, xg⟩ : Lf.L) (.slice xua xun xuc) (.slice xva xvn xvc) w9 ∧ BlockAt w9 B9 (ldA yl ya (.slice yua yun yuc) (.slice yva yvn yvc)) LoadT ∧ (false = true → BrK WA.heap.size w9 (⟨xl, xa, xh, xg⟩ : Lf.L) (.slice xua xun xuc) (.slice xva xvn xvc)) from by
                  rw [hw9, hB9]
                  exact ⟨HG5.out.1.step (below_alloc2 (Below.refl _ _) _), BlockAt.new _ _ _, fun h => (HG5.out.2 h).all (below_alloc2 (Below.refl _ _) _)⟩)
                have HE9 := Lib.hid (And.intro hw9.symm hB9.symm)
                have hB9lt : WA.heap.size < B9 := by rw [hB9]; exact HG5.out.1.1.lt
                have HS7 := Lib.hid (show (fun W => W.cell? ⟨WA.heap.size, 0, none⟩ = some (.int .i64 xl) ∧ W.cell? ⟨WA.heap.size, 1, none⟩ = some (.int .i64 xa) ∧ W.cell? ⟨WA.heap.size, 2, none⟩ = some (.slice xua xun xuc) ∧ W.cell? ⟨WA.heap.size, 3, none⟩ = some (.slice xva xvn xvc) ∧ W.cell? ⟨B9, 0, none⟩ = some (.int .i64 yl) ∧ W.cell? ⟨B9, 1, none⟩ = some (.int .i64 ya) ∧ W.cell? ⟨B9, 2, none⟩ = some (.slice yua yun yuc) ∧ W.cell? ⟨B9, 3, none⟩ = some (.slice yva yvn yvc)) w9.drew from ⟨HG9.out.1.1.drew.cell 0, HG9.out.1.1.drew.cell 1, HG9.out.1.1.drew.cell 2, HG9.out.1.1.drew.cell 3, HG9.out.2.1.drew.cell 0, HG9.out.2.1.drew.cell 1, HG9.out.2.1.drew.cell 2, HG9.out.2.1.drew.cell 3⟩)
                have HG7 := Lib.hid (And.intro (show BrS WA (⟨xl, xa, xh, xg⟩ : Lf.L) (.slice xua xun xuc) (.slice xva xvn xvc) w9.drew from HG9.out.1.drew) (show BlockAt w9.drew B9 (ldA yl ya (.slice yua yun yuc) (.slice yva yvn yvc)) LoadT from HG9.out.2.1.drew))
                clear hw9 hB9 HG5
                go_wp2_with fail
                rw [show w5.alloc (.cells (ldA yl ya (.slice yua yun yuc) (.slice yva yvn yvc)) LoadT) = w9 from HE9.out.1]
                rw [HE9.out.2]
                refine wp_region_seq [(0, true), (1, true), (2, true), (3, true), (4, true), (5, true), (7, true), (6, false), (8, false), (9, true), (10, true), (11, true)] (fun W => W.cell? ⟨WA.heap.size, 0, none⟩ = some (.int .i64 xl) ∧ W.cell? ⟨WA.heap.size, 1, none⟩ = some (.int .i64 xa) ∧ W.cell? ⟨WA.heap.size, 2, none⟩ = some (.slice xua xun xuc) ∧ W.cell? ⟨WA.heap.size, 3, none⟩ = some (.slice xva xvn xvc) ∧ W.cell? ⟨B9, 0, none⟩ = some (.int .i64 yl) ∧ W.cell? ⟨B9, 1, none⟩ = some (.int .i64 ya) ∧ W.cell? ⟨B9, 2, none⟩ = some (.slice yua yun yuc) ∧ W.cell? ⟨B9, 3, none⟩ = some (.slice yva yvn yvc))
                  (by kernel_rfl) (by kernel_rfl) (by kernel_rfl) (by kernel_rfl) (fun d _ _ _ _ h => by cases d <;> exact h) HS7.out (fun _ => ?_)
                repeat (first | (refine SeqH.take (v := ?_) rfl (by rfl) ?_ ?_; rotate_left; (· intro w hSw; (try dsimp only at hSw); obtain ⟨q0, q1, q2, q3, q4, q5, q6, q7⟩ := hSw; go_simp; (try with_reducible rfl)); simp only [Act.put, List.setIfInBounds_toArray, List.set_cons_zero, List.set_cons_succ]) | (refine SeqH.skip rfl (by rfl) ?_; simp only [Act.put, List.setIfInBounds_toArray, List.set_cons_zero, List.set_cons_succ]) | (refine SeqH.pass rfl (by rfl) (by exact HS7.out) ?_; simp only [Act.put, List.setIfInBounds_toArray, List.set_cons_zero, List.set_cons_succ]))
                refine SeqH.done ?_
                have HGE := Lib.hid HG7.out
                clear HS7 HG7
                obtain ⟨w7, hw7⟩ : ∃ W, W = w9.drew := ⟨_, rfl⟩
                have HE7 := Lib.hid hw7
                rw [← hw7] at HGE
                rw [show w9.drew = w7 from hw7.symm]
                clear hw7
                have HKE := Lib.hid (HKY.out.all (show Below w5.heap.size w5 w7 from by rw [HE7.out, ← HE9.out.1]; exact below_drewN (below_alloc2 (Below.refl _ _) _) 1))
                have z0 : World.cell? _ ⟨WA.heap.size, 0, none⟩ = some (.int .i64 xl) := HGE.out.1.1.cell 0
                have f0 : World.frozen? _ ⟨WA.heap.size, 0, none⟩ = false := HGE.out.1.1.frozen 0
                have z1 : World.cell? _ ⟨WA.heap.size, 1, none⟩ = some (.int .i64 xa) := HGE.out.1.1.cell 1
                have f1 : World.frozen? _ ⟨WA.heap.size, 1, none⟩ = false := HGE.out.1.1.frozen 1
                have z2 : World.cell? _ ⟨WA.heap.size, 2, none⟩ = some (.slice xua xun xuc) := HGE.out.1.1.cell 2
                have f2 : World.frozen? _ ⟨WA.heap.size, 2, none⟩ = false := HGE.out.1.1.frozen 2
                have z3 : World.cell? _ ⟨WA.heap.size, 3, none⟩ = some (.slice xva xvn xvc) := HGE.out.1.1.cell 3
                have f3 : World.frozen? _ ⟨WA.heap.size, 3, none⟩ = false := HGE.out.1.1.frozen 3
                have n0 : World.cell? _ ⟨B9, 0, none⟩ = some (.int .i64 yl) := HGE.out.2.cell 0
                have n1 : World.cell? _ ⟨B9, 1, none⟩ = some (.int .i64 ya) := HGE.out.2.cell 1
                have n2 : World.cell? _ ⟨B9, 2, none⟩ = some (.slice yua yun yuc) := HGE.out.2.cell 2
                have n3 : World.cell? _ ⟨B9, 3, none⟩ = some (.slice yva yvn yvc) := HGE.out.2.cell 3
                have hlt1 : WA.heap.size < _ := HGE.out.1.1.lt
                go_wp2
                obtain ⟨Y, hY⟩ : ∃ Z, ((((w7.setCell ⟨WA.heap.size, 0, none⟩ (.int .i64 yl)).setCell ⟨WA.heap.size, 1, none⟩ (.int .i64 ya)).setCell ⟨WA.heap.size, 2, none⟩ (.slice yua yun yuc)).setCell ⟨WA.heap.size, 3, none⟩ (.slice yva yvn yvc)) = Z := ⟨_, rfl⟩
                rw [hY]
                obtain ⟨hY1, hYb, hYo⟩ := store4 (W := w7) (Y := Y) (B := WA.heap.size) (x1 := xl) (x2 := xa) (u1 := .slice xua xun xuc) (u2 := .slice xva xvn xvc) (y1 := yl) (y2 := ya) (v1 := .slice yua yun yuc) (v2 := .slice yva yvn yvc) HGE.out.1.1 hY
                have HY := Lib.hid (show BrS WA (⟨yl, ya, yh, yg⟩ : Lf.L) (.slice yua yun yuc) (.slice yva yvn yvc) Y ∧ BrK WA.heap.size Y (⟨yl, ya, yh, yg⟩ : Lf.L) (.slice yua yun yuc) (.slice yva yvn yvc) from ⟨⟨hY1, hYb _ _ HGE.out.1.2 (Nat.le_refl _)⟩, ⟨⟨hYo _ _ _ HKE.out.1.1, hYo _ _ _ HKE.out.1.2⟩, HKE.out.2⟩⟩)
                clear hY hY1 hYb hYo z0 f0 n0 z1 f1 n1 z2 f2 n2 z3 f3 n3 hlt1
                go_roundw
                case rel => exact ⟨i + 1, true, (⟨yl, ya, yh, yg⟩ : Lf.L), .slice yua yun yuc, .slice yva yvn yvc, by omega, rfl, by go_num, Lib.hid ⟨HNX2.out, HY.out.1, fun _ => HY.out.2, _, _, _, _, _, _, rfl, rfl⟩⟩
                case measure => simp [intOf]; omega
              have hxn : xun = b.hs.length := own_len (HG5.out.2 rfl).1.1
              have hyn : yun = yh.length := own_len HKY.out.1.1
              subst hyn
              rw [if_pos rfl] at HN2
              have hxb := (HG5.out.2 rfl).2
              have hyb := HKY.out.2
              obtain ⟨xl, xa, xh, xg⟩ := b
              dsimp only at hxb hyb hxn
              subst hxn
              have CYE := Lib.hid (fun W => endR_any yl ya yua yh.length yuc (.slice yva yvn yvc) W hyb.1 hyb.2)
              have CXE := Lib.hid (fun W => endR_any xl xa xua xh.length xuc (.slice xva xvn xvc) W hxb.1 hxb.2)
              have HBT : Hid (Lf.bgB ls gs (Q.map KV.x) (m : Int) (i + 1) = if ya + (yh.length : Int) < xa + (xh.length : Int) then some ⟨yl, ya, yh, yg⟩ else some ⟨xl, xa, xh, xg⟩) := Lib.hid (by rw [HN2.out]; rfl)
              clear hxb hyb HN2
              obtain ⟨ex, hex⟩ : ∃ ex, ex = xa + (xh.length : Int) := ⟨_, rfl⟩
              obtain ⟨ey, hey⟩ : ∃ ey, ey = ya + (yh.length : Int) := ⟨_, rfl⟩
              rw [← hex, ← hey] at HBT
              rw [← hex] at CXE
              rw [← hey] at CYE
              clear hex hey
              dsimp only at *
              obtain ⟨w9, hw9⟩ : ∃ W, W = w5.alloc (.cells (ldA yl ya (.slice yua yh.length yuc) (.slice yva yvn yvc)) LoadT) := ⟨_, rfl⟩
              obtain ⟨B9, hB9⟩ : ∃ B, B = w5.heap.size := ⟨_, rfl⟩
              have HG9 := Lib.hid (show BrS WA (⟨xl, xa, xh, xg⟩ : Lf.L) (.slice xua xh.length xuc) (.slice xva xvn xvc) w9 ∧ BlockAt w9 B9 (ldA yl ya (.slice yua yh.length yuc) (.slice yva yvn yvc)) LoadT ∧ (true = true → BrK WA.heap.size w9 (⟨xl, xa, xh, xg⟩ : Lf.L) (.slice xua xh.length xuc) (.slice xva xvn xvc)) from by
                rw [hw9, hB9]
                exact ⟨HG5.out.1.step (below_alloc2 (Below.refl _ _) _), BlockAt.new _ _ _, fun h => (HG5.out.2 h).all (below_alloc2 (Below.refl _ _) _)⟩)
              have HE9 := Lib.hid (And.intro hw9.symm hB9.symm)
              have hB9lt : WA.heap.size < B9 := by rw [hB9]; exact HG5.out.1.1.lt
              by_cases hlt9 : ey < ex
              · have dl : decide (ey < ex) = true := decide_eq_true hlt9
                have HNX2 : Hid (Lf.bgB ls gs (Q.map KV.x) (m : Int) (i + 1) = (if true = true then some (⟨yl, ya, yh, yg⟩ : Lf.L) else none)) := Lib.hid (by rw [HBT.out, if_pos hlt9]; rfl)
                clear HBT hlt9
                have HS7 := Lib.hid (show (fun W => W.cell? ⟨WA.heap.size, 0, none⟩ = some (.int .i64 xl) ∧ W.cell? ⟨WA.heap.size, 1, none⟩ = some (.int .i64 xa) ∧ W.cell? ⟨WA.heap.size, 2, none⟩ = some (.slice xua xh.length xuc) ∧ W.cell? ⟨WA.heap.size, 3, none⟩ = some (.slice xva xvn xvc) ∧ W.cell? ⟨B9, 0, none⟩ = some (.int .i64 yl) ∧ W.cell? ⟨B9, 1, none⟩ = some (.int .i64 ya) ∧ W.cell? ⟨B9, 2, none⟩ = some (.slice yua yh.length yuc) ∧ W.cell? ⟨B9, 3, none⟩ = some (.slice yva yvn yvc)) w9.drew from ⟨HG9.out.1.1.drew.cell 0, HG9.out.1.1.drew.cell 1, HG9.out.1.1.drew.cell 2, HG9.out.1.1.drew.cell 3, HG9.out.2.1.drew.cell 0, HG9.out.2.1.drew.cell 1, HG9.out.2.1.drew.cell 2, HG9.out.2.1.drew.cell 3⟩)
                have HG7 := Lib.hid (And.intro (show BrS WA (⟨xl, xa, xh, xg⟩ : Lf.L) (.slice xua xh.length xuc) (.slice xva xvn xvc) w9.drew from HG9.out.1.drew) (show BlockAt w9.drew B9 (ldA yl ya (.slice yua yh.length yuc) (.slice yva yvn yvc)) LoadT from HG9.out.2.1.drew))
                clear hw9 hB9 HG5
                go_wp2_with fail
                rw [show w5.alloc (.cells (ldA yl ya (.slice yua yh.length yuc) (.slice yva yvn yvc)) LoadT) = w9 from HE9.out.1]
                rw [HE9.out.2]
                refine wp_region_seq [(0, true), (1, true), (2, true), (3, true), (4, true), (5, true), (7, true), (6, false), (8, false), (9, true), (10, true), (11, true)] (fun W => W.cell? ⟨WA.heap.size, 0, none⟩ = some (.int .i64 xl) ∧ W.cell? ⟨WA.heap.size, 1, none⟩ = some (.int .i64 xa) ∧ W.cell? ⟨WA.heap.size, 2, none⟩ = some (.slice xua xh.length xuc) ∧ W.cell? ⟨WA.heap.size, 3, none⟩ = some (.slice xva xvn xvc) ∧ W.cell? ⟨B9, 0, none⟩ = some (.int .i64 yl) ∧ W.cell? ⟨B9, 1, none⟩ = some (.int .i64 ya) ∧ W.cell? ⟨B9, 2, none⟩ = some (.slice yua yh.length yuc) ∧ W.cell? ⟨B9, 3, none⟩ = some (.slice yva yvn yvc))
                  (by kernel_rfl) (by kernel_rfl) (by kernel_rfl) (by kernel_rfl) (fun d _ _ _ _ h => by cases d <;> exact h) HS7.out (fun _ => ?_)
                repeat (first | (refine SeqH.take (v := ?_) rfl (by rfl) ?_ ?_; rotate_left; (· intro w hSw; (try dsimp only at hSw); obtain ⟨q0, q1, q2, q3, q4, q5, q6, q7⟩ := hSw; go_simp; (try with_reducible rfl)); simp only [Act.put, List.setIfInBounds_toArray, List.set_cons_zero, List.set_cons_succ]) | (refine SeqH.skip rfl (by rfl) ?_; simp only [Act.put, List.setIfInBounds_toArray, List.set_cons_zero, List.set_cons_succ]))
                refine SeqH.step rfl (by rfl) (fun K hK => ?_)
                go_simp
                go_at_call 94
                refine (CYE.out _).mono ?_
                rintro e w7 ⟨rfl, hb1⟩
                try dsimp only
                have HG8 := Lib.hid (And.intro (HG7.out.1.step hb1) (HG7.out.2.below hb1 HG7.out.2.lt))
                have HB8 := Lib.hid hb1
                clear hb1
                refine hK.out _ _ (⟨HG8.out.1.1.cell 0, HG8.out.1.1.cell 1, HG8.out.1.1.cell 2, HG8.out.1.1.cell 3, HG8.out.2.cell 0, HG8.out.2.cell 1, HG8.out.2.cell 2, HG8.out.2.cell 3⟩) (fun _ => ?_)
                clear hK K
                try simp only [Act.put, List.setIfInBounds_toArray, List.set_cons_zero, List.set_cons_succ]
                repeat (first | (refine SeqH.take (v := ?_) rfl (by rfl) ?_ ?_; rotate_left; (· intro w hSw; (try dsimp only at hSw); obtain ⟨q0, q1, q2, q3, q4, q5, q6, q7⟩ := hSw; go_simp; (try with_reducible rfl)); simp only [Act.put, List.setIfInBounds_toArray, List.set_cons_zero, List.set_cons_succ]) | (refine SeqH.skip rfl (by rfl) ?_; simp only [Act.put, List.setIfInBounds_toArray, List.set_cons_zero, List.set_cons_succ]))
                refine SeqH.step rfl (by rfl) (fun K hK => ?_)
                go_simp
                go_at_call 94
                refine (CXE.out _).mono ?_
                rintro e w7 ⟨rfl, hb1⟩
                try dsimp only
                have HGE := Lib.hid (And.intro (HG8.out.1.step hb1) (HG8.out.2.below hb1 HG8.out.2.lt))
                have HBE := Lib.hid (below_step HB8.out hb1)
                clear hb1 HG8 HB8
                refine hK.out _ _ (⟨HGE.out.1.1.cell 0, HGE.out.1.1.cell 1, HGE.out.1.1.cell 2, HGE.out.1.1.cell 3, HGE.out.2.cell 0, HGE.out.2.cell 1, HGE.out.2.cell 2, HGE.out.2.cell 3⟩) (fun _ => ?_)
                clear hK K
                try simp only [Act.put, List.setIfInBounds_toArray, List.set_cons_zero, List.set_cons_succ]
                repeat (first | (refine SeqH.take (v := ?_) rfl (by rfl) ?_ ?_; rotate_left; (· intro w hSw; (try dsimp only at hSw); obtain ⟨q0, q1, q2, q3, q4, q5, q6, q7⟩ := hSw; go_simp; (try with_reducible rfl)); simp only [Act.put, List.setIfInBounds_toArray, List.set_cons_zero, List.set_cons_succ]) | (refine SeqH.skip rfl (by rfl) ?_; simp only [Act.put, List.setIfInBounds_toArray, List.set_cons_zero, List.set_cons_succ]))
                refine SeqH.done ?_
                clear HS7 HG7
                have HKE := Lib.hid (HKY.out.all (show Below w5.heap.size w5 w7 from below_step (show Below w5.heap.size w5 w9.drew from by rw [← HE9.out.1]; exact below_drewN (below_alloc2 (Below.refl _ _) _) 1) HBE.out))
                have z0 : World.cell? _ ⟨WA.heap.size, 0, none⟩ = some (.int .i64 xl) := HGE.out.1.1.cell 0
                have f0 : World.frozen? _ ⟨WA.heap.size, 0, none⟩ = false := HGE.out.1.1.frozen 0
                have z1 : World.cell? _ ⟨WA.heap.size, 1, none⟩ = some (.int .i64 xa) := HGE.out.1.1.cell 1
                have f1 : World.frozen? _ ⟨WA.heap.size, 1, none⟩ = false := HGE.out.1.1.frozen 1
                have z2 : World.cell? _ ⟨WA.heap.size, 2, none⟩ = some (.slice xua xh.length xuc) := HGE.out.1.1.cell 2
                have f2 : World.frozen? _ ⟨WA.heap.size, 2, none⟩ = false := HGE.out.1.1.frozen 2
                have z3 : World.cell? _ ⟨WA.heap.size, 3, none⟩ = some (.slice xva xvn xvc) := HGE.out.1.1.cell 3
                have f3 : World.frozen? _ ⟨WA.heap.size, 3, none⟩ = false := HGE.out.1.1.frozen 3
                have n0 : World.cell? _ ⟨B9, 0, none⟩ = some (.int .i64 yl) := HGE.out.2.cell 0
                have n1 : World.cell? _ ⟨B9, 1, none⟩ = some (.int .i64 ya) := HGE.out.2.cell 1
                have n2 : World.cell? _ ⟨B9, 2, none⟩ = some (.slice yua yh.length yuc) := HGE.out.2.cell 2
                have n3 : World.cell? _ ⟨B9, 3, none⟩ = some (.slice yva yvn yvc) := HGE.out.2.cell 3
                have hlt1 : WA.heap.size < _ := HGE.out.1.1.lt
                go_wp2
                obtain ⟨Y, hY⟩ : ∃ Z, ((((w7.setCell ⟨WA.heap.size, 0, none⟩ (.int .i64 yl)).setCell ⟨WA.heap.size, 1, none⟩ (.int .i64 ya)).setCell ⟨WA.heap.size, 2, none⟩ (.slice yua yh.length yuc)).setCell ⟨WA.heap.size, 3, none⟩ (.slice yva yvn yvc)) = Z := ⟨_, rfl⟩
                rw [hY]
                obtain ⟨hY1, hYb, hYo⟩ := store4 (W := w7) (Y := Y) (B := WA.heap.size) (x1 := xl) (x2 := xa) (u1 := .slice xua xh.length xuc) (u2 := .slice xva xvn xvc) (y1 := yl) (y2 := ya) (v1 := .slice yua yh.length yuc) (v2 := .slice yva yvn yvc) HGE.out.1.1 hY
                have HY := Lib.hid (show BrS WA (⟨yl, ya, yh, yg⟩ : Lf.L) (.slice yua yh.length yuc) (.slice yva yvn yvc) Y ∧ BrK WA.heap.size Y (⟨yl, ya, yh, yg⟩ : Lf.L) (.slice yua yh.length yuc) (.slice yva yvn yvc) from ⟨⟨hY1, hYb _ _ HGE.out.1.2 (Nat.le_refl _)⟩, ⟨⟨hYo _ _ _ HKE.out.1.1, hYo _ _ _ HKE.out.1.2⟩, HKE.out.2⟩⟩)
                clear hY hY1 hYb hYo z0 f0 n0 z1 f1 n1 z2 f2 n2 z3 f3 n3 hlt1
                go_roundw
                case rel => exact ⟨i + 1, true, (⟨yl, ya, yh, yg⟩ : Lf.L), .slice yua yh.length yuc, .slice yva yvn yvc, by omega, rfl, by go_num, Lib.hid ⟨HNX2.out, HY.out.1, fun _ => HY.out.2, _, _, _, _, _, _, rfl, rfl⟩⟩
                case measure => simp [intOf]; omega
              · have dl : decide (ey < ex) = false := decide_eq_false hlt9
                have HNX2 : Hid (Lf.bgB ls gs (Q.map KV.x) (m : Int) (i + 1) = (if true = true then some (⟨xl, xa, xh, xg⟩ : Lf.L) else none)) := Lib.hid (by rw [HBT.out, if_neg hlt9]; rfl)
                clear HBT hlt9
                have HS7 := Lib.hid (show (fun W => W.cell? ⟨WA.heap.size, 0, none⟩ = some (.int .i64 xl) ∧ W.cell? ⟨WA.heap.size, 1, none⟩ = some (.int .i64 xa) ∧ W.cell? ⟨WA.heap.size, 2, none⟩ = some (.slice xua xh.length xuc) ∧ W.cell? ⟨WA.heap.size, 3, none⟩ = some (.slice xva xvn xvc) ∧ W.cell? ⟨B9, 0, none⟩ = some (.int .i64 yl) ∧ W.cell? ⟨B9, 1, none⟩ = some (.int .i64 ya) ∧ W.cell? ⟨B9, 2, none⟩ = some (.slice yua yh.length yuc) ∧ W.cell? ⟨B9, 3, none⟩ = some (.slice yva yvn yvc)) w9.drew from ⟨HG9.out.1.1.drew.cell 0, HG9.out.1.1.drew.cell 1, HG9.out.1.1.drew.cell 2, HG9.out.1.1.drew.cell 3, HG9.out.2.1.drew.cell 0, HG9.out.2.1.drew.cell 1, HG9.out.2.1.drew.cell 2, HG9.out.2.1.drew.cell 3⟩)
                have HG7 := Lib.hid (And.intro (show BrS WA (⟨xl, xa, xh, xg⟩ : Lf.L) (.slice xua xh.length xuc) (.slice xva xvn xvc) w9.drew from HG9.out.1.drew) (show BlockAt w9.drew B9 (ldA yl ya (.slice yua yh.length yuc) (.slice yva yvn yvc)) LoadT from HG9.out.2.1.drew))
                clear hw9 hB9 HG5
                go_wp2_with fail
                rw [show w5.alloc (.cells (ldA yl ya (.slice yua yh.length yuc) (.slice yva yvn yvc)) LoadT) = w9 from HE9.out.1]
                rw [HE9.out.2]
                refine wp_region_seq [(0, true), (1, true), (2, true), (3, true), (4, true), (5, true), (7, true), (6, false), (8, false), (9, true), (10, true), (11, true)] (fun W => W.cell? ⟨WA.heap.size, 0, none⟩ = some (.int .i64 xl) ∧ W.cell? ⟨WA.heap.size, 1, none⟩ = some (.int .i64 xa) ∧ W.cell? ⟨WA.heap.size, 2, none⟩ = some (.slice xua xh.length xuc) ∧ W.cell? ⟨WA.heap.size, 3, none⟩ = some (.slice xva xvn xvc) ∧ W.cell? ⟨B9, 0, none⟩ = some (.int .i64 yl) ∧ W.cell? ⟨B9, 1, none⟩ = some (.int .i64 ya) ∧ W.cell? ⟨B9, 2, none⟩ = some (.slice yua yh.length yuc) ∧ W.cell? ⟨B9, 3, none⟩ = some (.slice yva yvn yvc))
                  (by kernel_rfl) (by kernel_rfl) (by kernel_rfl) (by kernel_rfl) (fun d _ _ _ _ h => by cases d <;> exact h) HS7.out (fun _ => ?_)
                repeat (first | (refine SeqH.take (v := ?_) rfl (by rfl) ?_ ?_; rotate_left; (· intro w hSw; (try dsimp only at hSw); obtain ⟨q0, q1, q2, q3, q4, q5, q6, q7⟩ := hSw; go_simp; (try with_reducible rfl)); simp only [Act.put, List.setIfInBounds_toArray, List.set_cons_zero, List.set_cons_succ]) | (refine SeqH.skip rfl (by rfl) ?_; simp only [Act.put, List.setIfInBounds_toArray, List.set_cons_zero, List.set_cons_succ]))
                refine SeqH.step rfl (by rfl) (fun K hK => ?_)
                go_simp
                go_at_call 94
                refine (CYE.out _).mono ?_
                rintro e w7 ⟨rfl, hb1⟩
                try dsimp only
                have HG8 := Lib.hid (And.intro (HG7.out.1.step hb1) (HG7.out.2.below hb1 HG7.out.2.lt))
                have HB8 := Lib.hid hb1
                clear hb1
                refine hK.out _ _ (⟨HG8.out.1.1.cell 0, HG8.out.1.1.cell 1, HG8.out.1.1.cell 2, HG8.out.1.1.cell 3, HG8.out.2.cell 0, HG8.out.2.cell 1, HG8.out.2.cell 2, HG8.out.2.cell 3⟩) (fun _ => ?_)
                clear hK K
                try simp only [Act.put, List.setIfInBounds_toArray, List.set_cons_zero, List.set_cons_succ]
                repeat (first | (refine SeqH.take (v := ?_) rfl (by rfl) ?_ ?_; rotate_left; (· intro w hSw; (try dsimp only at hSw); obtain ⟨q0, q1, q2, q3, q4, q5, q6, q7⟩ := hSw; go_simp; (try with_reducible rfl)); simp only [Act.put, List.setIfInBounds_toArray, List.set_cons_zero, List.set_cons_succ]) | (refine SeqH.skip rfl (by rfl) ?_; simp only [Act.put, List.setIfInBounds_toArray, List.set_cons_zero, List.set_cons_succ]))
                refine SeqH.step rfl (by rfl) (fun K hK => ?_)
                go_simp
                go_at_call 94
                refine (CXE.out _).mono ?_
                rintro e w7 ⟨rfl, hb1⟩
                try dsimp only
                have HGE := Lib.hid (And.intro (HG8.out.1.step hb1) (HG8.out.2.below hb1 HG8.out.2.lt))
                have HBE := Lib.hid (below_step HB8.out hb1)
                clear hb1 HG8 HB8
                refine hK.out _ _ (⟨HGE.out.1.1.cell 0, HGE.out.1.1.cell 1, HGE.out.1.1.cell 2, HGE.out.1.1.cell 3, HGE.out.2.cell 0, HGE.out.2.cell 1, HGE.out.2.cell 2, HGE.out.2.cell 3⟩) (fun _ => ?_)
                clear hK K
                try simp only [Act.put, List.setIfInBounds_toArray, List.set_cons_zero, List.set_cons_succ]
                repeat (first | (refine SeqH.take (v := ?_) rfl (by rfl) ?_ ?_; rotate_left; (· intro w hSw; (try dsimp only at hSw); obtain ⟨q0, q1, q2, q3, q4, q5, q6, q7⟩ := hSw; go_simp; (try with_reducible rfl)); simp only [Act.put, List.setIfInBounds_toArray, List.set_cons_zero, List.set_cons_succ]) | (refine SeqH.skip rfl (by rfl) ?_; simp only [Act.put, List.setIfInBounds_toArray, List.set_cons_zero, List.set_cons_succ]))
                refine SeqH.done ?_
                clear HS7 HG7
                have HFN := Lib.hid (show BrK WA.heap.size w7 (⟨xl, xa, xh, xg⟩ : Lf.L) _ _ from BrK.all (by first | exact HG9.out.2.2 rfl | exact HG9.out.2.2 trivial) (below_step (below_drewN (Below.refl w9.heap.size w9) 1) HBE.out))
                go_wp2
                go_roundw
                case rel => exact ⟨i + 1, true, (⟨xl, xa, xh, xg⟩ : Lf.L), .slice xua xh.length xuc, .slice xva xvn xvc, by omega, rfl, by go_num, Lib.hid ⟨HNX2.out, HGE.out.1, fun _ => HFN.out, _, _, _, _, _, _, rfl, rfl⟩⟩
                case measure => simp [intOf]; omega
            · obtain rfl : i = ls.length := by omega
              have HG3 := Lib.hid hg.out
              have hLQ : Q.length ≤ k := hLk
              clear hg
              obtain ⟨xua, xun, xuc, xva, xvn, xvc, hxu, hxv⟩ := HG3.out.2.2.2
              subst hxu hxv
              have HP3 := Lib.hid (And.intro (HG.out.1.all HG3.out.2.1.2) (below_step HG.out.2 HG3.out.2.1.2))
              cases f
              case true =>
                have hxn : xun = b.hs.length := own_len (HG3.out.2.2.1 rfl).1.1
                have hyn : xvn = b.gs.length := own_len (HG3.out.2.2.1 rfl).1.2
                subst hxn hyn
                have HN := Lib.hid (HS2.out.1 b (by rw [HG3.out.1]; rfl))
                have HOX := Lib.hid (HG3.out.2.2.1 rfl).1
                have HBX := Lib.hid HG3.out.2.1.1
                clear HG3 HS2
                obtain ⟨xl, xa, xh, xg⟩ := b
                dsimp only at *
                have x0 : World.cell? _ _ = some (.int .i64 xl) := HBX.out.cell 0
                have x1 : World.cell? _ _ = some (.int .i64 xa) := HBX.out.cell 1
                have x2 : World.cell? _ _ = some (.slice xua xh.length xuc) := HBX.out.cell 2
                have x3 : World.cell? _ _ = some (.slice xva xg.length xvc) := HBX.out.cell 3
                have hba := below_alloc2 (Below.refl wr.heap.size wr) (.cells (ldK (kvOf ls gs ⟨xl, xa, xh, xg⟩ (.slice xua xh.length xuc) (.slice xva xg.length xvc))).toArray LoadT)
                have HA := Lib.hid (And.intro (HP3.out.1.all hba) (And.intro (below_step HP3.out.2 hba) (And.intro (HOX.out.1.all hba) (HOX.out.2.all hba))))
                have hown := HP3.out.1.1
                have hsz := HP3.out.2.size
                have hca := cells_new (cs := ldK (kvOf ls gs ⟨xl, xa, xh, xg⟩ (.slice xua xh.length xuc) (.slice xva xg.length xvc))) wr LoadT
                have HZ4 := Lib.hid HG.out.1.zlt
                clear hba
                go_wp2_with (at_builtin; refine wpList_append_own_at _ rfl _ _ 75 rfl W0.heap.size LoadT l0 _ 4 64 Try.underlying75 hl0 lz0 lz1 lz2 rfl (by decide) _ _ _ rfl (hown.alloc _) _ 1 1 (ldK (kvOf ls gs ⟨xl, xa, xh, xg⟩ (.slice xua xh.length xuc) (.slice xva xg.length xvc))) rfl rfl ?c1 (ldK_one _ rfl rfl) ?c3 ?c4 ?c5 ?_)
                case c1 => first | exact hca | (simp only [World.size_alloc] at hca; exact hca) | exact fun j u h => h
                case c3 => unfold maxLen; omega
                case c4 => omega
                case c5 => first | omega | (simp; omega)
                intro v' w9 hr9 hg9 _ hat9
                have hP9 := PrH.push (k := (kvOf ls gs ⟨xl, xa, xh, xg⟩ (.slice xua xh.length xuc) (.slice xva xg.length xvc))) HA.out.1 HA.out.2.2 (kvOf_n _ _ _ _ _) HN.out.2 HZ4.out hr9 hg9 hat9 (by simp)
                have hW9 := HA.out.1.zbelow HA.out.2.1 hg9
                obtain ⟨a9, c9, e9⟩ := (hP9.1.rows ldK_len).form
                subst e9
                have HP9 := Lib.hid (And.intro hP9 hW9)
                have HN9 : Hid (∃ F1, plnS ls gs (k + 1) = ((Q ++ [(kvOf ls gs ⟨xl, xa, xh, xg⟩ (.slice xua xh.length xuc) (.slice xva xg.length xvc))]).map KV.x, F1) ∧ F = lfS ls gs (k + 1)) := Lib.hid ⟨F0, by rw [HN.out.1, List.map_append]; rfl, by rw [HFS.out _ HN.out.1]; exact HFF.out⟩
                have hl9 : (Q ++ [(kvOf ls gs ⟨xl, xa, xh, xg⟩ (.slice xua xh.length xuc) (.slice xva xg.length xvc))]).length ≤ 8 := by rw [List.length_append]; simp; omega
                clear hown hsz hca hr9 hg9 hat9 hP9 hW9 HA HN HBX HZ4 x0 x1 x2 x3
                generalize Q ++ [(kvOf ls gs ⟨xl, xa, xh, xg⟩ (.slice xua xh.length xuc) (.slice xva xg.length xvc))] = L9 at *
                go_wp2
                go_roundw
                case rel => exact ⟨k + 1, L9, F, a9, c9, fa, fc, ⟨by omega, hl9, hF8⟩, rfl, rfl, by go_num, Lib.hid ⟨HN9.out, HP9.out⟩⟩
                case measure => simp [intOf]; omega
              have HN := Lib.hid (HS2.out.2 (by rw [HG3.out.1]; rfl))
              have HI := Lib.hid (show lfS ls gs (k + 1) = Lf.insS (m : Int) F by rw [HFI.out HN.out, HFF.out])
              have CPF := Lib.hid (rput_any (.slice fa F.length fc) F (m : Int) wr (OwnI.ints HP3.out.1.2.1) (by omega))
              clear HG3 HS2
              go_wp2_with fail
              refine CPF.out.mono ?_
              rintro e w6 ⟨na, nc, rfl, ho, hb6⟩
              have HP6 := Lib.hid (And.intro ((HP3.out.1.all hb6).leave (ho.mono HP3.out.2.size)) (below_step HP3.out.2 hb6))
              have hl9 : (Lf.insS (m : Int) F).length ≤ 8 := by rw [← HI.out]; have := HLN.out; omega
              have HL9 := Lib.hid (Lf.insS_len (m : Int) F)
              clear ho hb6 CPF HP3
              go_wp2
              go_roundw
              case rel => exact ⟨k + 1, Q, Lf.insS (m : Int) F, za, zc, na, nc, ⟨by omega, hL8, hl9⟩, rfl, by rw [HL9.out], by go_num, Lib.hid ⟨⟨_, HN.out, HI.out.symm⟩, by rw [HL9.out]; exact HP6.out.1, HP6.out.2⟩⟩
              case measure => simp [intOf]; omega
    · obtain rfl : k = gs.length := by omega
      obtain ⟨F0, hpl, hFl⟩ := hg.out.1
      have HR := Lib.hid (show Below w.heap.size w wr ∧ Loads wr (.slice za L.length zc) (plP ls gs) ∧ Ints wr (.slice fa F.length fc) ((plF ls gs).mergeSort fun x y => decide (x ≤ y)) from ⟨below_step HO.out.2 hg.out.2.2, by
        have h1 := hg.out.2.1.loads
        rw [HEND.out.1] at hpl
        injection hpl with h2 _
        rw [← h2] at h1
        exact h1, by
        rw [← HEND.out.2, ← hFl]
        exact OwnI.ints hg.out.2.1.2.1⟩)
      clear hg
      go_wp2
      refine bodyPost_ret (results_tmp3 rfl _ _ _) rfl ?_
      exact ⟨za, L.length, zc, fa, F.length, fc, rfl, HR.out.1, fun h => absurd rfl h, fun _ => HR.out.2⟩
end Go.Proofs.Ytabfcnfddemblaa.Lo
