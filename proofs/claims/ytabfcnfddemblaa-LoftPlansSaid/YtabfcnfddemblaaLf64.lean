/- The new load in one loft: of the reference. -/
import Derived.Test.YtabfcnfddemblaaLf63
import Derived.Test.YtabfcnfddemblaaLf48
import Derived.Test.YtabfcnfddemblaaLf51
import Derived.Test.YtabfcnfddemblaaLf23
namespace Go.Proofs.Ytabfcnfddemblaa.Lo
open Go.RowKit

theorem ownI_setL {base B : Nat} {W : World} {cs : Array Value} {v : Value} {xs : List Int} (hB : BlockAt W B cs LoadT) (h : OwnI base W v xs) (i : Nat) (x : Value) : OwnI base (W.setCell ⟨B, i, none⟩ x) v xs := by
  obtain ⟨h0, h1 | ⟨g, cap, cur, h1, h2, h3, h4⟩⟩ := h
  · exact ⟨h0, .inl h1⟩
  · refine ⟨h0, .inr ⟨g, cap, cur, h1, h2, ?_, h4⟩⟩
    have hne : g ≠ B := fun e => by
      subst e
      have := (show W.heap[g]? = _ from h3).symm.trans hB
      simp at this
      exact absurd this.2 (by decide)
    rw [Below.heap_setCell _ _ _ _ hne]; exact h3
theorem ownI_setsL {base B : Nat} {v : Value} {xs : List Int} : ∀ {W : World} {cs : Array Value}, BlockAt W B cs LoadT → OwnI base W v xs → ∀ (i : Nat) (vs : List Value), OwnI base (setsW W B i vs) v xs
  | _, _, _, h, _, [] => h
  | _, _, hB, h, i, x :: r => ownI_setsL (hB.set i x) (ownI_setL hB h i x) (i + 1) r
theorem setsA4 (a0 a1 a2 a3 c0 c1 c2 c3 : Value) : setsA #[c0, c1, c2, c3] 0 [a0, a1, a2, a3] = #[a0, a1, a2, a3] := by simp [setsA]
theorem store4 {W Y : World} {B : Nat} {x1 x2 y1 y2 : Int} {u1 u2 v1 v2 : Value} (h : BlockAt W B (ldA x1 x2 u1 u2) LoadT) (hY : setsW W B 0 [.int .i64 y1, .int .i64 y2, v1, v2] = Y) :
    BlockAt Y B (ldA y1 y2 v1 v2) LoadT ∧ (∀ N A, Below N A W → N ≤ B → Below N A Y) ∧ ∀ base v xs, OwnI base W v xs → OwnI base Y v xs := by
  subst hY
  refine ⟨?_, fun N A hA hN => setsW_below hN _ 0 W hA, fun base v xs ho => ownI_setsL h ho 0 _⟩
  have := setsW_block [.int .i64 y1, .int .i64 y2, v1, v2] 0 W (ldA x1 x2 u1 u2) h
  rw [setsA4] at this
  exact this
/-- A result and goods in boxes. -/
def BgR (w : World) (g : Lf.G) (W : World) : Prop := BlockAt W w.heap.size (ldA 0 0 (.slice none 0 0) (.slice none 0 0)) LoadT ∧ BlockAt W (w.heap.size + 1) (gdA g) GoodT ∧ Below w.heap.size w W
theorem BgR.step {w : World} {g : Lf.G} {W W2 : World} (h : BgR w g W) (hb : Below W.heap.size W W2) : BgR w g W2 := ⟨h.1.below hb h.1.lt, h.2.1.below hb h.2.1.lt, below_step h.2.2 hb⟩
theorem BgR.drew {w : World} {g : Lf.G} {W : World} (h : BgR w g W) : BgR w g W.drew := ⟨h.1.drew, h.2.1.drew, below_drewN h.2.2 1⟩
theorem BgR.new (w : World) (g : Lf.G) : BgR w g ((w.alloc (.cells (ldA 0 0 (.slice none 0 0) (.slice none 0 0)) LoadT)).alloc (.cells (gdA g) GoodT)) :=
  ⟨(BlockAt.new w _ LoadT).alloc _, by have := BlockAt.new (w.alloc (.cells (ldA 0 0 (.slice none 0 0) (.slice none 0 0)) LoadT)) (gdA g) GoodT; simpa using this, below_alloc2 (below_alloc2 (Below.refl w.heap.size w) _) _⟩
set_option maxRecDepth 100000 in
set_option maxHeartbeats 8000000 in
theorem rbegun_any (u v z : Value) (ls : List Lf.F) (gs : List Lf.G) (P : List Lf.L) (i lo : Nat) (w : World) (hu : Lofts w u ls) (hv : Goods w v gs) (hz : Loads w z P) (hb0 : Lf.bthE ls gs = 0) (hi : i < gs.length) (hlo : lo < ls.length) (hP : ∀ x ∈ P, Lf.vLE ls gs x = 0) (hPl : P.length ≤ 1000) :
    Calls Try.prog 101 #[u, v, z, .int .i64 (lo : Int), .int .i64 (i : Int)] w fun e w' => ∃ (x : Lf.L) (p q : Value) (ok : Bool), e = .returned (.tuple #[ldV x.l x.a p q, .bool ok]) ∧ Below w.heap.size w w' ∧ Lf.bgI ls gs P i lo = (if ok = true then some x else none) ∧ (ok = true → OwnI w.heap.size w' p x.hs ∧ OwnI w.heap.size w' q x.gs) ∧ ∃ a b c d e f, p = .slice a b c ∧ q = .slice d e f := by
  obtain ⟨hF, h3, hG, h8⟩ := bth_ok hb0
  have hokF := Lf.okF_iff.1 (hF lo hlo)
  have hokG := Lf.okG_iff.1 (hG i hi)
  have hE : Lf.pE ⟨(ls[lo]'hlo).p, (ls[lo]'hlo).rs⟩ (gs[i]'hi).n (gs[i]'hi).m = 0 := by
    unfold Lf.pE
    rw [if_pos (Lf.valF_ok (l := [⟨(ls[lo]'hlo).p, (ls[lo]'hlo).rs⟩]) rfl (fun k hk => by
      have : k = 0 := by simp at hk; omega
      subst this; exact hF lo hlo)), if_pos (Lf.isRp_iff.2 hokG.2.1)]
  have hR : Lf.pR ⟨(ls[lo]'hlo).p, (ls[lo]'hlo).rs⟩ (gs[i]'hi).n (gs[i]'hi).m = Lf.prg (ls[lo]'hlo).rs (gs[i]'hi).n (gs[i]'hi).m := by unfold Lf.pR; rw [if_pos hE]
  have hB : Lf.pB ⟨(ls[lo]'hlo).p, (ls[lo]'hlo).rs⟩ (gs[i]'hi).n (gs[i]'hi).m = decide (0 < Lf.dN (ls[lo]'hlo).rs (gs[i]'hi).n (gs[i]'hi).m) := by unfold Lf.pB; rw [hE]; simp
  have hL12 := Lf.pR_len ⟨(ls[lo]'hlo).p, (ls[lo]'hlo).rs⟩ (gs[i]'hi).n (gs[i]'hi).m
  rw [hR] at hL12
  have CPR := Lib.hid (fun W (fv : Value) (hfv : Ints W fv (ls[lo]'hlo).rs) => by
    have h := rprogF_any (ls[lo]'hlo).p fv (ls[lo]'hlo).rs (gs[i]'hi).n (gs[i]'hi).m W hfv
    rw [hE, hR, hB] at h
    exact h)
  have CT := Lib.hid (fun (H : List Int) (a : Int) W (hW : Below w.heap.size w W) => by
    have h := taken_any z P lo a (a + (H.length : Int)) W (hz.all hW) hPl (fun j hj => by
      obtain ⟨_, h1, h2, _⟩ := Lf.vLE_iff.1 (hP _ (List.getElem_mem hj))
      exact ⟨⟨h1.1, by omega⟩, by have := (Lf.vHt_iff.1 h2).1; omega⟩)
    rw [show P.any (tkn lo a (a + (H.length : Int))) = Lf.mC P lo H [(i : Int)] a from congrArg P.any (funext fun y => tkn_mts ⟨lo, a, H, [(i : Int)]⟩ y)] at h
    exact h)
  have HSM := Lib.hid (fun h => bgI_small (ls := ls) (gs := gs) (P := P) hi hlo h)
  have HCO := Lib.hid (fun h => bgI_cold (ls := ls) (gs := gs) (P := P) hi hlo h)
  have HHI := Lib.hid (fun hd hp a h1 h2 h3 h4 => bgI_hit (ls := ls) (gs := gs) (P := P) hF hG hi hlo hd hp (a := a) h1 h2 h3 h4)
  have HMI := Lib.hid (fun hd hp h => bgI_miss (ls := ls) (gs := gs) (P := P) hF hG hi hlo hd hp h)
  obtain ⟨ua, uc, rfl⟩ := hu.form
  obtain ⟨va, vc, rfl⟩ := hv.form
  obtain ⟨za, zc, rfl⟩ := hz.form
  obtain ⟨fb, fo, rfl, hfb, hfc⟩ := lofts_row hu lo hlo
  obtain ⟨fv, ⟨d0, d1⟩, hfI⟩ := hfc
  obtain ⟨fa, fc, rfl⟩ := hfI.form
  obtain ⟨_, _, hvf, _, hvk⟩ := id hv
  injection hvf with hq1 hq2 hq3
  subst hq1
  obtain ⟨gb, go, rfl, hgb, hgc⟩ := hvk i hi
  obtain ⟨g0, g1, g2, g3, g4⟩ := gd_at hgc
  have hb1 := below_alloc2 (Below.refl w.heap.size w) (.cells (ldA 0 0 (.slice none 0 0) (.slice none 0 0)) LoadT)
  have y0 := (hb1.cell (p := ⟨gb, go + i * 5, none⟩) hgb).trans g0
  have y1 := (hb1.cell (p := ⟨gb, go + i * 5 + 1, none⟩) hgb).trans g1
  have y2 := (hb1.cell (p := ⟨gb, go + i * 5 + 2, none⟩) hgb).trans g2
  have y3 := (hb1.cell (p := ⟨gb, go + i * 5 + 3, none⟩) hgb).trans g3
  have y4 := (hb1.cell (p := ⟨gb, go + i * 5 + 4, none⟩) hgb).trans g4
  have hgR := hokG.2.2
  clear hu hv hz hvk hgc hq2 hq3 hb1 g0 g1 g2 g3 g4 hE hR hB hokF hokG hb0 hP hF hG
  generalize Lf.bgI ls gs P i lo = RR at *
  generalize gs[i] = g at *
  generalize ls[lo] = f at *
  obtain ⟨gp, gn, gm, ga, gu⟩ := g
  obtain ⟨fp, fr⟩ := f
  dsimp only at *
  generalize Lf.prg fr gn gm = H at *
  generalize Lf.dN fr gn gm = D at *
  have HSB : Hid (∀ W, BgR w ⟨gp, gn, gm, ga, gu⟩ W → (fun W => (W.cell? ⟨fb, fo + lo * 2, none⟩ = some (.int .i64 fp) ∧ W.cell? ⟨fb, fo + lo * 2 + 1, none⟩ = some (.slice fa fr.length fc)) ∧ W.cell? ⟨w.heap.size + 1, 0, none⟩ = some (.int .i64 gp) ∧ W.cell? ⟨w.heap.size + 1, 1, none⟩ = some (.int .i64 gn) ∧ W.cell? ⟨w.heap.size + 1, 2, none⟩ = some (.int .i64 gm)) W) := Lib.hid fun W h => ⟨⟨(h.2.2.cell (p := ⟨fb, fo + lo * 2, none⟩) hfb).trans d0, (h.2.2.cell (p := ⟨fb, fo + lo * 2 + 1, none⟩) hfb).trans d1⟩, h.2.1.cell 0, h.2.1.cell 1, h.2.1.cell 2⟩
  have HFI := Lib.hid (fun W (hW : Below w.heap.size w W) => hfI.all hW)
  have HN := Lib.hid (BgR.new w ⟨gp, gn, gm, ga, gu⟩).drew
  clear hfI d0 d1
  go_enter Try.func101, Try.ntmps101
  go_wp2_with fail
  refine wp_region_seq [(0, true), (1, true), (2, true), (3, true), (4, true), (5, true), (6, true), (7, true), (8, false), (9, true), (10, true), (11, true), (12, true), (13, true), (14, true), (15, true)] (fun W => (W.cell? ⟨fb, fo + lo * 2, none⟩ = some (.int .i64 fp) ∧ W.cell? ⟨fb, fo + lo * 2 + 1, none⟩ = some (.slice fa fr.length fc)) ∧ W.cell? ⟨w.heap.size + 1, 0, none⟩ = some (.int .i64 gp) ∧ W.cell? ⟨w.heap.size + 1, 1, none⟩ = some (.int .i64 gn) ∧ W.cell? ⟨w.heap.size + 1, 2, none⟩ = some (.int .i64 gm))
    (by kernel_rfl) (by kernel_rfl) (by kernel_rfl) (by kernel_rfl) (fun d _ _ _ _ h => by cases d <;> exact h) (HSB.out _ HN.out) (fun _ => ?_)
  clear y0 y1 y2 y3 y4
  repeat (first | (refine SeqH.take (v := ?_) rfl (by rfl) ?_ ?_; rotate_left; (· intro w hSw; (try dsimp only at hSw); obtain ⟨⟨q0, q1⟩, q2, q3, q4⟩ := hSw; go_simp; (try with_reducible rfl)); simp only [Act.put, List.setIfInBounds_toArray, List.set_cons_zero, List.set_cons_succ]) | (refine SeqH.skip rfl (by rfl) ?_; simp only [Act.put, List.setIfInBounds_toArray, List.set_cons_zero, List.set_cons_succ]))
  refine SeqH.step rfl (by rfl) (fun K hK => ?_)
  go_simp
  go_at_call 42
  refine (CPR.out _ (.slice fa fr.length fc) (HFI.out _ HN.out.2.2)).mono ?_
  rintro e w8 ⟨ea, ec, rfl, ho, hb1⟩
  try dsimp only
  have HB := Lib.hid (HN.out.step hb1)
  have HH := Lib.hid (ho.mono HN.out.2.2.size)
  clear ho hb1 HN CPR HFI
  refine hK.out _ _ (HSB.out _ HB.out) (fun _ => ?_)
  clear hK K
  try simp only [Act.put, List.setIfInBounds_toArray, List.set_cons_zero, List.set_cons_succ]
  repeat (first | (refine SeqH.take (v := ?_) rfl (by rfl) ?_ ?_; rotate_left; (· intro w hSw; (try dsimp only at hSw); obtain ⟨⟨q0, q1⟩, q2, q3, q4⟩ := hSw; go_simp; (try with_reducible rfl)); simp only [Act.put, List.setIfInBounds_toArray, List.set_cons_zero, List.set_cons_succ]) | (refine SeqH.skip rfl (by rfl) ?_; simp only [Act.put, List.setIfInBounds_toArray, List.set_cons_zero, List.set_cons_succ]))
  refine SeqH.done ?_
  by_cases hp : fp < gp
  · have dp : decide (fp < gp) = true := decide_eq_true hp
    have HS3 := Lib.hid (show BgR w ⟨gp, gn, gm, ga, gu⟩ w8.drew from HB.out.drew)
    go_wp2_with fail
    refine wp_region_seq [(0, true), (1, true), (2, true), (3, true), (4, true), (5, true), (6, true), (7, true), (8, true), (9, true), (10, true), (11, true)] (fun W => (W.cell? ⟨fb, fo + lo * 2, none⟩ = some (.int .i64 fp) ∧ W.cell? ⟨fb, fo + lo * 2 + 1, none⟩ = some (.slice fa fr.length fc)) ∧ W.cell? ⟨w.heap.size + 1, 0, none⟩ = some (.int .i64 gp) ∧ W.cell? ⟨w.heap.size + 1, 1, none⟩ = some (.int .i64 gn) ∧ W.cell? ⟨w.heap.size + 1, 2, none⟩ = some (.int .i64 gm))
      (by kernel_rfl) (by kernel_rfl) (by kernel_rfl) (by kernel_rfl) (fun d _ _ _ _ h => by cases d <;> exact h) (HSB.out _ HS3.out) (fun _ => ?_)
    repeat (first | (refine SeqH.take (v := ?_) rfl (by rfl) ?_ ?_; rotate_left; (· intro w hSw; (try dsimp only at hSw); obtain ⟨⟨q0, q1⟩, q2, q3, q4⟩ := hSw; go_simp; (try with_reducible rfl)); simp only [Act.put, List.setIfInBounds_toArray, List.set_cons_zero, List.set_cons_succ]) | (refine SeqH.skip rfl (by rfl) ?_; simp only [Act.put, List.setIfInBounds_toArray, List.set_cons_zero, List.set_cons_succ]) | (refine SeqH.pass rfl (by rfl) (by exact HSB.out _ HS3.out) ?_; simp only [Act.put, List.setIfInBounds_toArray, List.set_cons_zero, List.set_cons_succ]))
    refine SeqH.done ?_
    obtain ⟨w9, hw9⟩ : ∃ W, W = w8.drew := ⟨_, rfl⟩
    have HS9 := Lib.hid (show BgR w ⟨gp, gn, gm, ga, gu⟩ w9 from by rw [hw9]; exact HS3.out)
    rw [← hw9]
    clear hw9
    have z0 : World.cell? _ ⟨w.heap.size, 0, none⟩ = some (.int .i64 0) := HS9.out.1.cell 0
    have f0 : World.frozen? _ ⟨w.heap.size, 0, none⟩ = false := HS9.out.1.frozen 0
    have z1 : World.cell? _ ⟨w.heap.size, 1, none⟩ = some (.int .i64 0) := HS9.out.1.cell 1
    have f1 : World.frozen? _ ⟨w.heap.size, 1, none⟩ = false := HS9.out.1.frozen 1
    have z2 : World.cell? _ ⟨w.heap.size, 2, none⟩ = some (.slice none 0 0) := HS9.out.1.cell 2
    have f2 : World.frozen? _ ⟨w.heap.size, 2, none⟩ = false := HS9.out.1.frozen 2
    have z3 : World.cell? _ ⟨w.heap.size, 3, none⟩ = some (.slice none 0 0) := HS9.out.1.cell 3
    have f3 : World.frozen? _ ⟨w.heap.size, 3, none⟩ = false := HS9.out.1.frozen 3
    have hltB : w.heap.size < _ := HS9.out.1.lt
    go_wp2
    obtain ⟨Y, hY⟩ : ∃ Z, ((((w9.setCell ⟨w.heap.size, 0, none⟩ (.int .i64 0)).setCell ⟨w.heap.size, 1, none⟩ (.int .i64 0)).setCell ⟨w.heap.size, 2, none⟩ (.slice none 0 0)).setCell ⟨w.heap.size, 3, none⟩ (.slice none 0 0)) = Z := ⟨_, rfl⟩
    rw [hY]
    obtain ⟨hY1, hYb, hYo⟩ := store4 (W := w9) (Y := Y) (B := w.heap.size) (u1 := .slice none 0 0) (u2 := .slice none 0 0) HS9.out.1 hY
    have v0 : World.cell? _ ⟨w.heap.size, 0, none⟩ = some (.int .i64 0) := hY1.cell 0
    have v1 : World.cell? _ ⟨w.heap.size, 1, none⟩ = some (.int .i64 0) := hY1.cell 1
    have v2 : World.cell? _ ⟨w.heap.size, 2, none⟩ = some (.slice none 0 0) := hY1.cell 2
    have v3 : World.cell? _ ⟨w.heap.size, 3, none⟩ = some (.slice none 0 0) := hY1.cell 3
    refine bodyPost_ret (v := .tuple #[ldV 0 0 (.slice none 0 0) (.slice none 0 0), .bool false]) (by simp [results, Try.results101, go_sem, v0, v1, v2, v3]) rfl ⟨⟨0, 0, [], []⟩, _, _, false, rfl, hYb _ _ HS9.out.2.2 (Nat.le_refl _), HSM.out hp, fun h => by (cases h), _, _, _, _, _, _, rfl, rfl⟩
  have dp : decide (fp < gp) = false := decide_eq_false hp
  by_cases hd : 0 < D
  case neg =>
    have dd : decide (0 < D) = false := decide_eq_false hd
    rw [dd]
    have HS3 := Lib.hid (show BgR w ⟨gp, gn, gm, ga, gu⟩ w8.drew from HB.out.drew)
    go_wp2_with fail
    refine wp_region_seq [(0, true), (1, true), (2, true), (3, true), (4, true), (5, true), (6, true), (7, true), (8, true), (9, true), (10, true), (11, true)] (fun W => (W.cell? ⟨fb, fo + lo * 2, none⟩ = some (.int .i64 fp) ∧ W.cell? ⟨fb, fo + lo * 2 + 1, none⟩ = some (.slice fa fr.length fc)) ∧ W.cell? ⟨w.heap.size + 1, 0, none⟩ = some (.int .i64 gp) ∧ W.cell? ⟨w.heap.size + 1, 1, none⟩ = some (.int .i64 gn) ∧ W.cell? ⟨w.heap.size + 1, 2, none⟩ = some (.int .i64 gm))
      (by kernel_rfl) (by kernel_rfl) (by kernel_rfl) (by kernel_rfl) (fun d _ _ _ _ h => by cases d <;> exact h) (HSB.out _ HS3.out) (fun _ => ?_)
    repeat (first | (refine SeqH.take (v := ?_) rfl (by rfl) ?_ ?_; rotate_left; (· intro w hSw; (try dsimp only at hSw); obtain ⟨⟨q0, q1⟩, q2, q3, q4⟩ := hSw; go_simp; (try with_reducible rfl)); simp only [Act.put, List.setIfInBounds_toArray, List.set_cons_zero, List.set_cons_succ]) | (refine SeqH.skip rfl (by rfl) ?_; simp only [Act.put, List.setIfInBounds_toArray, List.set_cons_zero, List.set_cons_succ]) | (refine SeqH.pass rfl (by rfl) (by exact HSB.out _ HS3.out) ?_; simp only [Act.put, List.setIfInBounds_toArray, List.set_cons_zero, List.set_cons_succ]))
    refine SeqH.done ?_
    obtain ⟨w9, hw9⟩ : ∃ W, W = w8.drew := ⟨_, rfl⟩
    have HS9 := Lib.hid (show BgR w ⟨gp, gn, gm, ga, gu⟩ w9 from by rw [hw9]; exact HS3.out)
    rw [← hw9]
    clear hw9
    have z0 : World.cell? _ ⟨w.heap.size, 0, none⟩ = some (.int .i64 0) := HS9.out.1.cell 0
    have f0 : World.frozen? _ ⟨w.heap.size, 0, none⟩ = false := HS9.out.1.frozen 0
    have z1 : World.cell? _ ⟨w.heap.size, 1, none⟩ = some (.int .i64 0) := HS9.out.1.cell 1
    have f1 : World.frozen? _ ⟨w.heap.size, 1, none⟩ = false := HS9.out.1.frozen 1
    have z2 : World.cell? _ ⟨w.heap.size, 2, none⟩ = some (.slice none 0 0) := HS9.out.1.cell 2
    have f2 : World.frozen? _ ⟨w.heap.size, 2, none⟩ = false := HS9.out.1.frozen 2
    have z3 : World.cell? _ ⟨w.heap.size, 3, none⟩ = some (.slice none 0 0) := HS9.out.1.cell 3
    have f3 : World.frozen? _ ⟨w.heap.size, 3, none⟩ = false := HS9.out.1.frozen 3
    have hltB : w.heap.size < _ := HS9.out.1.lt
    go_wp2
    obtain ⟨Y, hY⟩ : ∃ Z, ((((w9.setCell ⟨w.heap.size, 0, none⟩ (.int .i64 0)).setCell ⟨w.heap.size, 1, none⟩ (.int .i64 0)).setCell ⟨w.heap.size, 2, none⟩ (.slice none 0 0)).setCell ⟨w.heap.size, 3, none⟩ (.slice none 0 0)) = Z := ⟨_, rfl⟩
    rw [hY]
    obtain ⟨hY1, hYb, hYo⟩ := store4 (W := w9) (Y := Y) (B := w.heap.size) (u1 := .slice none 0 0) (u2 := .slice none 0 0) HS9.out.1 hY
    have v0 : World.cell? _ ⟨w.heap.size, 0, none⟩ = some (.int .i64 0) := hY1.cell 0
    have v1 : World.cell? _ ⟨w.heap.size, 1, none⟩ = some (.int .i64 0) := hY1.cell 1
    have v2 : World.cell? _ ⟨w.heap.size, 2, none⟩ = some (.slice none 0 0) := hY1.cell 2
    have v3 : World.cell? _ ⟨w.heap.size, 3, none⟩ = some (.slice none 0 0) := hY1.cell 3
    refine bodyPost_ret (v := .tuple #[ldV 0 0 (.slice none 0 0) (.slice none 0 0), .bool false]) (by simp [results, Try.results101, go_sem, v0, v1, v2, v3]) rfl ⟨⟨0, 0, [], []⟩, _, _, false, rfl, hYb _ _ HS9.out.2.2 (Nat.le_refl _), HCO.out hd, fun h => by (cases h), _, _, _, _, _, _, rfl, rfl⟩
  have dd : decide (0 < D) = true := decide_eq_true hd
  rw [dd]
  have HHI2 := Lib.hid (fun a h1 h2 h3 h4 => HHI.out hd (by omega) a h1 h2 h3 h4)
  have HMI2 := Lib.hid (fun h => HMI.out hd (by omega) h)
  clear HHI HMI HSM HCO
  have HS3 := Lib.hid (show BgR w ⟨gp, gn, gm, ga, gu⟩ w8.drew from HB.out.drew)
  go_wp2_with fail
  refine wp_region_seq [(0, true), (1, true), (2, true), (3, true), (4, true), (5, true), (6, true), (7, true), (8, true), (9, true), (10, true), (11, true)] (fun W => (W.cell? ⟨fb, fo + lo * 2, none⟩ = some (.int .i64 fp) ∧ W.cell? ⟨fb, fo + lo * 2 + 1, none⟩ = some (.slice fa fr.length fc)) ∧ W.cell? ⟨w.heap.size + 1, 0, none⟩ = some (.int .i64 gp) ∧ W.cell? ⟨w.heap.size + 1, 1, none⟩ = some (.int .i64 gn) ∧ W.cell? ⟨w.heap.size + 1, 2, none⟩ = some (.int .i64 gm))
    (by kernel_rfl) (by kernel_rfl) (by kernel_rfl) (by kernel_rfl) (fun d _ _ _ _ h => by cases d <;> exact h) (HSB.out _ HS3.out) (fun _ => ?_)
  repeat (first | (refine SeqH.take (v := ?_) rfl (by rfl) ?_ ?_; rotate_left; (· intro w hSw; (try dsimp only at hSw); obtain ⟨⟨q0, q1⟩, q2, q3, q4⟩ := hSw; go_simp; (try with_reducible rfl)); simp only [Act.put, List.setIfInBounds_toArray, List.set_cons_zero, List.set_cons_succ]) | (refine SeqH.skip rfl (by rfl) ?_; simp only [Act.put, List.setIfInBounds_toArray, List.set_cons_zero, List.set_cons_succ]) | (refine SeqH.pass rfl (by rfl) (by exact HSB.out _ HS3.out) ?_; simp only [Act.put, List.setIfInBounds_toArray, List.set_cons_zero, List.set_cons_succ]))
  refine SeqH.done ?_
  have HH3 := Lib.hid (show OwnI w.heap.size w8.drew (.slice ea H.length ec) H from HH.out.all (below_drewN (Below.refl _ _) 1))
  clear HB HH HSB
  have x3 : World.cell? _ _ = some (.int .i64 ga) := HS3.out.2.1.cell 3
  go_wp2
  clear x3
  go_loopw [16] (fun t wr => ∃ a : Int, (ga ≤ a ∧ a ≤ 61) ∧ t = .int .i64 a ∧ Hid ((∀ x, ga ≤ x → x < a → Lf.mC P lo H [(i : Int)] x = true) ∧ BgR w ⟨gp, gn, gm, ga, gu⟩ wr ∧ OwnI w.heap.size wr (.slice ea H.length ec) H)) (fun t _ => (61 - intOf t).toNat)
  case atStart => exact ⟨ga, ⟨Int.le_refl _, by omega⟩, rfl, Lib.hid ⟨fun x h1 h2 => by omega, HS3.out, HH3.out⟩⟩
  case round =>
    obtain ⟨a, ⟨ha1, ha2⟩, rfl, hg⟩ := hrel
    clear HS3 HH3
    have g1 : IntKind.i64.wrap (a + (H.length : Int)) = a + (H.length : Int) := IntWalk.i64_in _ ⟨by omega, by omega⟩
    have x4 : World.cell? _ _ = some (.int .i64 gu) := hg.out.2.1.2.1.cell 4
    by_cases hle : a + (H.length : Int) ≤ gu
    · have e1 : decide (a + (H.length : Int) ≤ gu) = true := decide_eq_true hle
      have C1 := Lib.hid (CT.out H a wr hg.out.2.1.2.2)
      have HG := Lib.hid hg.out
      clear hg
      generalize hmc : Lf.mC P lo H [(i : Int)] a = m at *
      go_wp2_with fail
      refine C1.out.mono ?_
      rintro e wr9 ⟨rfl, hb1⟩
      have HB9 := Lib.hid (And.intro (HG.out.2.1.step hb1) (HG.out.2.2.all hb1))
      clear hb1 C1 x4
      cases m
      case true =>
        have HI : Hid (∀ x, ga ≤ x → x < a + 1 → Lf.mC P lo H [(i : Int)] x = true) := Lib.hid fun x h1 h2 => by
          by_cases e : x = a
          · rw [e]; exact hmc
          · exact HG.out.1 x h1 (by omega)
        have g2 : IntKind.i64.wrap (a + 1) = a + 1 := IntWalk.i64_in _ ⟨by omega, by omega⟩
        clear HG hmc
        go_wp2
        go_roundw
        case rel => exact ⟨a + 1, ⟨by omega, by omega⟩, by go_num, Lib.hid ⟨HI.out, HB9.out⟩⟩
        case measure => simp [intOf]; omega
      have HBG := Lib.hid (HHI2.out a ha1 hle hmc HG.out.1)
      have HR9 := Lib.hid (And.intro (HB9.out.1.step (below_alloc2 (Below.refl _ _) (.cells #[.int .i64 (i : Int)] 3))) (HB9.out.2.all (below_alloc2 (Below.refl _ _) (.cells #[.int .i64 (i : Int)] 3))))
      have HBN := Lib.hid (World.ownsRow_lit (base := w.heap.size) (e := 3) (size := 1) wr9 #[.int .i64 (i : Int)] 1 HB9.out.1.2.2.size (by unfold maxLen; omega) rfl)
      clear HG hmc HB9 HHI2 HMI2
      have z0 : World.cell? _ ⟨w.heap.size, 0, none⟩ = some (.int .i64 0) := HR9.out.1.1.cell 0
      have f0 : World.frozen? _ ⟨w.heap.size, 0, none⟩ = false := HR9.out.1.1.frozen 0
      have z1 : World.cell? _ ⟨w.heap.size, 1, none⟩ = some (.int .i64 0) := HR9.out.1.1.cell 1
      have f1 : World.frozen? _ ⟨w.heap.size, 1, none⟩ = false := HR9.out.1.1.frozen 1
      have z2 : World.cell? _ ⟨w.heap.size, 2, none⟩ = some (.slice none 0 0) := HR9.out.1.1.cell 2
      have f2 : World.frozen? _ ⟨w.heap.size, 2, none⟩ = false := HR9.out.1.1.frozen 2
      have z3 : World.cell? _ ⟨w.heap.size, 3, none⟩ = some (.slice none 0 0) := HR9.out.1.1.cell 3
      have f3 : World.frozen? _ ⟨w.heap.size, 3, none⟩ = false := HR9.out.1.1.frozen 3
      have hltB : w.heap.size < _ := HR9.out.1.1.lt
      go_wp2
      obtain ⟨Y, hY⟩ : ∃ Z, (((((wr9.alloc (.cells #[.int .i64 (i : Int)] 3)).setCell ⟨w.heap.size, 0, none⟩ (.int .i64 (lo : Int))).setCell ⟨w.heap.size, 1, none⟩ (.int .i64 a)).setCell ⟨w.heap.size, 2, none⟩ (.slice ea H.length ec)).setCell ⟨w.heap.size, 3, none⟩ (.slice (some ⟨wr9.heap.size, 0, none⟩) 1 1)) = Z := ⟨_, rfl⟩
      rw [hY]
      obtain ⟨hY1, hYb, hYo⟩ := store4 (W := (wr9.alloc (.cells #[.int .i64 (i : Int)] 3))) (Y := Y) (B := w.heap.size) (u1 := .slice none 0 0) (u2 := .slice none 0 0) HR9.out.1.1 hY
      have HO1 := Lib.hid (hYo _ _ _ HR9.out.2)
      have HO2 := Lib.hid (hYo w.heap.size (.slice (some ⟨wr9.heap.size, 0, none⟩) 1 1) [(i : Int)] HBN.out)
      have v0 : World.cell? _ ⟨w.heap.size, 0, none⟩ = some (.int .i64 (lo : Int)) := hY1.cell 0
      have v1 : World.cell? _ ⟨w.heap.size, 1, none⟩ = some (.int .i64 a) := hY1.cell 1
      have v2 : World.cell? _ ⟨w.heap.size, 2, none⟩ = some (.slice ea H.length ec) := hY1.cell 2
      have v3 : World.cell? _ ⟨w.heap.size, 3, none⟩ = some (.slice (some ⟨wr9.heap.size, 0, none⟩) 1 1) := hY1.cell 3

      refine bodyPost_ret (v := .tuple #[ldV lo a (.slice ea H.length ec) (.slice (some ⟨wr9.heap.size, 0, none⟩) 1 1), .bool true]) (by simp [results, Try.results101, go_sem, v0, v1, v2, v3]) rfl ⟨⟨lo, a, H, [(i : Int)]⟩, _, _, true, rfl, hYb _ _ HR9.out.1.2.2 (Nat.le_refl _), HBG.out, fun _ => ⟨HO1.out, HO2.out⟩, _, _, _, _, _, _, rfl, rfl⟩
    · have e1 : decide (a + (H.length : Int) ≤ gu) = false := decide_eq_false hle
      have HBG := Lib.hid (HMI2.out (fun x h1 h2 => hg.out.1 x h1 (by omega)))
      have HR9 := Lib.hid hg.out.2
      clear hg
      have z0 : World.cell? _ ⟨w.heap.size, 0, none⟩ = some (.int .i64 0) := HR9.out.1.1.cell 0
      have f0 : World.frozen? _ ⟨w.heap.size, 0, none⟩ = false := HR9.out.1.1.frozen 0
      have z1 : World.cell? _ ⟨w.heap.size, 1, none⟩ = some (.int .i64 0) := HR9.out.1.1.cell 1
      have f1 : World.frozen? _ ⟨w.heap.size, 1, none⟩ = false := HR9.out.1.1.frozen 1
      have z2 : World.cell? _ ⟨w.heap.size, 2, none⟩ = some (.slice none 0 0) := HR9.out.1.1.cell 2
      have f2 : World.frozen? _ ⟨w.heap.size, 2, none⟩ = false := HR9.out.1.1.frozen 2
      have z3 : World.cell? _ ⟨w.heap.size, 3, none⟩ = some (.slice none 0 0) := HR9.out.1.1.cell 3
      have f3 : World.frozen? _ ⟨w.heap.size, 3, none⟩ = false := HR9.out.1.1.frozen 3
      have hltB : w.heap.size < _ := HR9.out.1.1.lt
      go_wp2
      obtain ⟨Y, hY⟩ : ∃ Z, ((((wr.setCell ⟨w.heap.size, 0, none⟩ (.int .i64 0)).setCell ⟨w.heap.size, 1, none⟩ (.int .i64 0)).setCell ⟨w.heap.size, 2, none⟩ (.slice none 0 0)).setCell ⟨w.heap.size, 3, none⟩ (.slice none 0 0)) = Z := ⟨_, rfl⟩
      rw [hY]
      obtain ⟨hY1, hYb, hYo⟩ := store4 (W := wr) (Y := Y) (B := w.heap.size) (u1 := .slice none 0 0) (u2 := .slice none 0 0) HR9.out.1.1 hY
      have v0 : World.cell? _ ⟨w.heap.size, 0, none⟩ = some (.int .i64 0) := hY1.cell 0
      have v1 : World.cell? _ ⟨w.heap.size, 1, none⟩ = some (.int .i64 0) := hY1.cell 1
      have v2 : World.cell? _ ⟨w.heap.size, 2, none⟩ = some (.slice none 0 0) := hY1.cell 2
      have v3 : World.cell? _ ⟨w.heap.size, 3, none⟩ = some (.slice none 0 0) := hY1.cell 3

      refine bodyPost_ret (v := .tuple #[ldV 0 0 (.slice none 0 0) (.slice none 0 0), .bool false]) (by simp [results, Try.results101, go_sem, v0, v1, v2, v3]) rfl ⟨⟨0, 0, [], []⟩, .slice none 0 0, .slice none 0 0, Or.inl ⟨rfl, hYb _ _ HR9.out.1.2.2 (Nat.le_refl _), HBG.out, ⟨_, _, _, rfl⟩, _, _, _, rfl⟩⟩
end Go.Proofs.Ytabfcnfddemblaa.Lo
