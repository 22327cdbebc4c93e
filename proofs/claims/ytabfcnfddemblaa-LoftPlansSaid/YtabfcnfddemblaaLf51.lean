/- A new load for goods in one loft: of the program. -/
import Derived.Test.YtabfcnfddemblaaLf47
import Derived.Test.YtabfcnfddemblaaLfMb
namespace Go.Proofs.Ytabfcnfddemblaa.Lo
open Go.RowKit

theorem fr_stop {c : Int → Bool} : ∀ (k : Nat) (a : Int), c a = false → Lf.fr c k a = a
  | 0, _, _ => rfl
  | k + 1, a, h => by rw [Lf.fr, if_neg (by rw [h]; decide)]
def memI (w : World) (b o : Nat) : Int := intOf ((w.cell? ⟨b, o, none⟩).getD undef)
theorem ownI_set {base B : Nat} {W : World} {cs : Array Value} {v : Value} {xs : List Int} (hB : BlockAt W B cs KvT) (h : OwnI base W v xs) (i : Nat) (x : Value) : OwnI base (W.setCell ⟨B, i, none⟩ x) v xs := by
  obtain ⟨h0, h1 | ⟨g, cap, cur, h1, h2, h3, h4⟩⟩ := h
  · exact ⟨h0, .inl h1⟩
  · refine ⟨h0, .inr ⟨g, cap, cur, h1, h2, ?_, h4⟩⟩
    have hne : g ≠ B := fun e => by
      subst e
      have := (show W.heap[g]? = _ from h3).symm.trans hB
      simp at this
      exact absurd this.2 (by decide)
    rw [Below.heap_setCell _ _ _ _ hne]; exact h3
theorem ownI_sets {base B : Nat} {v : Value} {xs : List Int} : ∀ {W : World} {cs : Array Value}, BlockAt W B cs KvT → OwnI base W v xs → ∀ (i : Nat) (vs : List Value), OwnI base (setsW W B i vs) v xs
  | _, _, _, h, _, [] => h
  | _, _, hB, h, i, x :: r => ownI_sets (hB.set i x) (ownI_set hB h i x) (i + 1) r
/-- What is known of a load is right. -/
def KvN (ls : List Lf.F) (gs : List Lf.G) (k : KV) : Prop := k.r = (Lf.fat ls k.x.l).p ∧ k.m = Lf.wm (Lf.fat ls k.x.l).rs k.x.hs k.x.hs.length ∧ k.t = Lf.togA gs k.x.gs
/-- A demand, a result, goods and a load in boxes. -/
def BgS (w : World) (u v : Value) (g : Lf.G) (W : World) : Prop := BlockAt W w.heap.size #[u, v] DemT ∧ BlockAt W (w.heap.size + 1) kvZ KvT ∧ BlockAt W (w.heap.size + 2) (gdA g) GoodT ∧ Below w.heap.size w W
theorem BgS.step {w : World} {u v : Value} {g : Lf.G} {W W2 : World} (h : BgS w u v g W) (hb : Below W.heap.size W W2) : BgS w u v g W2 := ⟨h.1.below hb h.1.lt, h.2.1.below hb h.2.1.lt, h.2.2.1.below hb h.2.2.1.lt, below_step h.2.2.2 hb⟩
theorem BgS.drew {w : World} {u v : Value} {g : Lf.G} {W : World} (h : BgS w u v g W) : BgS w u v g W.drew := ⟨h.1.drew, h.2.1.drew, h.2.2.1.drew, below_drewN h.2.2.2 1⟩
theorem BgS.new (w : World) (u v : Value) (g : Lf.G) : BgS w u v g (((w.alloc (.cells #[u, v] DemT)).alloc (.cells kvZ KvT)).alloc (.cells (gdA g) GoodT)) :=
  ⟨((BlockAt.new w #[u, v] DemT).alloc _).alloc _, by have := (BlockAt.new (w.alloc (.cells #[u, v] DemT)) kvZ KvT).alloc (.cells (gdA g) GoodT); simpa using this, by have := BlockAt.new ((w.alloc (.cells #[u, v] DemT)).alloc (.cells kvZ KvT)) (gdA g) GoodT; simpa using this, below_alloc2 (below_alloc2 (below_alloc2 (Below.refl w.heap.size w) _) _) _⟩
/-- The cells that the search for heats reads. -/
def BgC (w : World) (u v : Value) (g : Lf.G) (fb fo : Nat) (fp : Int) (fv : Value) (W : World) : Prop := (W.cell? ⟨w.heap.size, 0, none⟩ = some u ∧ W.cell? ⟨w.heap.size, 1, none⟩ = some v) ∧ (W.cell? ⟨w.heap.size + 2, 1, none⟩ = some (.int .i64 g.n) ∧ W.cell? ⟨w.heap.size + 2, 2, none⟩ = some (.int .i64 g.m)) ∧ W.cell? ⟨fb, fo, none⟩ = some (.int .i64 fp) ∧ W.cell? ⟨fb, fo + 1, none⟩ = some fv
set_option maxRecDepth 100000 in
set_option maxHeartbeats 8000000 in
theorem beginIn_any (u v z : Value) (ls : List Lf.F) (gs : List Lf.G) (P : List KV) (n : Int) (lo : Nat) (w : World) (hu : Lofts w u ls) (hv : Goods w v gs) (hb0 : Lf.bthE ls gs = 0) (hlo : lo < ls.length) (hn0 : 0 ≤ n) (hn : n < gs.length)
    (hz : Kvs w z P) (hP : ∀ j (hj : j < P.length), KvW w P[j]) (hP2 : ∀ x ∈ P.map KV.x, Lf.vLE ls gs x = 0 ∧ Lf.ckx ls gs x = 0) (hPl : P.length ≤ 1000) :
    Calls Try.prog 140 #[.agg #[u, v], .int .i64 (lo : Int), z, .int .i64 n] w fun e w' => ∃ (k : KV) (ok : Bool), e = .returned (.tuple #[kV k, .bool ok]) ∧ Below w.heap.size w w' ∧ Lf.bgI ls gs (P.map KV.x) n lo = (if ok = true then some k.x else none) ∧ (ok = true → (OwnI w.heap.size w' k.u k.x.hs ∧ OwnI w.heap.size w' k.v k.x.gs) ∧ KvN ls gs k) ∧ ∃ p q c d e f, k.u = .slice p q c ∧ k.v = .slice d e f := by
  obtain ⟨hF, h3, hG, h8⟩ := bth_ok hb0
  have hfat : Lf.fat ls (lo : Int) = ls[lo] := by unfold Lf.fat; simp [hlo]
  obtain ⟨i, rfl⟩ : ∃ i : Nat, n = (i : Int) := ⟨n.toNat, by omega⟩
  have hil : i < gs.length := by omega
  have hgat := gd_get hil
  have hokF := Lf.okF_iff.1 (hF lo hlo)
  have hokG := Lf.okG_iff.1 (hG i hil)
  have HLATE := Lib.hid (fun (hs gl : List Int) (a : Int) (ha : 60 ≤ a) => Lf.late_no (lo := (lo : Int)) (hs := hs) (gl := gl) hG hP2 ha)
  have HPK := Lib.hid (fun (hd : 0 < Lf.dN (ls[lo]'hlo).rs (gs[i]'hil).n (gs[i]'hil).m) => Lf.prg_ok (p := (ls[lo]'hlo).p) (rs := (ls[lo]'hlo).rs) (n := (gs[i]'hil).n) (m := (gs[i]'hil).m) (hF lo hlo) (Lf.isRp_iff.2 hokG.2.1) hd)
  have CPR := Lib.hid (fun W (fp : Int) (fv : Value) (hfv : Ints W fv (ls[lo]'hlo).rs) => program_any fp fv (ls[lo]'hlo).rs (gs[i]'hil).n (gs[i]'hil).m W hfv hokF.2.1 (rt_bd hokF.2.2) (Lf.isRp_iff.2 hokG.2.1))
  have CKN := Lib.hid (fun (x : Lf.L) p q W (hW : Below w.heap.size w W) (hp : Ints W p x.hs) (hq : Ints W q x.gs) hx => know_any u v p q ls gs x W (hu.all hW) (hv.all hW) hp hq hb0 hx)
  have CME := Lib.hid (fun (x : KV) W (hW : Below w.heap.size w W) (hx : KvW W x) => containsMe x (fun y => Lf.mts x.x y.x) z P W (hz.all hW) hPl (fun k hk W2 hW2 => meets_any x P[k] W2 (hx.all hW2) ((hP k hk).all (below_step hW hW2))))
  have HBG : Hid (Lf.bgI ls gs (P.map KV.x) i lo = if 0 < Lf.dN (ls[lo]'hlo).rs (gs[i]'hil).n (gs[i]'hil).m ∧ Lf.ckx ls gs (Lf.newL ls gs (P.map KV.x) i lo) = 0 then some (Lf.newL ls gs (P.map KV.x) i lo) else none) := Lib.hid (by unfold Lf.bgI; rw [hfat, hgat])
  have HNL : Hid (Lf.newL ls gs (P.map KV.x) i lo = ⟨lo, Lf.fr (Lf.mC (P.map KV.x) lo (Lf.prg (ls[lo]'hlo).rs (gs[i]'hil).n (gs[i]'hil).m) [(i : Int)]) 61 (gs[i]'hil).a, Lf.prg (ls[lo]'hlo).rs (gs[i]'hil).n (gs[i]'hil).m, [(i : Int)]⟩) := Lib.hid (by unfold Lf.newL Lf.nhs; rw [hfat, hgat])
  have HFA : Hid (Lf.fat ls (lo : Int) = ls[lo]'hlo) := Lib.hid hfat
  obtain ⟨ua, uc, rfl⟩ := hu.form
  obtain ⟨va, vc, rfl⟩ := hv.form
  obtain ⟨za, zc, rfl⟩ := hz.form
  obtain ⟨fb, fo, rfl, hfb, hfc⟩ := lofts_row hu lo hlo
  obtain ⟨fv, ⟨c0, c1⟩, hI⟩ := hfc
  obtain ⟨fa, fc, rfl⟩ := hI.form
  obtain ⟨_, _, hvf, _, hvk⟩ := id hv
  injection hvf with hv1 hv2 hv3
  subst hv1
  subst hv3
  obtain ⟨gb, go, rfl, hgb, hgc⟩ := hvk i hil
  have HI := Lib.hid (fun W (hW : Below w.heap.size w W) => hI.all hW)
  clear hu hv hz hP hP2 hI hvk hF hG hfat hgat hb0 hokF
  generalize hgg : gs[i]'hil = g at *
  generalize hff : ls[lo]'hlo = f at *
  obtain ⟨gp, gn, gm, ga, gu⟩ := g
  obtain ⟨fp, fr⟩ := f
  dsimp only at *
  have HGF := Lib.hid (And.intro hgg hff)
  clear hgg hff
  have b2 := below_alloc2 (below_alloc2 (Below.refl w.heap.size w) (.cells #[.slice (some ⟨fb, fo, none⟩) ls.length uc, .slice (some ⟨gb, go, none⟩) gs.length vc] DemT)) (.cells kvZ KvT)
  obtain ⟨y0, y1, y2, y3, y4⟩ := gd_at (hgc.below b2 hgb)
  have HB := Lib.hid (BgS.new w (.slice (some ⟨fb, fo, none⟩) ls.length uc) (.slice (some ⟨gb, go, none⟩) gs.length vc) ⟨gp, gn, gm, ga, gu⟩)
  have hi0 : decide ((i : Int) < 0) = false := decide_eq_false (by omega)
  have hl0 : decide ((lo : Int) < 0) = false := decide_eq_false (by omega)
  clear hgc b2
  go_enter Try.func140, Try.ntmps140
  go_wp2_with fail
  clear y0 y1 y2 y3 y4
  obtain ⟨W1, hW1⟩ : ∃ W, W = (((w.alloc (.cells #[.slice (some ⟨fb, fo, none⟩) ls.length uc, .slice (some ⟨gb, go, none⟩) gs.length vc] DemT)).alloc (.cells kvZ KvT)).alloc (.cells (gdA ⟨gp, gn, gm, ga, gu⟩) GoodT)) := ⟨_, rfl⟩
  rw [← hW1] at HB
  rw [show (((w.alloc (.cells #[.slice (some ⟨fb, fo, none⟩) ls.length uc, .slice (some ⟨gb, go, none⟩) gs.length vc] DemT)).alloc (.cells kvZ KvT)).alloc (.cells (gdA ⟨gp, gn, gm, ga, gu⟩) GoodT)) = W1 from hW1.symm]
  clear hW1
  have HBC := Lib.hid (fun W (h : BgS w (.slice (some ⟨fb, fo, none⟩) ls.length uc) (.slice (some ⟨gb, go, none⟩) gs.length vc) ⟨gp, gn, gm, ga, gu⟩ W) => show BgC w (.slice (some ⟨fb, fo, none⟩) ls.length uc) (.slice (some ⟨gb, go, none⟩) gs.length vc) ⟨gp, gn, gm, ga, gu⟩ fb (fo + lo * 2) fp (.slice fa fr.length fc) W from
    ⟨⟨h.1.cell 0, h.1.cell 1⟩, ⟨h.2.2.1.cell 1, h.2.2.1.cell 2⟩, (h.2.2.2.cell (p := ⟨fb, fo + lo * 2, none⟩) hfb).trans c0, (h.2.2.2.cell (p := ⟨fb, fo + lo * 2 + 1, none⟩) hfb).trans c1⟩)
  clear c0 c1
  have HB2 := Lib.hid HB.out.drew
  refine wp_region_seq [(0, true), (1, true), (2, true), (3, true), (4, true), (5, true), (6, true), (7, true), (8, true), (9, false), (10, true), (11, true), (12, true), (13, true), (14, true)] (BgC w (.slice (some ⟨fb, fo, none⟩) ls.length uc) (.slice (some ⟨gb, go, none⟩) gs.length vc) ⟨gp, gn, gm, ga, gu⟩ fb (fo + lo * 2) fp (.slice fa fr.length fc))
    (by kernel_rfl) (by kernel_rfl) (by kernel_rfl) (by kernel_rfl) (fun d _ _ _ _ h => by cases d <;> exact h) (HBC.out _ HB2.out) (fun _ => ?_)
  repeat (first | (refine SeqH.take (v := ?_) rfl (by rfl) ?_ ?_; rotate_left; (· intro w hSw; (try dsimp only at hSw); obtain ⟨⟨q0, q1⟩, ⟨q2, q3⟩, q4, q5⟩ := hSw; go_simp; (try rw [if_pos (by omega)]); (try with_reducible rfl)); simp only [Act.put, List.setIfInBounds_toArray, List.set_cons_zero, List.set_cons_succ]) | (refine SeqH.skip rfl (by rfl) ?_; simp only [Act.put, List.setIfInBounds_toArray, List.set_cons_zero, List.set_cons_succ]))
  refine SeqH.step rfl (by rfl) (fun K hK => ?_)
  go_simp
  go_at_call 80
  refine (CPR.out _ fp (.slice fa fr.length fc) (HI.out _ HB2.out.2.2.2)).mono ?_
  rintro e w7 ⟨ha, hc, rfl, ho, hb1⟩
  try dsimp only
  have HB3 := Lib.hid (HB2.out.step hb1)
  have HO := Lib.hid ho
  clear hb1 ho
  refine hK.out _ _ (HBC.out _ HB3.out) (fun _ => ?_)
  clear hK K
  try simp only [Act.put, List.setIfInBounds_toArray, List.set_cons_zero, List.set_cons_succ]
  repeat (first | (refine SeqH.take (v := ?_) rfl (by rfl) ?_ ?_; rotate_left; (· intro w hSw; (try dsimp only at hSw); obtain ⟨⟨q0, q1⟩, ⟨q2, q3⟩, q4, q5⟩ := hSw; go_simp; (try with_reducible rfl)); simp only [Act.put, List.setIfInBounds_toArray, List.set_cons_zero, List.set_cons_succ]) | (refine SeqH.skip rfl (by rfl) ?_; simp only [Act.put, List.setIfInBounds_toArray, List.set_cons_zero, List.set_cons_succ]))
  refine SeqH.done ?_
  have HB2s := Lib.hid (show w.heap.size ≤ W1.drew.heap.size from HB2.out.2.2.2.size)
  clear HB HB2 HBC CPR HI
  by_cases hd : 0 < Lf.dN fr gn gm
  case neg =>
    have d1 : decide (0 < Lf.dN fr gn gm) = false := decide_eq_false hd
    have HE : Hid (Lf.bgI ls gs (P.map KV.x) i lo = none) := Lib.hid (by rw [HBG.out, if_neg (fun h => hd h.1)])
    clear HPK CKN CME HBG HNL HLATE hd
    generalize Lf.dN fr gn gm = D at *
    have z0 : World.cell? _ ⟨w.heap.size + 1, 0, none⟩ = some (.int .i64 0) := HB3.out.2.1.cell 0
    have f0 : World.frozen? _ ⟨w.heap.size + 1, 0, none⟩ = false := HB3.out.2.1.frozen 0
    have z1 : World.cell? _ ⟨w.heap.size + 1, 1, none⟩ = some (.int .i64 0) := HB3.out.2.1.cell 1
    have f1 : World.frozen? _ ⟨w.heap.size + 1, 1, none⟩ = false := HB3.out.2.1.frozen 1
    have z2 : World.cell? _ ⟨w.heap.size + 1, 2, none⟩ = some (.slice none 0 0) := HB3.out.2.1.cell 2
    have f2 : World.frozen? _ ⟨w.heap.size + 1, 2, none⟩ = false := HB3.out.2.1.frozen 2
    have z3 : World.cell? _ ⟨w.heap.size + 1, 3, none⟩ = some (.slice none 0 0) := HB3.out.2.1.cell 3
    have f3 : World.frozen? _ ⟨w.heap.size + 1, 3, none⟩ = false := HB3.out.2.1.frozen 3
    have z4 : World.cell? _ ⟨w.heap.size + 1, 4, none⟩ = some (.int .i64 0) := HB3.out.2.1.cell 4
    have f4 : World.frozen? _ ⟨w.heap.size + 1, 4, none⟩ = false := HB3.out.2.1.frozen 4
    have z5 : World.cell? _ ⟨w.heap.size + 1, 5, none⟩ = some (.int .i64 0) := HB3.out.2.1.cell 5
    have f5 : World.frozen? _ ⟨w.heap.size + 1, 5, none⟩ = false := HB3.out.2.1.frozen 5
    have z6 : World.cell? _ ⟨w.heap.size + 1, 6, none⟩ = some (.int .i64 0) := HB3.out.2.1.cell 6
    have f6 : World.frozen? _ ⟨w.heap.size + 1, 6, none⟩ = false := HB3.out.2.1.frozen 6
    have z7 : World.cell? _ ⟨w.heap.size + 1, 7, none⟩ = some (.int .i64 0) := HB3.out.2.1.cell 7
    have f7 : World.frozen? _ ⟨w.heap.size + 1, 7, none⟩ = false := HB3.out.2.1.frozen 7
    have z8 : World.cell? _ ⟨w.heap.size + 1, 8, none⟩ = some (.int .i64 0) := HB3.out.2.1.cell 8
    have f8 : World.frozen? _ ⟨w.heap.size + 1, 8, none⟩ = false := HB3.out.2.1.frozen 8
    have z9 : World.cell? _ ⟨w.heap.size + 1, 9, none⟩ = some (.int .i64 0) := HB3.out.2.1.cell 9
    have f9 : World.frozen? _ ⟨w.heap.size + 1, 9, none⟩ = false := HB3.out.2.1.frozen 9
    have z10 : World.cell? _ ⟨w.heap.size + 1, 10, none⟩ = some (.int .i64 0) := HB3.out.2.1.cell 10
    have f10 : World.frozen? _ ⟨w.heap.size + 1, 10, none⟩ = false := HB3.out.2.1.frozen 10
    have hlt1 : w.heap.size + 1 < _ := HB3.out.2.1.lt
    go_wp2
    obtain ⟨Y, hY⟩ : ∃ Z, (((((((((((w7.setCell ⟨w.heap.size + 1, 0, none⟩ (.int .i64 0)).setCell ⟨w.heap.size + 1, 1, none⟩ (.int .i64 0)).setCell ⟨w.heap.size + 1, 2, none⟩ (.slice none 0 0)).setCell ⟨w.heap.size + 1, 3, none⟩ (.slice none 0 0)).setCell ⟨w.heap.size + 1, 4, none⟩ (.int .i64 0)).setCell ⟨w.heap.size + 1, 5, none⟩ (.int .i64 0)).setCell ⟨w.heap.size + 1, 6, none⟩ (.int .i64 0)).setCell ⟨w.heap.size + 1, 7, none⟩ (.int .i64 0)).setCell ⟨w.heap.size + 1, 8, none⟩ (.int .i64 0)).setCell ⟨w.heap.size + 1, 9, none⟩ (.int .i64 0)).setCell ⟨w.heap.size + 1, 10, none⟩ (.int .i64 0)) = Z := ⟨_, rfl⟩
    rw [hY]
    obtain ⟨hY1, hYb, _⟩ := store11 (W := w7) (Y := Y) (B := w.heap.size + 1) (a0 := .int .i64 0) (a1 := .int .i64 0) (a2 := .slice none 0 0) (a3 := .slice none 0 0) (a4 := .int .i64 0) (a5 := .int .i64 0) (a6 := .int .i64 0) (a7 := .int .i64 0) (a8 := .int .i64 0) (a9 := .int .i64 0) (a10 := .int .i64 0) HB3.out.2.1 hY
    have hYw := hYb _ _ HB3.out.2.2.2 (by omega)
    clear hY hYb z0 f0 z1 f1 z2 f2 z3 f3 z4 f4 z5 f5 z6 f6 z7 f7 z8 f8 z9 f9 z10 f10
    have v0 : World.cell? _ _ = some (.int .i64 0) := hY1.cell 0
    have v1 : World.cell? _ _ = some (.int .i64 0) := hY1.cell 1
    have v2 : World.cell? _ _ = some (.slice none 0 0) := hY1.cell 2
    have v3 : World.cell? _ _ = some (.slice none 0 0) := hY1.cell 3
    have v4 : World.cell? _ _ = some (.int .i64 0) := hY1.cell 4
    have v5 : World.cell? _ _ = some (.int .i64 0) := hY1.cell 5
    have v6 : World.cell? _ _ = some (.int .i64 0) := hY1.cell 6
    have v7 : World.cell? _ _ = some (.int .i64 0) := hY1.cell 7
    have v8 : World.cell? _ _ = some (.int .i64 0) := hY1.cell 8
    have v9 : World.cell? _ _ = some (.int .i64 0) := hY1.cell 9
    have v10 : World.cell? _ _ = some (.int .i64 0) := hY1.cell 10
    refine bodyPost_ret (v := .tuple #[kV ⟨⟨0, 0, [], []⟩, .slice none 0 0, .slice none 0 0, 0, 0, ⟨0, 0, 0, 0, 0⟩⟩, .bool false]) (by simp [results, Try.results140, go_sem, v0, v1, v2, v3, v4, v5, v6, v7, v8, v9, v10]) rfl ⟨⟨⟨0, 0, [], []⟩, .slice none 0 0, .slice none 0 0, 0, 0, ⟨0, 0, 0, 0, 0⟩⟩, false, rfl, hYw, by rw [HE.out]; rfl, fun h => by (cases h), _, _, _, _, _, _, rfl, rfl⟩
  have d1 : decide (0 < Lf.dN fr gn gm) = true := decide_eq_true hd
  have HPO := HPK.out hd
  have HBG2 : Hid (Lf.bgI ls gs (P.map KV.x) i lo = if Lf.ckx ls gs (Lf.newL ls gs (P.map KV.x) i lo) = 0 then some (Lf.newL ls gs (P.map KV.x) i lo) else none) := Lib.hid (by
    rw [HBG.out]
    by_cases c : Lf.ckx ls gs (Lf.newL ls gs (P.map KV.x) i lo) = 0
    · rw [if_pos ⟨hd, c⟩, if_pos c]
    · rw [if_neg (fun h => c h.2), if_neg c])
  have hh12 := (Lf.vHt_iff.1 HPO.1).1
  have HVL : Hid (Lf.vLE ls gs ⟨lo, ga, Lf.prg fr gn gm, [(i : Int)]⟩ = 0) := Lib.hid (Lf.vLE_iff.2 ⟨⟨by show (0 : Int) ≤ (lo : Int); omega, by show (lo : Int) ≤ _; omega⟩, ⟨by show 0 ≤ ga; omega, by show ga ≤ 60; omega⟩, HPO.1, by show 0 < [(i : Int)].length; simp, Lf.stB_set.2 ⟨by show [(i : Int)].Pairwise _; simp, fun m hm => by
    have e : m = (i : Int) := by simpa using hm
    rw [e]; exact ⟨hn0, hn⟩⟩⟩)
  clear HPK HBG hd
  generalize Lf.dN fr gn gm = D at *
  generalize hH : Lf.prg fr gn gm = H at *
  obtain ⟨hl, hhl⟩ : ∃ hl, hl = H.length := ⟨_, rfl⟩
  rw [← hhl] at HO hh12 ⊢
  have HHL := Lib.hid hhl
  have HB13lt := Lib.hid (show w.heap.size + 2 < w7.heap.size from HB3.out.2.2.1.lt)
  have HBN := Lib.hid (World.ownsRow_lit (base := w.heap.size) (e := 3) (size := 1) w7 #[.int .i64 (i : Int)] 1 HB3.out.2.2.2.size (by unfold maxLen; omega) rfl)
  have HB4 := Lib.hid (HB3.out.step (below_alloc2 (Below.refl w7.heap.size w7) (.cells #[.int .i64 (i : Int)] 3)))
  have HO4 := Lib.hid (show OwnI w.heap.size (w7.alloc (.cells #[.int .i64 (i : Int)] 3)) (.slice ha hl hc) H from by
    exact (HO.out.mono (B := w.heap.size) HB2s.out).alloc _)
  clear hhl
  obtain ⟨BN, hBN⟩ : ∃ B, B = w7.heap.size := ⟨_, rfl⟩
  rw [← hBN] at HBN
  have HEB := Lib.hid hBN
  clear hBN
  have CK1 := Lib.hid (CKN.out ⟨lo, ga, H, [(i : Int)]⟩ (.slice ha hl hc) (.slice (some ⟨BN, 0, none⟩) 1 1) _ HB4.out.2.2.2 (OwnI.ints (by have h1 := HO4.out; rw [HHL.out] at h1; rw [HHL.out]; exact h1)) (OwnI.ints (show OwnI w.heap.size _ _ [(i : Int)] from HBN.out)) HVL.out)
  have HTK : Hid (∀ X : Lf.G, True) := Lib.hid (fun _ => trivial)
  have HVN : Hid ((Lf.fat ls (lo : Int)).p = fp ∧ Lf.wm (Lf.fat ls (lo : Int)).rs H H.length = Lf.wm fr H H.length) := Lib.hid ⟨by rw [HFA.out], by rw [HFA.out]⟩
  dsimp only at CK1
  rw [HFA.out] at CK1
  dsimp only at CK1
  have HKN : Hid (∀ a : Int, KvN ls gs ⟨⟨lo, a, H, [(i : Int)]⟩, .slice ha hl hc, .slice (some ⟨BN, 0, none⟩) 1 1, fp, Lf.wm fr H H.length, Lf.togA gs [(i : Int)]⟩) := Lib.hid (fun a => ⟨by rw [HFA.out], by rw [HFA.out], rfl⟩)
  have HCX : Hid (∀ a : Int, Lf.ckx ls gs ⟨lo, a, H, [(i : Int)]⟩ = if fp < (Lf.togA gs [(i : Int)]).p then 6 else if a < (Lf.togA gs [(i : Int)]).a then 7 else if Lf.rng (Lf.togA gs [(i : Int)]).n (Lf.togA gs [(i : Int)]).m (Lf.wm fr H H.length) = true then (if (Lf.togA gs [(i : Int)]).u < a + (H.length : Int) then 12 else 0) else 9) := Lib.hid (fun a => by
    show Lf.ckE _ _ _ _ _ = _
    rw [HFA.out]; rfl)
  clear CKN HVL HVN HTK HFA
  generalize Lf.wm fr H H.length = M at *
  generalize Lf.togA gs [(i : Int)] = T at *
  obtain ⟨tp, tn, tm, ta, tu⟩ := T
  dsimp only at *
  rw [← HHL.out] at HCX
  have d0 : World.cell? _ _ = some (.slice (some ⟨fb, fo, none⟩) ls.length uc) := HB3.out.1.cell 0
  have d2 : World.cell? _ _ = some (.slice (some ⟨gb, go, none⟩) gs.length vc) := HB3.out.1.cell 1
  have d3 : World.cell? _ _ = some (.int .i64 ga) := HB3.out.2.2.1.cell 3
  go_wp2_with fail
  rw [← HEB.out]
  refine CK1.out.mono ?_
  rintro e w8 ⟨rfl, hb1⟩
  have hb2 := below_alloc2 hb1 (.cells (kA ⟨⟨lo, ga, H, [(i : Int)]⟩, .slice ha hl hc, .slice (some ⟨BN, 0, none⟩) 1 1, fp, M, ⟨tp, tn, tm, ta, tu⟩⟩) KvT)
  have HX0 := Lib.hid (And.intro (HB4.out.step hb2) (And.intro (BlockAt.new w8 (kA ⟨⟨lo, ga, H, [(i : Int)]⟩, .slice ha hl hc, .slice (some ⟨BN, 0, none⟩) 1 1, fp, M, ⟨tp, tn, tm, ta, tu⟩⟩) KvT) (And.intro (HO4.out.all hb2) ((show OwnI w.heap.size _ _ [(i : Int)] from HBN.out).all hb2))))
  have HSZ := Lib.hid (show w7.heap.size + 1 ≤ w8.heap.size from by have := hb1.size; simpa using this)
  clear hb1 hb2 d0 d2 d3 CK1 HB3 HB4 HO HO4 HBN
  obtain ⟨B13, hB13⟩ : ∃ B, B = w8.heap.size := ⟨_, rfl⟩
  rw [← hB13] at HX0
  have HE13 := Lib.hid hB13
  clear hB13
  have hlt13 : w.heap.size + 2 < B13 := by
    have h1 := HB13lt.out
    have h2 := HSZ.out
    have h3 := HE13.out
    omega
  go_wp2
  rw [← HE13.out]
  obtain ⟨W9, hW9⟩ : ∃ W, W = w8.alloc (.cells (kA ⟨⟨lo, ga, H, [(i : Int)]⟩, .slice ha hl hc, .slice (some ⟨BN, 0, none⟩) 1 1, fp, M, ⟨tp, tn, tm, ta, tu⟩⟩) KvT) := ⟨_, rfl⟩
  rw [← hW9] at HX0
  rw [show w8.alloc (.cells (kA ⟨⟨lo, ga, H, [(i : Int)]⟩, .slice ha hl hc, .slice (some ⟨BN, 0, none⟩) 1 1, fp, M, ⟨tp, tn, tm, ta, tu⟩⟩) KvT) = W9 from hW9.symm]
  clear hW9 HE13 HEB HSZ
  have HMM := Lib.hid (fun W (a : Int) (h : BlockAt W B13 (kA ⟨⟨lo, a, H, [(i : Int)]⟩, .slice ha hl hc, .slice (some ⟨BN, 0, none⟩) 1 1, fp, M, ⟨tp, tn, tm, ta, tu⟩⟩) KvT) => show memI W B13 1 = a from by unfold memI; rw [h.cell 1]; rfl)
  have HMC : Hid (∀ a : Int, Lf.mC (P.map KV.x) lo H [(i : Int)] a = P.any (fun y => Lf.mts ⟨lo, a, H, [(i : Int)]⟩ y.x)) := Lib.hid (fun a => by unfold Lf.mC; rw [List.any_map]; rfl)
  have HFM := Lib.hid (fun (k : Nat) (a : Int) (h : Lf.mC (P.map KV.x) lo H [(i : Int)] a = true) => Lf.fr_more (c := Lf.mC (P.map KV.x) lo H [(i : Int)]) k a h)
  have HFS := Lib.hid (fun (k : Nat) (a : Int) (h : Lf.mC (P.map KV.x) lo H [(i : Int)] a = false) => fr_stop (c := Lf.mC (P.map KV.x) lo H [(i : Int)]) k a h)
  have HLT := Lib.hid (fun (a : Int) (h : Lf.mC (P.map KV.x) lo H [(i : Int)] a = true) => show a < 60 from Int.not_le.1 fun hc => by rw [HLATE.out H [(i : Int)] a hc] at h; cases h)
  obtain ⟨N, hN⟩ : ∃ N, N = Lf.fr (Lf.mC (P.map KV.x) lo H [(i : Int)]) 61 ga := ⟨_, rfl⟩
  rw [← hN] at HNL
  have HN0 := Lib.hid hN
  clear HLATE hN
  go_loopw [] (fun wr => ∃ (j : Nat), j ≤ 61 ∧ Hid (N = Lf.fr (Lf.mC (P.map KV.x) lo H [(i : Int)]) (61 - j) (ga + (j : Int)) ∧ BgS w (.slice (some ⟨fb, fo, none⟩) ls.length uc) (.slice (some ⟨gb, go, none⟩) gs.length vc) ⟨gp, gn, gm, ga, gu⟩ wr ∧ BlockAt wr B13 (kA ⟨⟨lo, (ga + (j : Int)), H, [(i : Int)]⟩, .slice ha hl hc, .slice (some ⟨BN, 0, none⟩) 1 1, fp, M, ⟨tp, tn, tm, ta, tu⟩⟩) KvT ∧ OwnI w.heap.size wr (.slice ha hl hc) H ∧ OwnI w.heap.size wr (.slice (some ⟨BN, 0, none⟩) 1 1) [(i : Int)])) (fun wr => (1000 - memI wr B13 1).toNat)
  case atStart => exact ⟨0, by omega, Lib.hid ⟨by rw [HN0.out]; simp, HX0.out.1, by simpa using HX0.out.2.1, HX0.out.2.2.1, HX0.out.2.2.2⟩⟩
  case round =>
    obtain ⟨j, hj, hg⟩ := hrel
    clear HX0 HN0
    obtain ⟨a, ha9⟩ : ∃ a, a = ga + (j : Int) := ⟨_, rfl⟩
    rw [← ha9] at hg
    have hab : 0 ≤ a ∧ a ≤ 121 := by omega
    have HAJ := Lib.hid ha9
    have hKW : KvW wr ⟨⟨lo, a, H, [(i : Int)]⟩, .slice ha hl hc, .slice (some ⟨BN, 0, none⟩) 1 1, fp, M, ⟨tp, tn, tm, ta, tu⟩⟩ := ⟨⟨OwnI.ints (by have h1 := hg.out.2.2.2.1; rw [HHL.out] at h1; rw [HHL.out]; exact h1), OwnI.ints hg.out.2.2.2.2⟩, ⟨by show 0 ≤ a; omega, by show a ≤ 1000; omega⟩, by show H.length ≤ 1000; rw [← HHL.out]; omega, by show [(i : Int)].length ≤ 1000; simp⟩
    have CM := Lib.hid (CME.out ⟨⟨lo, a, H, [(i : Int)]⟩, .slice ha hl hc, .slice (some ⟨BN, 0, none⟩) 1 1, fp, M, ⟨tp, tn, tm, ta, tu⟩⟩ wr hg.out.2.1.2.2.2 hKW)
    dsimp only at CM
    rw [← HMC.out a] at CM
    have HG := Lib.hid hg.out
    clear hg hKW ha9
    have HFMa := Lib.hid (HFM.out (60 - j) a)
    have HFSa := Lib.hid (HFS.out (61 - j) a)
    have HLTa := Lib.hid (HLT.out a)
    generalize Lf.mC (P.map KV.x) lo H [(i : Int)] a = c at *
    have k0 : World.cell? _ _ = some (.int .i64 (lo : Int)) := HG.out.2.2.1.cell 0
    have k1 : World.cell? _ _ = some (.int .i64 a) := HG.out.2.2.1.cell 1
    have k2 : World.cell? _ _ = some (.slice ha hl hc) := HG.out.2.2.1.cell 2
    have k3 : World.cell? _ _ = some (.slice (some ⟨BN, 0, none⟩) 1 1) := HG.out.2.2.1.cell 3
    have k4 : World.cell? _ _ = some (.int .i64 fp) := HG.out.2.2.1.cell 4
    have k5 : World.cell? _ _ = some (.int .i64 M) := HG.out.2.2.1.cell 5
    have k6 : World.cell? _ _ = some (.int .i64 tp) := HG.out.2.2.1.cell 6
    have k7 : World.cell? _ _ = some (.int .i64 tn) := HG.out.2.2.1.cell 7
    have k8 : World.cell? _ _ = some (.int .i64 tm) := HG.out.2.2.1.cell 8
    have k9 : World.cell? _ _ = some (.int .i64 ta) := HG.out.2.2.1.cell 9
    have k10 : World.cell? _ _ = some (.int .i64 tu) := HG.out.2.2.1.cell 10
    go_wp2_with fail
    refine CM.out.mono ?_
    rintro e w5 ⟨rfl, hb1⟩
    have HG1 := Lib.hid (show N = Lf.fr (Lf.mC (P.map KV.x) lo H [(i : Int)]) (61 - j) a ∧ BgS w (.slice (some ⟨fb, fo, none⟩) ls.length uc) (.slice (some ⟨gb, go, none⟩) gs.length vc) ⟨gp, gn, gm, ga, gu⟩ w5 ∧ BlockAt w5 B13 (kA ⟨⟨lo, a, H, [(i : Int)]⟩, .slice ha hl hc, .slice (some ⟨BN, 0, none⟩) 1 1, fp, M, ⟨tp, tn, tm, ta, tu⟩⟩) KvT ∧ OwnI w.heap.size w5 (.slice ha hl hc) H ∧ OwnI w.heap.size w5 (.slice (some ⟨BN, 0, none⟩) 1 1) [(i : Int)] from
      ⟨HG.out.1, HG.out.2.1.step hb1, HG.out.2.2.1.below hb1 HG.out.2.2.1.lt, HG.out.2.2.2.1.all hb1, HG.out.2.2.2.2.all hb1⟩)
    clear hb1 k0 k1 k2 k3 k4 k5 k6 k7 k8 k9 k10 CM
    cases c
    case true =>
      have hlt60 := HLTa.out rfl
      have hj60 : j ≤ 59 := by have := HAJ.out; omega
      have HNX : Hid (N = Lf.fr (Lf.mC (P.map KV.x) lo H [(i : Int)]) (61 - (j + 1)) (a + 1)) := Lib.hid (by
        rw [HG1.out.1, show 61 - j = (60 - j) + 1 by omega, HFMa.out rfl, show 60 - j = 61 - (j + 1) by omega])
      have k1 : World.cell? _ _ = some (.int .i64 a) := HG1.out.2.2.1.cell 1
      have f1 := HG1.out.2.2.1.frozen 1
      have g9 : IntKind.i64.wrap (a + 1) = a + 1 := IntWalk.i64_in _ ⟨by omega, by omega⟩
      have hsz13 := HG1.out.2.2.1.lt
      have HST := Lib.hid (show BgS w (.slice (some ⟨fb, fo, none⟩) ls.length uc) (.slice (some ⟨gb, go, none⟩) gs.length vc) ⟨gp, gn, gm, ga, gu⟩ (w5.setCell ⟨B13, 1, none⟩ (.int .i64 (a + 1))) ∧ BlockAt (w5.setCell ⟨B13, 1, none⟩ (.int .i64 (a + 1))) B13 (kA ⟨⟨lo, (a + 1), H, [(i : Int)]⟩, .slice ha hl hc, .slice (some ⟨BN, 0, none⟩) 1 1, fp, M, ⟨tp, tn, tm, ta, tu⟩⟩) KvT from
        ⟨⟨HG1.out.2.1.1.other (by omega) _, HG1.out.2.1.2.1.other (by omega) _, HG1.out.2.1.2.2.1.other (by omega) _, below_set HG1.out.2.1.2.2.2 (by omega) _⟩, HG1.out.2.2.1.set 1 _⟩)
      have HOB := Lib.hid (show OwnI w.heap.size (w5.setCell ⟨B13, 1, none⟩ (.int .i64 (a + 1))) (.slice ha hl hc) H ∧ OwnI w.heap.size (w5.setCell ⟨B13, 1, none⟩ (.int .i64 (a + 1))) (.slice (some ⟨BN, 0, none⟩) 1 1) [(i : Int)] from ⟨ownI_set HG1.out.2.2.1 HG1.out.2.2.2.1 1 _, ownI_set HG1.out.2.2.1 HG1.out.2.2.2.2 1 _⟩)
      have HM0 := Lib.hid (HMM.out wr a HG.out.2.2.1)
      have HM1 := Lib.hid (HMM.out _ (a + 1) HST.out.2)
      go_wp2
      go_roundw
      case rel => exact ⟨j + 1, by omega, Lib.hid (by rw [show ga + ((j + 1 : Nat) : Int) = a + 1 by have := HAJ.out; omega]; exact ⟨HNX.out, HST.out.1, HST.out.2, HOB.out.1, HOB.out.2⟩)⟩
      case measure => rw [HM1.out, HM0.out]; omega
    have HNA : Hid (N = a) := Lib.hid (by rw [HG1.out.1, HFSa.out rfl])
    have HCC := Lib.hid (checkK_any lo a ha hl hc (.slice (some ⟨BN, 0, none⟩) 1 1) fp M ⟨tp, tn, tm, ta, tu⟩ w5.drew ⟨by omega, by omega⟩ (by omega))
    dsimp only at HCC
    rw [← HCX.out a] at HCC
    have HBG3 : Hid (Lf.bgI ls gs (P.map KV.x) i lo = if Lf.ckx ls gs ⟨lo, a, H, [(i : Int)]⟩ = 0 then some ⟨lo, a, H, [(i : Int)]⟩ else none) := Lib.hid (by rw [HBG2.out, HNL.out, HNA.out])
    clear HCX HBG2 HNL HNA HFM HFS HLT HFMa HFSa HLTa HMM HMC CME
    generalize Lf.ckx ls gs ⟨lo, a, H, [(i : Int)]⟩ = C at *
    obtain ⟨b, hb⟩ : ∃ b, decide (C = 0) = b := ⟨_, rfl⟩
    have hb2 : (C == 0) = b := by rw [← hb]; rfl
    have HBG4 : Hid (Lf.bgI ls gs (P.map KV.x) i lo = if b = true then some ⟨lo, a, H, [(i : Int)]⟩ else none) := Lib.hid (by
      rw [HBG3.out, ← hb]
      by_cases c : C = 0
      · rw [if_pos c, if_pos (decide_eq_true c)]
      · rw [if_neg c, if_neg (by simpa using c)])
    clear HBG3
    have HS0 := Lib.hid (show (fun W => W.cell? ⟨B13, 0, none⟩ = some (.int .i64 (lo : Int)) ∧ W.cell? ⟨B13, 1, none⟩ = some (.int .i64 a) ∧ W.cell? ⟨B13, 2, none⟩ = some (.slice ha hl hc) ∧ W.cell? ⟨B13, 3, none⟩ = some (.slice (some ⟨BN, 0, none⟩) 1 1) ∧ W.cell? ⟨B13, 4, none⟩ = some (.int .i64 fp) ∧ W.cell? ⟨B13, 5, none⟩ = some (.int .i64 M) ∧ W.cell? ⟨B13, 6, none⟩ = some (.int .i64 tp) ∧ W.cell? ⟨B13, 7, none⟩ = some (.int .i64 tn) ∧ W.cell? ⟨B13, 8, none⟩ = some (.int .i64 tm) ∧ W.cell? ⟨B13, 9, none⟩ = some (.int .i64 ta) ∧ W.cell? ⟨B13, 10, none⟩ = some (.int .i64 tu)) w5.drew from ⟨HG1.out.2.2.1.drew.cell 0, HG1.out.2.2.1.drew.cell 1, HG1.out.2.2.1.drew.cell 2, HG1.out.2.2.1.drew.cell 3, HG1.out.2.2.1.drew.cell 4, HG1.out.2.2.1.drew.cell 5, HG1.out.2.2.1.drew.cell 6, HG1.out.2.2.1.drew.cell 7, HG1.out.2.2.1.drew.cell 8, HG1.out.2.2.1.drew.cell 9, HG1.out.2.2.1.drew.cell 10⟩)
    have HGD := Lib.hid (show BgS w (.slice (some ⟨fb, fo, none⟩) ls.length uc) (.slice (some ⟨gb, go, none⟩) gs.length vc) ⟨gp, gn, gm, ga, gu⟩ w5.drew ∧ BlockAt w5.drew B13 (kA ⟨⟨lo, a, H, [(i : Int)]⟩, .slice ha hl hc, .slice (some ⟨BN, 0, none⟩) 1 1, fp, M, ⟨tp, tn, tm, ta, tu⟩⟩) KvT ∧ OwnI w.heap.size w5.drew (.slice ha hl hc) H ∧ OwnI w.heap.size w5.drew (.slice (some ⟨BN, 0, none⟩) 1 1) [(i : Int)] from ⟨HG1.out.2.1.drew, HG1.out.2.2.1.drew, HG1.out.2.2.2.1, HG1.out.2.2.2.2⟩)
    go_wp2_with fail
    refine wp_region_seq [(0, true), (1, true), (2, false), (3, true), (4, false), (5, true)] (fun W => W.cell? ⟨B13, 0, none⟩ = some (.int .i64 (lo : Int)) ∧ W.cell? ⟨B13, 1, none⟩ = some (.int .i64 a) ∧ W.cell? ⟨B13, 2, none⟩ = some (.slice ha hl hc) ∧ W.cell? ⟨B13, 3, none⟩ = some (.slice (some ⟨BN, 0, none⟩) 1 1) ∧ W.cell? ⟨B13, 4, none⟩ = some (.int .i64 fp) ∧ W.cell? ⟨B13, 5, none⟩ = some (.int .i64 M) ∧ W.cell? ⟨B13, 6, none⟩ = some (.int .i64 tp) ∧ W.cell? ⟨B13, 7, none⟩ = some (.int .i64 tn) ∧ W.cell? ⟨B13, 8, none⟩ = some (.int .i64 tm) ∧ W.cell? ⟨B13, 9, none⟩ = some (.int .i64 ta) ∧ W.cell? ⟨B13, 10, none⟩ = some (.int .i64 tu))
      (by kernel_rfl) (by kernel_rfl) (by kernel_rfl) (by kernel_rfl) (fun d _ _ _ _ h => by cases d <;> exact h) HS0.out (fun _ => ?_)

    repeat (first | (refine SeqH.take (v := ?_) rfl (by rfl) ?_ ?_; rotate_left; (· intro w hSw; (try dsimp only at hSw); obtain ⟨q0, q1, q2, q3, q4, q5, q6, q7, q8, q9, q10⟩ := hSw; go_simp; (try with_reducible rfl)); simp only [Act.put, List.setIfInBounds_toArray, List.set_cons_zero, List.set_cons_succ]) | (refine SeqH.skip rfl (by rfl) ?_; simp only [Act.put, List.setIfInBounds_toArray, List.set_cons_zero, List.set_cons_succ]))
    refine SeqH.step rfl (by rfl) (fun K hK => ?_)
    go_simp
    go_at_call 87
    refine (HCC.out).mono ?_
    rintro e w7 ⟨rfl, hb1⟩
    try dsimp only
    have HGE := Lib.hid (show BgS w (.slice (some ⟨fb, fo, none⟩) ls.length uc) (.slice (some ⟨gb, go, none⟩) gs.length vc) ⟨gp, gn, gm, ga, gu⟩ w7 ∧ BlockAt w7 B13 (kA ⟨⟨lo, a, H, [(i : Int)]⟩, .slice ha hl hc, .slice (some ⟨BN, 0, none⟩) 1 1, fp, M, ⟨tp, tn, tm, ta, tu⟩⟩) KvT ∧ OwnI w.heap.size w7 (.slice ha hl hc) H ∧ OwnI w.heap.size w7 (.slice (some ⟨BN, 0, none⟩) 1 1) [(i : Int)] from ⟨HGD.out.1.step hb1, HGD.out.2.1.below hb1 HGD.out.2.1.lt, HGD.out.2.2.1.all hb1, HGD.out.2.2.2.all hb1⟩)
    clear hb1 HCC
    refine hK.out _ _ (⟨HGE.out.2.1.cell 0, HGE.out.2.1.cell 1, HGE.out.2.1.cell 2, HGE.out.2.1.cell 3, HGE.out.2.1.cell 4, HGE.out.2.1.cell 5, HGE.out.2.1.cell 6, HGE.out.2.1.cell 7, HGE.out.2.1.cell 8, HGE.out.2.1.cell 9, HGE.out.2.1.cell 10⟩) (fun _ => ?_)
    clear hK K
    try simp only [Act.put, List.setIfInBounds_toArray, List.set_cons_zero, List.set_cons_succ]

    repeat (first | (refine SeqH.take (v := ?_) rfl (by rfl) ?_ ?_; rotate_left; (· intro w hSw; (try dsimp only at hSw); obtain ⟨q0, q1, q2, q3, q4, q5, q6, q7, q8, q9, q10⟩ := hSw; go_simp; (try with_reducible rfl)); simp only [Act.put, List.setIfInBounds_toArray, List.set_cons_zero, List.set_cons_succ]) | (refine SeqH.skip rfl (by rfl) ?_; simp only [Act.put, List.setIfInBounds_toArray, List.set_cons_zero, List.set_cons_succ]))
    have z0 : World.cell? _ ⟨w.heap.size + 1, 0, none⟩ = some (.int .i64 0) := HGE.out.1.2.1.cell 0
    have f0 : World.frozen? _ ⟨w.heap.size + 1, 0, none⟩ = false := HGE.out.1.2.1.frozen 0
    have z1 : World.cell? _ ⟨w.heap.size + 1, 1, none⟩ = some (.int .i64 0) := HGE.out.1.2.1.cell 1
    have f1 : World.frozen? _ ⟨w.heap.size + 1, 1, none⟩ = false := HGE.out.1.2.1.frozen 1
    have z2 : World.cell? _ ⟨w.heap.size + 1, 2, none⟩ = some (.slice none 0 0) := HGE.out.1.2.1.cell 2
    have f2 : World.frozen? _ ⟨w.heap.size + 1, 2, none⟩ = false := HGE.out.1.2.1.frozen 2
    have z3 : World.cell? _ ⟨w.heap.size + 1, 3, none⟩ = some (.slice none 0 0) := HGE.out.1.2.1.cell 3
    have f3 : World.frozen? _ ⟨w.heap.size + 1, 3, none⟩ = false := HGE.out.1.2.1.frozen 3
    have z4 : World.cell? _ ⟨w.heap.size + 1, 4, none⟩ = some (.int .i64 0) := HGE.out.1.2.1.cell 4
    have f4 : World.frozen? _ ⟨w.heap.size + 1, 4, none⟩ = false := HGE.out.1.2.1.frozen 4
    have z5 : World.cell? _ ⟨w.heap.size + 1, 5, none⟩ = some (.int .i64 0) := HGE.out.1.2.1.cell 5
    have f5 : World.frozen? _ ⟨w.heap.size + 1, 5, none⟩ = false := HGE.out.1.2.1.frozen 5
    have z6 : World.cell? _ ⟨w.heap.size + 1, 6, none⟩ = some (.int .i64 0) := HGE.out.1.2.1.cell 6
    have f6 : World.frozen? _ ⟨w.heap.size + 1, 6, none⟩ = false := HGE.out.1.2.1.frozen 6
    have z7 : World.cell? _ ⟨w.heap.size + 1, 7, none⟩ = some (.int .i64 0) := HGE.out.1.2.1.cell 7
    have f7 : World.frozen? _ ⟨w.heap.size + 1, 7, none⟩ = false := HGE.out.1.2.1.frozen 7
    have z8 : World.cell? _ ⟨w.heap.size + 1, 8, none⟩ = some (.int .i64 0) := HGE.out.1.2.1.cell 8
    have f8 : World.frozen? _ ⟨w.heap.size + 1, 8, none⟩ = false := HGE.out.1.2.1.frozen 8
    have z9 : World.cell? _ ⟨w.heap.size + 1, 9, none⟩ = some (.int .i64 0) := HGE.out.1.2.1.cell 9
    have f9 : World.frozen? _ ⟨w.heap.size + 1, 9, none⟩ = false := HGE.out.1.2.1.frozen 9
    have z10 : World.cell? _ ⟨w.heap.size + 1, 10, none⟩ = some (.int .i64 0) := HGE.out.1.2.1.cell 10
    have f10 : World.frozen? _ ⟨w.heap.size + 1, 10, none⟩ = false := HGE.out.1.2.1.frozen 10
    have hlt1 : w.heap.size + 1 < _ := HGE.out.1.2.1.lt
    refine SeqH.step rfl (by rfl) (fun K hK => ?_)
    go_simp
    obtain ⟨Y, hY⟩ : ∃ Z, (((((((((((w7.setCell ⟨w.heap.size + 1, 0, none⟩ (.int .i64 (lo : Int))).setCell ⟨w.heap.size + 1, 1, none⟩ (.int .i64 a)).setCell ⟨w.heap.size + 1, 2, none⟩ (.slice ha hl hc)).setCell ⟨w.heap.size + 1, 3, none⟩ (.slice (some ⟨BN, 0, none⟩) 1 1)).setCell ⟨w.heap.size + 1, 4, none⟩ (.int .i64 fp)).setCell ⟨w.heap.size + 1, 5, none⟩ (.int .i64 M)).setCell ⟨w.heap.size + 1, 6, none⟩ (.int .i64 tp)).setCell ⟨w.heap.size + 1, 7, none⟩ (.int .i64 tn)).setCell ⟨w.heap.size + 1, 8, none⟩ (.int .i64 tm)).setCell ⟨w.heap.size + 1, 9, none⟩ (.int .i64 ta)).setCell ⟨w.heap.size + 1, 10, none⟩ (.int .i64 tu)) = Z := ⟨_, rfl⟩
    rw [hY]
    obtain ⟨hY1, hYb, hYk⟩ := store11 (W := w7) (Y := Y) (B := w.heap.size + 1) (a0 := .int .i64 (lo : Int)) (a1 := .int .i64 a) (a2 := .slice ha hl hc) (a3 := .slice (some ⟨BN, 0, none⟩) 1 1) (a4 := .int .i64 fp) (a5 := .int .i64 M) (a6 := .int .i64 tp) (a7 := .int .i64 tn) (a8 := .int .i64 tm) (a9 := .int .i64 ta) (a10 := .int .i64 tu) HGE.out.1.2.1 hY
    have hYw := hYb _ _ HGE.out.1.2.2.2 (by omega)
    have hY13 := hYk _ _ _ HGE.out.2.1 (by omega)
    have hYo : OwnI w.heap.size Y (.slice ha hl hc) H ∧ OwnI w.heap.size Y (.slice (some ⟨BN, 0, none⟩) 1 1) [(i : Int)] := by
      rw [← hY]
      exact ⟨ownI_sets HGE.out.1.2.1 HGE.out.2.2.1 0 [.int .i64 (lo : Int), .int .i64 a, .slice ha hl hc, .slice (some ⟨BN, 0, none⟩) 1 1, .int .i64 fp, .int .i64 M, .int .i64 tp, .int .i64 tn, .int .i64 tm, .int .i64 ta, .int .i64 tu], ownI_sets HGE.out.1.2.1 HGE.out.2.2.2 0 [.int .i64 (lo : Int), .int .i64 a, .slice ha hl hc, .slice (some ⟨BN, 0, none⟩) 1 1, .int .i64 fp, .int .i64 M, .int .i64 tp, .int .i64 tn, .int .i64 tm, .int .i64 ta, .int .i64 tu]⟩
    try dsimp only
    refine hK.out _ _ (⟨hY13.cell 0, hY13.cell 1, hY13.cell 2, hY13.cell 3, hY13.cell 4, hY13.cell 5, hY13.cell 6, hY13.cell 7, hY13.cell 8, hY13.cell 9, hY13.cell 10⟩) (fun _ => ?_)
    clear hK K hY hYb hYk z0 f0 z1 f1 z2 f2 z3 f3 z4 f4 z5 f5 z6 f6 z7 f7 z8 f8 z9 f9 z10 f10
    have HY := Lib.hid (And.intro hY1 (And.intro hYw hYo))
    clear hY1 hYw hYo hY13
    try simp only [Act.put, List.setIfInBounds_toArray, List.set_cons_zero, List.set_cons_succ]
    repeat (first | (refine SeqH.take (v := ?_) rfl (by rfl) ?_ ?_; rotate_left; (· intro w hSw; (try dsimp only at hSw); obtain ⟨q0, q1, q2, q3, q4, q5, q6, q7, q8, q9, q10⟩ := hSw; go_simp; (try with_reducible rfl)); simp only [Act.put, List.setIfInBounds_toArray, List.set_cons_zero, List.set_cons_succ]) | (refine SeqH.skip rfl (by rfl) ?_; simp only [Act.put, List.setIfInBounds_toArray, List.set_cons_zero, List.set_cons_succ]))
    refine SeqH.done ?_
    go_wp2
    have v0 : World.cell? _ ⟨w.heap.size + 1, 0, none⟩ = some (.int .i64 (lo : Int)) := HY.out.1.cell 0
    have v1 : World.cell? _ ⟨w.heap.size + 1, 1, none⟩ = some (.int .i64 a) := HY.out.1.cell 1
    have v2 : World.cell? _ ⟨w.heap.size + 1, 2, none⟩ = some (.slice ha hl hc) := HY.out.1.cell 2
    have v3 : World.cell? _ ⟨w.heap.size + 1, 3, none⟩ = some (.slice (some ⟨BN, 0, none⟩) 1 1) := HY.out.1.cell 3
    have v4 : World.cell? _ ⟨w.heap.size + 1, 4, none⟩ = some (.int .i64 fp) := HY.out.1.cell 4
    have v5 : World.cell? _ ⟨w.heap.size + 1, 5, none⟩ = some (.int .i64 M) := HY.out.1.cell 5
    have v6 : World.cell? _ ⟨w.heap.size + 1, 6, none⟩ = some (.int .i64 tp) := HY.out.1.cell 6
    have v7 : World.cell? _ ⟨w.heap.size + 1, 7, none⟩ = some (.int .i64 tn) := HY.out.1.cell 7
    have v8 : World.cell? _ ⟨w.heap.size + 1, 8, none⟩ = some (.int .i64 tm) := HY.out.1.cell 8
    have v9 : World.cell? _ ⟨w.heap.size + 1, 9, none⟩ = some (.int .i64 ta) := HY.out.1.cell 9
    have v10 : World.cell? _ ⟨w.heap.size + 1, 10, none⟩ = some (.int .i64 tu) := HY.out.1.cell 10
    refine bodyPost_ret (v := .tuple #[kV ⟨⟨lo, a, H, [(i : Int)]⟩, .slice ha hl hc, .slice (some ⟨BN, 0, none⟩) 1 1, fp, M, ⟨tp, tn, tm, ta, tu⟩⟩, .bool b]) (by simp [results, Try.results140, go_sem, v0, v1, v2, v3, v4, v5, v6, v7, v8, v9, v10]) rfl ⟨⟨⟨lo, a, H, [(i : Int)]⟩, .slice ha hl hc, .slice (some ⟨BN, 0, none⟩) 1 1, fp, M, ⟨tp, tn, tm, ta, tu⟩⟩, b, rfl, HY.out.2.1, HBG4.out, fun _ => ⟨⟨by have h1 := HY.out.2.2.1; rw [HHL.out] at h1; rw [HHL.out]; exact h1, HY.out.2.2.2⟩, HKN.out a⟩, _, _, _, _, _, _, rfl, rfl⟩
end Go.Proofs.Ytabfcnfddemblaa.Lo
