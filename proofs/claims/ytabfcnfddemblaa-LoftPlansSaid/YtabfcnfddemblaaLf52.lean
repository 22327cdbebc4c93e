/- The best new load for goods: of the program. -/
import Derived.Test.YtabfcnfddemblaaLf51
namespace Go.Proofs.Ytabfcnfddemblaa.Lo
open Go.RowKit

theorem setsA11c (a0 a1 a2 a3 a4 a5 a6 a7 a8 a9 a10 c0 c1 c2 c3 c4 c5 c6 c7 c8 c9 c10 : Value) : setsA #[c0, c1, c2, c3, c4, c5, c6, c7, c8, c9, c10] 0 [a0, a1, a2, a3, a4, a5, a6, a7, a8, a9, a10] = #[a0, a1, a2, a3, a4, a5, a6, a7, a8, a9, a10] := by simp [setsA]
theorem store11c {W Y : World} {B : Nat} {k k2 : KV} (h : BlockAt W B (kA k) KvT) (hY : setsW W B 0 (kvC k2) = Y) :
    BlockAt Y B (kA k2) KvT ∧ (∀ N A, Below N A W → N ≤ B → Below N A Y) ∧ (∀ B2 cs t, BlockAt W B2 cs t → B2 ≠ B → BlockAt Y B2 cs t) ∧ ∀ base v xs, OwnI base W v xs → OwnI base Y v xs := by
  subst hY
  refine ⟨?_, fun N A hA hN => setsW_below hN _ 0 W hA, fun B2 cs t h2 hne => setsW_other hne _ 0 W h2, fun base v xs ho => ownI_sets h ho 0 _⟩
  have := setsW_block (kvC k2) 0 W (kA k) h
  unfold kvC at this ⊢
  rw [setsA11c] at this
  exact this
/-- A demand, a result and the best load so far in boxes. -/
def BeS (w : World) (u v : Value) (k : KV) (W : World) : Prop := BlockAt W w.heap.size #[u, v] DemT ∧ BlockAt W (w.heap.size + 1) (kA (⟨⟨0, 0, [], []⟩, .slice none 0 0, .slice none 0 0, 0, 0, ⟨0, 0, 0, 0, 0⟩⟩ : KV)) KvT ∧ BlockAt W (w.heap.size + 2) (kA k) KvT ∧ Below w.heap.size w W
theorem BeS.step {w : World} {u v : Value} {k : KV} {W W2 : World} (h : BeS w u v k W) (hb : Below W.heap.size W W2) : BeS w u v k W2 := ⟨h.1.below hb h.1.lt, h.2.1.below hb h.2.1.lt, h.2.2.1.below hb h.2.2.1.lt, below_step h.2.2.2 hb⟩
theorem BeS.drew {w : World} {u v : Value} {k : KV} {W : World} (h : BeS w u v k W) : BeS w u v k W.drew := ⟨h.1.drew, h.2.1.drew, h.2.2.1.drew, below_drewN h.2.2.2 1⟩
theorem BeS.new (w : World) (u v : Value) : BeS w u v (⟨⟨0, 0, [], []⟩, .slice none 0 0, .slice none 0 0, 0, 0, ⟨0, 0, 0, 0, 0⟩⟩ : KV) (((w.alloc (.cells #[u, v] DemT)).alloc (.cells kvZ KvT)).alloc (.cells kvZ KvT)) :=
  ⟨((BlockAt.new w #[u, v] DemT).alloc _).alloc _, by have := (BlockAt.new (w.alloc (.cells #[u, v] DemT)) kvZ KvT).alloc (.cells kvZ KvT); simpa using this, by have := BlockAt.new ((w.alloc (.cells #[u, v] DemT)).alloc (.cells kvZ KvT)) kvZ KvT; simpa using this, below_alloc2 (below_alloc2 (below_alloc2 (Below.refl w.heap.size w) _) _) _⟩
theorem bgB_next (ls : List Lf.F) (gs : List Lf.G) (P : List Lf.L) (n : Int) (k : Nat) : Lf.bgB ls gs P n (k + 1) = Lf.bet (Lf.bgB ls gs P n k) (Lf.bgI ls gs P n k) := rfl
theorem own_len {base n c : Nat} {W : World} {a : Option Addr} {xs : List Int} (h : OwnI base W (.slice a n c) xs) : n = xs.length := by
  obtain ⟨a2, c2, e⟩ := h.form
  injection e
/-- What is known of the best load so far. -/
def BeK (ls : List Lf.F) (gs : List Lf.G) (base : Nat) (W : World) (k : KV) : Prop := (OwnI base W k.u k.x.hs ∧ OwnI base W k.v k.x.gs) ∧ KvN ls gs k ∧ (0 ≤ k.x.a ∧ k.x.a ≤ 1000) ∧ k.x.hs.length ≤ 1000
theorem BeK.all {ls : List Lf.F} {gs : List Lf.G} {base : Nat} {W W2 : World} {k : KV} (h : BeK ls gs base W k) (hb : Below W.heap.size W W2) : BeK ls gs base W2 k := ⟨⟨h.1.1.all hb, h.1.2.all hb⟩, h.2⟩
set_option maxRecDepth 100000 in
set_option maxHeartbeats 16000000 in
theorem begin_any (u v z : Value) (ls : List Lf.F) (gs : List Lf.G) (P : List KV) (n : Int) (w : World) (hu : Lofts w u ls) (hv : Goods w v gs) (hb0 : Lf.bthE ls gs = 0) (hn0 : 0 ≤ n) (hn : n < gs.length)
    (hz : Kvs w z P) (hP : ∀ j (hj : j < P.length), KvW w P[j]) (hP2 : ∀ x ∈ P.map KV.x, Lf.vLE ls gs x = 0 ∧ Lf.ckx ls gs x = 0) (hPl : P.length ≤ 1000) (hB : ∀ (lo : Nat) l, lo < ls.length → Lf.bgI ls gs (P.map KV.x) n lo = some l → Lf.vLE ls gs l = 0) :
    Calls Try.prog 97 #[.agg #[u, v], z, .int .i64 n] w fun e w' => ∃ (k : KV) (ok : Bool), e = .returned (.tuple #[kV k, .bool ok]) ∧ Below w.heap.size w w' ∧ Lf.bgB ls gs (P.map KV.x) n ls.length = (if ok = true then some k.x else none) ∧ (ok = true → BeK ls gs w.heap.size w' k) ∧ ∃ p q c d e f, k.u = .slice p q c ∧ k.v = .slice d e f := by
  obtain ⟨hF, h3, hG, h8⟩ := bth_ok hb0
  have CI := Lib.hid (fun (lo : Nat) (hlo : lo < ls.length) W (hW : Below w.heap.size w W) => beginIn_any u v z ls gs P n lo W (hu.all hW) (hv.all hW) hb0 hlo hn0 hn (hz.all hW) (fun j hj => (hP j hj).all hW) hP2 hPl)
  have HBB := Lib.hid (fun (lo : Nat) l (hlo : lo < ls.length) h => Lf.vLE_iff.1 (hB lo l hlo h))
  have HNX := Lib.hid (fun k => bgB_next ls gs (P.map KV.x) n k)
  have HB0 : Hid (Lf.bgB ls gs (P.map KV.x) n 0 = none) := Lib.hid rfl
  obtain ⟨ua, uc, rfl⟩ := hu.form
  obtain ⟨va, vc, rfl⟩ := hv.form
  obtain ⟨za, zc, rfl⟩ := hz.form
  have HS := Lib.hid (BeS.new w (.slice ua ls.length uc) (.slice va gs.length vc))
  clear hu hv hz hP hP2 hB hF hG hb0
  have x0 : World.cell? _ _ = some (.slice ua ls.length uc) := HS.out.1.cell 0
  go_enter Try.func97, Try.ntmps97
  go_wp2
  clear x0
  go_loopw [9, 16] (fun s t wr => ∃ (k : Nat) (f : Bool) (b : KV), k ≤ ls.length ∧ s = .bool f ∧ t = .int .i64 k ∧ Hid (Lf.bgB ls gs (P.map KV.x) n k = (if f = true then some b.x else none) ∧ BeS w (.slice ua ls.length uc) (.slice va gs.length vc) b wr ∧ (f = true → BeK ls gs w.heap.size wr b) ∧ ∃ p q c d e f, b.u = .slice p q c ∧ b.v = .slice d e f)) (fun _ t _ => ls.length - (intOf t).toNat)
  case atStart => exact ⟨0, false, (⟨⟨0, 0, [], []⟩, .slice none 0 0, .slice none 0 0, 0, 0, ⟨0, 0, 0, 0, 0⟩⟩ : KV), Nat.zero_le _, rfl, rfl, Lib.hid ⟨HB0.out, HS.out, fun h => by (cases h), _, _, _, _, _, _, rfl, rfl⟩⟩
  case round =>
    obtain ⟨k, f, b, hk, rfl, rfl, hg⟩ := hrel
    clear HS HB0
    by_cases hlt : k < ls.length
    · have C1 := Lib.hid (CI.out k hlt wr hg.out.2.1.2.2.2)
      have HN1 := HNX.out k
      rw [hg.out.1] at HN1
      have HN2 := Lib.hid HN1
      have HG := Lib.hid hg.out.2
      have HBk := Lib.hid (fun l h => HBB.out k l hlt h)
      clear hg HN1
      have x0 : World.cell? _ _ = some (.slice ua ls.length uc) := HG.out.1.1.cell 0
      have x1 : World.cell? _ _ = some (.slice va gs.length vc) := HG.out.1.1.cell 1
      have hkd : decide (k < ls.length) = true := decide_eq_true hlt
      go_wp2_with fail
      refine C1.out.mono ?_
      rintro e w5 ⟨y, ok, rfl, hb1, hbg, hy, yua, yun, yuc, yva, yvn, yvc, hyu, hyv⟩
      obtain ⟨xua, xun, xuc, xva, xvn, xvc, hxu, hxv⟩ := HG.out.2.2
      have HBG := Lib.hid hbg
      rw [hbg] at HN2 HBk
      have HG5 := Lib.hid (And.intro (HG.out.1.step hb1) (show f = true → BeK ls gs w.heap.size w5 b from fun h => (HG.out.2.1 h).all hb1))
      have HYK : Hid (ok = true → BeK ls gs w.heap.size w5 y) := Lib.hid (fun h => by
        have h1 := hy h
        have h2 := HBk.out y.x (by rw [if_pos h])
        exact ⟨⟨h1.1.1.mono HG.out.1.2.2.2.size, h1.1.2.mono HG.out.1.2.2.2.size⟩, h1.2, by omega, by have := (Lf.vHt_iff.1 h2.2.2.1).1; omega⟩)
      clear hb1 hbg hy x0 x1 C1 HG HBk
      cases ok
      case false =>
        have HNE : Hid (Lf.bgB ls gs (P.map KV.x) n (k + 1) = (if f = true then some b.x else none)) := Lib.hid (by rw [HN2.out]; rfl)
        clear HYK HBG HN2
        obtain ⟨⟨yl, ya, yh, yg⟩, yu, yv, yr, ym, ⟨yp, yn, yo, ys, yt⟩⟩ := y
        obtain ⟨⟨xl, xa, xh, xg⟩, xu, xv, xr, xm, ⟨xp, xn, xo, xs, xt⟩⟩ := b
        dsimp only at *
        subst hyu hyv hxu hxv
        dsimp only [kV, kvV]
        obtain ⟨w9, hw9⟩ : ∃ W, W = w5.alloc (.cells (kA (⟨⟨yl, ya, yh, yg⟩, .slice yua yun yuc, .slice yva yvn yvc, yr, ym, ⟨yp, yn, yo, ys, yt⟩⟩ : KV)) KvT) := ⟨_, rfl⟩
        obtain ⟨B9, hB9⟩ : ∃ B, B = w5.heap.size := ⟨_, rfl⟩
        have HG9 := Lib.hid (show BeS w (.slice ua ls.length uc) (.slice va gs.length vc) (⟨⟨xl, xa, xh, xg⟩, .slice xua xun xuc, .slice xva xvn xvc, xr, xm, ⟨xp, xn, xo, xs, xt⟩⟩ : KV) w9 ∧ BlockAt w9 B9 (kA (⟨⟨yl, ya, yh, yg⟩, .slice yua yun yuc, .slice yva yvn yvc, yr, ym, ⟨yp, yn, yo, ys, yt⟩⟩ : KV)) KvT ∧ (f = true → BeK ls gs w.heap.size w9 (⟨⟨xl, xa, xh, xg⟩, .slice xua xun xuc, .slice xva xvn xvc, xr, xm, ⟨xp, xn, xo, xs, xt⟩⟩ : KV)) from by
          rw [hw9, hB9]
          exact ⟨HG5.out.1.step (below_alloc2 (Below.refl _ _) _), BlockAt.new _ _ _, fun h => (HG5.out.2 h).all (below_alloc2 (Below.refl _ _) _)⟩)
        have HE9 := Lib.hid (And.intro hw9.symm hB9.symm)
        have hB9lt : w.heap.size + 2 < B9 := by rw [hB9]; exact HG5.out.1.2.2.1.lt
        have HS7 := Lib.hid (show (fun W => W.cell? ⟨w.heap.size + 2, 0, none⟩ = some (.int .i64 xl) ∧ W.cell? ⟨w.heap.size + 2, 1, none⟩ = some (.int .i64 xa) ∧ W.cell? ⟨w.heap.size + 2, 2, none⟩ = some (.slice xua xun xuc) ∧ W.cell? ⟨w.heap.size + 2, 3, none⟩ = some (.slice xva xvn xvc) ∧ W.cell? ⟨w.heap.size + 2, 4, none⟩ = some (.int .i64 xr) ∧ W.cell? ⟨w.heap.size + 2, 5, none⟩ = some (.int .i64 xm) ∧ W.cell? ⟨w.heap.size + 2, 6, none⟩ = some (.int .i64 xp) ∧ W.cell? ⟨w.heap.size + 2, 7, none⟩ = some (.int .i64 xn) ∧ W.cell? ⟨w.heap.size + 2, 8, none⟩ = some (.int .i64 xo) ∧ W.cell? ⟨w.heap.size + 2, 9, none⟩ = some (.int .i64 xs) ∧ W.cell? ⟨w.heap.size + 2, 10, none⟩ = some (.int .i64 xt) ∧ W.cell? ⟨B9, 0, none⟩ = some (.int .i64 yl) ∧ W.cell? ⟨B9, 1, none⟩ = some (.int .i64 ya) ∧ W.cell? ⟨B9, 2, none⟩ = some (.slice yua yun yuc) ∧ W.cell? ⟨B9, 3, none⟩ = some (.slice yva yvn yvc) ∧ W.cell? ⟨B9, 4, none⟩ = some (.int .i64 yr) ∧ W.cell? ⟨B9, 5, none⟩ = some (.int .i64 ym) ∧ W.cell? ⟨B9, 6, none⟩ = some (.int .i64 yp) ∧ W.cell? ⟨B9, 7, none⟩ = some (.int .i64 yn) ∧ W.cell? ⟨B9, 8, none⟩ = some (.int .i64 yo) ∧ W.cell? ⟨B9, 9, none⟩ = some (.int .i64 ys) ∧ W.cell? ⟨B9, 10, none⟩ = some (.int .i64 yt)) w9.drew from ⟨HG9.out.1.2.2.1.drew.cell 0, HG9.out.1.2.2.1.drew.cell 1, HG9.out.1.2.2.1.drew.cell 2, HG9.out.1.2.2.1.drew.cell 3, HG9.out.1.2.2.1.drew.cell 4, HG9.out.1.2.2.1.drew.cell 5, HG9.out.1.2.2.1.drew.cell 6, HG9.out.1.2.2.1.drew.cell 7, HG9.out.1.2.2.1.drew.cell 8, HG9.out.1.2.2.1.drew.cell 9, HG9.out.1.2.2.1.drew.cell 10, HG9.out.2.1.drew.cell 0, HG9.out.2.1.drew.cell 1, HG9.out.2.1.drew.cell 2, HG9.out.2.1.drew.cell 3, HG9.out.2.1.drew.cell 4, HG9.out.2.1.drew.cell 5, HG9.out.2.1.drew.cell 6, HG9.out.2.1.drew.cell 7, HG9.out.2.1.drew.cell 8, HG9.out.2.1.drew.cell 9, HG9.out.2.1.drew.cell 10⟩)
        have HG7 := Lib.hid (And.intro (show BeS w (.slice ua ls.length uc) (.slice va gs.length vc) (⟨⟨xl, xa, xh, xg⟩, .slice xua xun xuc, .slice xva xvn xvc, xr, xm, ⟨xp, xn, xo, xs, xt⟩⟩ : KV) w9.drew from HG9.out.1.drew) (show BlockAt w9.drew B9 (kA (⟨⟨yl, ya, yh, yg⟩, .slice yua yun yuc, .slice yva yvn yvc, yr, ym, ⟨yp, yn, yo, ys, yt⟩⟩ : KV)) KvT from HG9.out.2.1.drew))
        clear hw9 hB9 HG5
        go_wp2_with fail
        rw [show w5.alloc (.cells (kA (⟨⟨yl, ya, yh, yg⟩, .slice yua yun yuc, .slice yva yvn yvc, yr, ym, ⟨yp, yn, yo, ys, yt⟩⟩ : KV)) KvT) = w9 from HE9.out.1]
        rw [HE9.out.2]
        refine wp_region_seq [(0, true), (1, true), (2, true), (3, true), (4, true), (5, true), (7, true), (6, false), (8, false), (9, true), (10, true), (11, true)] (fun W => W.cell? ⟨w.heap.size + 2, 0, none⟩ = some (.int .i64 xl) ∧ W.cell? ⟨w.heap.size + 2, 1, none⟩ = some (.int .i64 xa) ∧ W.cell? ⟨w.heap.size + 2, 2, none⟩ = some (.slice xua xun xuc) ∧ W.cell? ⟨w.heap.size + 2, 3, none⟩ = some (.slice xva xvn xvc) ∧ W.cell? ⟨w.heap.size + 2, 4, none⟩ = some (.int .i64 xr) ∧ W.cell? ⟨w.heap.size + 2, 5, none⟩ = some (.int .i64 xm) ∧ W.cell? ⟨w.heap.size + 2, 6, none⟩ = some (.int .i64 xp) ∧ W.cell? ⟨w.heap.size + 2, 7, none⟩ = some (.int .i64 xn) ∧ W.cell? ⟨w.heap.size + 2, 8, none⟩ = some (.int .i64 xo) ∧ W.cell? ⟨w.heap.size + 2, 9, none⟩ = some (.int .i64 xs) ∧ W.cell? ⟨w.heap.size + 2, 10, none⟩ = some (.int .i64 xt) ∧ W.cell? ⟨B9, 0, none⟩ = some (.int .i64 yl) ∧ W.cell? ⟨B9, 1, none⟩ = some (.int .i64 ya) ∧ W.cell? ⟨B9, 2, none⟩ = some (.slice yua yun yuc) ∧ W.cell? ⟨B9, 3, none⟩ = some (.slice yva yvn yvc) ∧ W.cell? ⟨B9, 4, none⟩ = some (.int .i64 yr) ∧ W.cell? ⟨B9, 5, none⟩ = some (.int .i64 ym) ∧ W.cell? ⟨B9, 6, none⟩ = some (.int .i64 yp) ∧ W.cell? ⟨B9, 7, none⟩ = some (.int .i64 yn) ∧ W.cell? ⟨B9, 8, none⟩ = some (.int .i64 yo) ∧ W.cell? ⟨B9, 9, none⟩ = some (.int .i64 ys) ∧ W.cell? ⟨B9, 10, none⟩ = some (.int .i64 yt))
          (by kernel_rfl) (by kernel_rfl) (by kernel_rfl) (by kernel_rfl) (fun d _ _ _ _ h => by cases d <;> exact h) HS7.out (fun _ => ?_)
        repeat (first | (refine SeqH.take (v := ?_) rfl (by rfl) ?_ ?_; rotate_left; (· intro w hSw; (try dsimp only at hSw); obtain ⟨q0, q1, q2, q3, q4, q5, q6, q7, q8, q9, q10, q11, q12, q13, q14, q15, q16, q17, q18, q19, q20, q21⟩ := hSw; go_simp; (try with_reducible rfl)); simp only [Act.put, List.setIfInBounds_toArray, List.set_cons_zero, List.set_cons_succ]) | (refine SeqH.skip rfl (by rfl) ?_; simp only [Act.put, List.setIfInBounds_toArray, List.set_cons_zero, List.set_cons_succ]) | (refine SeqH.pass rfl (by rfl) (by exact HS7.out) ?_; simp only [Act.put, List.setIfInBounds_toArray, List.set_cons_zero, List.set_cons_succ]))
        refine SeqH.done ?_
        have HGE := Lib.hid HG7.out
        clear HS7 HG7
        have HFN := Lib.hid (fun h => (HG9.out.2.2 h : BeK ls gs w.heap.size w9 (⟨⟨xl, xa, xh, xg⟩, .slice xua xun xuc, .slice xva xvn xvc, xr, xm, ⟨xp, xn, xo, xs, xt⟩⟩ : KV)))
        go_wp2
        go_roundw
        case rel => exact ⟨k + 1, f, (⟨⟨xl, xa, xh, xg⟩, .slice xua xun xuc, .slice xva xvn xvc, xr, xm, ⟨xp, xn, xo, xs, xt⟩⟩ : KV), by omega, rfl, by go_num, Lib.hid ⟨HNE.out, HGE.out.1, fun h => HFN.out h, _, _, _, _, _, _, rfl, rfl⟩⟩
        case measure => simp [intOf]; omega
      have HKY := Lib.hid (HYK.out rfl)
      clear HYK HBG
      rw [if_pos rfl] at HN2
      obtain ⟨⟨yl, ya, yh, yg⟩, yu, yv, yr, ym, ⟨yp, yn, yo, ys, yt⟩⟩ := y
      dsimp only at hyu hyv
      subst hyu hyv
      cases f
      case false =>
        rw [if_neg (by decide)] at HN2
        have HNX2 : Hid (Lf.bgB ls gs (P.map KV.x) n (k + 1) = (if true = true then some (⟨yl, ya, yh, yg⟩ : Lf.L) else none)) := Lib.hid (by rw [HN2.out]; rfl)
        obtain ⟨⟨xl, xa, xh, xg⟩, xu, xv, xr, xm, ⟨xp, xn, xo, xs, xt⟩⟩ := b
        dsimp only at *
        subst hxu hxv
        dsimp only [kV, kvV]
        obtain ⟨w9, hw9⟩ : ∃ W, W = w5.alloc (.cells (kA (⟨⟨yl, ya, yh, yg⟩, .slice yua yun yuc, .slice yva yvn yvc, yr, ym, ⟨yp, yn, yo, ys, yt⟩⟩ : KV)) KvT) := ⟨_, rfl⟩
        obtain ⟨B9, hB9⟩ : ∃ B, B = w5.heap.size := ⟨_, rfl⟩
        have HG9 := Lib.hid (show BeS w (.slice ua ls.length uc) (.slice va gs.length vc) (⟨⟨xl, xa, xh, xg⟩, .slice xua xun xuc, .slice xva xvn xvc, xr, xm, ⟨xp, xn, xo, xs, xt⟩⟩ : KV) w9 ∧ BlockAt w9 B9 (kA (⟨⟨yl, ya, yh, yg⟩, .slice yua yun yuc, .slice yva yvn yvc, yr, ym, ⟨yp, yn, yo, ys, yt⟩⟩ : KV)) KvT ∧ (false = true → BeK ls gs w.heap.size w9 (⟨⟨xl, xa, xh, xg⟩, .slice xua xun xuc, .slice xva xvn xvc, xr, xm, ⟨xp, xn, xo, xs, xt⟩⟩ : KV)) from by
          rw [hw9, hB9]
          exact ⟨HG5.out.1.step (below_alloc2 (Below.refl _ _) _), BlockAt.new _ _ _, fun h => (HG5.out.2 h).all (below_alloc2 (Below.refl _ _) _)⟩)
        have HE9 := Lib.hid (And.intro hw9.symm hB9.symm)
        have hB9lt : w.heap.size + 2 < B9 := by rw [hB9]; exact HG5.out.1.2.2.1.lt
        have HS7 := Lib.hid (show (fun W => W.cell? ⟨w.heap.size + 2, 0, none⟩ = some (.int .i64 xl) ∧ W.cell? ⟨w.heap.size + 2, 1, none⟩ = some (.int .i64 xa) ∧ W.cell? ⟨w.heap.size + 2, 2, none⟩ = some (.slice xua xun xuc) ∧ W.cell? ⟨w.heap.size + 2, 3, none⟩ = some (.slice xva xvn xvc) ∧ W.cell? ⟨w.heap.size + 2, 4, none⟩ = some (.int .i64 xr) ∧ W.cell? ⟨w.heap.size + 2, 5, none⟩ = some (.int .i64 xm) ∧ W.cell? ⟨w.heap.size + 2, 6, none⟩ = some (.int .i64 xp) ∧ W.cell? ⟨w.heap.size + 2, 7, none⟩ = some (.int .i64 xn) ∧ W.cell? ⟨w.heap.size + 2, 8, none⟩ = some (.int .i64 xo) ∧ W.cell? ⟨w.heap.size + 2, 9, none⟩ = some (.int .i64 xs) ∧ W.cell? ⟨w.heap.size + 2, 10, none⟩ = some (.int .i64 xt) ∧ W.cell? ⟨B9, 0, none⟩ = some (.int .i64 yl) ∧ W.cell? ⟨B9, 1, none⟩ = some (.int .i64 ya) ∧ W.cell? ⟨B9, 2, none⟩ = some (.slice yua yun yuc) ∧ W.cell? ⟨B9, 3, none⟩ = some (.slice yva yvn yvc) ∧ W.cell? ⟨B9, 4, none⟩ = some (.int .i64 yr) ∧ W.cell? ⟨B9, 5, none⟩ = some (.int .i64 ym) ∧ W.cell? ⟨B9, 6, none⟩ = some (.int .i64 yp) ∧ W.cell? ⟨B9, 7, none⟩ = some (.int .i64 yn) ∧ W.cell? ⟨B9, 8, none⟩ = some (.int .i64 yo) ∧ W.cell? ⟨B9, 9, none⟩ = some (.int .i64 ys) ∧ W.cell? ⟨B9, 10, none⟩ = some (.int .i64 yt)) w9.drew from ⟨HG9.out.1.2.2.1.drew.cell 0, HG9.out.1.2.2.1.drew.cell 1, HG9.out.1.2.2.1.drew.cell 2, HG9.out.1.2.2.1.drew.cell 3, HG9.out.1.2.2.1.drew.cell 4, HG9.out.1.2.2.1.drew.cell 5, HG9.out.1.2.2.1.drew.cell 6, HG9.out.1.2.2.1.drew.cell 7, HG9.out.1.2.2.1.drew.cell 8, HG9.out.1.2.2.1.drew.cell 9, HG9.out.1.2.2.1.drew.cell 10, HG9.out.2.1.drew.cell 0, HG9.out.2.1.drew.cell 1, HG9.out.2.1.drew.cell 2, HG9.out.2.1.drew.cell 3, HG9.out.2.1.drew.cell 4, HG9.out.2.1.drew.cell 5, HG9.out.2.1.drew.cell 6, HG9.out.2.1.drew.cell 7, HG9.out.2.1.drew.cell 8, HG9.out.2.1.drew.cell 9, HG9.out.2.1.drew.cell 10⟩)
        have HG7 := Lib.hid (And.intro (show BeS w (.slice ua ls.length uc) (.slice va gs.length vc) (⟨⟨xl, xa, xh, xg⟩, .slice xua xun xuc, .slice xva xvn xvc, xr, xm, ⟨xp, xn, xo, xs, xt⟩⟩ : KV) w9.drew from HG9.out.1.drew) (show BlockAt w9.drew B9 (kA (⟨⟨yl, ya, yh, yg⟩, .slice yua yun yuc, .slice yva yvn yvc, yr, ym, ⟨yp, yn, yo, ys, yt⟩⟩ : KV)) KvT from HG9.out.2.1.drew))
        clear hw9 hB9 HG5
        go_wp2_with fail
        rw [show w5.alloc (.cells (kA (⟨⟨yl, ya, yh, yg⟩, .slice yua yun yuc, .slice yva yvn yvc, yr, ym, ⟨yp, yn, yo, ys, yt⟩⟩ : KV)) KvT) = w9 from HE9.out.1]
        rw [HE9.out.2]
        refine wp_region_seq [(0, true), (1, true), (2, true), (3, true), (4, true), (5, true), (7, true), (6, false), (8, false), (9, true), (10, true), (11, true)] (fun W => W.cell? ⟨w.heap.size + 2, 0, none⟩ = some (.int .i64 xl) ∧ W.cell? ⟨w.heap.size + 2, 1, none⟩ = some (.int .i64 xa) ∧ W.cell? ⟨w.heap.size + 2, 2, none⟩ = some (.slice xua xun xuc) ∧ W.cell? ⟨w.heap.size + 2, 3, none⟩ = some (.slice xva xvn xvc) ∧ W.cell? ⟨w.heap.size + 2, 4, none⟩ = some (.int .i64 xr) ∧ W.cell? ⟨w.heap.size + 2, 5, none⟩ = some (.int .i64 xm) ∧ W.cell? ⟨w.heap.size + 2, 6, none⟩ = some (.int .i64 xp) ∧ W.cell? ⟨w.heap.size + 2, 7, none⟩ = some (.int .i64 xn) ∧ W.cell? ⟨w.heap.size + 2, 8, none⟩ = some (.int .i64 xo) ∧ W.cell? ⟨w.heap.size + 2, 9, none⟩ = some (.int .i64 xs) ∧ W.cell? ⟨w.heap.size + 2, 10, none⟩ = some (.int .i64 xt) ∧ W.cell? ⟨B9, 0, none⟩ = some (.int .i64 yl) ∧ W.cell? ⟨B9, 1, none⟩ = some (.int .i64 ya) ∧ W.cell? ⟨B9, 2, none⟩ = some (.slice yua yun yuc) ∧ W.cell? ⟨B9, 3, none⟩ = some (.slice yva yvn yvc) ∧ W.cell? ⟨B9, 4, none⟩ = some (.int .i64 yr) ∧ W.cell? ⟨B9, 5, none⟩ = some (.int .i64 ym) ∧ W.cell? ⟨B9, 6, none⟩ = some (.int .i64 yp) ∧ W.cell? ⟨B9, 7, none⟩ = some (.int .i64 yn) ∧ W.cell? ⟨B9, 8, none⟩ = some (.int .i64 yo) ∧ W.cell? ⟨B9, 9, none⟩ = some (.int .i64 ys) ∧ W.cell? ⟨B9, 10, none⟩ = some (.int .i64 yt))
          (by kernel_rfl) (by kernel_rfl) (by kernel_rfl) (by kernel_rfl) (fun d _ _ _ _ h => by cases d <;> exact h) HS7.out (fun _ => ?_)
        repeat (first | (refine SeqH.take (v := ?_) rfl (by rfl) ?_ ?_; rotate_left; (· intro w hSw; (try dsimp only at hSw); obtain ⟨q0, q1, q2, q3, q4, q5, q6, q7, q8, q9, q10, q11, q12, q13, q14, q15, q16, q17, q18, q19, q20, q21⟩ := hSw; go_simp; (try with_reducible rfl)); simp only [Act.put, List.setIfInBounds_toArray, List.set_cons_zero, List.set_cons_succ]) | (refine SeqH.skip rfl (by rfl) ?_; simp only [Act.put, List.setIfInBounds_toArray, List.set_cons_zero, List.set_cons_succ]) | (refine SeqH.pass rfl (by rfl) (by exact HS7.out) ?_; simp only [Act.put, List.setIfInBounds_toArray, List.set_cons_zero, List.set_cons_succ]))
        refine SeqH.done ?_
        have HGE := Lib.hid HG7.out
        clear HS7 HG7
        obtain ⟨w7, hw7⟩ : ∃ W, W = w9.drew := ⟨_, rfl⟩
        have HE7 := Lib.hid hw7
        rw [← hw7] at HGE
        rw [show w9.drew = w7 from hw7.symm]
        clear hw7
        have HKE := Lib.hid (HKY.out.all (show Below w5.heap.size w5 w7 from by rw [HE7.out, ← HE9.out.1]; exact below_drewN (below_alloc2 (Below.refl _ _) _) 1))
        have z0 : World.cell? _ ⟨w.heap.size + 1 + 1, 0, none⟩ = some (.int .i64 xl) := HGE.out.1.2.2.1.cell 0
        have f0 : World.frozen? _ ⟨w.heap.size + 1 + 1, 0, none⟩ = false := HGE.out.1.2.2.1.frozen 0
        have z1 : World.cell? _ ⟨w.heap.size + 1 + 1, 1, none⟩ = some (.int .i64 xa) := HGE.out.1.2.2.1.cell 1
        have f1 : World.frozen? _ ⟨w.heap.size + 1 + 1, 1, none⟩ = false := HGE.out.1.2.2.1.frozen 1
        have z2 : World.cell? _ ⟨w.heap.size + 1 + 1, 2, none⟩ = some (.slice xua xun xuc) := HGE.out.1.2.2.1.cell 2
        have f2 : World.frozen? _ ⟨w.heap.size + 1 + 1, 2, none⟩ = false := HGE.out.1.2.2.1.frozen 2
        have z3 : World.cell? _ ⟨w.heap.size + 1 + 1, 3, none⟩ = some (.slice xva xvn xvc) := HGE.out.1.2.2.1.cell 3
        have f3 : World.frozen? _ ⟨w.heap.size + 1 + 1, 3, none⟩ = false := HGE.out.1.2.2.1.frozen 3
        have z4 : World.cell? _ ⟨w.heap.size + 1 + 1, 4, none⟩ = some (.int .i64 xr) := HGE.out.1.2.2.1.cell 4
        have f4 : World.frozen? _ ⟨w.heap.size + 1 + 1, 4, none⟩ = false := HGE.out.1.2.2.1.frozen 4
        have z5 : World.cell? _ ⟨w.heap.size + 1 + 1, 5, none⟩ = some (.int .i64 xm) := HGE.out.1.2.2.1.cell 5
        have f5 : World.frozen? _ ⟨w.heap.size + 1 + 1, 5, none⟩ = false := HGE.out.1.2.2.1.frozen 5
        have z6 : World.cell? _ ⟨w.heap.size + 1 + 1, 6, none⟩ = some (.int .i64 xp) := HGE.out.1.2.2.1.cell 6
        have f6 : World.frozen? _ ⟨w.heap.size + 1 + 1, 6, none⟩ = false := HGE.out.1.2.2.1.frozen 6
        have z7 : World.cell? _ ⟨w.heap.size + 1 + 1, 7, none⟩ = some (.int .i64 xn) := HGE.out.1.2.2.1.cell 7
        have f7 : World.frozen? _ ⟨w.heap.size + 1 + 1, 7, none⟩ = false := HGE.out.1.2.2.1.frozen 7
        have z8 : World.cell? _ ⟨w.heap.size + 1 + 1, 8, none⟩ = some (.int .i64 xo) := HGE.out.1.2.2.1.cell 8
        have f8 : World.frozen? _ ⟨w.heap.size + 1 + 1, 8, none⟩ = false := HGE.out.1.2.2.1.frozen 8
        have z9 : World.cell? _ ⟨w.heap.size + 1 + 1, 9, none⟩ = some (.int .i64 xs) := HGE.out.1.2.2.1.cell 9
        have f9 : World.frozen? _ ⟨w.heap.size + 1 + 1, 9, none⟩ = false := HGE.out.1.2.2.1.frozen 9
        have z10 : World.cell? _ ⟨w.heap.size + 1 + 1, 10, none⟩ = some (.int .i64 xt) := HGE.out.1.2.2.1.cell 10
        have f10 : World.frozen? _ ⟨w.heap.size + 1 + 1, 10, none⟩ = false := HGE.out.1.2.2.1.frozen 10
        have n0 : World.cell? _ ⟨B9, 0, none⟩ = some (.int .i64 yl) := HGE.out.2.cell 0
        have n1 : World.cell? _ ⟨B9, 1, none⟩ = some (.int .i64 ya) := HGE.out.2.cell 1
        have n2 : World.cell? _ ⟨B9, 2, none⟩ = some (.slice yua yun yuc) := HGE.out.2.cell 2
        have n3 : World.cell? _ ⟨B9, 3, none⟩ = some (.slice yva yvn yvc) := HGE.out.2.cell 3
        have n4 : World.cell? _ ⟨B9, 4, none⟩ = some (.int .i64 yr) := HGE.out.2.cell 4
        have n5 : World.cell? _ ⟨B9, 5, none⟩ = some (.int .i64 ym) := HGE.out.2.cell 5
        have n6 : World.cell? _ ⟨B9, 6, none⟩ = some (.int .i64 yp) := HGE.out.2.cell 6
        have n7 : World.cell? _ ⟨B9, 7, none⟩ = some (.int .i64 yn) := HGE.out.2.cell 7
        have n8 : World.cell? _ ⟨B9, 8, none⟩ = some (.int .i64 yo) := HGE.out.2.cell 8
        have n9 : World.cell? _ ⟨B9, 9, none⟩ = some (.int .i64 ys) := HGE.out.2.cell 9
        have n10 : World.cell? _ ⟨B9, 10, none⟩ = some (.int .i64 yt) := HGE.out.2.cell 10
        have hlt1 : w.heap.size + 1 + 1 < _ := HGE.out.1.2.2.1.lt
        go_wp2
        obtain ⟨Y, hY⟩ : ∃ Z, (((((((((((w7.setCell ⟨w.heap.size + 1 + 1, 0, none⟩ (.int .i64 yl)).setCell ⟨w.heap.size + 1 + 1, 1, none⟩ (.int .i64 ya)).setCell ⟨w.heap.size + 1 + 1, 2, none⟩ (.slice yua yun yuc)).setCell ⟨w.heap.size + 1 + 1, 3, none⟩ (.slice yva yvn yvc)).setCell ⟨w.heap.size + 1 + 1, 4, none⟩ (.int .i64 yr)).setCell ⟨w.heap.size + 1 + 1, 5, none⟩ (.int .i64 ym)).setCell ⟨w.heap.size + 1 + 1, 6, none⟩ (.int .i64 yp)).setCell ⟨w.heap.size + 1 + 1, 7, none⟩ (.int .i64 yn)).setCell ⟨w.heap.size + 1 + 1, 8, none⟩ (.int .i64 yo)).setCell ⟨w.heap.size + 1 + 1, 9, none⟩ (.int .i64 ys)).setCell ⟨w.heap.size + 1 + 1, 10, none⟩ (.int .i64 yt)) = Z := ⟨_, rfl⟩
        rw [hY]
        obtain ⟨hY1, hYb, hYk, hYo⟩ := store11c (W := w7) (Y := Y) (B := w.heap.size + 1 + 1) (k := (⟨⟨xl, xa, xh, xg⟩, .slice xua xun xuc, .slice xva xvn xvc, xr, xm, ⟨xp, xn, xo, xs, xt⟩⟩ : KV)) (k2 := (⟨⟨yl, ya, yh, yg⟩, .slice yua yun yuc, .slice yva yvn yvc, yr, ym, ⟨yp, yn, yo, ys, yt⟩⟩ : KV)) HGE.out.1.2.2.1 hY
        have HY := Lib.hid (show BeS w (.slice ua ls.length uc) (.slice va gs.length vc) (⟨⟨yl, ya, yh, yg⟩, .slice yua yun yuc, .slice yva yvn yvc, yr, ym, ⟨yp, yn, yo, ys, yt⟩⟩ : KV) Y ∧ BeK ls gs w.heap.size Y (⟨⟨yl, ya, yh, yg⟩, .slice yua yun yuc, .slice yva yvn yvc, yr, ym, ⟨yp, yn, yo, ys, yt⟩⟩ : KV) from ⟨⟨hYk _ _ _ HGE.out.1.1 (by omega), hYk _ _ _ HGE.out.1.2.1 (by omega), hY1, hYb _ _ HGE.out.1.2.2.2 (by omega)⟩, ⟨⟨hYo _ _ _ HKE.out.1.1, hYo _ _ _ HKE.out.1.2⟩, HKE.out.2⟩⟩)
        clear hY hY1 hYb hYk hYo z0 f0 n0 z1 f1 n1 z2 f2 n2 z3 f3 n3 z4 f4 n4 z5 f5 n5 z6 f6 n6 z7 f7 n7 z8 f8 n8 z9 f9 n9 z10 f10 n10 hlt1
        go_roundw
        case rel => exact ⟨k + 1, true, (⟨⟨yl, ya, yh, yg⟩, .slice yua yun yuc, .slice yva yvn yvc, yr, ym, ⟨yp, yn, yo, ys, yt⟩⟩ : KV), by omega, rfl, by go_num, Lib.hid ⟨HNX2.out, HY.out.1, fun _ => HY.out.2, _, _, _, _, _, _, rfl, rfl⟩⟩
        case measure => simp [intOf]; omega
      have hxn : xun = b.x.hs.length := own_len (by have h1 := (HG5.out.2 rfl).1.1; rw [hxu] at h1; exact h1)
      have hyn : yun = yh.length := own_len HKY.out.1.1
      subst hyn
      rw [if_pos rfl] at HN2
      have hxb := (HG5.out.2 rfl).2.2
      have hyb := HKY.out.2.2
      obtain ⟨⟨xl, xa, xh, xg⟩, xu, xv, xr, xm, ⟨xp, xn, xo, xs, xt⟩⟩ := b
      dsimp only at hxu hxv hxb hyb hxn
      subst hxu hxv hxn
      have CY := Lib.hid (fun W => endK_any yl ya yua yh.length yuc (.slice yva yvn yvc) yr ym ⟨yp, yn, yo, ys, yt⟩ W hyb.1 hyb.2)
      have CX := Lib.hid (fun W => endK_any xl xa xua xh.length xuc (.slice xva xvn xvc) xr xm ⟨xp, xn, xo, xs, xt⟩ W hxb.1 hxb.2)
      have HBT : Hid (Lf.bgB ls gs (P.map KV.x) n (k + 1) = if ya + (yh.length : Int) < xa + (xh.length : Int) then some ⟨yl, ya, yh, yg⟩ else some ⟨xl, xa, xh, xg⟩) := Lib.hid (by rw [HN2.out]; rfl)
      clear hxb hyb HN2
      obtain ⟨ex, hex⟩ : ∃ ex, ex = xa + (xh.length : Int) := ⟨_, rfl⟩
      obtain ⟨ey, hey⟩ : ∃ ey, ey = ya + (yh.length : Int) := ⟨_, rfl⟩
      rw [← hex, ← hey] at HBT
      rw [← hex] at CX
      rw [← hey] at CY
      clear hex hey
      dsimp only at *
      dsimp only [kV, kvV]
      obtain ⟨w9, hw9⟩ : ∃ W, W = w5.alloc (.cells (kA (⟨⟨yl, ya, yh, yg⟩, .slice yua yh.length yuc, .slice yva yvn yvc, yr, ym, ⟨yp, yn, yo, ys, yt⟩⟩ : KV)) KvT) := ⟨_, rfl⟩
      obtain ⟨B9, hB9⟩ : ∃ B, B = w5.heap.size := ⟨_, rfl⟩
      have HG9 := Lib.hid (show BeS w (.slice ua ls.length uc) (.slice va gs.length vc) (⟨⟨xl, xa, xh, xg⟩, .slice xua xh.length xuc, .slice xva xvn xvc, xr, xm, ⟨xp, xn, xo, xs, xt⟩⟩ : KV) w9 ∧ BlockAt w9 B9 (kA (⟨⟨yl, ya, yh, yg⟩, .slice yua yh.length yuc, .slice yva yvn yvc, yr, ym, ⟨yp, yn, yo, ys, yt⟩⟩ : KV)) KvT ∧ (true = true → BeK ls gs w.heap.size w9 (⟨⟨xl, xa, xh, xg⟩, .slice xua xh.length xuc, .slice xva xvn xvc, xr, xm, ⟨xp, xn, xo, xs, xt⟩⟩ : KV)) from by
        rw [hw9, hB9]
        exact ⟨HG5.out.1.step (below_alloc2 (Below.refl _ _) _), BlockAt.new _ _ _, fun h => (HG5.out.2 h).all (below_alloc2 (Below.refl _ _) _)⟩)
      have HE9 := Lib.hid (And.intro hw9.symm hB9.symm)
      have hB9lt : w.heap.size + 2 < B9 := by rw [hB9]; exact HG5.out.1.2.2.1.lt
      by_cases hlt9 : ey < ex
      · have dl : decide (ey < ex) = true := decide_eq_true hlt9
        have HNX2 : Hid (Lf.bgB ls gs (P.map KV.x) n (k + 1) = (if true = true then some (⟨yl, ya, yh, yg⟩ : Lf.L) else none)) := Lib.hid (by rw [HBT.out, if_pos hlt9]; rfl)
        clear HBT hlt9
        have HS7 := Lib.hid (show (fun W => W.cell? ⟨w.heap.size + 2, 0, none⟩ = some (.int .i64 xl) ∧ W.cell? ⟨w.heap.size + 2, 1, none⟩ = some (.int .i64 xa) ∧ W.cell? ⟨w.heap.size + 2, 2, none⟩ = some (.slice xua xh.length xuc) ∧ W.cell? ⟨w.heap.size + 2, 3, none⟩ = some (.slice xva xvn xvc) ∧ W.cell? ⟨w.heap.size + 2, 4, none⟩ = some (.int .i64 xr) ∧ W.cell? ⟨w.heap.size + 2, 5, none⟩ = some (.int .i64 xm) ∧ W.cell? ⟨w.heap.size + 2, 6, none⟩ = some (.int .i64 xp) ∧ W.cell? ⟨w.heap.size + 2, 7, none⟩ = some (.int .i64 xn) ∧ W.cell? ⟨w.heap.size + 2, 8, none⟩ = some (.int .i64 xo) ∧ W.cell? ⟨w.heap.size + 2, 9, none⟩ = some (.int .i64 xs) ∧ W.cell? ⟨w.heap.size + 2, 10, none⟩ = some (.int .i64 xt) ∧ W.cell? ⟨B9, 0, none⟩ = some (.int .i64 yl) ∧ W.cell? ⟨B9, 1, none⟩ = some (.int .i64 ya) ∧ W.cell? ⟨B9, 2, none⟩ = some (.slice yua yh.length yuc) ∧ W.cell? ⟨B9, 3, none⟩ = some (.slice yva yvn yvc) ∧ W.cell? ⟨B9, 4, none⟩ = some (.int .i64 yr) ∧ W.cell? ⟨B9, 5, none⟩ = some (.int .i64 ym) ∧ W.cell? ⟨B9, 6, none⟩ = some (.int .i64 yp) ∧ W.cell? ⟨B9, 7, none⟩ = some (.int .i64 yn) ∧ W.cell? ⟨B9, 8, none⟩ = some (.int .i64 yo) ∧ W.cell? ⟨B9, 9, none⟩ = some (.int .i64 ys) ∧ W.cell? ⟨B9, 10, none⟩ = some (.int .i64 yt)) w9.drew from ⟨HG9.out.1.2.2.1.drew.cell 0, HG9.out.1.2.2.1.drew.cell 1, HG9.out.1.2.2.1.drew.cell 2, HG9.out.1.2.2.1.drew.cell 3, HG9.out.1.2.2.1.drew.cell 4, HG9.out.1.2.2.1.drew.cell 5, HG9.out.1.2.2.1.drew.cell 6, HG9.out.1.2.2.1.drew.cell 7, HG9.out.1.2.2.1.drew.cell 8, HG9.out.1.2.2.1.drew.cell 9, HG9.out.1.2.2.1.drew.cell 10, HG9.out.2.1.drew.cell 0, HG9.out.2.1.drew.cell 1, HG9.out.2.1.drew.cell 2, HG9.out.2.1.drew.cell 3, HG9.out.2.1.drew.cell 4, HG9.out.2.1.drew.cell 5, HG9.out.2.1.drew.cell 6, HG9.out.2.1.drew.cell 7, HG9.out.2.1.drew.cell 8, HG9.out.2.1.drew.cell 9, HG9.out.2.1.drew.cell 10⟩)
        have HG7 := Lib.hid (And.intro (show BeS w (.slice ua ls.length uc) (.slice va gs.length vc) (⟨⟨xl, xa, xh, xg⟩, .slice xua xh.length xuc, .slice xva xvn xvc, xr, xm, ⟨xp, xn, xo, xs, xt⟩⟩ : KV) w9.drew from HG9.out.1.drew) (show BlockAt w9.drew B9 (kA (⟨⟨yl, ya, yh, yg⟩, .slice yua yh.length yuc, .slice yva yvn yvc, yr, ym, ⟨yp, yn, yo, ys, yt⟩⟩ : KV)) KvT from HG9.out.2.1.drew))
        clear hw9 hB9 HG5
        go_wp2_with fail
        rw [show w5.alloc (.cells (kA (⟨⟨yl, ya, yh, yg⟩, .slice yua yh.length yuc, .slice yva yvn yvc, yr, ym, ⟨yp, yn, yo, ys, yt⟩⟩ : KV)) KvT) = w9 from HE9.out.1]
        rw [HE9.out.2]
        refine wp_region_seq [(0, true), (1, true), (2, true), (3, true), (4, true), (5, true), (7, true), (6, false), (8, false), (9, true), (10, true), (11, true)] (fun W => W.cell? ⟨w.heap.size + 2, 0, none⟩ = some (.int .i64 xl) ∧ W.cell? ⟨w.heap.size + 2, 1, none⟩ = some (.int .i64 xa) ∧ W.cell? ⟨w.heap.size + 2, 2, none⟩ = some (.slice xua xh.length xuc) ∧ W.cell? ⟨w.heap.size + 2, 3, none⟩ = some (.slice xva xvn xvc) ∧ W.cell? ⟨w.heap.size + 2, 4, none⟩ = some (.int .i64 xr) ∧ W.cell? ⟨w.heap.size + 2, 5, none⟩ = some (.int .i64 xm) ∧ W.cell? ⟨w.heap.size + 2, 6, none⟩ = some (.int .i64 xp) ∧ W.cell? ⟨w.heap.size + 2, 7, none⟩ = some (.int .i64 xn) ∧ W.cell? ⟨w.heap.size + 2, 8, none⟩ = some (.int .i64 xo) ∧ W.cell? ⟨w.heap.size + 2, 9, none⟩ = some (.int .i64 xs) ∧ W.cell? ⟨w.heap.size + 2, 10, none⟩ = some (.int .i64 xt) ∧ W.cell? ⟨B9, 0, none⟩ = some (.int .i64 yl) ∧ W.cell? ⟨B9, 1, none⟩ = some (.int .i64 ya) ∧ W.cell? ⟨B9, 2, none⟩ = some (.slice yua yh.length yuc) ∧ W.cell? ⟨B9, 3, none⟩ = some (.slice yva yvn yvc) ∧ W.cell? ⟨B9, 4, none⟩ = some (.int .i64 yr) ∧ W.cell? ⟨B9, 5, none⟩ = some (.int .i64 ym) ∧ W.cell? ⟨B9, 6, none⟩ = some (.int .i64 yp) ∧ W.cell? ⟨B9, 7, none⟩ = some (.int .i64 yn) ∧ W.cell? ⟨B9, 8, none⟩ = some (.int .i64 yo) ∧ W.cell? ⟨B9, 9, none⟩ = some (.int .i64 ys) ∧ W.cell? ⟨B9, 10, none⟩ = some (.int .i64 yt))
          (by kernel_rfl) (by kernel_rfl) (by kernel_rfl) (by kernel_rfl) (fun d _ _ _ _ h => by cases d <;> exact h) HS7.out (fun _ => ?_)
        repeat (first | (refine SeqH.take (v := ?_) rfl (by rfl) ?_ ?_; rotate_left; (· intro w hSw; (try dsimp only at hSw); obtain ⟨q0, q1, q2, q3, q4, q5, q6, q7, q8, q9, q10, q11, q12, q13, q14, q15, q16, q17, q18, q19, q20, q21⟩ := hSw; go_simp; (try with_reducible rfl)); simp only [Act.put, List.setIfInBounds_toArray, List.set_cons_zero, List.set_cons_succ]) | (refine SeqH.skip rfl (by rfl) ?_; simp only [Act.put, List.setIfInBounds_toArray, List.set_cons_zero, List.set_cons_succ]))
        refine SeqH.step rfl (by rfl) (fun K hK => ?_)
        go_simp
        go_at_call 127
        refine (CY.out _).mono ?_
        rintro e w7 ⟨rfl, hb1⟩
        try dsimp only
        have HG8 := Lib.hid (And.intro (HG7.out.1.step hb1) (HG7.out.2.below hb1 HG7.out.2.lt))
        have HB8 := Lib.hid hb1
        clear hb1
        refine hK.out _ _ (⟨HG8.out.1.2.2.1.cell 0, HG8.out.1.2.2.1.cell 1, HG8.out.1.2.2.1.cell 2, HG8.out.1.2.2.1.cell 3, HG8.out.1.2.2.1.cell 4, HG8.out.1.2.2.1.cell 5, HG8.out.1.2.2.1.cell 6, HG8.out.1.2.2.1.cell 7, HG8.out.1.2.2.1.cell 8, HG8.out.1.2.2.1.cell 9, HG8.out.1.2.2.1.cell 10, HG8.out.2.cell 0, HG8.out.2.cell 1, HG8.out.2.cell 2, HG8.out.2.cell 3, HG8.out.2.cell 4, HG8.out.2.cell 5, HG8.out.2.cell 6, HG8.out.2.cell 7, HG8.out.2.cell 8, HG8.out.2.cell 9, HG8.out.2.cell 10⟩) (fun _ => ?_)
        clear hK K
        try simp only [Act.put, List.setIfInBounds_toArray, List.set_cons_zero, List.set_cons_succ]
        repeat (first | (refine SeqH.take (v := ?_) rfl (by rfl) ?_ ?_; rotate_left; (· intro w hSw; (try dsimp only at hSw); obtain ⟨q0, q1, q2, q3, q4, q5, q6, q7, q8, q9, q10, q11, q12, q13, q14, q15, q16, q17, q18, q19, q20, q21⟩ := hSw; go_simp; (try with_reducible rfl)); simp only [Act.put, List.setIfInBounds_toArray, List.set_cons_zero, List.set_cons_succ]) | (refine SeqH.skip rfl (by rfl) ?_; simp only [Act.put, List.setIfInBounds_toArray, List.set_cons_zero, List.set_cons_succ]))
        refine SeqH.step rfl (by rfl) (fun K hK => ?_)
        go_simp
        go_at_call 127
        refine (CX.out _).mono ?_
        rintro e w7 ⟨rfl, hb1⟩
        try dsimp only
        have HGE := Lib.hid (And.intro (HG8.out.1.step hb1) (HG8.out.2.below hb1 HG8.out.2.lt))
        have HBE := Lib.hid (below_step HB8.out hb1)
        clear hb1 HG8 HB8
        refine hK.out _ _ (⟨HGE.out.1.2.2.1.cell 0, HGE.out.1.2.2.1.cell 1, HGE.out.1.2.2.1.cell 2, HGE.out.1.2.2.1.cell 3, HGE.out.1.2.2.1.cell 4, HGE.out.1.2.2.1.cell 5, HGE.out.1.2.2.1.cell 6, HGE.out.1.2.2.1.cell 7, HGE.out.1.2.2.1.cell 8, HGE.out.1.2.2.1.cell 9, HGE.out.1.2.2.1.cell 10, HGE.out.2.cell 0, HGE.out.2.cell 1, HGE.out.2.cell 2, HGE.out.2.cell 3, HGE.out.2.cell 4, HGE.out.2.cell 5, HGE.out.2.cell 6, HGE.out.2.cell 7, HGE.out.2.cell 8, HGE.out.2.cell 9, HGE.out.2.cell 10⟩) (fun _ => ?_)
        clear hK K
        try simp only [Act.put, List.setIfInBounds_toArray, List.set_cons_zero, List.set_cons_succ]
        repeat (first | (refine SeqH.take (v := ?_) rfl (by rfl) ?_ ?_; rotate_left; (· intro w hSw; (try dsimp only at hSw); obtain ⟨q0, q1, q2, q3, q4, q5, q6, q7, q8, q9, q10, q11, q12, q13, q14, q15, q16, q17, q18, q19, q20, q21⟩ := hSw; go_simp; (try with_reducible rfl)); simp only [Act.put, List.setIfInBounds_toArray, List.set_cons_zero, List.set_cons_succ]) | (refine SeqH.skip rfl (by rfl) ?_; simp only [Act.put, List.setIfInBounds_toArray, List.set_cons_zero, List.set_cons_succ]))
        refine SeqH.done ?_
        clear HS7 HG7
        have HKE := Lib.hid (HKY.out.all (show Below w5.heap.size w5 w7 from below_step (show Below w5.heap.size w5 w9.drew from by rw [← HE9.out.1]; exact below_drewN (below_alloc2 (Below.refl _ _) _) 1) HBE.out))
        have z0 : World.cell? _ ⟨w.heap.size + 1 + 1, 0, none⟩ = some (.int .i64 xl) := HGE.out.1.2.2.1.cell 0
        have f0 : World.frozen? _ ⟨w.heap.size + 1 + 1, 0, none⟩ = false := HGE.out.1.2.2.1.frozen 0
        have z1 : World.cell? _ ⟨w.heap.size + 1 + 1, 1, none⟩ = some (.int .i64 xa) := HGE.out.1.2.2.1.cell 1
        have f1 : World.frozen? _ ⟨w.heap.size + 1 + 1, 1, none⟩ = false := HGE.out.1.2.2.1.frozen 1
        have z2 : World.cell? _ ⟨w.heap.size + 1 + 1, 2, none⟩ = some (.slice xua xh.length xuc) := HGE.out.1.2.2.1.cell 2
        have f2 : World.frozen? _ ⟨w.heap.size + 1 + 1, 2, none⟩ = false := HGE.out.1.2.2.1.frozen 2
        have z3 : World.cell? _ ⟨w.heap.size + 1 + 1, 3, none⟩ = some (.slice xva xvn xvc) := HGE.out.1.2.2.1.cell 3
        have f3 : World.frozen? _ ⟨w.heap.size + 1 + 1, 3, none⟩ = false := HGE.out.1.2.2.1.frozen 3
        have z4 : World.cell? _ ⟨w.heap.size + 1 + 1, 4, none⟩ = some (.int .i64 xr) := HGE.out.1.2.2.1.cell 4
        have f4 : World.frozen? _ ⟨w.heap.size + 1 + 1, 4, none⟩ = false := HGE.out.1.2.2.1.frozen 4
        have z5 : World.cell? _ ⟨w.heap.size + 1 + 1, 5, none⟩ = some (.int .i64 xm) := HGE.out.1.2.2.1.cell 5
        have f5 : World.frozen? _ ⟨w.heap.size + 1 + 1, 5, none⟩ = false := HGE.out.1.2.2.1.frozen 5
        have z6 : World.cell? _ ⟨w.heap.size + 1 + 1, 6, none⟩ = some (.int .i64 xp) := HGE.out.1.2.2.1.cell 6
        have f6 : World.frozen? _ ⟨w.heap.size + 1 + 1, 6, none⟩ = false := HGE.out.1.2.2.1.frozen 6
        have z7 : World.cell? _ ⟨w.heap.size + 1 + 1, 7, none⟩ = some (.int .i64 xn) := HGE.out.1.2.2.1.cell 7
        have f7 : World.frozen? _ ⟨w.heap.size + 1 + 1, 7, none⟩ = false := HGE.out.1.2.2.1.frozen 7
        have z8 : World.cell? _ ⟨w.heap.size + 1 + 1, 8, none⟩ = some (.int .i64 xo) := HGE.out.1.2.2.1.cell 8
        have f8 : World.frozen? _ ⟨w.heap.size + 1 + 1, 8, none⟩ = false := HGE.out.1.2.2.1.frozen 8
        have z9 : World.cell? _ ⟨w.heap.size + 1 + 1, 9, none⟩ = some (.int .i64 xs) := HGE.out.1.2.2.1.cell 9
        have f9 : World.frozen? _ ⟨w.heap.size + 1 + 1, 9, none⟩ = false := HGE.out.1.2.2.1.frozen 9
        have z10 : World.cell? _ ⟨w.heap.size + 1 + 1, 10, none⟩ = some (.int .i64 xt) := HGE.out.1.2.2.1.cell 10
        have f10 : World.frozen? _ ⟨w.heap.size + 1 + 1, 10, none⟩ = false := HGE.out.1.2.2.1.frozen 10
        have n0 : World.cell? _ ⟨B9, 0, none⟩ = some (.int .i64 yl) := HGE.out.2.cell 0
        have n1 : World.cell? _ ⟨B9, 1, none⟩ = some (.int .i64 ya) := HGE.out.2.cell 1
        have n2 : World.cell? _ ⟨B9, 2, none⟩ = some (.slice yua yh.length yuc) := HGE.out.2.cell 2
        have n3 : World.cell? _ ⟨B9, 3, none⟩ = some (.slice yva yvn yvc) := HGE.out.2.cell 3
        have n4 : World.cell? _ ⟨B9, 4, none⟩ = some (.int .i64 yr) := HGE.out.2.cell 4
        have n5 : World.cell? _ ⟨B9, 5, none⟩ = some (.int .i64 ym) := HGE.out.2.cell 5
        have n6 : World.cell? _ ⟨B9, 6, none⟩ = some (.int .i64 yp) := HGE.out.2.cell 6
        have n7 : World.cell? _ ⟨B9, 7, none⟩ = some (.int .i64 yn) := HGE.out.2.cell 7
        have n8 : World.cell? _ ⟨B9, 8, none⟩ = some (.int .i64 yo) := HGE.out.2.cell 8
        have n9 : World.cell? _ ⟨B9, 9, none⟩ = some (.int .i64 ys) := HGE.out.2.cell 9
        have n10 : World.cell? _ ⟨B9, 10, none⟩ = some (.int .i64 yt) := HGE.out.2.cell 10
        have hlt1 : w.heap.size + 1 + 1 < _ := HGE.out.1.2.2.1.lt
        go_wp2
        obtain ⟨Y, hY⟩ : ∃ Z, (((((((((((w7.setCell ⟨w.heap.size + 1 + 1, 0, none⟩ (.int .i64 yl)).setCell ⟨w.heap.size + 1 + 1, 1, none⟩ (.int .i64 ya)).setCell ⟨w.heap.size + 1 + 1, 2, none⟩ (.slice yua yh.length yuc)).setCell ⟨w.heap.size + 1 + 1, 3, none⟩ (.slice yva yvn yvc)).setCell ⟨w.heap.size + 1 + 1, 4, none⟩ (.int .i64 yr)).setCell ⟨w.heap.size + 1 + 1, 5, none⟩ (.int .i64 ym)).setCell ⟨w.heap.size + 1 + 1, 6, none⟩ (.int .i64 yp)).setCell ⟨w.heap.size + 1 + 1, 7, none⟩ (.int .i64 yn)).setCell ⟨w.heap.size + 1 + 1, 8, none⟩ (.int .i64 yo)).setCell ⟨w.heap.size + 1 + 1, 9, none⟩ (.int .i64 ys)).setCell ⟨w.heap.size + 1 + 1, 10, none⟩ (.int .i64 yt)) = Z := ⟨_, rfl⟩
        rw [hY]
        obtain ⟨hY1, hYb, hYk, hYo⟩ := store11c (W := w7) (Y := Y) (B := w.heap.size + 1 + 1) (k := (⟨⟨xl, xa, xh, xg⟩, .slice xua xh.length xuc, .slice xva xvn xvc, xr, xm, ⟨xp, xn, xo, xs, xt⟩⟩ : KV)) (k2 := (⟨⟨yl, ya, yh, yg⟩, .slice yua yh.length yuc, .slice yva yvn yvc, yr, ym, ⟨yp, yn, yo, ys, yt⟩⟩ : KV)) HGE.out.1.2.2.1 hY
        have HY := Lib.hid (show BeS w (.slice ua ls.length uc) (.slice va gs.length vc) (⟨⟨yl, ya, yh, yg⟩, .slice yua yh.length yuc, .slice yva yvn yvc, yr, ym, ⟨yp, yn, yo, ys, yt⟩⟩ : KV) Y ∧ BeK ls gs w.heap.size Y (⟨⟨yl, ya, yh, yg⟩, .slice yua yh.length yuc, .slice yva yvn yvc, yr, ym, ⟨yp, yn, yo, ys, yt⟩⟩ : KV) from ⟨⟨hYk _ _ _ HGE.out.1.1 (by omega), hYk _ _ _ HGE.out.1.2.1 (by omega), hY1, hYb _ _ HGE.out.1.2.2.2 (by omega)⟩, ⟨⟨hYo _ _ _ HKE.out.1.1, hYo _ _ _ HKE.out.1.2⟩, HKE.out.2⟩⟩)
        clear hY hY1 hYb hYk hYo z0 f0 n0 z1 f1 n1 z2 f2 n2 z3 f3 n3 z4 f4 n4 z5 f5 n5 z6 f6 n6 z7 f7 n7 z8 f8 n8 z9 f9 n9 z10 f10 n10 hlt1
        go_roundw
        case rel => exact ⟨k + 1, true, (⟨⟨yl, ya, yh, yg⟩, .slice yua yh.length yuc, .slice yva yvn yvc, yr, ym, ⟨yp, yn, yo, ys, yt⟩⟩ : KV), by omega, rfl, by go_num, Lib.hid ⟨HNX2.out, HY.out.1, fun _ => HY.out.2, _, _, _, _, _, _, rfl, rfl⟩⟩
        case measure => simp [intOf]; omega
      · have dl : decide (ey < ex) = false := decide_eq_false hlt9
        have HNX2 : Hid (Lf.bgB ls gs (P.map KV.x) n (k + 1) = (if true = true then some (⟨xl, xa, xh, xg⟩ : Lf.L) else none)) := Lib.hid (by rw [HBT.out, if_neg hlt9]; rfl)
        clear HBT hlt9
        have HS7 := Lib.hid (show (fun W => W.cell? ⟨w.heap.size + 2, 0, none⟩ = some (.int .i64 xl) ∧ W.cell? ⟨w.heap.size + 2, 1, none⟩ = some (.int .i64 xa) ∧ W.cell? ⟨w.heap.size + 2, 2, none⟩ = some (.slice xua xh.length xuc) ∧ W.cell? ⟨w.heap.size + 2, 3, none⟩ = some (.slice xva xvn xvc) ∧ W.cell? ⟨w.heap.size + 2, 4, none⟩ = some (.int .i64 xr) ∧ W.cell? ⟨w.heap.size + 2, 5, none⟩ = some (.int .i64 xm) ∧ W.cell? ⟨w.heap.size + 2, 6, none⟩ = some (.int .i64 xp) ∧ W.cell? ⟨w.heap.size + 2, 7, none⟩ = some (.int .i64 xn) ∧ W.cell? ⟨w.heap.size + 2, 8, none⟩ = some (.int .i64 xo) ∧ W.cell? ⟨w.heap.size + 2, 9, none⟩ = some (.int .i64 xs) ∧ W.cell? ⟨w.heap.size + 2, 10, none⟩ = some (.int .i64 xt) ∧ W.cell? ⟨B9, 0, none⟩ = some (.int .i64 yl) ∧ W.cell? ⟨B9, 1, none⟩ = some (.int .i64 ya) ∧ W.cell? ⟨B9, 2, none⟩ = some (.slice yua yh.length yuc) ∧ W.cell? ⟨B9, 3, none⟩ = some (.slice yva yvn yvc) ∧ W.cell? ⟨B9, 4, none⟩ = some (.int .i64 yr) ∧ W.cell? ⟨B9, 5, none⟩ = some (.int .i64 ym) ∧ W.cell? ⟨B9, 6, none⟩ = some (.int .i64 yp) ∧ W.cell? ⟨B9, 7, none⟩ = some (.int .i64 yn) ∧ W.cell? ⟨B9, 8, none⟩ = some (.int .i64 yo) ∧ W.cell? ⟨B9, 9, none⟩ = some (.int .i64 ys) ∧ W.cell? ⟨B9, 10, none⟩ = some (.int .i64 yt)) w9.drew from ⟨HG9.out.1.2.2.1.drew.cell 0, HG9.out.1.2.2.1.drew.cell 1, HG9.out.1.2.2.1.drew.cell 2, HG9.out.1.2.2.1.drew.cell 3, HG9.out.1.2.2.1.drew.cell 4, HG9.out.1.2.2.1.drew.cell 5, HG9.out.1.2.2.1.drew.cell 6, HG9.out.1.2.2.1.drew.cell 7, HG9.out.1.2.2.1.drew.cell 8, HG9.out.1.2.2.1.drew.cell 9, HG9.out.1.2.2.1.drew.cell 10, HG9.out.2.1.drew.cell 0, HG9.out.2.1.drew.cell 1, HG9.out.2.1.drew.cell 2, HG9.out.2.1.drew.cell 3, HG9.out.2.1.drew.cell 4, HG9.out.2.1.drew.cell 5, HG9.out.2.1.drew.cell 6, HG9.out.2.1.drew.cell 7, HG9.out.2.1.drew.cell 8, HG9.out.2.1.drew.cell 9, HG9.out.2.1.drew.cell 10⟩)
        have HG7 := Lib.hid (And.intro (show BeS w (.slice ua ls.length uc) (.slice va gs.length vc) (⟨⟨xl, xa, xh, xg⟩, .slice xua xh.length xuc, .slice xva xvn xvc, xr, xm, ⟨xp, xn, xo, xs, xt⟩⟩ : KV) w9.drew from HG9.out.1.drew) (show BlockAt w9.drew B9 (kA (⟨⟨yl, ya, yh, yg⟩, .slice yua yh.length yuc, .slice yva yvn yvc, yr, ym, ⟨yp, yn, yo, ys, yt⟩⟩ : KV)) KvT from HG9.out.2.1.drew))
        clear hw9 hB9 HG5
        go_wp2_with fail
        rw [show w5.alloc (.cells (kA (⟨⟨yl, ya, yh, yg⟩, .slice yua yh.length yuc, .slice yva yvn yvc, yr, ym, ⟨yp, yn, yo, ys, yt⟩⟩ : KV)) KvT) = w9 from HE9.out.1]
        rw [HE9.out.2]
        refine wp_region_seq [(0, true), (1, true), (2, true), (3, true), (4, true), (5, true), (7, true), (6, false), (8, false), (9, true), (10, true), (11, true)] (fun W => W.cell? ⟨w.heap.size + 2, 0, none⟩ = some (.int .i64 xl) ∧ W.cell? ⟨w.heap.size + 2, 1, none⟩ = some (.int .i64 xa) ∧ W.cell? ⟨w.heap.size + 2, 2, none⟩ = some (.slice xua xh.length xuc) ∧ W.cell? ⟨w.heap.size + 2, 3, none⟩ = some (.slice xva xvn xvc) ∧ W.cell? ⟨w.heap.size + 2, 4, none⟩ = some (.int .i64 xr) ∧ W.cell? ⟨w.heap.size + 2, 5, none⟩ = some (.int .i64 xm) ∧ W.cell? ⟨w.heap.size + 2, 6, none⟩ = some (.int .i64 xp) ∧ W.cell? ⟨w.heap.size + 2, 7, none⟩ = some (.int .i64 xn) ∧ W.cell? ⟨w.heap.size + 2, 8, none⟩ = some (.int .i64 xo) ∧ W.cell? ⟨w.heap.size + 2, 9, none⟩ = some (.int .i64 xs) ∧ W.cell? ⟨w.heap.size + 2, 10, none⟩ = some (.int .i64 xt) ∧ W.cell? ⟨B9, 0, none⟩ = some (.int .i64 yl) ∧ W.cell? ⟨B9, 1, none⟩ = some (.int .i64 ya) ∧ W.cell? ⟨B9, 2, none⟩ = some (.slice yua yh.length yuc) ∧ W.cell? ⟨B9, 3, none⟩ = some (.slice yva yvn yvc) ∧ W.cell? ⟨B9, 4, none⟩ = some (.int .i64 yr) ∧ W.cell? ⟨B9, 5, none⟩ = some (.int .i64 ym) ∧ W.cell? ⟨B9, 6, none⟩ = some (.int .i64 yp) ∧ W.cell? ⟨B9, 7, none⟩ = some (.int .i64 yn) ∧ W.cell? ⟨B9, 8, none⟩ = some (.int .i64 yo) ∧ W.cell? ⟨B9, 9, none⟩ = some (.int .i64 ys) ∧ W.cell? ⟨B9, 10, none⟩ = some (.int .i64 yt))
          (by kernel_rfl) (by kernel_rfl) (by kernel_rfl) (by kernel_rfl) (fun d _ _ _ _ h => by cases d <;> exact h) HS7.out (fun _ => ?_)
        repeat (first | (refine SeqH.take (v := ?_) rfl (by rfl) ?_ ?_; rotate_left; (· intro w hSw; (try dsimp only at hSw); obtain ⟨q0, q1, q2, q3, q4, q5, q6, q7, q8, q9, q10, q11, q12, q13, q14, q15, q16, q17, q18, q19, q20, q21⟩ := hSw; go_simp; (try with_reducible rfl)); simp only [Act.put, List.setIfInBounds_toArray, List.set_cons_zero, List.set_cons_succ]) | (refine SeqH.skip rfl (by rfl) ?_; simp only [Act.put, List.setIfInBounds_toArray, List.set_cons_zero, List.set_cons_succ]))
        refine SeqH.step rfl (by rfl) (fun K hK => ?_)
        go_simp
        go_at_call 127
        refine (CY.out _).mono ?_
        rintro e w7 ⟨rfl, hb1⟩
        try dsimp only
        have HG8 := Lib.hid (And.intro (HG7.out.1.step hb1) (HG7.out.2.below hb1 HG7.out.2.lt))
        have HB8 := Lib.hid hb1
        clear hb1
        refine hK.out _ _ (⟨HG8.out.1.2.2.1.cell 0, HG8.out.1.2.2.1.cell 1, HG8.out.1.2.2.1.cell 2, HG8.out.1.2.2.1.cell 3, HG8.out.1.2.2.1.cell 4, HG8.out.1.2.2.1.cell 5, HG8.out.1.2.2.1.cell 6, HG8.out.1.2.2.1.cell 7, HG8.out.1.2.2.1.cell 8, HG8.out.1.2.2.1.cell 9, HG8.out.1.2.2.1.cell 10, HG8.out.2.cell 0, HG8.out.2.cell 1, HG8.out.2.cell 2, HG8.out.2.cell 3, HG8.out.2.cell 4, HG8.out.2.cell 5, HG8.out.2.cell 6, HG8.out.2.cell 7, HG8.out.2.cell 8, HG8.out.2.cell 9, HG8.out.2.cell 10⟩) (fun _ => ?_)
        clear hK K
        try simp only [Act.put, List.setIfInBounds_toArray, List.set_cons_zero, List.set_cons_succ]
        repeat (first | (refine SeqH.take (v := ?_) rfl (by rfl) ?_ ?_; rotate_left; (· intro w hSw; (try dsimp only at hSw); obtain ⟨q0, q1, q2, q3, q4, q5, q6, q7, q8, q9, q10, q11, q12, q13, q14, q15, q16, q17, q18, q19, q20, q21⟩ := hSw; go_simp; (try with_reducible rfl)); simp only [Act.put, List.setIfInBounds_toArray, List.set_cons_zero, List.set_cons_succ]) | (refine SeqH.skip rfl (by rfl) ?_; simp only [Act.put, List.setIfInBounds_toArray, List.set_cons_zero, List.set_cons_succ]))
        refine SeqH.step rfl (by rfl) (fun K hK => ?_)
        go_simp
        go_at_call 127
        refine (CX.out _).mono ?_
        rintro e w7 ⟨rfl, hb1⟩
        try dsimp only
        have HGE := Lib.hid (And.intro (HG8.out.1.step hb1) (HG8.out.2.below hb1 HG8.out.2.lt))
        have HBE := Lib.hid (below_step HB8.out hb1)
        clear hb1 HG8 HB8
        refine hK.out _ _ (⟨HGE.out.1.2.2.1.cell 0, HGE.out.1.2.2.1.cell 1, HGE.out.1.2.2.1.cell 2, HGE.out.1.2.2.1.cell 3, HGE.out.1.2.2.1.cell 4, HGE.out.1.2.2.1.cell 5, HGE.out.1.2.2.1.cell 6, HGE.out.1.2.2.1.cell 7, HGE.out.1.2.2.1.cell 8, HGE.out.1.2.2.1.cell 9, HGE.out.1.2.2.1.cell 10, HGE.out.2.cell 0, HGE.out.2.cell 1, HGE.out.2.cell 2, HGE.out.2.cell 3, HGE.out.2.cell 4, HGE.out.2.cell 5, HGE.out.2.cell 6, HGE.out.2.cell 7, HGE.out.2.cell 8, HGE.out.2.cell 9, HGE.out.2.cell 10⟩) (fun _ => ?_)
        clear hK K
        try simp only [Act.put, List.setIfInBounds_toArray, List.set_cons_zero, List.set_cons_succ]
        repeat (first | (refine SeqH.take (v := ?_) rfl (by rfl) ?_ ?_; rotate_left; (· intro w hSw; (try dsimp only at hSw); obtain ⟨q0, q1, q2, q3, q4, q5, q6, q7, q8, q9, q10, q11, q12, q13, q14, q15, q16, q17, q18, q19, q20, q21⟩ := hSw; go_simp; (try with_reducible rfl)); simp only [Act.put, List.setIfInBounds_toArray, List.set_cons_zero, List.set_cons_succ]) | (refine SeqH.skip rfl (by rfl) ?_; simp only [Act.put, List.setIfInBounds_toArray, List.set_cons_zero, List.set_cons_succ]))
        refine SeqH.done ?_
        clear HS7 HG7
        have HFN := Lib.hid (show BeK ls gs w.heap.size w7 (⟨⟨xl, xa, xh, xg⟩, .slice xua xh.length xuc, .slice xva xvn xvc, xr, xm, ⟨xp, xn, xo, xs, xt⟩⟩ : KV) from BeK.all (by first | exact HG9.out.2.2 rfl | exact HG9.out.2.2 trivial) (below_step (below_drewN (Below.refl w9.heap.size w9) 1) HBE.out))
        go_wp2
        go_roundw
        case rel => exact ⟨k + 1, true, (⟨⟨xl, xa, xh, xg⟩, .slice xua xh.length xuc, .slice xva xvn xvc, xr, xm, ⟨xp, xn, xo, xs, xt⟩⟩ : KV), by omega, rfl, by go_num, Lib.hid ⟨HNX2.out, HGE.out.1, fun _ => HFN.out, _, _, _, _, _, _, rfl, rfl⟩⟩
        case measure => simp [intOf]; omega
    · obtain rfl : k = ls.length := by omega
      have HG := Lib.hid hg.out
      clear hg
      obtain ⟨xua, xun, xuc, xva, xvn, xvc, hxu, hxv⟩ := HG.out.2.2.2
      obtain ⟨⟨xl, xa, xh, xg⟩, xu, xv, xr, xm, ⟨xp, xn, xo, xs, xt⟩⟩ := b
      dsimp only at *
      subst hxu hxv
      have z0 : World.cell? _ ⟨w.heap.size + 1, 0, none⟩ = some (.int .i64 0) := HG.out.2.1.2.1.cell 0
      have f0 : World.frozen? _ ⟨w.heap.size + 1, 0, none⟩ = false := HG.out.2.1.2.1.frozen 0
      have x0 : World.cell? _ ⟨w.heap.size + 1 + 1, 0, none⟩ = some (.int .i64 xl) := HG.out.2.1.2.2.1.cell 0
      have z1 : World.cell? _ ⟨w.heap.size + 1, 1, none⟩ = some (.int .i64 0) := HG.out.2.1.2.1.cell 1
      have f1 : World.frozen? _ ⟨w.heap.size + 1, 1, none⟩ = false := HG.out.2.1.2.1.frozen 1
      have x1 : World.cell? _ ⟨w.heap.size + 1 + 1, 1, none⟩ = some (.int .i64 xa) := HG.out.2.1.2.2.1.cell 1
      have z2 : World.cell? _ ⟨w.heap.size + 1, 2, none⟩ = some (.slice none 0 0) := HG.out.2.1.2.1.cell 2
      have f2 : World.frozen? _ ⟨w.heap.size + 1, 2, none⟩ = false := HG.out.2.1.2.1.frozen 2
      have x2 : World.cell? _ ⟨w.heap.size + 1 + 1, 2, none⟩ = some (.slice xua xun xuc) := HG.out.2.1.2.2.1.cell 2
      have z3 : World.cell? _ ⟨w.heap.size + 1, 3, none⟩ = some (.slice none 0 0) := HG.out.2.1.2.1.cell 3
      have f3 : World.frozen? _ ⟨w.heap.size + 1, 3, none⟩ = false := HG.out.2.1.2.1.frozen 3
      have x3 : World.cell? _ ⟨w.heap.size + 1 + 1, 3, none⟩ = some (.slice xva xvn xvc) := HG.out.2.1.2.2.1.cell 3
      have z4 : World.cell? _ ⟨w.heap.size + 1, 4, none⟩ = some (.int .i64 0) := HG.out.2.1.2.1.cell 4
      have f4 : World.frozen? _ ⟨w.heap.size + 1, 4, none⟩ = false := HG.out.2.1.2.1.frozen 4
      have x4 : World.cell? _ ⟨w.heap.size + 1 + 1, 4, none⟩ = some (.int .i64 xr) := HG.out.2.1.2.2.1.cell 4
      have z5 : World.cell? _ ⟨w.heap.size + 1, 5, none⟩ = some (.int .i64 0) := HG.out.2.1.2.1.cell 5
      have f5 : World.frozen? _ ⟨w.heap.size + 1, 5, none⟩ = false := HG.out.2.1.2.1.frozen 5
      have x5 : World.cell? _ ⟨w.heap.size + 1 + 1, 5, none⟩ = some (.int .i64 xm) := HG.out.2.1.2.2.1.cell 5
      have z6 : World.cell? _ ⟨w.heap.size + 1, 6, none⟩ = some (.int .i64 0) := HG.out.2.1.2.1.cell 6
      have f6 : World.frozen? _ ⟨w.heap.size + 1, 6, none⟩ = false := HG.out.2.1.2.1.frozen 6
      have x6 : World.cell? _ ⟨w.heap.size + 1 + 1, 6, none⟩ = some (.int .i64 xp) := HG.out.2.1.2.2.1.cell 6
      have z7 : World.cell? _ ⟨w.heap.size + 1, 7, none⟩ = some (.int .i64 0) := HG.out.2.1.2.1.cell 7
      have f7 : World.frozen? _ ⟨w.heap.size + 1, 7, none⟩ = false := HG.out.2.1.2.1.frozen 7
      have x7 : World.cell? _ ⟨w.heap.size + 1 + 1, 7, none⟩ = some (.int .i64 xn) := HG.out.2.1.2.2.1.cell 7
      have z8 : World.cell? _ ⟨w.heap.size + 1, 8, none⟩ = some (.int .i64 0) := HG.out.2.1.2.1.cell 8
      have f8 : World.frozen? _ ⟨w.heap.size + 1, 8, none⟩ = false := HG.out.2.1.2.1.frozen 8
      have x8 : World.cell? _ ⟨w.heap.size + 1 + 1, 8, none⟩ = some (.int .i64 xo) := HG.out.2.1.2.2.1.cell 8
      have z9 : World.cell? _ ⟨w.heap.size + 1, 9, none⟩ = some (.int .i64 0) := HG.out.2.1.2.1.cell 9
      have f9 : World.frozen? _ ⟨w.heap.size + 1, 9, none⟩ = false := HG.out.2.1.2.1.frozen 9
      have x9 : World.cell? _ ⟨w.heap.size + 1 + 1, 9, none⟩ = some (.int .i64 xs) := HG.out.2.1.2.2.1.cell 9
      have z10 : World.cell? _ ⟨w.heap.size + 1, 10, none⟩ = some (.int .i64 0) := HG.out.2.1.2.1.cell 10
      have f10 : World.frozen? _ ⟨w.heap.size + 1, 10, none⟩ = false := HG.out.2.1.2.1.frozen 10
      have x10 : World.cell? _ ⟨w.heap.size + 1 + 1, 10, none⟩ = some (.int .i64 xt) := HG.out.2.1.2.2.1.cell 10
      have hlt1 : w.heap.size + 1 < _ := HG.out.2.1.2.1.lt
      go_wp2
      obtain ⟨Y, hY⟩ : ∃ Z, (((((((((((wr.setCell ⟨w.heap.size + 1, 0, none⟩ (.int .i64 xl)).setCell ⟨w.heap.size + 1, 1, none⟩ (.int .i64 xa)).setCell ⟨w.heap.size + 1, 2, none⟩ (.slice xua xun xuc)).setCell ⟨w.heap.size + 1, 3, none⟩ (.slice xva xvn xvc)).setCell ⟨w.heap.size + 1, 4, none⟩ (.int .i64 xr)).setCell ⟨w.heap.size + 1, 5, none⟩ (.int .i64 xm)).setCell ⟨w.heap.size + 1, 6, none⟩ (.int .i64 xp)).setCell ⟨w.heap.size + 1, 7, none⟩ (.int .i64 xn)).setCell ⟨w.heap.size + 1, 8, none⟩ (.int .i64 xo)).setCell ⟨w.heap.size + 1, 9, none⟩ (.int .i64 xs)).setCell ⟨w.heap.size + 1, 10, none⟩ (.int .i64 xt)) = Z := ⟨_, rfl⟩
      rw [hY]
      obtain ⟨hY1, hYb, hYk, hYo⟩ := store11c (W := wr) (Y := Y) (B := w.heap.size + 1) (k := (⟨⟨0, 0, [], []⟩, .slice none 0 0, .slice none 0 0, 0, 0, ⟨0, 0, 0, 0, 0⟩⟩ : KV)) (k2 := (⟨⟨xl, xa, xh, xg⟩, .slice xua xun xuc, .slice xva xvn xvc, xr, xm, ⟨xp, xn, xo, xs, xt⟩⟩ : KV)) HG.out.2.1.2.1 hY
      have HY := Lib.hid (show BlockAt Y (w.heap.size + 1) (kA (⟨⟨xl, xa, xh, xg⟩, .slice xua xun xuc, .slice xva xvn xvc, xr, xm, ⟨xp, xn, xo, xs, xt⟩⟩ : KV)) KvT ∧ Below w.heap.size w Y ∧ (f = true → BeK ls gs w.heap.size Y (⟨⟨xl, xa, xh, xg⟩, .slice xua xun xuc, .slice xva xvn xvc, xr, xm, ⟨xp, xn, xo, xs, xt⟩⟩ : KV)) from ⟨hY1, hYb _ _ HG.out.2.1.2.2.2 (by omega), fun h => ⟨⟨hYo _ _ _ (HG.out.2.2.1 h).1.1, hYo _ _ _ (HG.out.2.2.1 h).1.2⟩, (HG.out.2.2.1 h).2⟩⟩)
      clear hY hY1 hYb hYk hYo z0 f0 x0 z1 f1 x1 z2 f2 x2 z3 f3 x3 z4 f4 x4 z5 f5 x5 z6 f6 x6 z7 f7 x7 z8 f8 x8 z9 f9 x9 z10 f10 x10 hlt1
      have v0 : World.cell? _ ⟨w.heap.size + 1, 0, none⟩ = some (.int .i64 xl) := HY.out.1.cell 0
      have v1 : World.cell? _ ⟨w.heap.size + 1, 1, none⟩ = some (.int .i64 xa) := HY.out.1.cell 1
      have v2 : World.cell? _ ⟨w.heap.size + 1, 2, none⟩ = some (.slice xua xun xuc) := HY.out.1.cell 2
      have v3 : World.cell? _ ⟨w.heap.size + 1, 3, none⟩ = some (.slice xva xvn xvc) := HY.out.1.cell 3
      have v4 : World.cell? _ ⟨w.heap.size + 1, 4, none⟩ = some (.int .i64 xr) := HY.out.1.cell 4
      have v5 : World.cell? _ ⟨w.heap.size + 1, 5, none⟩ = some (.int .i64 xm) := HY.out.1.cell 5
      have v6 : World.cell? _ ⟨w.heap.size + 1, 6, none⟩ = some (.int .i64 xp) := HY.out.1.cell 6
      have v7 : World.cell? _ ⟨w.heap.size + 1, 7, none⟩ = some (.int .i64 xn) := HY.out.1.cell 7
      have v8 : World.cell? _ ⟨w.heap.size + 1, 8, none⟩ = some (.int .i64 xo) := HY.out.1.cell 8
      have v9 : World.cell? _ ⟨w.heap.size + 1, 9, none⟩ = some (.int .i64 xs) := HY.out.1.cell 9
      have v10 : World.cell? _ ⟨w.heap.size + 1, 10, none⟩ = some (.int .i64 xt) := HY.out.1.cell 10
      refine bodyPost_ret (v := .tuple #[kV (⟨⟨xl, xa, xh, xg⟩, .slice xua xun xuc, .slice xva xvn xvc, xr, xm, ⟨xp, xn, xo, xs, xt⟩⟩ : KV), .bool f]) (by simp [results, Try.results97, go_sem, v0, v1, v2, v3, v4, v5, v6, v7, v8, v9, v10]) rfl ⟨(⟨⟨xl, xa, xh, xg⟩, .slice xua xun xuc, .slice xva xvn xvc, xr, xm, ⟨xp, xn, xo, xs, xt⟩⟩ : KV), f, rfl, HY.out.2.1, HG.out.1, HY.out.2.2, _, _, _, _, _, _, rfl, rfl⟩
end Go.Proofs.Ytabfcnfddemblaa.Lo
