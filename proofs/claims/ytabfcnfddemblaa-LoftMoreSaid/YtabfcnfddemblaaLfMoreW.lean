/- LoftMore returns true, whatever the lofts, the goods, the goods more and the window. -/
import Derived.Test.YtabfcnfddemblaaLf33
namespace Go.Proofs.Ytabfcnfddemblaa.Lo
open Go.RowKit

/-- What lies in memory while the law looks at more. -/
def LMS (w : World) (u v : Value) (g : Lf.G) (a b : Int) (W : World) : Prop := BlockAt W w.heap.size #[u, v] FirmT ∧ BlockAt W (w.heap.size + 1) (gdA g) GoodT ∧ BlockAt W (w.heap.size + 1 + 1) (winA a b) SpanT ∧ Below w.heap.size w W
theorem LMS.step {w : World} {u v : Value} {g : Lf.G} {a b : Int} {W W2 : World} (h : LMS w u v g a b W) (hb : Below W.heap.size W W2) : LMS w u v g a b W2 := ⟨h.1.below hb h.1.lt, h.2.1.below hb h.2.1.lt, h.2.2.1.below hb h.2.2.1.lt, below_step h.2.2.2 hb⟩
theorem LMS.al {w : World} {u v : Value} {g : Lf.G} {a b : Int} {W : World} (h : LMS w u v g a b W) (o : Obj) : LMS w u v g a b (W.alloc o) := ⟨h.1.alloc o, h.2.1.alloc o, h.2.2.1.alloc o, below_alloc2 h.2.2.2 o⟩
theorem LMS.drew {w : World} {u v : Value} {g : Lf.G} {a b : Int} {W : World} (h : LMS w u v g a b W) : LMS w u v g a b W.drew := ⟨h.1.drew, h.2.1.drew, h.2.2.1.drew, below_drewN h.2.2.2 1⟩
/-- The cells that the appends of the law read. -/
def MoS (w : World) (v : Value) (g : Lf.G) (W : World) : Prop := W.cell? ⟨w.heap.size, 1, none⟩ = some v ∧ W.cell? ⟨w.heap.size + 1, 0, none⟩ = some (.int .i64 g.p) ∧ W.cell? ⟨w.heap.size + 1, 1, none⟩ = some (.int .i64 g.n) ∧ W.cell? ⟨w.heap.size + 1, 2, none⟩ = some (.int .i64 g.m) ∧ W.cell? ⟨w.heap.size + 1, 3, none⟩ = some (.int .i64 g.a) ∧ W.cell? ⟨w.heap.size + 1, 4, none⟩ = some (.int .i64 g.u)
theorem MoS.step {w : World} {u v : Value} {g : Lf.G} {a b : Int} {W W2 : World} (h : LMS w u v g a b W) (_hS : MoS w v g W) (hb : Below W.heap.size W W2) : MoS w v g W2 :=
  ⟨(h.step hb).1.cell 1, (h.step hb).2.1.cell 0, (h.step hb).2.1.cell 1, (h.step hb).2.1.cell 2, (h.step hb).2.1.cell 3, (h.step hb).2.1.cell 4⟩
theorem lofts_rows {w : World} {a : Option Addr} {n c : Nat} {ls : List Lf.F} (h : Lofts w (.slice a n c) ls) : ∀ k (hk : k < ls.length), ∃ b off, a = some ⟨b, off, none⟩ ∧ b < w.heap.size ∧ LofAt w b (off + k * 2) ls[k] := by
  obtain ⟨a2, c2, e, _, hk⟩ := h
  injection e with e1 e2 e3
  subst e1
  exact hk
theorem fv_one (m : Int) (a : Option Addr) (n c : Nat) (r : List Int) : ∀ u ∈ fvC (⟨m, r⟩, .slice a n c), u.oneCell' = true := by
  intro u h; simp [fvC] at h; rcases h with rfl | rfl <;> rfl
/-- What is kept while the law builds wider lofts. -/
def MSt (w : World) (u v : Value) (g : Lf.G) (a b : Int) (B : Nat) (X W : World) : Prop := LMS w u v g a b W ∧ BlockAt W B (winA a b) WinT ∧ Below X.heap.size X W
theorem MSt.step {w : World} {u v : Value} {g : Lf.G} {a b : Int} {B : Nat} {X W W2 : World} (h : MSt w u v g a b B X W) (hb : Below W.heap.size W W2) : MSt w u v g a b B X W2 := ⟨h.1.step hb, h.2.1.below hb h.2.1.lt, below_step h.2.2 hb⟩
set_option maxRecDepth 100000 in
set_option maxHeartbeats 8000000 in
theorem more_walk (u v : Value) (ls : List Lf.F) (gs : List Lf.G) (g : Lf.G) (a b : Int) (w : World) (hu : Lofts w u ls) (hv : Goods w v gs) :
    Calls Try.prog 14 #[.agg #[u, v], gdV g, winV a b] w fun e w' => e = .returned (.bool true) ∧ Below w.heap.size w w' := by
  have CP := Lib.hid (fun x y (l2 : List Lf.F) (g2 : List Lf.G) W h1 h2 => isProofF_any x y l2 g2 a b W h1 h2)
  have CV := Lib.hid (fun v l W h => valGoods_any v l W h)
  have CS := Lib.hid (fun W => sane_any W)
  obtain ⟨ua, uc, rfl⟩ := hu.form
  obtain ⟨va, vc, rfl⟩ := hv.form
  have CL := Lib.hid (fun W => large_nil ua va ls.length gs.length uc vc W)
  have HUV := Lib.hid (And.intro hu hv)
  have HKL := Lib.hid (lofts_rows hu)
  have H0 := Lib.hid (show LMS w (.slice ua ls.length uc) (.slice va gs.length vc) g a b (((w.alloc (.cells #[.slice ua ls.length uc, .slice va gs.length vc] FirmT)).alloc (.cells (gdA g) GoodT)).alloc (.cells (winA a b) SpanT)) from
    ⟨((BlockAt.new w #[.slice ua ls.length uc, .slice va gs.length vc] FirmT).alloc _).alloc _, by have := (BlockAt.new (w.alloc (.cells #[.slice ua ls.length uc, .slice va gs.length vc] FirmT)) (gdA g) GoodT).alloc (.cells (winA a b) SpanT); simpa using this,
     by have := BlockAt.new ((w.alloc (.cells #[.slice ua ls.length uc, .slice va gs.length vc] FirmT)).alloc (.cells (gdA g) GoodT)) (winA a b) SpanT; simpa using this, below_alloc2 (below_alloc2 (below_alloc2 (Below.refl w.heap.size w) _) _) _⟩)
  clear hu hv
  obtain ⟨gp, gn, gm, ga, gu⟩ := g
  have HVG := Lib.hid (fun h => (Lf.valG_one (g := ⟨gp, gn, gm, ga, gu⟩)).1 h)
  by_cases hL : ls.length ≤ 10 ∧ gs.length < 8
  case neg =>
    by_cases hL2 : ls.length ≤ 10 ∧ gs.length ≤ 20
    · have hl : (decide (10 < ls.length) || decide (20 < gs.length)) = false := by rw [decide_eq_false (by omega), decide_eq_false (by omega)]; rfl
      rw [hl] at CL
      have d1 : decide ((gs.length : Int) ≥ 8) = true := decide_eq_true (by omega)
      have d2 : decide (8 ≤ (gs.length : Int)) = true := decide_eq_true (by omega)
      have d3 : decide (8 ≤ gs.length) = true := decide_eq_true (by omega)
      clear hl CP CV HVG HUV
      have x0 : World.cell? _ _ = some (.slice ua ls.length uc) := H0.out.1.cell 0
      have x1 : World.cell? _ _ = some (.slice va gs.length vc) := H0.out.1.cell 1
      have x2 : World.cell? _ _ = some (.int .i64 gp) := H0.out.2.1.cell 0
      have x3 : World.cell? _ _ = some (.int .i64 gn) := H0.out.2.1.cell 1
      have x4 : World.cell? _ _ = some (.int .i64 gm) := H0.out.2.1.cell 2
      have x5 : World.cell? _ _ = some (.int .i64 ga) := H0.out.2.1.cell 3
      have x6 : World.cell? _ _ = some (.int .i64 gu) := H0.out.2.1.cell 4
      have x7 : World.cell? _ _ = some (.int .i64 a) := H0.out.2.2.1.cell 0
      have x8 : World.cell? _ _ = some (.int .i64 b) := H0.out.2.2.1.cell 1
      go_enter Try.func14, Try.ntmps14
      go_wp2_with fail
      refine (CL.out _).mono ?_
      rintro e w1 ⟨rfl, hb1⟩
      have H1 := Lib.hid (LMS.step H0.out hb1)
      clear hb1
      clear x0 x1 x2 x3 x4 x5 x6 x7 x8
      have x0 : World.cell? _ _ = some (.slice ua ls.length uc) := H1.out.1.cell 0
      have x1 : World.cell? _ _ = some (.slice va gs.length vc) := H1.out.1.cell 1
      have x2 : World.cell? _ _ = some (.int .i64 gp) := H1.out.2.1.cell 0
      have x3 : World.cell? _ _ = some (.int .i64 gn) := H1.out.2.1.cell 1
      have x4 : World.cell? _ _ = some (.int .i64 gm) := H1.out.2.1.cell 2
      have x5 : World.cell? _ _ = some (.int .i64 ga) := H1.out.2.1.cell 3
      have x6 : World.cell? _ _ = some (.int .i64 gu) := H1.out.2.1.cell 4
      have x7 : World.cell? _ _ = some (.int .i64 a) := H1.out.2.2.1.cell 0
      have x8 : World.cell? _ _ = some (.int .i64 b) := H1.out.2.2.1.cell 1
      go_wp2_with fail
      refine (CS.out _).mono ?_
      rintro e w4 ⟨rfl, hb1⟩
      have H4 := Lib.hid (LMS.step H1.out hb1)
      clear hb1
      go_wp2
      go_ret
      exact ⟨rfl, H4.out.2.2.2⟩
    · have hl : (decide (10 < ls.length) || decide (20 < gs.length)) = true := by
        by_cases h : 10 < ls.length
        · rw [decide_eq_true h]; rfl
        · rw [decide_eq_true (show 20 < gs.length by omega), Bool.or_true]
      rw [hl] at CL
      clear hl CP CV HVG HUV
      have x0 : World.cell? _ _ = some (.slice ua ls.length uc) := H0.out.1.cell 0
      have x1 : World.cell? _ _ = some (.slice va gs.length vc) := H0.out.1.cell 1
      have x2 : World.cell? _ _ = some (.int .i64 gp) := H0.out.2.1.cell 0
      have x3 : World.cell? _ _ = some (.int .i64 gn) := H0.out.2.1.cell 1
      have x4 : World.cell? _ _ = some (.int .i64 gm) := H0.out.2.1.cell 2
      have x5 : World.cell? _ _ = some (.int .i64 ga) := H0.out.2.1.cell 3
      have x6 : World.cell? _ _ = some (.int .i64 gu) := H0.out.2.1.cell 4
      have x7 : World.cell? _ _ = some (.int .i64 a) := H0.out.2.2.1.cell 0
      have x8 : World.cell? _ _ = some (.int .i64 b) := H0.out.2.2.1.cell 1
      go_enter Try.func14, Try.ntmps14
      go_wp2_with fail
      refine (CL.out _).mono ?_
      rintro e w1 ⟨rfl, hb1⟩
      have H1 := Lib.hid (LMS.step H0.out hb1)
      clear hb1
      clear x0 x1 x2 x3 x4 x5 x6 x7 x8
      go_wp2_with fail
      refine (CS.out _).mono ?_
      rintro e w4 ⟨rfl, hb1⟩
      have H4 := Lib.hid (LMS.step H1.out hb1)
      clear hb1
      go_wp2
      go_ret
      exact ⟨rfl, H4.out.2.2.2⟩
  have hl : (decide (10 < ls.length) || decide (20 < gs.length)) = false := by rw [decide_eq_false (by omega), decide_eq_false (by omega)]; rfl
  rw [hl] at CL
  have d1 : decide ((gs.length : Int) ≥ 8) = false := decide_eq_false (by omega)
  have d2 : decide (8 ≤ (gs.length : Int)) = false := decide_eq_false (by omega)
  have d3 : decide (8 ≤ gs.length) = false := decide_eq_false (by omega)
  clear hl
  have x0 : World.cell? _ _ = some (.slice ua ls.length uc) := H0.out.1.cell 0
  have x1 : World.cell? _ _ = some (.slice va gs.length vc) := H0.out.1.cell 1
  have x2 : World.cell? _ _ = some (.int .i64 gp) := H0.out.2.1.cell 0
  have x3 : World.cell? _ _ = some (.int .i64 gn) := H0.out.2.1.cell 1
  have x4 : World.cell? _ _ = some (.int .i64 gm) := H0.out.2.1.cell 2
  have x5 : World.cell? _ _ = some (.int .i64 ga) := H0.out.2.1.cell 3
  have x6 : World.cell? _ _ = some (.int .i64 gu) := H0.out.2.1.cell 4
  have x7 : World.cell? _ _ = some (.int .i64 a) := H0.out.2.2.1.cell 0
  have x8 : World.cell? _ _ = some (.int .i64 b) := H0.out.2.2.1.cell 1
  go_enter Try.func14, Try.ntmps14
  go_wp2_with fail
  refine (CL.out _).mono ?_
  rintro e w1 ⟨rfl, hb1⟩
  have H1 := Lib.hid (LMS.step H0.out hb1)
  clear hb1
  clear x0 x1 x2 x3 x4 x5 x6 x7 x8
  have x0 : World.cell? _ _ = some (.slice ua ls.length uc) := H1.out.1.cell 0
  have x1 : World.cell? _ _ = some (.slice va gs.length vc) := H1.out.1.cell 1
  have x2 : World.cell? _ _ = some (.int .i64 gp) := H1.out.2.1.cell 0
  have x3 : World.cell? _ _ = some (.int .i64 gn) := H1.out.2.1.cell 1
  have x4 : World.cell? _ _ = some (.int .i64 gm) := H1.out.2.1.cell 2
  have x5 : World.cell? _ _ = some (.int .i64 ga) := H1.out.2.1.cell 3
  have x6 : World.cell? _ _ = some (.int .i64 gu) := H1.out.2.1.cell 4
  have x7 : World.cell? _ _ = some (.int .i64 a) := H1.out.2.2.1.cell 0
  have x8 : World.cell? _ _ = some (.int .i64 b) := H1.out.2.2.1.cell 1
  have HGB := Lib.hid (BlockAt.new w1 (gdA ⟨gp, gn, gm, ga, gu⟩) GoodT)
  have CV1 := Lib.hid (CV.out _ [⟨gp, gn, gm, ga, gu⟩] _ (goods_one HGB.out))
  have H1a := Lib.hid (LMS.al H1.out (.cells (gdA ⟨gp, gn, gm, ga, gu⟩) GoodT))
  by_cases hz : Lf.valG [⟨gp, gn, gm, ga, gu⟩] = 0
  case neg =>
    generalize Lf.valG [⟨gp, gn, gm, ga, gu⟩] = E at *
    have hd : (E == 0) = false := beq_eq_false_iff_ne.2 hz
    have hd2 : (E != 0) = true := by rw [bne, hd]; rfl
    go_wp2_with fail
    refine CV1.out.mono ?_
    rintro e w2 ⟨rfl, hb1⟩
    have H2 := Lib.hid (LMS.step H1a.out hb1)
    clear hb1
    clear x0 x1 x2 x3 x4 x5 x6 x7 x8
    go_wp2_with fail
    refine (CS.out _).mono ?_
    rintro e w4 ⟨rfl, hb1⟩
    have H4 := Lib.hid (LMS.step H2.out hb1)
    clear hb1
    go_wp2
    go_ret
    exact ⟨rfl, H4.out.2.2.2⟩
  have hok := HVG.out hz
  rw [hz] at CV1
  clear hz HVG
  go_wp2_with fail
  refine CV1.out.mono ?_
  rintro e w2 ⟨rfl, hb1⟩
  have H2 := Lib.hid (LMS.step H1a.out hb1)
  clear hb1 H1 H1a CV1 HGB CV CL d1 d2 d3
  clear x0 x1 x2 x3 x4 x5 x6 x7 x8
  have HWB := Lib.hid (BlockAt.new w2 (winA a b) WinT)
  have H3 := Lib.hid (LMS.al H2.out (.cells (winA a b) WinT))
  have x0 : World.cell? _ _ = some (.slice ua ls.length uc) := H2.out.1.cell 0
  have x1 : World.cell? _ _ = some (.slice va gs.length vc) := H2.out.1.cell 1
  have x2 : World.cell? _ _ = some (.int .i64 gp) := H2.out.2.1.cell 0
  have x3 : World.cell? _ _ = some (.int .i64 gn) := H2.out.2.1.cell 1
  have x4 : World.cell? _ _ = some (.int .i64 gm) := H2.out.2.1.cell 2
  have x5 : World.cell? _ _ = some (.int .i64 ga) := H2.out.2.1.cell 3
  have x6 : World.cell? _ _ = some (.int .i64 gu) := H2.out.2.1.cell 4
  have x7 : World.cell? _ _ = some (.int .i64 a) := H2.out.2.2.1.cell 0
  have x8 : World.cell? _ _ = some (.int .i64 b) := H2.out.2.2.1.cell 1
  go_upto_region 4 with fail
  clear x0 x1 x2 x3 x4 x5 x6 x7 x8
  have hg8 : gs.length ≤ 8 := by omega
  have hg7 : gs.length < 8 := by omega
  have HB4 := Lib.hid (H3.out.2.2.2)
  have HS4 := Lib.hid (show MoS w (.slice va gs.length vc) ⟨gp, gn, gm, ga, gu⟩ (w2.alloc (.cells (winA a b) WinT)).drew from ⟨H3.out.1.drew.cell 1, H3.out.2.1.drew.cell 0, H3.out.2.1.drew.cell 1, H3.out.2.1.drew.cell 2, H3.out.2.1.drew.cell 3, H3.out.2.1.drew.cell 4⟩)
  have HL4 := Lib.hid (And.intro H3.out.drew (show BlockAt (w2.alloc (.cells (winA a b) WinT)).drew w2.heap.size (winA a b) WinT from HWB.out))
  have HP4 := Lib.hid (show Lofts (w2.alloc (.cells (winA a b) WinT)).drew (.slice ua ls.length uc) ls ∧ Goods (w2.alloc (.cells (winA a b) WinT)).drew (.slice va gs.length vc) gs from ⟨HUV.out.1.all HL4.out.1.2.2.2, HUV.out.2.all HL4.out.1.2.2.2⟩)
  clear H2 H3 HB4 HWB HUV
  refine wp_region_meet (.take 1 <| .take 2 <| .take 4 <| .two 0 (.two 3 (.one 5 (.one 6 (.take 7 .done))) 5 (.one 3 (.one 6 (.take 7 .done)))) 5 (.one 0 (.one 3 (.one 6 (.take 7 .done))))) (MoS w (.slice va gs.length vc) ⟨gp, gn, gm, ga, gu⟩)
    (fun x : Value × Value × Value × Value => [(33, .pointer (some ⟨w.heap.size, 1, none⟩)), (34, .slice va gs.length vc), (36, .agg #[.int .i64 gp, .int .i64 gn, .int .i64 gm, .int .i64 ga, .int .i64 gu]), (32, x.1), (35, x.2.1), (37, x.2.2.1), (38, x.2.2.2), (8, x.2.2.2)])
    (fun x X => (∃ a9 c9, x.2.2.2 = .slice a9 (gs.length + 1) c9 ∧ OwnGood (w2.alloc (.cells (winA a b) WinT)).drew.heap.size X (.slice a9 (gs.length + 1) c9) (gs ++ [⟨gp, gn, gm, ga, gu⟩])) ∧ Below (w2.alloc (.cells (winA a b) WinT)).drew.heap.size (w2.alloc (.cells (winA a b) WinT)).drew X)
    (by kernel_rfl) (by kernel_rfl) (by kernel_rfl) (by kernel_rfl) HS4.out (fun _ => ?_) (fun x X hF => ?_)
  · have HSB := Lib.hid (fun X (hX : Below (w2.alloc (.cells (winA a b) WinT)).drew.heap.size (w2.alloc (.cells (winA a b) WinT)).drew X) => MoS.step HL4.out.1 HS4.out hX)
    have HGB := Lib.hid (fun X (hX : Below (w2.alloc (.cells (winA a b) WinT)).drew.heap.size (w2.alloc (.cells (winA a b) WinT)).drew X) => HP4.out.2.all hX)
    clear HS4 HL4 HP4
    generalize (w2.alloc (.cells (winA a b) WinT)).drew = Y at *
    repeat (refine SeqT.ld (v := ?_) rfl (by rfl) ?_ ?_; rotate_left; (· intro w hSw; obtain ⟨q0, q1, q2, q3, q4, q5⟩ := hSw; go_simp; (try with_reducible rfl)); simp only [Act.put, List.setIfInBounds_toArray, List.set_cons_zero, List.set_cons_succ])
    have hbY : Below Y.heap.size Y Y := Below.refl _ _
    refine ⟨wpOp_stepS rfl (by rfl) (fun K hK => ?_), wpOp_stepS rfl (by rfl) (fun K hK => ?_)⟩
    · go_simp
      obtain ⟨X1, hEX1⟩ : ∃ Z, Y.alloc (.cells #[] GoodT) = Z := ⟨_, rfl⟩
      have hOX1 : X1.ownsRow Y.heap.size GoodT 5 (.slice (some ⟨Y.heap.size, 0, none⟩) 0 0) 0 [] := by rw [← hEX1]; exact World.ownsRow_made (base := Y.heap.size) (e := GoodT) (size := 5) Y #[] 0 (by have := hbY.size; omega) (by unfold maxLen; omega) rfl
      have hb1 : Below Y.heap.size Y X1 := by rw [← hEX1]; exact hbY.alloc (by have := hbY.size; omega) _
      have HZX1 : Hid (X1.heap.size = Y.heap.size + 1) := Lib.hid (by rw [← hEX1]; simp)
      rw [hEX1]
      try dsimp only
      refine hK.out _ _ (HSB.out _ hb1) (fun _ => ?_)
      clear hK K
      try simp only [Act.put, List.setIfInBounds_toArray, List.set_cons_zero, List.set_cons_succ]
      refine ⟨wpOp_stepS rfl (by rfl) (fun K hK => ?_), wpOp_stepS rfl (by rfl) (fun K hK => ?_)⟩
      · obtain ⟨v5, X2, hrun, hOX2, hGX2⟩ := append_goods hOX1 (HGB.out _ hb1) (by have := hb1.size; omega) hg8
        refine oper_append rfl rfl rfl hrun ?_
        have hb2 : Below Y.heap.size Y X2 := hb1.grown hGX2 (by have := hb1.size; omega) (fun j e => (World.ownsRow.lt hOX1 j e).1)
        try dsimp only
        refine hK.out _ _ (HSB.out _ hb2) (fun _ => ?_)
        clear hK K hrun
        try simp only [Act.put, List.setIfInBounds_toArray, List.set_cons_zero, List.set_cons_succ]
        refine SeqT.step rfl (by rfl) (fun K hK => ?_)
        go_simp
        obtain ⟨X3, hEX3⟩ : ∃ Z, X2.alloc (.cells (gdA ⟨gp, gn, gm, ga, gu⟩) GoodT) = Z := ⟨_, rfl⟩
        have hNX3 : BlockAt X3 X2.heap.size (gdA ⟨gp, gn, gm, ga, gu⟩) GoodT := by rw [← hEX3]; exact BlockAt.new _ _ _
        have hb3 : Below Y.heap.size Y X3 := by rw [← hEX3]; exact hb2.alloc (by have := hb2.size; omega) _
        have HZX3 : Hid (X3.heap.size = X2.heap.size + 1) := Lib.hid (by rw [← hEX3]; simp)
        rw [hEX3]
        try dsimp only
        refine hK.out _ _ (HSB.out _ hb3) (fun _ => ?_)
        clear hK K
        try simp only [Act.put, List.setIfInBounds_toArray, List.set_cons_zero, List.set_cons_succ]
        refine SeqT.step rfl (by rfl) (fun K hK => ?_)
        have hO3 : OwnGood Y.heap.size X3 v5 gs := by rw [← hEX3]; exact hOX2.alloc _
        obtain ⟨a9, c9, X4, hrun, hOX4, hGX4⟩ := append_good hO3 hNX3 (by have := hb3.size; omega) hg8
        refine oper_append rfl rfl rfl hrun ?_
        have hb4 : Below Y.heap.size Y X4 := hb3.grown hGX4 (by have := hb3.size; omega) (fun j e => (World.ownsRow.lt hO3 j e).1)
        try dsimp only
        refine hK.out _ _ (HSB.out _ hb4) (fun _ => ?_)
        clear hK K hrun
        try simp only [Act.put, List.setIfInBounds_toArray, List.set_cons_zero, List.set_cons_succ]
        refine SeqT.ld (v := ?_) rfl (by rfl) ?_ ?_; rotate_left; (· intro w hSw; go_simp; (try with_reducible rfl))
        try simp only [Act.put, List.setIfInBounds_toArray, List.set_cons_zero, List.set_cons_succ]
        exact SeqT.fin ⟨rfl, (.slice (some ⟨Y.heap.size, 0, none⟩) 0 0, v5, .slice (some ⟨X2.heap.size, 0, none⟩) 1 1, .slice a9 (gs.length + 1) c9), by (simp only [putAll, Act.put, List.setIfInBounds_toArray, List.set_cons_zero, List.set_cons_succ]), ⟨a9, c9, rfl, hOX4⟩, hb4⟩
      · go_simp
        obtain ⟨X2, hEX2⟩ : ∃ Z, X1.alloc (.cells (gdA ⟨gp, gn, gm, ga, gu⟩) GoodT) = Z := ⟨_, rfl⟩
        have hNX2 : BlockAt X2 X1.heap.size (gdA ⟨gp, gn, gm, ga, gu⟩) GoodT := by rw [← hEX2]; exact BlockAt.new _ _ _
        have hb2 : Below Y.heap.size Y X2 := by rw [← hEX2]; exact hb1.alloc (by have := hb1.size; omega) _
        have HZX2 : Hid (X2.heap.size = X1.heap.size + 1) := Lib.hid (by rw [← hEX2]; simp)
        rw [hEX2]
        try dsimp only
        refine hK.out _ _ (HSB.out _ hb2) (fun _ => ?_)
        clear hK K
        try simp only [Act.put, List.setIfInBounds_toArray, List.set_cons_zero, List.set_cons_succ]
        refine SeqT.step rfl (by rfl) (fun K hK => ?_)
        have hO2 : X2.ownsRow Y.heap.size GoodT 5 (.slice (some ⟨Y.heap.size, 0, none⟩) 0 0) 0 [] := by rw [← hEX2]; exact hOX1.alloc _
        obtain ⟨v5, X3, hrun, hOX3, hGX3⟩ := append_goods hO2 (HGB.out _ hb2) (by have := hb2.size; omega) hg8
        refine oper_append rfl rfl rfl hrun ?_
        have hb3 : Below Y.heap.size Y X3 := hb2.grown hGX3 (by have := hb2.size; omega) (fun j e => (World.ownsRow.lt hO2 j e).1)
        try dsimp only
        refine hK.out _ _ (HSB.out _ hb3) (fun _ => ?_)
        clear hK K hrun
        try simp only [Act.put, List.setIfInBounds_toArray, List.set_cons_zero, List.set_cons_succ]
        refine SeqT.step rfl (by rfl) (fun K hK => ?_)
        have hN3 := hNX2.kept hGX3 (by have := HZX1.out; simp [Value.ownBlock]; omega)
        obtain ⟨a9, c9, X4, hrun, hOX4, hGX4⟩ := append_good hOX3 hN3 (by have := hb3.size; omega) hg8
        refine oper_append rfl rfl rfl hrun ?_
        have hb4 : Below Y.heap.size Y X4 := hb3.grown hGX4 (by have := hb3.size; omega) (fun j e => (World.ownsRow.lt hOX3 j e).1)
        try dsimp only
        refine hK.out _ _ (HSB.out _ hb4) (fun _ => ?_)
        clear hK K hrun
        try simp only [Act.put, List.setIfInBounds_toArray, List.set_cons_zero, List.set_cons_succ]
        refine SeqT.ld (v := ?_) rfl (by rfl) ?_ ?_; rotate_left; (· intro w hSw; go_simp; (try with_reducible rfl))
        try simp only [Act.put, List.setIfInBounds_toArray, List.set_cons_zero, List.set_cons_succ]
        exact SeqT.fin ⟨rfl, (.slice (some ⟨Y.heap.size, 0, none⟩) 0 0, v5, .slice (some ⟨X1.heap.size, 0, none⟩) 1 1, .slice a9 (gs.length + 1) c9), by (simp only [putAll, Act.put, List.setIfInBounds_toArray, List.set_cons_zero, List.set_cons_succ]), ⟨a9, c9, rfl, hOX4⟩, hb4⟩
    · go_simp
      obtain ⟨X1, hEX1⟩ : ∃ Z, Y.alloc (.cells (gdA ⟨gp, gn, gm, ga, gu⟩) GoodT) = Z := ⟨_, rfl⟩
      have hNX1 : BlockAt X1 Y.heap.size (gdA ⟨gp, gn, gm, ga, gu⟩) GoodT := by rw [← hEX1]; exact BlockAt.new _ _ _
      have hb1 : Below Y.heap.size Y X1 := by rw [← hEX1]; exact hbY.alloc (by have := hbY.size; omega) _
      have HZX1 : Hid (X1.heap.size = Y.heap.size + 1) := Lib.hid (by rw [← hEX1]; simp)
      rw [hEX1]
      try dsimp only
      refine hK.out _ _ (HSB.out _ hb1) (fun _ => ?_)
      clear hK K
      try simp only [Act.put, List.setIfInBounds_toArray, List.set_cons_zero, List.set_cons_succ]
      refine SeqT.step rfl (by rfl) (fun K hK => ?_)
      go_simp
      obtain ⟨X2, hEX2⟩ : ∃ Z, X1.alloc (.cells #[] GoodT) = Z := ⟨_, rfl⟩
      have hOX2 : X2.ownsRow Y.heap.size GoodT 5 (.slice (some ⟨X1.heap.size, 0, none⟩) 0 0) 0 [] := by rw [← hEX2]; exact World.ownsRow_made (base := Y.heap.size) (e := GoodT) (size := 5) X1 #[] 0 (by have := hb1.size; omega) (by unfold maxLen; omega) rfl
      have hb2 : Below Y.heap.size Y X2 := by rw [← hEX2]; exact hb1.alloc (by have := hb1.size; omega) _
      have HZX2 : Hid (X2.heap.size = X1.heap.size + 1) := Lib.hid (by rw [← hEX2]; simp)
      rw [hEX2]
      try dsimp only
      refine hK.out _ _ (HSB.out _ hb2) (fun _ => ?_)
      clear hK K
      try simp only [Act.put, List.setIfInBounds_toArray, List.set_cons_zero, List.set_cons_succ]
      refine SeqT.step rfl (by rfl) (fun K hK => ?_)
      have hN2 : BlockAt X2 Y.heap.size (gdA ⟨gp, gn, gm, ga, gu⟩) GoodT := by rw [← hEX2]; exact hNX1.alloc _
      obtain ⟨v5, X3, hrun, hOX3, hGX3⟩ := append_goods hOX2 (HGB.out _ hb2) (by have := hb2.size; omega) hg8
      refine oper_append rfl rfl rfl hrun ?_
      have hb3 : Below Y.heap.size Y X3 := hb2.grown hGX3 (by have := hb2.size; omega) (fun j e => (World.ownsRow.lt hOX2 j e).1)
      try dsimp only
      refine hK.out _ _ (HSB.out _ hb3) (fun _ => ?_)
      clear hK K hrun
      try simp only [Act.put, List.setIfInBounds_toArray, List.set_cons_zero, List.set_cons_succ]
      refine SeqT.step rfl (by rfl) (fun K hK => ?_)
      have hN3 := hN2.kept hGX3 (by have := HZX1.out; simp [Value.ownBlock]; omega)
      obtain ⟨a9, c9, X4, hrun, hOX4, hGX4⟩ := append_good hOX3 hN3 (by have := hb3.size; omega) hg8
      refine oper_append rfl rfl rfl hrun ?_
      have hb4 : Below Y.heap.size Y X4 := hb3.grown hGX4 (by have := hb3.size; omega) (fun j e => (World.ownsRow.lt hOX3 j e).1)
      try dsimp only
      refine hK.out _ _ (HSB.out _ hb4) (fun _ => ?_)
      clear hK K hrun
      try simp only [Act.put, List.setIfInBounds_toArray, List.set_cons_zero, List.set_cons_succ]
      refine SeqT.ld (v := ?_) rfl (by rfl) ?_ ?_; rotate_left; (· intro w hSw; go_simp; (try with_reducible rfl))
      try simp only [Act.put, List.setIfInBounds_toArray, List.set_cons_zero, List.set_cons_succ]
      exact SeqT.fin ⟨rfl, (.slice (some ⟨X1.heap.size, 0, none⟩) 0 0, v5, .slice (some ⟨Y.heap.size, 0, none⟩) 1 1, .slice a9 (gs.length + 1) c9), by (simp only [putAll, Act.put, List.setIfInBounds_toArray, List.set_cons_zero, List.set_cons_succ]), ⟨a9, c9, rfl, hOX4⟩, hb4⟩
  obtain ⟨x1, x2, x3, x4⟩ := x
  obtain ⟨⟨a9, c9, e9, hO⟩, hb9⟩ := hF
  dsimp only at e9
  subst e9
  have HO := Lib.hid (And.intro hO (And.intro (HL4.out.1.step hb9) (And.intro (HL4.out.2.below hb9 HL4.out.2.lt) (And.intro (HP4.out.1.all hb9) (HP4.out.2.all hb9)))))
  clear hO hb9 HL4 HP4 HS4
  simp only [putAll, Act.put, List.setIfInBounds_toArray, List.set_cons_zero, List.set_cons_succ]
  have CP1 := Lib.hid (fun W (hW : Below X.heap.size X W) => CP.out (.slice ua ls.length uc) (.slice va gs.length vc) ls gs W (HO.out.2.2.2.1.all hW) (HO.out.2.2.2.2.all hW))
  have CP2 := Lib.hid (fun W (hW : Below X.heap.size X W) => CP.out (.slice ua ls.length uc) (.slice a9 (gs.length + 1) c9) ls (gs ++ [⟨gp, gn, gm, ga, gu⟩]) W (HO.out.2.2.2.1.all hW) ((OwnG.rows gdC_len HO.out.1).all hW))
  have CP3 := Lib.hid (fun W (hW : Below X.heap.size X W) (z : Value) (l2 : List Lf.F) hz => CP.out z (.slice va gs.length vc) l2 gs W hz (HO.out.2.2.2.2.all hW))
  have CVL := Lib.hid (fun W (hW : Below X.heap.size X W) => valLofts_any (.slice ua ls.length uc) ls W (HO.out.2.2.2.1.all hW))
  have HPM : Hid (Lf.isP ls gs a b = true → Lf.isP ls (gs ++ [⟨gp, gn, gm, ga, gu⟩]) a b = true) := Lib.hid (fun h => Lf.prf_more hok hg7 h)
  have HPW : Hid (Lf.isP (ls.map wdW) gs a b = true → Lf.isP ls gs a b = false → Lf.valF ls ≠ 0) := Lib.hid (fun h h2 h3 => by
    rw [wdW_ok h3] at h
    rw [Lf.prf_wider h3 h] at h2; cases h2)
  have HS := Lib.hid (show MSt w (.slice ua ls.length uc) (.slice va gs.length vc) ⟨gp, gn, gm, ga, gu⟩ a b w2.heap.size X X from ⟨HO.out.2.1, HO.out.2.2.1, Below.refl _ _⟩)
  have hl10 := hL.1
  clear CP HO hok
  generalize hP : Lf.isP ls gs a b = P at *
  generalize Lf.isP ls (gs ++ [⟨gp, gn, gm, ga, gu⟩]) a b = M at *
  generalize hRR : Lf.isP (ls.map wdW) gs a b = R at *
  generalize Lf.valF ls = E at *
  have HR := Lib.hid hRR
  obtain ⟨i0, hi0, hz0, hz1, hz2⟩ := info_parts infoLoft
  clear hP hRR hg8 hg7 hL
  cases P
  · clear HPM CP2
    have x0 : World.cell? _ _ = some (.slice ua ls.length uc) := HS.out.1.1.cell 0
    have x1 : World.cell? _ _ = some (.slice va gs.length vc) := HS.out.1.1.cell 1
    have x7 : World.cell? _ _ = some (.int .i64 a) := HS.out.2.1.cell 0
    have x8 : World.cell? _ _ = some (.int .i64 b) := HS.out.2.1.cell 1
    go_wp2_with fail
    refine (CP1.out _ HS.out.2.2).mono ?_
    rintro e WL ⟨rfl, hb1⟩
    have HL := Lib.hid (HS.out.step hb1)
    clear hb1
    clear x0 x1 x7 x8
    clear HS
    have H0W := Lib.hid (Below.refl WL.heap.size WL)
    go_wp2
    go_loopw [9, 10] (fun s t wr => ∃ (k : Nat) (L : List FV) (a8 : Option Addr) (c8 : Nat), k ≤ ls.length ∧ L.length ≤ 10 ∧ s = .slice a8 L.length c8 ∧ t = .int .i64 k ∧ Hid ((L.map Prod.fst = (ls.take k).map wdW ∧ L.length = k ∧ ∀ j (hj : j < L.length), Ints w (L[j]'hj).2 (L[j]'hj).1.rs) ∧ OwnFV WL.heap.size wr (.slice a8 L.length c8) L ∧ Below WL.heap.size WL wr)) (fun _ t _ => ls.length - (intOf t).toNat)
    case atStart => exact ⟨0, [], none, 0, Nat.zero_le _, by simp, rfl, rfl, Lib.hid ⟨⟨by simp, rfl, fun j hj => absurd hj (Nat.not_lt_zero _)⟩, OwnG.nil _ _, H0W.out⟩⟩
    case round =>
      obtain ⟨k, L, a8, c8, hk, hLl, rfl, rfl, hg⟩ := hrel
      clear H0W
      by_cases hlt : k < ls.length
      · obtain ⟨bb, off, rfl, hb, hr⟩ := HKL.out k hlt
        have hst := HL.out.step hg.out.2.2
        have hwr : Below w.heap.size w wr := hst.1.2.2.2
        obtain ⟨fv, ⟨c0, c1⟩, hI⟩ := hr
        obtain ⟨fa, fc, rfl⟩ := hI.form
        have HT : Hid ((ls.take (k + 1)).map wdW = (ls.take k).map wdW ++ [wdW ls[k]]) := Lib.hid (by rw [List.take_succ_eq_append_getElem hlt, List.map_append]; rfl)
        have HII := Lib.hid hI
        clear hI
        generalize hff : ls[k] = f at *
        obtain ⟨fp, fr⟩ := f
        dsimp only at *
        have c2 := (hwr.cell (p := ⟨bb, off + k * 2, none⟩) hb).trans c0
        have c3 := (hwr.cell (p := ⟨bb, off + k * 2 + 1, none⟩) hb).trans c1
        obtain ⟨q, hq⟩ : ∃ q, IntKind.i64.wrap (fp + 1) = q := ⟨_, rfl⟩
        obtain ⟨m, hm⟩ : ∃ m, (if (40 : Int) < q then 40 else q) = m := ⟨_, rfl⟩
        have HWM : Hid (wdW ⟨fp, fr⟩ = ⟨m, fr⟩) := Lib.hid (by unfold wdW; dsimp only; rw [hq, show min q 40 = m by rw [← hm]; split <;> omega])
        have HWL := Lib.hid (below_alloc2 hg.out.2.2 (.cells (loftA m (.slice fa fr.length fc)) LoftT))
        have hown := (hg.out.2.1.alloc (.cells (loftA m (.slice fa fr.length fc)) LoftT))
        have HIN := Lib.hid hg.out.1
        have y0 : World.cell? _ _ = some (.int .i64 fp) := (BlockAt.new wr (loftA fp (.slice fa fr.length fc)) LoftT).cell 0
        have y1 : World.cell? _ _ = some (.slice fa fr.length fc) := (BlockAt.new wr (loftA fp (.slice fa fr.length fc)) LoftT).cell 1
        have z0 : World.cell? _ _ = some (.int .i64 m) := (BlockAt.new wr (loftA m (.slice fa fr.length fc)) LoftT).cell 0
        have z1 : World.cell? _ _ = some (.slice fa fr.length fc) := (BlockAt.new wr (loftA m (.slice fa fr.length fc)) LoftT).cell 1
        have hsz := hg.out.2.2.size
        have hca := cells_new (cs := fvC (⟨m, fr⟩, .slice fa fr.length fc)) (wr.alloc (.cells (loftA m (.slice fa fr.length fc)) LoftT)) LoftT
        rw [show (wr.alloc (.cells (loftA m (.slice fa fr.length fc)) LoftT)).heap.size = wr.heap.size + 1 by simp] at hca
        have x0 : World.cell? _ _ = some (.slice (some ⟨bb, off, none⟩) ls.length uc) := hst.1.1.cell 0
        clear hg hwr hff hst c0 c1
        go_wp2_with (at_builtin; refine wpList_append_own _ rfl _ _ 64 rfl WL.heap.size LoftT i0 _ 2 32 Try.underlying64 hi0 hz0 hz1 hz2 rfl (by decide) _ _ _ rfl (hown.alloc _) ⟨wr.heap.size + 1, 0, none⟩ 1 1 (fvC (⟨m, fr⟩, .slice fa fr.length fc)) rfl rfl ?c1 (fv_one _ _ _ _ _) ?c3 ?c4 ?c5 ?_)
        case c1 => first | exact hca | exact fun j u h => h
        case c3 => unfold maxLen; omega
        case c4 => omega
        case c5 => first | omega | (simp; omega)
        intro v' w9 hr9 hg9 _
        have hw9 := (below_alloc2 HWL.out (.cells (fvC (⟨m, fr⟩, .slice fa fr.length fc)).toArray LoftT)).grown hg9 (by simp; omega) (fun j e => (World.ownsRow.lt hown j e).1)
        have hp9 : OwnFV WL.heap.size w9 v' (L ++ [(⟨m, fr⟩, .slice fa fr.length fc)]) := OwnG.pushed hr9
        have HLL : Hid ((L ++ [((⟨m, fr⟩ : Lf.F), Value.slice fa fr.length fc)]).map Prod.fst = (ls.take (k + 1)).map wdW ∧ (L ++ [((⟨m, fr⟩ : Lf.F), Value.slice fa fr.length fc)]).length = k + 1 ∧ ∀ j (hj : j < (L ++ [((⟨m, fr⟩ : Lf.F), Value.slice fa fr.length fc)]).length), Ints w ((L ++ [((⟨m, fr⟩ : Lf.F), Value.slice fa fr.length fc)])[j]'hj).2 ((L ++ [((⟨m, fr⟩ : Lf.F), Value.slice fa fr.length fc)])[j]'hj).1.rs) := Lib.hid (by
          refine ⟨?_, by rw [List.length_append, HIN.out.2.1]; rfl, fun j hj => ?_⟩
          · rw [List.map_append, HIN.out.1, HT.out, HWM.out]; rfl
          · rw [List.length_append] at hj
            by_cases c : j < L.length
            · rw [List.getElem_append_left c]; exact HIN.out.2.2 j c
            · obtain rfl : j = L.length := by simp at hj; omega
              simp only [List.getElem_append_right (Nat.le_refl _), Nat.sub_self, List.getElem_cons_zero]
              exact HII.out)
        obtain ⟨a9', c9', e9⟩ := (hp9.rows fvC_len).form
        subst e9
        have H9 := Lib.hid (And.intro hp9 hw9)
        have hkk : (L ++ [((⟨m, fr⟩ : Lf.F), Value.slice fa fr.length fc)]).length ≤ 10 := by rw [HLL.out.2.1]; omega
        clear hown hsz hca hr9 hg9 hw9 hp9 HIN HT HWM HII HWL c2 c3 y0 y1 z0 z1 x0
        generalize L ++ [((⟨m, fr⟩ : Lf.F), Value.slice fa fr.length fc)] = L9 at *
        go_wp2
        go_roundw
        case rel => exact ⟨k + 1, L9, a9', c9', by omega, hkk, rfl, by go_num, Lib.hid ⟨HLL.out, H9.out⟩⟩
        case measure => simp [intOf]; omega
      · obtain rfl : k = ls.length := by omega
        have HS5 := Lib.hid (HL.out.step hg.out.2.2)
        have HLF : Hid (Lofts wr (.slice a8 L.length c8) (ls.map wdW)) := Lib.hid (by
          have h := fv_lofts hg.out.2.1 (fun j hj => (hg.out.1.2.2 j hj).all HS5.out.1.2.2.2)
          rw [hg.out.1.1, List.take_of_length_le (Nat.le_refl _)] at h
          exact h)
        clear hg HL
        have x0 : World.cell? _ _ = some (.slice ua ls.length uc) := HS5.out.1.1.cell 0
        have x1 : World.cell? _ _ = some (.slice va gs.length vc) := HS5.out.1.1.cell 1
        have x7 : World.cell? _ _ = some (.int .i64 a) := HS5.out.2.1.cell 0
        have x8 : World.cell? _ _ = some (.int .i64 b) := HS5.out.2.1.cell 1
        go_wp2_with fail
        refine (CP1.out _ HS5.out.2.2).mono ?_
        rintro e w6 ⟨rfl, hb1⟩
        have HS6 := Lib.hid (HS5.out.step hb1)
        have HLF6 := Lib.hid (HLF.out.all hb1)
        clear hb1
        clear x0 x1 x7 x8
        have C3 := Lib.hid (CP3.out _ HS6.out.2.2 _ _ HLF6.out)
        rw [HR.out] at C3
        have x0 : World.cell? _ _ = some (.slice ua ls.length uc) := HS6.out.1.1.cell 0
        have x1 : World.cell? _ _ = some (.slice va gs.length vc) := HS6.out.1.1.cell 1
        have x7 : World.cell? _ _ = some (.int .i64 a) := HS6.out.2.1.cell 0
        have x8 : World.cell? _ _ = some (.int .i64 b) := HS6.out.2.1.cell 1
        go_wp2_with fail
        refine (C3.out).mono ?_
        rintro e w7 ⟨rfl, hb1⟩
        have HS7 := Lib.hid (HS6.out.step hb1)
        clear hb1
        clear x0 x1 x7 x8
        clear HLF HLF6 C3
        cases R
        · have HEND := Lib.hid HS7.out
          go_wp2_with fail
          refine (CS.out _).mono ?_
          rintro e w4 ⟨rfl, hb1⟩
          have H4 := Lib.hid (HEND.out.step hb1)
          clear hb1
          go_wp2
          go_ret
          exact ⟨rfl, H4.out.1.2.2.2⟩

        · have hE : E ≠ 0 := HPW.out rfl trivial
          have hd : (E == 0) = false := beq_eq_false_iff_ne.2 hE
          have hd2 : (E != 0) = true := by rw [bne, hd]; rfl
          have x0 : World.cell? _ _ = some (.slice ua ls.length uc) := HS7.out.1.1.cell 0
          have x1 : World.cell? _ _ = some (.slice va gs.length vc) := HS7.out.1.1.cell 1
          have x7 : World.cell? _ _ = some (.int .i64 a) := HS7.out.2.1.cell 0
          have x8 : World.cell? _ _ = some (.int .i64 b) := HS7.out.2.1.cell 1
          go_wp2_with fail
          refine (CVL.out _ HS7.out.2.2).mono ?_
          rintro e w8 ⟨rfl, hb1⟩
          have HEND := Lib.hid (HS7.out.step hb1)
          clear hb1
          clear x0 x1 x7 x8
          go_wp2_with fail
          refine (CS.out _).mono ?_
          rintro e w4 ⟨rfl, hb1⟩
          have H4 := Lib.hid (HEND.out.step hb1)
          clear hb1
          go_wp2
          go_ret
          exact ⟨rfl, H4.out.1.2.2.2⟩
  · have hM := HPM.out rfl
    rw [hM] at CP2
    clear hM HPM HPW
    have x0 : World.cell? _ _ = some (.slice ua ls.length uc) := HS.out.1.1.cell 0
    have x1 : World.cell? _ _ = some (.slice va gs.length vc) := HS.out.1.1.cell 1
    have x7 : World.cell? _ _ = some (.int .i64 a) := HS.out.2.1.cell 0
    have x8 : World.cell? _ _ = some (.int .i64 b) := HS.out.2.1.cell 1
    go_wp2_with fail
    refine (CP1.out _ HS.out.2.2).mono ?_
    rintro e w5 ⟨rfl, hb1⟩
    have HS1 := Lib.hid (HS.out.step hb1)
    clear hb1
    clear x0 x1 x7 x8
    have x0 : World.cell? _ _ = some (.slice ua ls.length uc) := HS1.out.1.1.cell 0
    have x1 : World.cell? _ _ = some (.slice va gs.length vc) := HS1.out.1.1.cell 1
    have x7 : World.cell? _ _ = some (.int .i64 a) := HS1.out.2.1.cell 0
    have x8 : World.cell? _ _ = some (.int .i64 b) := HS1.out.2.1.cell 1
    go_wp2_with fail
    refine (CP2.out _ HS1.out.2.2).mono ?_
    rintro e WL ⟨rfl, hb1⟩
    have HL := Lib.hid (HS1.out.step hb1)
    clear hb1
    clear x0 x1 x7 x8
    clear CP2 HS HS1
    have H0W := Lib.hid (Below.refl WL.heap.size WL)
    go_wp2
    go_loopw [9, 10] (fun s t wr => ∃ (k : Nat) (L : List FV) (a8 : Option Addr) (c8 : Nat), k ≤ ls.length ∧ L.length ≤ 10 ∧ s = .slice a8 L.length c8 ∧ t = .int .i64 k ∧ Hid ((L.map Prod.fst = (ls.take k).map wdW ∧ L.length = k ∧ ∀ j (hj : j < L.length), Ints w (L[j]'hj).2 (L[j]'hj).1.rs) ∧ OwnFV WL.heap.size wr (.slice a8 L.length c8) L ∧ Below WL.heap.size WL wr)) (fun _ t _ => ls.length - (intOf t).toNat)
    case atStart => exact ⟨0, [], none, 0, Nat.zero_le _, by simp, rfl, rfl, Lib.hid ⟨⟨by simp, rfl, fun j hj => absurd hj (Nat.not_lt_zero _)⟩, OwnG.nil _ _, H0W.out⟩⟩
    case round =>
      obtain ⟨k, L, a8, c8, hk, hLl, rfl, rfl, hg⟩ := hrel
      clear H0W
      by_cases hlt : k < ls.length
      · obtain ⟨bb, off, rfl, hb, hr⟩ := HKL.out k hlt
        have hst := HL.out.step hg.out.2.2
        have hwr : Below w.heap.size w wr := hst.1.2.2.2
        obtain ⟨fv, ⟨c0, c1⟩, hI⟩ := hr
        obtain ⟨fa, fc, rfl⟩ := hI.form
        have HT : Hid ((ls.take (k + 1)).map wdW = (ls.take k).map wdW ++ [wdW ls[k]]) := Lib.hid (by rw [List.take_succ_eq_append_getElem hlt, List.map_append]; rfl)
        have HII := Lib.hid hI
        clear hI
        generalize hff : ls[k] = f at *
        obtain ⟨fp, fr⟩ := f
        dsimp only at *
        have c2 := (hwr.cell (p := ⟨bb, off + k * 2, none⟩) hb).trans c0
        have c3 := (hwr.cell (p := ⟨bb, off + k * 2 + 1, none⟩) hb).trans c1
        obtain ⟨q, hq⟩ : ∃ q, IntKind.i64.wrap (fp + 1) = q := ⟨_, rfl⟩
        obtain ⟨m, hm⟩ : ∃ m, (if (40 : Int) < q then 40 else q) = m := ⟨_, rfl⟩
        have HWM : Hid (wdW ⟨fp, fr⟩ = ⟨m, fr⟩) := Lib.hid (by unfold wdW; dsimp only; rw [hq, show min q 40 = m by rw [← hm]; split <;> omega])
        have HWL := Lib.hid (below_alloc2 hg.out.2.2 (.cells (loftA m (.slice fa fr.length fc)) LoftT))
        have hown := (hg.out.2.1.alloc (.cells (loftA m (.slice fa fr.length fc)) LoftT))
        have HIN := Lib.hid hg.out.1
        have y0 : World.cell? _ _ = some (.int .i64 fp) := (BlockAt.new wr (loftA fp (.slice fa fr.length fc)) LoftT).cell 0
        have y1 : World.cell? _ _ = some (.slice fa fr.length fc) := (BlockAt.new wr (loftA fp (.slice fa fr.length fc)) LoftT).cell 1
        have z0 : World.cell? _ _ = some (.int .i64 m) := (BlockAt.new wr (loftA m (.slice fa fr.length fc)) LoftT).cell 0
        have z1 : World.cell? _ _ = some (.slice fa fr.length fc) := (BlockAt.new wr (loftA m (.slice fa fr.length fc)) LoftT).cell 1
        have hsz := hg.out.2.2.size
        have hca := cells_new (cs := fvC (⟨m, fr⟩, .slice fa fr.length fc)) (wr.alloc (.cells (loftA m (.slice fa fr.length fc)) LoftT)) LoftT
        rw [show (wr.alloc (.cells (loftA m (.slice fa fr.length fc)) LoftT)).heap.size = wr.heap.size + 1 by simp] at hca
        have x0 : World.cell? _ _ = some (.slice (some ⟨bb, off, none⟩) ls.length uc) := hst.1.1.cell 0
        clear hg hwr hff hst c0 c1
        go_wp2_with (at_builtin; refine wpList_append_own _ rfl _ _ 64 rfl WL.heap.size LoftT i0 _ 2 32 Try.underlying64 hi0 hz0 hz1 hz2 rfl (by decide) _ _ _ rfl (hown.alloc _) ⟨wr.heap.size + 1, 0, none⟩ 1 1 (fvC (⟨m, fr⟩, .slice fa fr.length fc)) rfl rfl ?c1 (fv_one _ _ _ _ _) ?c3 ?c4 ?c5 ?_)
        case c1 => first | exact hca | exact fun j u h => h
        case c3 => unfold maxLen; omega
        case c4 => omega
        case c5 => first | omega | (simp; omega)
        intro v' w9 hr9 hg9 _
        have hw9 := (below_alloc2 HWL.out (.cells (fvC (⟨m, fr⟩, .slice fa fr.length fc)).toArray LoftT)).grown hg9 (by simp; omega) (fun j e => (World.ownsRow.lt hown j e).1)
        have hp9 : OwnFV WL.heap.size w9 v' (L ++ [(⟨m, fr⟩, .slice fa fr.length fc)]) := OwnG.pushed hr9
        have HLL : Hid ((L ++ [((⟨m, fr⟩ : Lf.F), Value.slice fa fr.length fc)]).map Prod.fst = (ls.take (k + 1)).map wdW ∧ (L ++ [((⟨m, fr⟩ : Lf.F), Value.slice fa fr.length fc)]).length = k + 1 ∧ ∀ j (hj : j < (L ++ [((⟨m, fr⟩ : Lf.F), Value.slice fa fr.length fc)]).length), Ints w ((L ++ [((⟨m, fr⟩ : Lf.F), Value.slice fa fr.length fc)])[j]'hj).2 ((L ++ [((⟨m, fr⟩ : Lf.F), Value.slice fa fr.length fc)])[j]'hj).1.rs) := Lib.hid (by
          refine ⟨?_, by rw [List.length_append, HIN.out.2.1]; rfl, fun j hj => ?_⟩
          · rw [List.map_append, HIN.out.1, HT.out, HWM.out]; rfl
          · rw [List.length_append] at hj
            by_cases c : j < L.length
            · rw [List.getElem_append_left c]; exact HIN.out.2.2 j c
            · obtain rfl : j = L.length := by simp at hj; omega
              simp only [List.getElem_append_right (Nat.le_refl _), Nat.sub_self, List.getElem_cons_zero]
              exact HII.out)
        obtain ⟨a9', c9', e9⟩ := (hp9.rows fvC_len).form
        subst e9
        have H9 := Lib.hid (And.intro hp9 hw9)
        have hkk : (L ++ [((⟨m, fr⟩ : Lf.F), Value.slice fa fr.length fc)]).length ≤ 10 := by rw [HLL.out.2.1]; omega
        clear hown hsz hca hr9 hg9 hw9 hp9 HIN HT HWM HII HWL c2 c3 y0 y1 z0 z1 x0
        generalize L ++ [((⟨m, fr⟩ : Lf.F), Value.slice fa fr.length fc)] = L9 at *
        go_wp2
        go_roundw
        case rel => exact ⟨k + 1, L9, a9', c9', by omega, hkk, rfl, by go_num, Lib.hid ⟨HLL.out, H9.out⟩⟩
        case measure => simp [intOf]; omega
      · obtain rfl : k = ls.length := by omega
        have HS5 := Lib.hid (HL.out.step hg.out.2.2)
        have HLF : Hid (Lofts wr (.slice a8 L.length c8) (ls.map wdW)) := Lib.hid (by
          have h := fv_lofts hg.out.2.1 (fun j hj => (hg.out.1.2.2 j hj).all HS5.out.1.2.2.2)
          rw [hg.out.1.1, List.take_of_length_le (Nat.le_refl _)] at h
          exact h)
        clear hg HL
        have x0 : World.cell? _ _ = some (.slice ua ls.length uc) := HS5.out.1.1.cell 0
        have x1 : World.cell? _ _ = some (.slice va gs.length vc) := HS5.out.1.1.cell 1
        have x7 : World.cell? _ _ = some (.int .i64 a) := HS5.out.2.1.cell 0
        have x8 : World.cell? _ _ = some (.int .i64 b) := HS5.out.2.1.cell 1
        go_wp2_with fail
        refine (CP1.out _ HS5.out.2.2).mono ?_
        rintro e w6 ⟨rfl, hb1⟩
        have HEND := Lib.hid (HS5.out.step hb1)
        clear hb1
        clear x0 x1 x7 x8
        go_wp2_with fail
        refine (CS.out _).mono ?_
        rintro e w4 ⟨rfl, hb1⟩
        have H4 := Lib.hid (HEND.out.step hb1)
        clear hb1
        go_wp2
        go_ret
        exact ⟨rfl, H4.out.1.2.2.2⟩
end Go.Proofs.Ytabfcnfddemblaa.Lo
