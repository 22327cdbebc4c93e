/- Whether loads share goods or meet, and the errors behind others: of the program. -/
import Derived.Test.YtabfcnfddemblaaLf44
namespace Go.Proofs.Ytabfcnfddemblaa.Lo
open Go.RowKit

/-- Two loads in boxes. -/
def TwS (w : World) (x y : KV) (W : World) : Prop := BlockAt W w.heap.size (kA x) KvT ∧ BlockAt W (w.heap.size + 1) (kA y) KvT ∧ Below w.heap.size w W
theorem TwS.new (w : World) (x y : KV) : TwS w x y ((w.alloc (.cells (kA x) KvT)).alloc (.cells (kA y) KvT)) :=
  ⟨(BlockAt.new w (kA x) KvT).alloc _, by have := BlockAt.new (w.alloc (.cells (kA x) KvT)) (kA y) KvT; simpa using this, below_alloc2 (below_alloc2 (Below.refl w.heap.size w) _) _⟩
theorem TwS.step {w : World} {x y : KV} {W W2 : World} (h : TwS w x y W) (hb : Below W.heap.size W W2) : TwS w x y W2 := ⟨h.1.below hb h.1.lt, h.2.1.below hb h.2.1.lt, below_step h.2.2 hb⟩
theorem TwS.drew {w : World} {x y : KV} {W : World} (h : TwS w x y W) : TwS w x y W.drew := ⟨h.1.drew, h.2.1.drew, below_drewN h.2.2 1⟩
set_option maxRecDepth 20000 in
set_option maxHeartbeats 1000000 in
theorem shares_any (x y : KV) (w : World) (hx : KvW w x) (hy : KvW w y) :
    Calls Try.prog 129 #[kV x, kV y] w fun e w' => e = .returned (.bool (Lf.shr x.x y.x)) ∧ Below w.heap.size w w' := by
  have HT := Lib.hid (TwS.new w x y)
  have C := Lib.hid (containsS (w.heap.size + 1) (fun n => y.x.gs.any fun m => decide (n = m)) x.v x.x.gs _ (hx.1.2.all HT.out.2.2) hx.2.2.2
    (fun k hk W hW => shares1_any (w.heap.size + 1) y.v y.x.gs _ W ((HT.out.step hW).2.1.cell 3) (hy.1.2.all (HT.out.step hW).2.2) hy.2.2.2))
  have HE : Hid (Lf.shr x.x y.x = x.x.gs.any (fun n => y.x.gs.any fun m => decide (n = m))) := Lib.hid rfl
  obtain ⟨ua, uc, hu⟩ := hx.1.1.form
  obtain ⟨va, vc, hv⟩ := hx.1.2.form
  obtain ⟨pa, pc, hp⟩ := hy.1.1.form
  obtain ⟨qa, qc, hq⟩ := hy.1.2.form
  clear hx hy
  generalize Lf.shr x.x y.x = R at *
  obtain ⟨⟨xl, xa, xh, xg⟩, xu, xv, xr, xm, ⟨xp, xn, xo, xs, xt⟩⟩ := x
  obtain ⟨⟨yl, ya, yh, yg⟩, yu, yv, yr, ym, ⟨yp, yn, yo, ys, yt⟩⟩ := y
  dsimp only at *
  subst hu hv hp hq
  generalize xg.any (fun n => yg.any fun m => decide (n = m)) = R2 at *
  have x3 : World.cell? _ _ = some (.slice va xg.length vc) := HT.out.1.cell 3
  go_enter Try.func129, Try.ntmps129
  go_wp2_with fail
  refine C.out.mono ?_
  rintro e w1 ⟨rfl, hb1⟩
  have HB := Lib.hid (HT.out.step hb1)
  clear hb1 x3
  go_wp2
  go_ret
  exact ⟨by rw [HE.out] <;> rfl, HB.out.2.2⟩
set_option maxRecDepth 20000 in
set_option maxHeartbeats 4000000 in
theorem meets_any (x y : KV) (w : World) (hx : KvW w x) (hy : KvW w y) :
    Calls Try.prog 130 #[kV x, kV y] w fun e w' => e = .returned (.bool (Lf.mts x.x y.x)) ∧ Below w.heap.size w w' := by
  have HT := Lib.hid (TwS.new w x y)
  have CX := Lib.hid (fun ua uc W => endK_any x.x.l x.x.a ua x.x.hs.length uc x.v x.r x.m x.t W hx.2.1 hx.2.2.1)
  have CY := Lib.hid (fun ua uc W => endK_any y.x.l y.x.a ua y.x.hs.length uc y.v y.r y.m y.t W hy.2.1 hy.2.2.1)
  have HE : Hid (Lf.mts x.x y.x = (decide (x.x.l = y.x.l) && (decide (x.x.a < y.x.a + y.x.hs.length) && decide (y.x.a < x.x.a + x.x.hs.length)))) := Lib.hid rfl
  obtain ⟨ua, uc, hu⟩ := hx.1.1.form
  obtain ⟨va, vc, hv⟩ := hx.1.2.form
  obtain ⟨pa, pc, hp⟩ := hy.1.1.form
  obtain ⟨qa, qc, hq⟩ := hy.1.2.form
  clear hx hy
  generalize Lf.mts x.x y.x = R at *
  obtain ⟨⟨xl, xa, xh, xg⟩, xu, xv, xr, xm, ⟨xp, xn, xo, xs, xt⟩⟩ := x
  obtain ⟨⟨yl, ya, yh, yg⟩, yu, yv, yr, ym, ⟨yp, yn, yo, ys, yt⟩⟩ := y
  dsimp only at *
  subst hu hv hp hq
  have CX0 := Lib.hid (CX.out ua uc)
  have CY0 := Lib.hid (CY.out pa pc)
  obtain ⟨ex, hex⟩ : ∃ ex, ex = xa + (xh.length : Int) := ⟨_, rfl⟩
  obtain ⟨ey, hey⟩ : ∃ ey, ey = ya + (yh.length : Int) := ⟨_, rfl⟩
  rw [← hex] at CX0 HE
  rw [← hey] at CY0 HE
  clear hex hey CX CY
  have HS0 := Lib.hid (show (fun W => W.cell? ⟨w.heap.size, 0, none⟩ = some (.int .i64 xl) ∧ W.cell? ⟨w.heap.size, 1, none⟩ = some (.int .i64 xa) ∧ W.cell? ⟨w.heap.size, 2, none⟩ = some (.slice ua xh.length uc) ∧ W.cell? ⟨w.heap.size, 3, none⟩ = some (.slice va xg.length vc) ∧ W.cell? ⟨w.heap.size, 4, none⟩ = some (.int .i64 xr) ∧ W.cell? ⟨w.heap.size, 5, none⟩ = some (.int .i64 xm) ∧ W.cell? ⟨w.heap.size, 6, none⟩ = some (.int .i64 xp) ∧ W.cell? ⟨w.heap.size, 7, none⟩ = some (.int .i64 xn) ∧ W.cell? ⟨w.heap.size, 8, none⟩ = some (.int .i64 xo) ∧ W.cell? ⟨w.heap.size, 9, none⟩ = some (.int .i64 xs) ∧ W.cell? ⟨w.heap.size, 10, none⟩ = some (.int .i64 xt) ∧ W.cell? ⟨w.heap.size + 1, 0, none⟩ = some (.int .i64 yl) ∧ W.cell? ⟨w.heap.size + 1, 1, none⟩ = some (.int .i64 ya) ∧ W.cell? ⟨w.heap.size + 1, 2, none⟩ = some (.slice pa yh.length pc) ∧ W.cell? ⟨w.heap.size + 1, 3, none⟩ = some (.slice qa yg.length qc) ∧ W.cell? ⟨w.heap.size + 1, 4, none⟩ = some (.int .i64 yr) ∧ W.cell? ⟨w.heap.size + 1, 5, none⟩ = some (.int .i64 ym) ∧ W.cell? ⟨w.heap.size + 1, 6, none⟩ = some (.int .i64 yp) ∧ W.cell? ⟨w.heap.size + 1, 7, none⟩ = some (.int .i64 yn) ∧ W.cell? ⟨w.heap.size + 1, 8, none⟩ = some (.int .i64 yo) ∧ W.cell? ⟨w.heap.size + 1, 9, none⟩ = some (.int .i64 ys) ∧ W.cell? ⟨w.heap.size + 1, 10, none⟩ = some (.int .i64 yt)) (((w.alloc (.cells (kA ⟨⟨xl, xa, xh, xg⟩, .slice ua xh.length uc, .slice va xg.length vc, xr, xm, ⟨xp, xn, xo, xs, xt⟩⟩) KvT)).alloc (.cells (kA ⟨⟨yl, ya, yh, yg⟩, .slice pa yh.length pc, .slice qa yg.length qc, yr, ym, ⟨yp, yn, yo, ys, yt⟩⟩) KvT)).drew) from ⟨HT.out.drew.1.cell 0, HT.out.drew.1.cell 1, HT.out.drew.1.cell 2, HT.out.drew.1.cell 3, HT.out.drew.1.cell 4, HT.out.drew.1.cell 5, HT.out.drew.1.cell 6, HT.out.drew.1.cell 7, HT.out.drew.1.cell 8, HT.out.drew.1.cell 9, HT.out.drew.1.cell 10, HT.out.drew.2.1.cell 0, HT.out.drew.2.1.cell 1, HT.out.drew.2.1.cell 2, HT.out.drew.2.1.cell 3, HT.out.drew.2.1.cell 4, HT.out.drew.2.1.cell 5, HT.out.drew.2.1.cell 6, HT.out.drew.2.1.cell 7, HT.out.drew.2.1.cell 8, HT.out.drew.2.1.cell 9, HT.out.drew.2.1.cell 10⟩)
  have HT0 := Lib.hid (HT.out.drew)
  clear HT
  by_cases h1 : xl = yl
  case neg =>
    have d1 : decide (xl = yl) = false := decide_eq_false h1
    have d2 : (xl == yl) = false := beq_eq_false_iff_ne.2 h1
    rw [d1, Bool.false_and] at HE
    clear h1 CX0 CY0
    go_enter Try.func130, Try.ntmps130
    go_wp2_with fail
    refine wp_region_seq [(0, true), (1, true), (2, true), (3, true), (4, true), (5, true), (6, true), (7, true), (8, true), (9, true), (10, true), (11, true), (12, false), (13, true), (14, true), (15, true), (16, true), (17, true), (18, true), (19, true), (20, false), (21, true), (22, true), (23, true)] (fun W => W.cell? ⟨w.heap.size, 0, none⟩ = some (.int .i64 xl) ∧ W.cell? ⟨w.heap.size, 1, none⟩ = some (.int .i64 xa) ∧ W.cell? ⟨w.heap.size, 2, none⟩ = some (.slice ua xh.length uc) ∧ W.cell? ⟨w.heap.size, 3, none⟩ = some (.slice va xg.length vc) ∧ W.cell? ⟨w.heap.size, 4, none⟩ = some (.int .i64 xr) ∧ W.cell? ⟨w.heap.size, 5, none⟩ = some (.int .i64 xm) ∧ W.cell? ⟨w.heap.size, 6, none⟩ = some (.int .i64 xp) ∧ W.cell? ⟨w.heap.size, 7, none⟩ = some (.int .i64 xn) ∧ W.cell? ⟨w.heap.size, 8, none⟩ = some (.int .i64 xo) ∧ W.cell? ⟨w.heap.size, 9, none⟩ = some (.int .i64 xs) ∧ W.cell? ⟨w.heap.size, 10, none⟩ = some (.int .i64 xt) ∧ W.cell? ⟨w.heap.size + 1, 0, none⟩ = some (.int .i64 yl) ∧ W.cell? ⟨w.heap.size + 1, 1, none⟩ = some (.int .i64 ya) ∧ W.cell? ⟨w.heap.size + 1, 2, none⟩ = some (.slice pa yh.length pc) ∧ W.cell? ⟨w.heap.size + 1, 3, none⟩ = some (.slice qa yg.length qc) ∧ W.cell? ⟨w.heap.size + 1, 4, none⟩ = some (.int .i64 yr) ∧ W.cell? ⟨w.heap.size + 1, 5, none⟩ = some (.int .i64 ym) ∧ W.cell? ⟨w.heap.size + 1, 6, none⟩ = some (.int .i64 yp) ∧ W.cell? ⟨w.heap.size + 1, 7, none⟩ = some (.int .i64 yn) ∧ W.cell? ⟨w.heap.size + 1, 8, none⟩ = some (.int .i64 yo) ∧ W.cell? ⟨w.heap.size + 1, 9, none⟩ = some (.int .i64 ys) ∧ W.cell? ⟨w.heap.size + 1, 10, none⟩ = some (.int .i64 yt))
      (by kernel_rfl) (by kernel_rfl) (by kernel_rfl) (by kernel_rfl) (fun d _ _ _ _ h => by cases d <;> exact h) HS0.out (fun _ => ?_)
    repeat (first | (refine SeqH.take (v := ?_) rfl (by rfl) ?_ ?_; rotate_left; (· intro w hSw; (try dsimp only at hSw); obtain ⟨q0, q1, q2, q3, q4, q5, q6, q7, q8, q9, q10, q11, q12, q13, q14, q15, q16, q17, q18, q19, q20, q21⟩ := hSw; go_simp; (try with_reducible rfl)); simp only [Act.put, List.setIfInBounds_toArray, List.set_cons_zero, List.set_cons_succ]) | (refine SeqH.skip rfl (by rfl) ?_; simp only [Act.put, List.setIfInBounds_toArray, List.set_cons_zero, List.set_cons_succ]) | (refine SeqH.pass rfl (by rfl) (by exact HS0.out) ?_; simp only [Act.put, List.setIfInBounds_toArray, List.set_cons_zero, List.set_cons_succ]))
    refine SeqH.done ?_
    go_wp2
    go_ret
    exact ⟨by rw [HE.out] <;> rfl, HT0.out.2.2⟩
  have d1 : decide (xl = yl) = true := decide_eq_true h1
  have d2 : (xl == yl) = true := beq_iff_eq.2 h1
  rw [d1, Bool.true_and] at HE
  clear h1
  by_cases h1 : xa < ey
  case neg =>
    have d3 : decide (xa < ey) = false := decide_eq_false h1
    rw [d3, Bool.false_and] at HE
    clear h1 CX0
    go_enter Try.func130, Try.ntmps130
    go_wp2_with fail
    refine wp_region_seq [(0, true), (1, true), (2, true), (3, true), (4, true), (5, true), (6, true), (7, true), (8, true), (9, true), (10, true), (11, true), (12, false), (13, true), (14, true), (15, true), (16, true), (17, true), (18, true), (19, true), (20, false), (21, true), (22, true), (23, true)] (fun W => W.cell? ⟨w.heap.size, 0, none⟩ = some (.int .i64 xl) ∧ W.cell? ⟨w.heap.size, 1, none⟩ = some (.int .i64 xa) ∧ W.cell? ⟨w.heap.size, 2, none⟩ = some (.slice ua xh.length uc) ∧ W.cell? ⟨w.heap.size, 3, none⟩ = some (.slice va xg.length vc) ∧ W.cell? ⟨w.heap.size, 4, none⟩ = some (.int .i64 xr) ∧ W.cell? ⟨w.heap.size, 5, none⟩ = some (.int .i64 xm) ∧ W.cell? ⟨w.heap.size, 6, none⟩ = some (.int .i64 xp) ∧ W.cell? ⟨w.heap.size, 7, none⟩ = some (.int .i64 xn) ∧ W.cell? ⟨w.heap.size, 8, none⟩ = some (.int .i64 xo) ∧ W.cell? ⟨w.heap.size, 9, none⟩ = some (.int .i64 xs) ∧ W.cell? ⟨w.heap.size, 10, none⟩ = some (.int .i64 xt) ∧ W.cell? ⟨w.heap.size + 1, 0, none⟩ = some (.int .i64 yl) ∧ W.cell? ⟨w.heap.size + 1, 1, none⟩ = some (.int .i64 ya) ∧ W.cell? ⟨w.heap.size + 1, 2, none⟩ = some (.slice pa yh.length pc) ∧ W.cell? ⟨w.heap.size + 1, 3, none⟩ = some (.slice qa yg.length qc) ∧ W.cell? ⟨w.heap.size + 1, 4, none⟩ = some (.int .i64 yr) ∧ W.cell? ⟨w.heap.size + 1, 5, none⟩ = some (.int .i64 ym) ∧ W.cell? ⟨w.heap.size + 1, 6, none⟩ = some (.int .i64 yp) ∧ W.cell? ⟨w.heap.size + 1, 7, none⟩ = some (.int .i64 yn) ∧ W.cell? ⟨w.heap.size + 1, 8, none⟩ = some (.int .i64 yo) ∧ W.cell? ⟨w.heap.size + 1, 9, none⟩ = some (.int .i64 ys) ∧ W.cell? ⟨w.heap.size + 1, 10, none⟩ = some (.int .i64 yt))
      (by kernel_rfl) (by kernel_rfl) (by kernel_rfl) (by kernel_rfl) (fun d _ _ _ _ h => by cases d <;> exact h) HS0.out (fun _ => ?_)
    repeat (first | (refine SeqH.take (v := ?_) rfl (by rfl) ?_ ?_; rotate_left; (· intro w hSw; (try dsimp only at hSw); obtain ⟨q0, q1, q2, q3, q4, q5, q6, q7, q8, q9, q10, q11, q12, q13, q14, q15, q16, q17, q18, q19, q20, q21⟩ := hSw; go_simp; (try with_reducible rfl)); simp only [Act.put, List.setIfInBounds_toArray, List.set_cons_zero, List.set_cons_succ]) | (refine SeqH.skip rfl (by rfl) ?_; simp only [Act.put, List.setIfInBounds_toArray, List.set_cons_zero, List.set_cons_succ]))
    refine SeqH.step rfl (by rfl) (fun K hK => ?_)
    go_simp
    go_at_call 127
    refine (CY0.out _).mono ?_
    rintro e w7 ⟨rfl, hb1⟩
    try dsimp only
    have HT1 := Lib.hid (HT0.out.step hb1)
    have HS1 := Lib.hid (show (fun W => W.cell? ⟨w.heap.size, 0, none⟩ = some (.int .i64 xl) ∧ W.cell? ⟨w.heap.size, 1, none⟩ = some (.int .i64 xa) ∧ W.cell? ⟨w.heap.size, 2, none⟩ = some (.slice ua xh.length uc) ∧ W.cell? ⟨w.heap.size, 3, none⟩ = some (.slice va xg.length vc) ∧ W.cell? ⟨w.heap.size, 4, none⟩ = some (.int .i64 xr) ∧ W.cell? ⟨w.heap.size, 5, none⟩ = some (.int .i64 xm) ∧ W.cell? ⟨w.heap.size, 6, none⟩ = some (.int .i64 xp) ∧ W.cell? ⟨w.heap.size, 7, none⟩ = some (.int .i64 xn) ∧ W.cell? ⟨w.heap.size, 8, none⟩ = some (.int .i64 xo) ∧ W.cell? ⟨w.heap.size, 9, none⟩ = some (.int .i64 xs) ∧ W.cell? ⟨w.heap.size, 10, none⟩ = some (.int .i64 xt) ∧ W.cell? ⟨w.heap.size + 1, 0, none⟩ = some (.int .i64 yl) ∧ W.cell? ⟨w.heap.size + 1, 1, none⟩ = some (.int .i64 ya) ∧ W.cell? ⟨w.heap.size + 1, 2, none⟩ = some (.slice pa yh.length pc) ∧ W.cell? ⟨w.heap.size + 1, 3, none⟩ = some (.slice qa yg.length qc) ∧ W.cell? ⟨w.heap.size + 1, 4, none⟩ = some (.int .i64 yr) ∧ W.cell? ⟨w.heap.size + 1, 5, none⟩ = some (.int .i64 ym) ∧ W.cell? ⟨w.heap.size + 1, 6, none⟩ = some (.int .i64 yp) ∧ W.cell? ⟨w.heap.size + 1, 7, none⟩ = some (.int .i64 yn) ∧ W.cell? ⟨w.heap.size + 1, 8, none⟩ = some (.int .i64 yo) ∧ W.cell? ⟨w.heap.size + 1, 9, none⟩ = some (.int .i64 ys) ∧ W.cell? ⟨w.heap.size + 1, 10, none⟩ = some (.int .i64 yt)) w7 from ⟨HT1.out.1.cell 0, HT1.out.1.cell 1, HT1.out.1.cell 2, HT1.out.1.cell 3, HT1.out.1.cell 4, HT1.out.1.cell 5, HT1.out.1.cell 6, HT1.out.1.cell 7, HT1.out.1.cell 8, HT1.out.1.cell 9, HT1.out.1.cell 10, HT1.out.2.1.cell 0, HT1.out.2.1.cell 1, HT1.out.2.1.cell 2, HT1.out.2.1.cell 3, HT1.out.2.1.cell 4, HT1.out.2.1.cell 5, HT1.out.2.1.cell 6, HT1.out.2.1.cell 7, HT1.out.2.1.cell 8, HT1.out.2.1.cell 9, HT1.out.2.1.cell 10⟩)
    clear hb1 HT0 HS0
    refine hK.out _ _ (HS1.out) (fun _ => ?_)
    clear hK K
    try simp only [Act.put, List.setIfInBounds_toArray, List.set_cons_zero, List.set_cons_succ]
    repeat (first | (refine SeqH.take (v := ?_) rfl (by rfl) ?_ ?_; rotate_left; (· intro w hSw; (try dsimp only at hSw); obtain ⟨q0, q1, q2, q3, q4, q5, q6, q7, q8, q9, q10, q11, q12, q13, q14, q15, q16, q17, q18, q19, q20, q21⟩ := hSw; go_simp; (try with_reducible rfl)); simp only [Act.put, List.setIfInBounds_toArray, List.set_cons_zero, List.set_cons_succ]) | (refine SeqH.skip rfl (by rfl) ?_; simp only [Act.put, List.setIfInBounds_toArray, List.set_cons_zero, List.set_cons_succ]) | (refine SeqH.pass rfl (by rfl) (by exact HS1.out) ?_; simp only [Act.put, List.setIfInBounds_toArray, List.set_cons_zero, List.set_cons_succ]))
    refine SeqH.done ?_
    go_wp2
    go_ret
    exact ⟨by rw [HE.out] <;> rfl, HT1.out.2.2⟩
  have d3 : decide (xa < ey) = true := decide_eq_true h1
  rw [d3, Bool.true_and] at HE
  clear h1
  obtain ⟨b, hb⟩ : ∃ b, b = decide (ya < ex) := ⟨_, rfl⟩
  rw [← hb] at HE
  have d4 : decide (ya < ex) = b := hb.symm
  clear hb
  go_enter Try.func130, Try.ntmps130
  go_wp2_with fail
  refine wp_region_seq [(0, true), (1, true), (2, true), (3, true), (4, true), (5, true), (6, true), (7, true), (8, true), (9, true), (10, true), (11, true), (12, false), (13, true), (14, true), (15, true), (16, true), (17, true), (18, true), (19, true), (20, false), (21, true), (22, true), (23, true)] (fun W => W.cell? ⟨w.heap.size, 0, none⟩ = some (.int .i64 xl) ∧ W.cell? ⟨w.heap.size, 1, none⟩ = some (.int .i64 xa) ∧ W.cell? ⟨w.heap.size, 2, none⟩ = some (.slice ua xh.length uc) ∧ W.cell? ⟨w.heap.size, 3, none⟩ = some (.slice va xg.length vc) ∧ W.cell? ⟨w.heap.size, 4, none⟩ = some (.int .i64 xr) ∧ W.cell? ⟨w.heap.size, 5, none⟩ = some (.int .i64 xm) ∧ W.cell? ⟨w.heap.size, 6, none⟩ = some (.int .i64 xp) ∧ W.cell? ⟨w.heap.size, 7, none⟩ = some (.int .i64 xn) ∧ W.cell? ⟨w.heap.size, 8, none⟩ = some (.int .i64 xo) ∧ W.cell? ⟨w.heap.size, 9, none⟩ = some (.int .i64 xs) ∧ W.cell? ⟨w.heap.size, 10, none⟩ = some (.int .i64 xt) ∧ W.cell? ⟨w.heap.size + 1, 0, none⟩ = some (.int .i64 yl) ∧ W.cell? ⟨w.heap.size + 1, 1, none⟩ = some (.int .i64 ya) ∧ W.cell? ⟨w.heap.size + 1, 2, none⟩ = some (.slice pa yh.length pc) ∧ W.cell? ⟨w.heap.size + 1, 3, none⟩ = some (.slice qa yg.length qc) ∧ W.cell? ⟨w.heap.size + 1, 4, none⟩ = some (.int .i64 yr) ∧ W.cell? ⟨w.heap.size + 1, 5, none⟩ = some (.int .i64 ym) ∧ W.cell? ⟨w.heap.size + 1, 6, none⟩ = some (.int .i64 yp) ∧ W.cell? ⟨w.heap.size + 1, 7, none⟩ = some (.int .i64 yn) ∧ W.cell? ⟨w.heap.size + 1, 8, none⟩ = some (.int .i64 yo) ∧ W.cell? ⟨w.heap.size + 1, 9, none⟩ = some (.int .i64 ys) ∧ W.cell? ⟨w.heap.size + 1, 10, none⟩ = some (.int .i64 yt))
    (by kernel_rfl) (by kernel_rfl) (by kernel_rfl) (by kernel_rfl) (fun d _ _ _ _ h => by cases d <;> exact h) HS0.out (fun _ => ?_)
  repeat (first | (refine SeqH.take (v := ?_) rfl (by rfl) ?_ ?_; rotate_left; (· intro w hSw; (try dsimp only at hSw); obtain ⟨q0, q1, q2, q3, q4, q5, q6, q7, q8, q9, q10, q11, q12, q13, q14, q15, q16, q17, q18, q19, q20, q21⟩ := hSw; go_simp; (try with_reducible rfl)); simp only [Act.put, List.setIfInBounds_toArray, List.set_cons_zero, List.set_cons_succ]) | (refine SeqH.skip rfl (by rfl) ?_; simp only [Act.put, List.setIfInBounds_toArray, List.set_cons_zero, List.set_cons_succ]))
  refine SeqH.step rfl (by rfl) (fun K hK => ?_)
  go_simp
  go_at_call 127
  refine (CY0.out _).mono ?_
  rintro e w7 ⟨rfl, hb1⟩
  try dsimp only
  have HT1 := Lib.hid (HT0.out.step hb1)
  have HS1 := Lib.hid (show (fun W => W.cell? ⟨w.heap.size, 0, none⟩ = some (.int .i64 xl) ∧ W.cell? ⟨w.heap.size, 1, none⟩ = some (.int .i64 xa) ∧ W.cell? ⟨w.heap.size, 2, none⟩ = some (.slice ua xh.length uc) ∧ W.cell? ⟨w.heap.size, 3, none⟩ = some (.slice va xg.length vc) ∧ W.cell? ⟨w.heap.size, 4, none⟩ = some (.int .i64 xr) ∧ W.cell? ⟨w.heap.size, 5, none⟩ = some (.int .i64 xm) ∧ W.cell? ⟨w.heap.size, 6, none⟩ = some (.int .i64 xp) ∧ W.cell? ⟨w.heap.size, 7, none⟩ = some (.int .i64 xn) ∧ W.cell? ⟨w.heap.size, 8, none⟩ = some (.int .i64 xo) ∧ W.cell? ⟨w.heap.size, 9, none⟩ = some (.int .i64 xs) ∧ W.cell? ⟨w.heap.size, 10, none⟩ = some (.int .i64 xt) ∧ W.cell? ⟨w.heap.size + 1, 0, none⟩ = some (.int .i64 yl) ∧ W.cell? ⟨w.heap.size + 1, 1, none⟩ = some (.int .i64 ya) ∧ W.cell? ⟨w.heap.size + 1, 2, none⟩ = some (.slice pa yh.length pc) ∧ W.cell? ⟨w.heap.size + 1, 3, none⟩ = some (.slice qa yg.length qc) ∧ W.cell? ⟨w.heap.size + 1, 4, none⟩ = some (.int .i64 yr) ∧ W.cell? ⟨w.heap.size + 1, 5, none⟩ = some (.int .i64 ym) ∧ W.cell? ⟨w.heap.size + 1, 6, none⟩ = some (.int .i64 yp) ∧ W.cell? ⟨w.heap.size + 1, 7, none⟩ = some (.int .i64 yn) ∧ W.cell? ⟨w.heap.size + 1, 8, none⟩ = some (.int .i64 yo) ∧ W.cell? ⟨w.heap.size + 1, 9, none⟩ = some (.int .i64 ys) ∧ W.cell? ⟨w.heap.size + 1, 10, none⟩ = some (.int .i64 yt)) w7 from ⟨HT1.out.1.cell 0, HT1.out.1.cell 1, HT1.out.1.cell 2, HT1.out.1.cell 3, HT1.out.1.cell 4, HT1.out.1.cell 5, HT1.out.1.cell 6, HT1.out.1.cell 7, HT1.out.1.cell 8, HT1.out.1.cell 9, HT1.out.1.cell 10, HT1.out.2.1.cell 0, HT1.out.2.1.cell 1, HT1.out.2.1.cell 2, HT1.out.2.1.cell 3, HT1.out.2.1.cell 4, HT1.out.2.1.cell 5, HT1.out.2.1.cell 6, HT1.out.2.1.cell 7, HT1.out.2.1.cell 8, HT1.out.2.1.cell 9, HT1.out.2.1.cell 10⟩)
  clear hb1 HT0 HS0
  refine hK.out _ _ (HS1.out) (fun _ => ?_)
  clear hK K
  try simp only [Act.put, List.setIfInBounds_toArray, List.set_cons_zero, List.set_cons_succ]
  repeat (first | (refine SeqH.take (v := ?_) rfl (by rfl) ?_ ?_; rotate_left; (· intro w hSw; (try dsimp only at hSw); obtain ⟨q0, q1, q2, q3, q4, q5, q6, q7, q8, q9, q10, q11, q12, q13, q14, q15, q16, q17, q18, q19, q20, q21⟩ := hSw; go_simp; (try with_reducible rfl)); simp only [Act.put, List.setIfInBounds_toArray, List.set_cons_zero, List.set_cons_succ]) | (refine SeqH.skip rfl (by rfl) ?_; simp only [Act.put, List.setIfInBounds_toArray, List.set_cons_zero, List.set_cons_succ]))
  refine SeqH.step rfl (by rfl) (fun K hK => ?_)
  go_simp
  go_at_call 127
  refine (CX0.out _).mono ?_
  rintro e w7 ⟨rfl, hb1⟩
  try dsimp only
  have HT2 := Lib.hid (HT1.out.step hb1)
  have HS2 := Lib.hid (show (fun W => W.cell? ⟨w.heap.size, 0, none⟩ = some (.int .i64 xl) ∧ W.cell? ⟨w.heap.size, 1, none⟩ = some (.int .i64 xa) ∧ W.cell? ⟨w.heap.size, 2, none⟩ = some (.slice ua xh.length uc) ∧ W.cell? ⟨w.heap.size, 3, none⟩ = some (.slice va xg.length vc) ∧ W.cell? ⟨w.heap.size, 4, none⟩ = some (.int .i64 xr) ∧ W.cell? ⟨w.heap.size, 5, none⟩ = some (.int .i64 xm) ∧ W.cell? ⟨w.heap.size, 6, none⟩ = some (.int .i64 xp) ∧ W.cell? ⟨w.heap.size, 7, none⟩ = some (.int .i64 xn) ∧ W.cell? ⟨w.heap.size, 8, none⟩ = some (.int .i64 xo) ∧ W.cell? ⟨w.heap.size, 9, none⟩ = some (.int .i64 xs) ∧ W.cell? ⟨w.heap.size, 10, none⟩ = some (.int .i64 xt) ∧ W.cell? ⟨w.heap.size + 1, 0, none⟩ = some (.int .i64 yl) ∧ W.cell? ⟨w.heap.size + 1, 1, none⟩ = some (.int .i64 ya) ∧ W.cell? ⟨w.heap.size + 1, 2, none⟩ = some (.slice pa yh.length pc) ∧ W.cell? ⟨w.heap.size + 1, 3, none⟩ = some (.slice qa yg.length qc) ∧ W.cell? ⟨w.heap.size + 1, 4, none⟩ = some (.int .i64 yr) ∧ W.cell? ⟨w.heap.size + 1, 5, none⟩ = some (.int .i64 ym) ∧ W.cell? ⟨w.heap.size + 1, 6, none⟩ = some (.int .i64 yp) ∧ W.cell? ⟨w.heap.size + 1, 7, none⟩ = some (.int .i64 yn) ∧ W.cell? ⟨w.heap.size + 1, 8, none⟩ = some (.int .i64 yo) ∧ W.cell? ⟨w.heap.size + 1, 9, none⟩ = some (.int .i64 ys) ∧ W.cell? ⟨w.heap.size + 1, 10, none⟩ = some (.int .i64 yt)) w7 from ⟨HT2.out.1.cell 0, HT2.out.1.cell 1, HT2.out.1.cell 2, HT2.out.1.cell 3, HT2.out.1.cell 4, HT2.out.1.cell 5, HT2.out.1.cell 6, HT2.out.1.cell 7, HT2.out.1.cell 8, HT2.out.1.cell 9, HT2.out.1.cell 10, HT2.out.2.1.cell 0, HT2.out.2.1.cell 1, HT2.out.2.1.cell 2, HT2.out.2.1.cell 3, HT2.out.2.1.cell 4, HT2.out.2.1.cell 5, HT2.out.2.1.cell 6, HT2.out.2.1.cell 7, HT2.out.2.1.cell 8, HT2.out.2.1.cell 9, HT2.out.2.1.cell 10⟩)
  clear hb1 HT1 HS1
  refine hK.out _ _ (HS2.out) (fun _ => ?_)
  clear hK K
  try simp only [Act.put, List.setIfInBounds_toArray, List.set_cons_zero, List.set_cons_succ]
  repeat (first | (refine SeqH.take (v := ?_) rfl (by rfl) ?_ ?_; rotate_left; (· intro w hSw; (try dsimp only at hSw); obtain ⟨q0, q1, q2, q3, q4, q5, q6, q7, q8, q9, q10, q11, q12, q13, q14, q15, q16, q17, q18, q19, q20, q21⟩ := hSw; go_simp; (try with_reducible rfl)); simp only [Act.put, List.setIfInBounds_toArray, List.set_cons_zero, List.set_cons_succ]) | (refine SeqH.skip rfl (by rfl) ?_; simp only [Act.put, List.setIfInBounds_toArray, List.set_cons_zero, List.set_cons_succ]))
  refine SeqH.done ?_
  go_wp2
  go_ret
  exact ⟨by rw [HE.out] <;> rfl, HT2.out.2.2⟩
end Go.Proofs.Ytabfcnfddemblaa.Lo
