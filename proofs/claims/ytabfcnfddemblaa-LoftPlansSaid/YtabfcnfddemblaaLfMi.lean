/- Whether loads share goods or meet, and the errors behind others: of the program. The first error of a plan: of the program. -/
import Derived.Test.YtabfcnfddemblaaLf44
namespace Go.Proofs.Ytabfcnfddemblaa.Lo
open Go.RowKit

/-- Two loads in boxes. -/
def TwS (w : World) (x y : KV) (W : World) : Prop := BlockAt W w.heap.size (kA x) KvT ∧ BlockAt W (w.heap.size + 1) (kA y) KvT ∧ Below w.heap.size w W
theorem TwS.new (w : World) (x y : KV) : TwS w x y ((w.alloc (.cells (kA x) KvT)).alloc (.cells (kA y) KvT)) :=
  ⟨(BlockAt.new w (kA x) KvT).alloc _, by have := BlockAt.new (w.alloc (.cells (kA x) KvT)) (kA y) KvT; simpa using this, below_alloc2 (below_alloc2 (Below.refl w.heap.size w) _) _⟩
theorem TwS.step {w : World} {x y : KV} {W W2 : World} (h : TwS w x y W) (hb : Below W.heap.size W W2) : TwS w x y W2 := ⟨h.1.below hb h.1.lt, h.2.1.below hb h.2.1.lt, below_step h.2.2 hb⟩
theorem TwS.drew {w : World} {x y : KV} {W : World} (h : TwS w x y W) : TwS w x y W.drew := ⟨h.1.drew, h.2.1.drew, below_drewN h.2.2 1⟩
set_option maxRecDepth 20000 in
set_option maxHeartbeats 1000000 in
theorem shares_any (x y : KV) (w : World) (hx : KvW w x) (hy : KvW w y) :
    Calls Try.prog 129 #[kV x, kV y] w fun e w' => e = .returned (.bool (Lf.shr x.x y.x)) ∧ Below w.heap.size w w' := by
  have HT := Lib.hid (TwS.new w x y)
  have C := Lib.hid (containsS (w.heap.size + 1) (fun n => y.x.gs.any fun m => decide (n = m)) x.v x.x.gs _ (hx.1.2.all HT.out.2.2) hx.2.2.2
    (fun k hk W hW => shares1_any (w.heap.size + 1) y.v y.x.gs _ W ((HT.out.step hW).2.1.cell 3) (hy.1.2.all (HT.out.step hW).2.2) hy.2.2.2))
  have HE : Hid (Lf.shr x.x y.x = x.x.gs.any (fun n => y.x.gs.any fun m => decide (n = m))) := Lib.hid rfl
  obtain ⟨ua, uc, hu⟩ := hx.1.1.form
  obtain ⟨va, vc, hv⟩ := hx.1.2.form
  obtain ⟨pa, pc, hp⟩ := hy.1.1.form
  obtain ⟨qa, qc, hq⟩ := hy.1.2.form
  clear hx hy
  generalize Lf.shr x.x y.x = R at *
  obtain ⟨⟨xl, xa, xh, xg⟩, xu, xv, xr, xm, ⟨xp, xn, xo, xs, xt⟩⟩ := x
  obtain ⟨⟨yl, ya, yh, yg⟩, yu, yv, yr, ym, ⟨yp, yn, yo, ys, yt⟩⟩ := y
  dsimp only at *
  subst hu hv hp hq
  generalize xg.any (fun n => yg.any fun m => decide (n = m)) = R2 at *
  have x3 : World.cell? _ _ = some (.slice va xg.length vc) := HT.out.1.cell 3
  go_enter Try.func129, Try.ntmps129
  go_wp2_with fail
  refine C.out.mono ?_
  rintro e w1 ⟨rfl, hb1⟩
  have HB := Lib.hid (HT.out.step hb1)
  clear hb1 x3
  go_wp2
  go_ret
  exact ⟨by rw [HE.out] <;> rfl, HB.out.2.2⟩
set_option maxRecDepth 20000 in
set_option maxHeartbeats 4000000 in
theorem meets_any (x y : KV) (w : World) (hx : KvW w x) (hy : KvW w y) :
    Calls Try.prog 130 #[kV x, kV y] w fun e w' => e = .returned (.bool (Lf.mts x.x y.x)) ∧ Below w.heap.size w w' := by
  have HT := Lib.hid (TwS.new w x y)
  have CX := Lib.hid (fun ua uc W => endK_any x.x.l x.x.a ua x.x.hs.length uc x.v x.r x.m x.t W hx.2.1 hx.2.2.1)
  have CY := Lib.hid (fun ua uc W => endK_any y.x.l y.x.a ua y.x.hs.length uc y.v y.r y.m y.t W hy.2.1 hy.2.2.1)
  have HE : Hid (Lf.mts x.x y.x = (decide (x.x.l = y.x.l) && (decide (x.x.a < y.x.a + y.x.hs.length) && decide (y.x.a < x.x.a + x.x.hs.length)))) := Lib.hid rfl
  obtain ⟨ua, uc, hu⟩ := hx.1.1.form
  obtain ⟨va, vc, hv⟩ := hx.1.2.form
  obtain ⟨pa, pc, hp⟩ := hy.1.1.form
  obtain ⟨qa, qc, hq⟩ := hy.1.2.form
  clear hx hy
  generalize Lf.mts x.x y.x = R at *
  obtain ⟨⟨xl, xa, xh, xg⟩, xu, xv, xr, xm, ⟨xp, xn, xo, xs, xt⟩⟩ := x
  obtain ⟨⟨yl, ya, yh, yg⟩, yu, yv, yr, ym, ⟨yp, yn, yo, ys, yt⟩⟩ := y
  dsimp only at *
  subst hu hv hp hq
  have CX0 := Lib.hid (CX.out ua uc)
  have CY0 := Lib.hid (CY.out pa pc)
  obtain ⟨ex, hex⟩ : ∃ ex, ex = xa + (xh.length : Int) := ⟨_, rfl⟩
  obtain ⟨ey, hey⟩ : ∃ ey, ey = ya + (yh.length : Int) := ⟨_, rfl⟩
  rw [← hex] at CX0 HE
  rw [← hey] at CY0 HE
  clear hex hey CX CY
  have HS0 := Lib.hid (show (fun W => W.cell? ⟨w.heap.size, 0, none⟩ = some (.int .i64 xl) ∧ W.cell? ⟨w.heap.size, 1, none⟩ = some (.int .i64 xa) ∧ W.cell? ⟨w.heap.size, 2, none⟩ = some (.slice ua xh.length uc) ∧ W.cell? ⟨w.heap.size, 3, none⟩ = some (.slice va xg.length vc) ∧ W.cell? ⟨w.heap.size, 4, none⟩ = some (.int .i64 xr) ∧ W.cell? ⟨w.heap.size, 5, none⟩ = some (.int .i64 xm) ∧ W.cell? ⟨w.heap.size, 6, none⟩ = some (.int .i64 xp) ∧ W.cell? ⟨w.heap.size, 7, none⟩ = some (.int .i64 xn) ∧ W.cell? ⟨w.heap.size, 8, none⟩ = some (.int .i64 xo) ∧ W.cell? ⟨w.heap.size, 9, none⟩ = some (.int .i64 xs) ∧ W.cell? ⟨w.heap.size, 10, none⟩ = some (.int .i64 xt) ∧ W.cell? ⟨w.heap.size + 1, 0, none⟩ = some (.int .i64 yl) ∧ W.cell? ⟨w.heap.size + 1, 1, none⟩ = some (.int .i64 ya) ∧ W.cell? ⟨w.heap.size + 1, 2, none⟩ = some (.slice pa yh.length pc) ∧ W.cell? ⟨w.heap.size + 1, 3, none⟩ = some (.slice qa yg.length qc) ∧ W.cell? ⟨w.heap.size + 1, 4, none⟩ = some (.int .i64 yr) ∧ W.cell? ⟨w.heap.size + 1, 5, none⟩ = some (.int .i64 ym) ∧ W.cell? ⟨w.heap.size + 1, 6, none⟩ = some (.int .i64 yp) ∧ W.cell? ⟨w.heap.size + 1, 7, none⟩ = some (.int .i64 yn) ∧ W.cell? ⟨w.heap.size + 1, 8, none⟩ = some (.int .i64 yo) ∧ W.cell? ⟨w.heap.size + 1, 9, none⟩ = some (.int .i64 ys) ∧ W.cell? ⟨w.heap.size + 1, 10, none⟩ = some (.int .i64 yt)) (((w.alloc (.cells (kA ⟨⟨xl, xa, xh, xg⟩, .slice ua xh.length uc, .slice va xg.length vc, xr, xm, ⟨xp, xn, xo, xs, xt⟩⟩) KvT)).alloc (.cells (kA ⟨⟨yl, ya, yh, yg⟩, .slice pa yh.length pc, .slice qa yg.length qc, yr, ym, ⟨yp, yn, yo, ys, yt⟩⟩) KvT)).drew) from ⟨HT.out.drew.1.cell 0, HT.out.drew.1.cell 1, HT.out.drew.1.cell 2, HT.out.drew.1.cell 3, HT.out.drew.1.cell 4, HT.out.drew.1.cell 5, HT.out.drew.1.cell 6, HT.out.drew.1.cell 7, HT.out.drew.1.cell 8, HT.out.drew.1.cell 9, HT.out.drew.1.cell 10, HT.out.drew.2.1.cell 0, HT.out.drew.2.1.cell 1, HT.out.drew.2.1.cell 2, HT.out.drew.2.1.cell 3, HT.out.drew.2.1.cell 4, HT.out.drew.2.1.cell 5, HT.out.drew.2.1.cell 6, HT.out.drew.2.1.cell 7, HT.out.drew.2.1.cell 8, HT.out.drew.2.1.cell 9, HT.out.drew.2.1.cell 10⟩)
  have HT0 := Lib.hid (HT.out.drew)
  clear HT
  by_cases h1 : xl = yl
  case neg =>
    have d1 : decide (xl = yl) = false := decide_eq_false h1
    have d2 : (xl == yl) = false := beq_eq_false_iff_ne.2 h1
    rw [d1, Bool.false_and] at HE
    clear h1 CX0 CY0
    go_enter Try.func130, Try.ntmps130
    go_wp2_with fail
    refine wp_region_seq [(0, true), (1, true), (2, true), (3, true), (4, true), (5, true), (6, true), (7, true), (8, true), (9, true), (10, true), (11, true), (12, false), (13, true), (14, true), (15, true), (16, true), (17, true), (18, true), (19, true), (20, false), (21, true), (22, true), (23, true)] (fun W => W.cell? ⟨w.heap.size, 0, none⟩ = some (.int .i64 xl) ∧ W.cell? ⟨w.heap.size, 1, none⟩ = some (.int .i64 xa) ∧ W.cell? ⟨w.heap.size, 2, none⟩ = some (.slice ua xh.length uc) ∧ W.cell? ⟨w.heap.size, 3, none⟩ = some (.slice va xg.length vc) ∧ W.cell? ⟨w.heap.size, 4, none⟩ = some (.int .i64 xr) ∧ W.cell? ⟨w.heap.size, 5, none⟩ = some (.int .i64 xm) ∧ W.cell? ⟨w.heap.size, 6, none⟩ = some (.int .i64 xp) ∧ W.cell? ⟨w.heap.size, 7, none⟩ = some (.int .i64 xn) ∧ W.cell? ⟨w.heap.size, 8, none⟩ = some (.int .i64 xo) ∧ W.cell? ⟨w.heap.size, 9, none⟩ = some (.int .i64 xs) ∧ W.cell? ⟨w.heap.size, 10, none⟩ = some (.int .i64 xt) ∧ W.cell? ⟨w.heap.size + 1, 0, none⟩ = some (.int .i64 yl) ∧ W.cell? ⟨w.heap.size + 1, 1, none⟩ = some (.int .i64 ya) ∧ W.cell? ⟨w.heap.size + 1, 2, none⟩ = some (.slice pa yh.length pc) ∧ W.cell? ⟨w.heap.size + 1, 3, none⟩ = some (.slice qa yg.length qc) ∧ W.cell? ⟨w.heap.size + 1, 4, none⟩ = some (.int .i64 yr) ∧ W.cell? ⟨w.heap.size + 1, 5, none⟩ = some (.int .i64 ym) ∧ W.cell? ⟨w.heap.size + 1, 6, none⟩ = some (.int .i64 yp) ∧ W.cell? ⟨w.heap.size + 1, 7, none⟩ = some (.int .i64 yn) ∧ W.cell? ⟨w.heap.size + 1, 8, none⟩ = some (.int .i64 yo) ∧ W.cell? ⟨w.heap.size + 1, 9, none⟩ = some (.int .i64 ys) ∧ W.cell? ⟨w.heap.size + 1, 10, none⟩ = some (.int .i64 yt))
      (by kernel_rfl) (by kernel_rfl) (by kernel_rfl) (by kernel_rfl) (fun d _ _ _ _ h => by cases d <;> exact h) HS0.out (fun _ => ?_)
    repeat (first | (refine SeqH.take (v := ?_) rfl (by rfl) ?_ ?_; rotate_left; (· intro w hSw; (try dsimp only at hSw); obtain ⟨q0, q1, q2, q3, q4, q5, q6, q7, q8, q9, q10, q11, q12, q13, q14, q15, q16, q17, q18, q19, q20, q21⟩ := hSw; go_simp; (try with_reducible rfl)); simp only [Act.put, List.setIfInBounds_toArray, List.set_cons_zero, List.set_cons_succ]) | (refine SeqH.skip rfl (by rfl) ?_; simp only [Act.put, List.setIfInBounds_toArray, List.set_cons_zero, List.set_cons_succ]) | (refine SeqH.pass rfl (by rfl) (by exact HS0.out) ?_; simp only [Act.put, List.setIfInBounds_toArray, List.set_cons_zero, List.set_cons_succ]))
    refine SeqH.done ?_
    go_wp2
    go_ret
    exact ⟨by rw [HE.out] <;> rfl, HT0.out.2.2⟩
  have d1 : decide (xl = yl) = true := decide_eq_true h1
  have d2 : (xl == yl) = true := beq_iff_eq.2 h1
  rw [d1, Bool.true_and] at HE
  clear h1
  by_cases h1 : xa < ey
  case neg =>
    have d3 : decide (xa < ey) = false := decide_eq_false h1
    rw [d3, Bool.false_and] at HE
    clear h1 CX0
    go_enter Try.func130, Try.ntmps130
    go_wp2_with fail
    refine wp_region_seq [(0, true), (1, true), (2, true), (3, true), (4, true), (5, true), (6, true), (7, true), (8, true), (9, true), (10, true), (11, true), (12, false), (13, true), (14, true), (15, true), (16, true), (17, true), (18, true), (19, true), (20, false), (21, true), (22, true), (23, true)] (fun W => W.cell? ⟨w.heap.size, 0, none⟩ = some (.int .i64 xl) ∧ W.cell? ⟨w.heap.size, 1, none⟩ = some (.int .i64 xa) ∧ W.cell? ⟨w.heap.size, 2, none⟩ = some (.slice ua xh.length uc) ∧ W.cell? ⟨w.heap.size, 3, none⟩ = some (.slice va xg.length vc) ∧ W.cell? ⟨w.heap.size, 4, none⟩ = some (.int .i64 xr) ∧ W.cell? ⟨w.heap.size, 5, none⟩ = some (.int .i64 xm) ∧ W.cell? ⟨w.heap.size, 6, none⟩ = some (.int .i64 xp) ∧ W.cell? ⟨w.heap.size, 7, none⟩ = some (.int .i64 xn) ∧ W.cell? ⟨w.heap.size, 8, none⟩ = some (.int .i64 xo) ∧ W.cell? ⟨w.heap.size, 9, none⟩ = some (.int .i64 xs) ∧ W.cell? ⟨w.heap.size, 10, none⟩ = some (.int .i64 xt) ∧ W.cell? ⟨w.heap.size + 1, 0, none⟩ = some (.int .i64 yl) ∧ W.cell? ⟨w.heap.size + 1, 1, none⟩ = some (.int .i64 ya) ∧ W.cell? ⟨w.heap.size + 1, 2, none⟩ = some (.slice pa yh.length pc) ∧ W.cell? ⟨w.heap.size + 1, 3, none⟩ = some (.slice qa yg.length qc) ∧ W.cell? ⟨w.heap.size + 1, 4, none⟩ = some (.int .i64 yr) ∧ W.cell? ⟨w.heap.size + 1, 5, none⟩ = some (.int .i64 ym) ∧ W.cell? ⟨w.heap.size + 1, 6, none⟩ = some (.int .i64 yp) ∧ W.cell? ⟨w.heap.size + 1, 7, none⟩ = some (.int .i64 yn) ∧ W.cell? ⟨w.heap.size + 1, 8, none⟩ = some (.int .i64 yo) ∧ W.cell? ⟨w.heap.size + 1, 9, none⟩ = some (.int .i64 ys) ∧ W.cell? ⟨w.heap.size + 1, 10, none⟩ = some (.int .i64 yt))
      (by kernel_rfl) (by kernel_rfl) (by kernel_rfl) (by kernel_rfl) (fun d _ _ _ _ h => by cases d <;> exact h) HS0.out (fun _ => ?_)
    repeat (first | (refine SeqH.take (v := ?_) rfl (by rfl) ?_ ?_; rotate_left; (· intro w hSw; (try dsimp only at hSw); obtain ⟨q0, q1, q2, q3, q4, q5, q6, q7, q8, q9, q10, q11, q12, q13, q14, q15, q16, q17, q18, q19, q20, q21⟩ := hSw; go_simp; (try with_reducible rfl)); simp only [Act.put, List.setIfInBounds_toArray, List.set_cons_zero, List.set_cons_succ]) | (refine SeqH.skip rfl (by rfl) ?_; simp only [Act.put, List.setIfInBounds_toArray, List.set_cons_zero, List.set_cons_succ]))
    refine SeqH.step rfl (by rfl) (fun K hK => ?_)
    go_simp
    go_at_call 127
    refine (CY0.out _).mono ?_
    rintro e w7 ⟨rfl, hb1⟩
    try dsimp only
    have HT1 := Lib.hid (HT0.out.step hb1)
    have HS1 := Lib.hid (show (fun W => W.cell? ⟨w.heap.size, 0, none⟩ = some (.int .i64 xl) ∧ W.cell? ⟨w.heap.size, 1, none⟩ = some (.int .i64 xa) ∧ W.cell? ⟨w.heap.size, 2, none⟩ = some (.slice ua xh.length uc) ∧ W.cell? ⟨w.heap.size, 3, none⟩ = some (.slice va xg.length vc) ∧ W.cell? ⟨w.heap.size, 4, none⟩ = some (.int .i64 xr) ∧ W.cell? ⟨w.heap.size, 5, none⟩ = some (.int .i64 xm) ∧ W.cell? ⟨w.heap.size, 6, none⟩ = some (.int .i64 xp) ∧ W.cell? ⟨w.heap.size, 7, none⟩ = some (.int .i64 xn) ∧ W.cell? ⟨w.heap.size, 8, none⟩ = some (.int .i64 xo) ∧ W.cell? ⟨w.heap.size, 9, none⟩ = some (.int .i64 xs) ∧ W.cell? ⟨w.heap.size, 10, none⟩ = some (.int .i64 xt) ∧ W.cell? ⟨w.heap.size + 1, 0, none⟩ = some (.int .i64 yl) ∧ W.cell? ⟨w.heap.size + 1, 1, none⟩ = some (.int .i64 ya) ∧ W.cell? ⟨w.heap.size + 1, 2, none⟩ = some (.slice pa yh.length pc) ∧ W.cell? ⟨w.heap.size + 1, 3, none⟩ = some (.slice qa yg.length qc) ∧ W.cell? ⟨w.heap.size + 1, 4, none⟩ = some (.int .i64 yr) ∧ W.cell? ⟨w.heap.size + 1, 5, none⟩ = some (.int .i64 ym) ∧ W.cell? ⟨w.heap.size + 1, 6, none⟩ = some (.int .i64 yp) ∧ W.cell? ⟨w.heap.size + 1, 7, none⟩ = some (.int .i64 yn) ∧ W.cell? ⟨w.heap.size + 1, 8, none⟩ = some (.int .i64 yo) ∧ W.cell? ⟨w.heap.size + 1, 9, none⟩ = some (.int .i64 ys) ∧ W.cell? ⟨w.heap.size + 1, 10, none⟩ = some (.int .i64 yt)) w7 from ⟨HT1.out.1.cell 0, HT1.out.1.cell 1, HT1.out.1.cell 2, HT1.out.1.cell 3, HT1.out.1.cell 4, HT1.out.1.cell 5, HT1.out.1.cell 6, HT1.out.1.cell 7, HT1.out.1.cell 8, HT1.out.1.cell 9, HT1.out.1.cell 10, HT1.out.2.1.cell 0, HT1.out.2.1.cell 1, HT1.out.2.1.cell 2, HT1.out.2.1.cell 3, HT1.out.2.1.cell 4, HT1.out.2.1.cell 5, HT1.out.2.1.cell 6, HT1.out.2.1.cell 7, HT1.out.2.1.cell 8, HT1.out.2.1.cell 9, HT1.out.2.1.cell 10⟩)
    clear hb1 HT0 HS0
    refine hK.out _ _ (HS1.out) (fun _ => ?_)
    clear hK K
    try simp only [Act.put, List.setIfInBounds_toArray, List.set_cons_zero, List.set_cons_succ]
    repeat (first | (refine SeqH.take (v := ?_) rfl (by rfl) ?_ ?_; rotate_left; (· intro w hSw; (try dsimp only at hSw); obtain ⟨q0, q1, q2, q3, q4, q5, q6, q7, q8, q9, q10, q11, q12, q13, q14, q15, q16, q17, q18, q19, q20, q21⟩ := hSw; go_simp; (try with_reducible rfl)); simp only [Act.put, List.setIfInBounds_toArray, List.set_cons_zero, List.set_cons_succ]) | (refine SeqH.skip rfl (by rfl) ?_; simp only [Act.put, List.setIfInBounds_toArray, List.set_cons_zero, List.set_cons_succ]) | (refine SeqH.pass rfl (by rfl) (by exact HS1.out) ?_; simp only [Act.put, List.setIfInBounds_toArray, List.set_cons_zero, List.set_cons_succ]))
    refine SeqH.done ?_
    go_wp2
    go_ret
    exact ⟨by rw [HE.out] <;> rfl, HT1.out.2.2⟩
  have d3 : decide (xa < ey) = true := decide_eq_true h1
  rw [d3, Bool.true_and] at HE
  clear h1
  obtain ⟨b, hb⟩ : ∃ b, b = decide (ya < ex) := ⟨_, rfl⟩
  rw [← hb] at HE
  have d4 : decide (ya < ex) = b := hb.symm
  clear hb
  go_enter Try.func130, Try.ntmps130
  go_wp2_with fail
  refine wp_region_seq [(0, true), (1, true), (2, true), (3, true), (4, true), (5, true), (6, true), (7, true), (8, true), (9, true), (10, true), (11, true), (12, false), (13, true), (14, true), (15, true), (16, true), (17, true), (18, true), (19, true), (20, false), (21, true), (22, true), (23, true)] (fun W => W.cell? ⟨w.heap.size, 0, none⟩ = some (.int .i64 xl) ∧ W.cell? ⟨w.heap.size, 1, none⟩ = some (.int .i64 xa) ∧ W.cell? ⟨w.heap.size, 2, none⟩ = some (.slice ua xh.length uc) ∧ W.cell? ⟨w.heap.size, 3, none⟩ = some (.slice va xg.length vc) ∧ W.cell? ⟨w.heap.size, 4, none⟩ = some (.int .i64 xr) ∧ W.cell? ⟨w.heap.size, 5, none⟩ = some (.int .i64 xm) ∧ W.cell? ⟨w.heap.size, 6, none⟩ = some (.int .i64 xp) ∧ W.cell? ⟨w.heap.size, 7, none⟩ = some (.int .i64 xn) ∧ W.cell? ⟨w.heap.size, 8, none⟩ = some (.int .i64 xo) ∧ W.cell? ⟨w.heap.size, 9, none⟩ = some (.int .i64 xs) ∧ W.cell? ⟨w.heap.size, 10, none⟩ = some (.int .i64 xt) ∧ W.cell? ⟨w.heap.size + 1, 0, none⟩ = some (.int .i64 yl) ∧ W.cell? ⟨w.heap.size + 1, 1, none⟩ = some (.int .i64 ya) ∧ W.cell? ⟨w.heap.size + 1, 2, none⟩ = some (.slice pa yh.length pc) ∧ W.cell? ⟨w.heap.size + 1, 3, none⟩ = some (.slice qa yg.length qc) ∧ W.cell? ⟨w.heap.size + 1, 4, none⟩ = some (.int .i64 yr) ∧ W.cell? ⟨w.heap.size + 1, 5, none⟩ = some (.int .i64 ym) ∧ W.cell? ⟨w.heap.size + 1, 6, none⟩ = some (.int .i64 yp) ∧ W.cell? ⟨w.heap.size + 1, 7, none⟩ = some (.int .i64 yn) ∧ W.cell? ⟨w.heap.size + 1, 8, none⟩ = some (.int .i64 yo) ∧ W.cell? ⟨w.heap.size + 1, 9, none⟩ = some (.int .i64 ys) ∧ W.cell? ⟨w.heap.size + 1, 10, none⟩ = some (.int .i64 yt))
    (by kernel_rfl) (by kernel_rfl) (by kernel_rfl) (by kernel_rfl) (fun d _ _ _ _ h => by cases d <;> exact h) HS0.out (fun _ => ?_)
  repeat (first | (refine SeqH.take (v := ?_) rfl (by rfl) ?_ ?_; rotate_left; (· intro w hSw; (try dsimp only at hSw); obtain ⟨q0, q1, q2, q3, q4, q5, q6, q7, q8, q9, q10, q11, q12, q13, q14, q15, q16, q17, q18, q19, q20, q21⟩ := hSw; go_simp; (try with_reducible rfl)); simp only [Act.put, List.setIfInBounds_toArray, List.set_cons_zero, List.set_cons_succ]) | (refine SeqH.skip rfl (by rfl) ?_; simp only [Act.put, List.setIfInBounds_toArray, List.set_cons_zero, List.set_cons_succ]))
  refine SeqH.step rfl (by rfl) (fun K hK => ?_)
  go_simp
  go_at_call 127
  refine (CY0.out _).mono ?_
  rintro e w7 ⟨rfl, hb1⟩
  try dsimp only
  have HT1 := Lib.hid (HT0.out.step hb1)
  have HS1 := Lib.hid (show (fun W => W.cell? ⟨w.heap.size, 0, none⟩ = some (.int .i64 xl) ∧ W.cell? ⟨w.heap.size, 1, none⟩ = some (.int .i64 xa) ∧ W.cell? ⟨w.heap.size, 2, none⟩ = some (.slice ua xh.length uc) ∧ W.cell? ⟨w.heap.size, 3, none⟩ = some (.slice va xg.length vc) ∧ W.cell? ⟨w.heap.size, 4, none⟩ = some (.int .i64 xr) ∧ W.cell? ⟨w.heap.size, 5, none⟩ = some (.int .i64 xm) ∧ W.cell? ⟨w.heap.size, 6, none⟩ = some (.int .i64 xp) ∧ W.cell? ⟨w.heap.size, 7, none⟩ = some (.int .i64 xn) ∧ W.cell? ⟨w.heap.size, 8, none⟩ = some (.int .i64 xo) ∧ W.cell? ⟨w.heap.size, 9, none⟩ = some (.int .i64 xs) ∧ W.cell? ⟨w.heap.size, 10, none⟩ = some (.int .i64 xt) ∧ W.cell? ⟨w.heap.size + 1, 0, none⟩ = some (.int .i64 yl) ∧ W.cell? ⟨w.heap.size + 1, 1, none⟩ = some (.int .i64 ya) ∧ W.cell? ⟨w.heap.size + 1, 2, none⟩ = some (.slice pa yh.length pc) ∧ W.cell? ⟨w.heap.size + 1, 3, none⟩ = some (.slice qa yg.length qc) ∧ W.cell? ⟨w.heap.size + 1, 4, none⟩ = some (.int .i64 yr) ∧ W.cell? ⟨w.heap.size + 1, 5, none⟩ = some (.int .i64 ym) ∧ W.cell? ⟨w.heap.size + 1, 6, none⟩ = some (.int .i64 yp) ∧ W.cell? ⟨w.heap.size + 1, 7, none⟩ = some (.int .i64 yn) ∧ W.cell? ⟨w.heap.size + 1, 8, none⟩ = some (.int .i64 yo) ∧ W.cell? ⟨w.heap.size + 1, 9, none⟩ = some (.int .i64 ys) ∧ W.cell? ⟨w.heap.size + 1, 10, none⟩ = some (.int .i64 yt)) w7 from ⟨HT1.out.1.cell 0, HT1.out.1.cell 1, HT1.out.1.cell 2, HT1.out.1.cell 3, HT1.out.1.cell 4, HT1.out.1.cell 5, HT1.out.1.cell 6, HT1.out.1.cell 7, HT1.out.1.cell 8, HT1.out.1.cell 9, HT1.out.1.cell 10, HT1.out.2.1.cell 0, HT1.out.2.1.cell 1, HT1.out.2.1.cell 2, HT1.out.2.1.cell 3, HT1.out.2.1.cell 4, HT1.out.2.1.cell 5, HT1.out.2.1.cell 6, HT1.out.2.1.cell 7, HT1.out.2.1.cell 8, HT1.out.2.1.cell 9, HT1.out.2.1.cell 10⟩)
  clear hb1 HT0 HS0
  refine hK.out _ _ (HS1.out) (fun _ => ?_)
  clear hK K
  try simp only [Act.put, List.setIfInBounds_toArray, List.set_cons_zero, List.set_cons_succ]
  repeat (first | (refine SeqH.take (v := ?_) rfl (by rfl) ?_ ?_; rotate_left; (· intro w hSw; (try dsimp only at hSw); obtain ⟨q0, q1, q2, q3, q4, q5, q6, q7, q8, q9, q10, q11, q12, q13, q14, q15, q16, q17, q18, q19, q20, q21⟩ := hSw; go_simp; (try with_reducible rfl)); simp only [Act.put, List.setIfInBounds_toArray, List.set_cons_zero, List.set_cons_succ]) | (refine SeqH.skip rfl (by rfl) ?_; simp only [Act.put, List.setIfInBounds_toArray, List.set_cons_zero, List.set_cons_succ]))
  refine SeqH.step rfl (by rfl) (fun K hK => ?_)
  go_simp
  go_at_call 127
  refine (CX0.out _).mono ?_
  rintro e w7 ⟨rfl, hb1⟩
  try dsimp only
  have HT2 := Lib.hid (HT1.out.step hb1)
  have HS2 := Lib.hid (show (fun W => W.cell? ⟨w.heap.size, 0, none⟩ = some (.int .i64 xl) ∧ W.cell? ⟨w.heap.size, 1, none⟩ = some (.int .i64 xa) ∧ W.cell? ⟨w.heap.size, 2, none⟩ = some (.slice ua xh.length uc) ∧ W.cell? ⟨w.heap.size, 3, none⟩ = some (.slice va xg.length vc) ∧ W.cell? ⟨w.heap.size, 4, none⟩ = some (.int .i64 xr) ∧ W.cell? ⟨w.heap.size, 5, none⟩ = some (.int .i64 xm) ∧ W.cell? ⟨w.heap.size, 6, none⟩ = some (.int .i64 xp) ∧ W.cell? ⟨w.heap.size, 7, none⟩ = some (.int .i64 xn) ∧ W.cell? ⟨w.heap.size, 8, none⟩ = some (.int .i64 xo) ∧ W.cell? ⟨w.heap.size, 9, none⟩ = some (.int .i64 xs) ∧ W.cell? ⟨w.heap.size, 10, none⟩ = some (.int .i64 xt) ∧ W.cell? ⟨w.heap.size + 1, 0, none⟩ = some (.int .i64 yl) ∧ W.cell? ⟨w.heap.size + 1, 1, none⟩ = some (.int .i64 ya) ∧ W.cell? ⟨w.heap.size + 1, 2, none⟩ = some (.slice pa yh.length pc) ∧ W.cell? ⟨w.heap.size + 1, 3, none⟩ = some (.slice qa yg.length qc) ∧ W.cell? ⟨w.heap.size + 1, 4, none⟩ = some (.int .i64 yr) ∧ W.cell? ⟨w.heap.size + 1, 5, none⟩ = some (.int .i64 ym) ∧ W.cell? ⟨w.heap.size + 1, 6, none⟩ = some (.int .i64 yp) ∧ W.cell? ⟨w.heap.size + 1, 7, none⟩ = some (.int .i64 yn) ∧ W.cell? ⟨w.heap.size + 1, 8, none⟩ = some (.int .i64 yo) ∧ W.cell? ⟨w.heap.size + 1, 9, none⟩ = some (.int .i64 ys) ∧ W.cell? ⟨w.heap.size + 1, 10, none⟩ = some (.int .i64 yt)) w7 from ⟨HT2.out.1.cell 0, HT2.out.1.cell 1, HT2.out.1.cell 2, HT2.out.1.cell 3, HT2.out.1.cell 4, HT2.out.1.cell 5, HT2.out.1.cell 6, HT2.out.1.cell 7, HT2.out.1.cell 8, HT2.out.1.cell 9, HT2.out.1.cell 10, HT2.out.2.1.cell 0, HT2.out.2.1.cell 1, HT2.out.2.1.cell 2, HT2.out.2.1.cell 3, HT2.out.2.1.cell 4, HT2.out.2.1.cell 5, HT2.out.2.1.cell 6, HT2.out.2.1.cell 7, HT2.out.2.1.cell 8, HT2.out.2.1.cell 9, HT2.out.2.1.cell 10⟩)
  clear hb1 HT1 HS1
  refine hK.out _ _ (HS2.out) (fun _ => ?_)
  clear hK K
  try simp only [Act.put, List.setIfInBounds_toArray, List.set_cons_zero, List.set_cons_succ]
  repeat (first | (refine SeqH.take (v := ?_) rfl (by rfl) ?_ ?_; rotate_left; (· intro w hSw; (try dsimp only at hSw); obtain ⟨q0, q1, q2, q3, q4, q5, q6, q7, q8, q9, q10, q11, q12, q13, q14, q15, q16, q17, q18, q19, q20, q21⟩ := hSw; go_simp; (try with_reducible rfl)); simp only [Act.put, List.setIfInBounds_toArray, List.set_cons_zero, List.set_cons_succ]) | (refine SeqH.skip rfl (by rfl) ?_; simp only [Act.put, List.setIfInBounds_toArray, List.set_cons_zero, List.set_cons_succ]))
  refine SeqH.done ?_
  go_wp2
  go_ret
  exact ⟨by rw [HE.out] <;> rfl, HT2.out.2.2⟩
end Go.Proofs.Ytabfcnfddemblaa.Lo
namespace Go.Proofs.Ytabfcnfddemblaa.Lo
open Go.RowKit

set_option maxRecDepth 20000 in
set_option maxHeartbeats 2000000 in
theorem checkAfter_any (x : KV) (v : Value) (l : List KV) (w : World) (hx : KvW w x) (hv : Kvs w v l) (hl : ∀ j (hj : j < l.length), KvW w l[j]) (hn : l.length ≤ 1000) :
    Calls Try.prog 88 #[kV x, v] w fun e w' => e = .returned (.int .i64 (if l.any (fun y => Lf.shr x.x y.x) = true then 8 else if l.any (fun y => Lf.mts x.x y.x) = true then 10 else 0)) ∧ Below w.heap.size w w' := by
  have C1 := Lib.hid (fun W (hW : Below w.heap.size w W) => containsSh x (fun y => Lf.shr x.x y.x) v l W (hv.all hW) hn (fun k hk W2 hW2 => shares_any x l[k] W2 (hx.all (below_step hW hW2)) ((hl k hk).all (below_step hW hW2))))
  have C2 := Lib.hid (fun W (hW : Below w.heap.size w W) => containsMe x (fun y => Lf.mts x.x y.x) v l W (hv.all hW) hn (fun k hk W2 hW2 => meets_any x l[k] W2 (hx.all (below_step hW hW2)) ((hl k hk).all (below_step hW hW2))))
  obtain ⟨za, zc, rfl⟩ := hv.form
  obtain ⟨ua, uc, hu⟩ := hx.1.1.form
  obtain ⟨va, vc, hvv⟩ := hx.1.2.form
  have HX := Lib.hid (And.intro (BlockAt.new w (kA x) KvT) (below_alloc2 (Below.refl w.heap.size w) (.cells (kA x) KvT)))
  clear hx hv hl
  generalize l.any (fun y => Lf.shr x.x y.x) = b1 at *
  generalize l.any (fun y => Lf.mts x.x y.x) = b2 at *
  obtain ⟨E, hE⟩ : ∃ E, E = (if b1 = true then (8 : Int) else if b2 = true then 10 else 0) := ⟨_, rfl⟩
  have HEE := Lib.hid hE
  rw [← hE]
  clear hE
  obtain ⟨⟨xl, xa, xh, xg⟩, xu, xv, xr, xm, ⟨xp, xn, xo, xs, xt⟩⟩ := x
  dsimp only at *
  subst hu hvv
  have x0 : World.cell? _ _ = some (.int .i64 xl) := HX.out.1.cell 0
  have x1 : World.cell? _ _ = some (.int .i64 xa) := HX.out.1.cell 1
  have x2 : World.cell? _ _ = some (.slice ua xh.length uc) := HX.out.1.cell 2
  have x3 : World.cell? _ _ = some (.slice va xg.length vc) := HX.out.1.cell 3
  have x4 : World.cell? _ _ = some (.int .i64 xr) := HX.out.1.cell 4
  have x5 : World.cell? _ _ = some (.int .i64 xm) := HX.out.1.cell 5
  have x6 : World.cell? _ _ = some (.int .i64 xp) := HX.out.1.cell 6
  have x7 : World.cell? _ _ = some (.int .i64 xn) := HX.out.1.cell 7
  have x8 : World.cell? _ _ = some (.int .i64 xo) := HX.out.1.cell 8
  have x9 : World.cell? _ _ = some (.int .i64 xs) := HX.out.1.cell 9
  have x10 : World.cell? _ _ = some (.int .i64 xt) := HX.out.1.cell 10
  go_enter Try.func88, Try.ntmps88
  go_wp2_with fail
  refine (C1.out _ HX.out.2).mono ?_
  rintro e w1 ⟨rfl, hb1⟩
  have HX2 := Lib.hid (And.intro (HX.out.1.below hb1 HX.out.1.lt) (below_step HX.out.2 hb1))
  clear hb1 x0 x1 x2 x3 x4 x5 x6 x7 x8 x9 x10 HX C1
  cases b1
  case true =>
    go_wp2
    go_ret
    exact ⟨ret_int HEE.out.symm, HX2.out.2⟩
  have x0 : World.cell? _ _ = some (.int .i64 xl) := HX2.out.1.cell 0
  have x1 : World.cell? _ _ = some (.int .i64 xa) := HX2.out.1.cell 1
  have x2 : World.cell? _ _ = some (.slice ua xh.length uc) := HX2.out.1.cell 2
  have x3 : World.cell? _ _ = some (.slice va xg.length vc) := HX2.out.1.cell 3
  have x4 : World.cell? _ _ = some (.int .i64 xr) := HX2.out.1.cell 4
  have x5 : World.cell? _ _ = some (.int .i64 xm) := HX2.out.1.cell 5
  have x6 : World.cell? _ _ = some (.int .i64 xp) := HX2.out.1.cell 6
  have x7 : World.cell? _ _ = some (.int .i64 xn) := HX2.out.1.cell 7
  have x8 : World.cell? _ _ = some (.int .i64 xo) := HX2.out.1.cell 8
  have x9 : World.cell? _ _ = some (.int .i64 xs) := HX2.out.1.cell 9
  have x10 : World.cell? _ _ = some (.int .i64 xt) := HX2.out.1.cell 10
  go_wp2_with fail
  refine (C2.out _ HX2.out.2).mono ?_
  rintro e w2 ⟨rfl, hb1⟩
  have HX3 := Lib.hid (below_step HX2.out.2 hb1)
  clear hb1 x0 x1 x2 x3 x4 x5 x6 x7 x8 x9 x10 HX2 C2
  cases b2
  · go_wp2
    go_ret
    exact ⟨ret_int HEE.out.symm, HX3.out⟩
  · go_wp2
    go_ret
    exact ⟨ret_int HEE.out.symm, HX3.out⟩
set_option maxRecDepth 20000 in
set_option maxHeartbeats 1000000 in
theorem checkAll1_any (B : Nat) (n : Int) (x : KV) (w : World) (hB : w.cell? ⟨B, 0, none⟩ = some (.int .i64 n)) (hBl : B < w.heap.size) (hx : KvW w x) :
    Calls Try.prog 131 #[kV x, .pointer (some ⟨B, 0, none⟩)] w fun e w' => e = .returned (.bool (x.x.gs.any fun m => decide (n = m))) ∧ Below w.heap.size w w' := by
  have HX := Lib.hid (And.intro (BlockAt.new w (kA x) KvT) (below_alloc2 (Below.refl w.heap.size w) (.cells (kA x) KvT)))
  have C := Lib.hid (containsI_any x.v x.x.gs n _ (hx.1.2.all HX.out.2) hx.2.2.2)
  have y0 := (HX.out.2.cell (p := ⟨B, 0, none⟩) hBl).trans hB
  obtain ⟨ua, uc, hu⟩ := hx.1.1.form
  obtain ⟨va, vc, hvv⟩ := hx.1.2.form
  clear hx hB
  generalize (x.x.gs.any fun m => decide (n = m)) = R at *
  obtain ⟨⟨xl, xa, xh, xg⟩, xu, xv, xr, xm, ⟨xp, xn, xo, xs, xt⟩⟩ := x
  dsimp only at *
  subst hu hvv
  have x3 : World.cell? _ _ = some (.slice va xg.length vc) := HX.out.1.cell 3
  go_enter Try.func131, Try.ntmps131
  go_wp2_with fail
  refine C.out.mono ?_
  rintro e w1 ⟨rfl, rfl⟩
  go_wp2
  go_ret
  exact ⟨rfl, HX.out.2⟩
def hsK (l : List KV) (n : Int) : Bool := l.any fun y => y.x.gs.any fun m => decide (n = m)
theorem hsK_hsG (l : List KV) (n : Int) : Lf.hsG (l.map KV.x) n = hsK l n := by
  unfold Lf.hsG hsK
  rw [List.any_map]
  congr 1
  funext y
  show (y.x.gs.any fun m => decide (m = n)) = y.x.gs.any fun m => decide (n = m)
  congr 1
  funext m
  exact decide_eq_decide.2 eq_comm
theorem cov_yes {gs : List Lf.G} {l : List KV} (h : ∀ j : Nat, j < gs.length → hsK l (j : Int) = true) : Lf.cov gs (l.map KV.x) = true := List.all_eq_true.2 fun j hj => by rw [hsK_hsG]; exact h j (List.mem_range.1 hj)
theorem cov_no {gs : List Lf.G} {l : List KV} {j : Nat} (hj : j < gs.length) (h : hsK l (j : Int) = false) : Lf.cov gs (l.map KV.x) = false := Bool.eq_false_iff.2 fun hc => by
  have := List.all_eq_true.1 hc j (List.mem_range.2 hj)
  rw [hsK_hsG, h] at this; cases this
set_option maxRecDepth 20000 in
set_option maxHeartbeats 2000000 in
theorem checkAll_any (u : Value) (va : Option Addr) (vc : Nat) (gs : List Lf.G) (v : Value) (l : List KV) (w : World) (hg8 : gs.length ≤ 8) (hv : Kvs w v l) (hl : ∀ j (hj : j < l.length), KvW w l[j]) (hn : l.length ≤ 1000) :
    Calls Try.prog 89 #[.agg #[u, .slice va gs.length vc], v] w fun e w' => e = .returned (.int .i64 (if Lf.cov gs (l.map KV.x) = true then 0 else 11)) ∧ Below w.heap.size w w' := by
  have CA := Lib.hid (fun (j : Nat) W (hW : Below w.heap.size w W) B (hB : BlockAt W B #[.int .i64 (j : Int)] 3) => containsAl B (fun y => y.x.gs.any fun m => decide ((j : Int) = m)) v l W (hv.all hW) hn (fun k hk W2 hW2 => checkAll1_any B j l[k] W2 ((hB.below hW2 hB.lt).cell 0) (hB.below hW2 hB.lt).lt ((hl k hk).all (below_step hW hW2))))
  obtain ⟨za, zc, rfl⟩ := hv.form
  have HX := Lib.hid (And.intro (BlockAt.new w #[u, .slice va gs.length vc] DemT) (below_alloc2 (Below.refl w.heap.size w) (.cells #[u, .slice va gs.length vc] DemT)))
  have HY := Lib.hid (fun h => cov_yes (gs := gs) (l := l) h)
  have HN := Lib.hid (fun (j : Nat) (hj : j < gs.length) h => cov_no (gs := gs) (l := l) hj h)
  have HK : Hid (∀ j : Nat, (l.any fun y => y.x.gs.any fun m => decide ((j : Int) = m)) = hsK l (j : Int)) := Lib.hid fun j => rfl
  have x1 : World.cell? _ _ = some (.slice va gs.length vc) := HX.out.1.cell 1
  clear hv hl
  generalize Lf.cov gs (l.map KV.x) = R at *
  obtain ⟨E, hE⟩ : ∃ E, E = (if R = true then (0 : Int) else 11) := ⟨_, rfl⟩
  have HEE := Lib.hid hE
  rw [← hE]
  clear hE
  go_enter Try.func89, Try.ntmps89
  go_wp2
  clear x1
  go_loopw [9] (fun t wr => ∃ j : Nat, j ≤ gs.length ∧ t = .int .i64 j ∧ Hid ((∀ q : Nat, q < j → hsK l (q : Int) = true) ∧ Below w.heap.size w wr)) (fun t _ => gs.length - (intOf t).toNat)
  case atStart => exact ⟨0, Nat.zero_le _, rfl, Lib.hid ⟨fun q h => absurd h (Nat.not_lt_zero _), HX.out.2⟩⟩
  case round =>
    obtain ⟨j, hj, rfl, hg⟩ := hrel
    clear HX
    by_cases hlt : j < gs.length
    · have HB := Lib.hid (BlockAt.new wr #[.int .i64 (j : Int)] 3)
      have HW := Lib.hid (below_alloc2 hg.out.2 (.cells #[.int .i64 (j : Int)] 3))
      have C1 := Lib.hid (CA.out j _ HW.out _ HB.out)
      rw [HK.out j] at C1
      have HNj := Lib.hid (HN.out j hlt)
      have HI : Hid (hsK l (j : Int) = true → ∀ q : Nat, q < j + 1 → hsK l (q : Int) = true) := Lib.hid fun h q hq => by
        by_cases e : q = j
        · subst e; exact h
        · exact hg.out.1 q (by omega)
      clear hg
      generalize hsK l (j : Int) = r at *
      go_wp2_with fail
      refine C1.out.mono ?_
      rintro e w1 ⟨rfl, hb1⟩
      have HW1 := Lib.hid (below_step HW.out hb1)
      clear hb1 C1 HB HW
      cases r
      · have HE := Lib.hid (HNj.out rfl)
        clear HI HNj
        go_wp2
        go_ret
        exact ⟨ret_int (by rw [HEE.out, HE.out] <;> rfl), HW1.out⟩
      · have HI2 := Lib.hid (HI.out rfl)
        clear HI HNj
        go_wp2
        go_roundw
        case rel => exact ⟨j + 1, by omega, by go_num, Lib.hid ⟨HI2.out, HW1.out⟩⟩
        case measure => simp [intOf]; omega
    · obtain rfl : j = gs.length := by omega
      have HE := Lib.hid (HY.out hg.out.1)
      have HW1 := Lib.hid hg.out.2
      clear hg
      go_wp2
      go_ret
      exact ⟨ret_int (by rw [HEE.out, HE.out] <;> rfl), HW1.out⟩
end Go.Proofs.Ytabfcnfddemblaa.Lo
