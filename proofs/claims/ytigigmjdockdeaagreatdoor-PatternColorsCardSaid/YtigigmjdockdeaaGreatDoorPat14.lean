/- The reference's modulo and color. -/
import Derived.Test.YtigigmjdockdeaaGreatDoorPat13
namespace Go.Proofs.YtigigmjdockdeaaGreatDoor
open Go.RowKit

theorem rmod1 (x n : Int) : (x % n + n) % n = x % n := by rw [Int.add_emod, Int.emod_self, Int.add_zero, Int.emod_emod, Int.emod_emod]
theorem rmod2 (x n : Int) (hn : 1 ≤ n) : (x.tmod n + n) % n = x % n := by
  obtain ⟨f1, f2, _, _⟩ := tmod_fix x n hn
  by_cases h : x.tmod n < 0
  · rw [f1 h, Int.emod_emod]
  · rw [f2 h, rmod1]
set_option maxRecDepth 20000 in
set_option maxHeartbeats 400000 in
theorem refModulo_any (x n : Int) (w : World) (hn : 1 ≤ n) (hn2 : n ≤ 1000000) (hx : -1000000000000 ≤ x) (hx2 : x ≤ 1000000000000) :
    Calls Tryz.prog 83 #[.int .i64 x, .int .i64 n] w fun e w' => e = .returned (.int .i64 (x % n)) ∧ w = w' := by
  obtain ⟨f1, f2, f3, f4⟩ := tmod_fix x n hn
  have h1 := Int.emod_nonneg x (show n ≠ 0 by omega)
  have h2 := Int.emod_lt_of_pos x (show 0 < n by omega)
  have E1 := Lib.hid (rmod1 x n)
  have E2 := Lib.hid (rmod2 x n hn)
  have E3 : Hid ((x % n + n).tmod n = x % n) := Lib.hid (by rw [Int.tmod_eq_emod_of_nonneg (by omega)]; exact rmod1 x n)
  have E4 : Hid ((x.tmod n + n).tmod n = x % n) := Lib.hid (by rw [Int.tmod_eq_emod_of_nonneg (by omega)]; exact rmod2 x n hn)
  have E5 : Hid (x.tmod n % n = x % n) := Lib.hid (by have := rmod2 x n hn; rwa [Int.add_emod, Int.emod_self, Int.add_zero, Int.emod_emod] at this)
  clear f1 f2
  by_cases h0 : 0 ≤ x
  all_goals
    go_enter Tryz.func83, Tryz.ntmps83
    go_wp2
    go_ret
    first
      | exact ⟨rfl, rfl⟩
      | exact ⟨congrArg (fun z => Ending.returned (Value.int .i64 z)) E1.out, rfl⟩
      | exact ⟨congrArg (fun z => Ending.returned (Value.int .i64 z)) E2.out, rfl⟩
      | exact ⟨congrArg (fun z => Ending.returned (Value.int .i64 z)) E3.out, rfl⟩
      | exact ⟨congrArg (fun z => Ending.returned (Value.int .i64 z)) E4.out, rfl⟩
      | exact ⟨congrArg (fun z => Ending.returned (Value.int .i64 z)) E5.out, rfl⟩
      | exact ⟨congrArg (fun z => Ending.returned (Value.int .i64 z)) (Int.emod_emod _ _), rfl⟩

set_option maxRecDepth 20000 in
set_option maxHeartbeats 1000000 in
theorem refColor_any (l : Pt.Lat) (v : Value) (cs : List Int) (x y : Int) (w : World) (h : PatIn w l v cs) (hx : -1000000 ≤ x) (hx2 : x ≤ 1000000) (hy : -1000000 ≤ y) (hy2 : y ≤ 1000000) :
    Calls Tryz.prog 62 #[patV l v, .int .i64 x, .int .i64 y] w fun e w' => e = .returned (.int .i64 (Pt.col l (csF cs) x y)) ∧ Below w.heap.size w w' := by
  have hsm := h.2.2.1
  obtain ⟨bb, off, cap, k, rfl, hbb, i1, i2, i3, i4, hc⟩ := h.at_ x y
  obtain ⟨t1, t2, t3, t4, t5, t6, t7⟩ := home_in_bd l hsm x y hx hx2 hy hy2
  have b0 := (Below.refl w.heap.size w).alloc (Nat.le_refl _) (.cells #[.int .i64 l.a, .int .i64 l.b, .int .i64 l.c, .slice (some ⟨bb, off, none⟩) cs.length cap] 24)
  have P0 := PatAt.fresh w l (.slice (some ⟨bb, off, none⟩) cs.length cap) 24
  obtain ⟨m1, m2, m3, m4⟩ := Pt.home_bd hsm.1 x y
  obtain ⟨q1, q2⟩ := quot_fix y l.c hsm.1.2.2.2
  have hcs : (cs.length : Int) ≤ 900000000 := by
    rw [h.2.1]
    have e1 : l.a * l.c ≤ 30000 * l.c := Int.mul_le_mul_of_nonneg_right hsm.2.1 (by have := hsm.1.2.2.2; omega)
    have := hsm.2.2
    omega
  have h6 : 0 ≤ Pt.hy l y * l.a := Int.mul_nonneg m3 (by have := hsm.1.1; omega)
  obtain ⟨⟨a1, b1, b2, c1⟩, a2, c2⟩ := hsm
  have MY := Lib.hid (fun W => refModulo_any y l.c W c1 (by omega) (by omega) (by omega))
  have MX := Lib.hid (fun W => refModulo_any (x - y / l.c * l.b) l.a W a1 (by omega) (by omega) (by omega))
  have H5 : Hid (y % l.c = Pt.hy l y) := Lib.hid rfl
  have H6 : Hid ((x - y / l.c * l.b) % l.a = Pt.hx l x y) := Lib.hid rfl
  rw [H6.out] at MX
  rw [H5.out] at MY
  have hyy : y % l.c = Pt.hy l y := rfl
  rw [hyy] at q1 q2 t5
  have hcell : (w.alloc (.cells #[.int .i64 l.a, .int .i64 l.b, .int .i64 l.c, .slice (some ⟨bb, off, none⟩) cs.length cap] 24)).cell? ⟨bb, off + k, none⟩ = some (.int .i64 (Pt.col l (csF cs) x y)) := (b0.cell (p := ⟨bb, off + k, none⟩) hbb).trans hc
  clear h H5 H6 hyy hc
  generalize Pt.hx l x y = rx at *
  generalize Pt.hy l y = ry at *
  generalize Pt.col l (csF cs) x y = col at *
  obtain ⟨a, b, c⟩ := l
  dsimp only at *
  have hra : ry * a ≤ 900000000 := by omega
  have Q1 := Lib.hid q1
  have Q2 := Lib.hid q2
  generalize hq : y / c = q at *
  clear q1 q2 hq
  have g1 : IntKind.i64.wrap (q * b) = q * b := IntWalk.i64_in _ ⟨by omega, by omega⟩
  have g2 : IntKind.i64.wrap (x - q * b) = x - q * b := IntWalk.i64_in _ ⟨by omega, by omega⟩
  have g3 : IntKind.i64.wrap (ry * a) = ry * a := IntWalk.i64_in _ ⟨by omega, by omega⟩
  have g4 : IntKind.i64.wrap (ry * a + rx) = ry * a + rx := IntWalk.i64_in _ ⟨by omega, by omega⟩
  go_enter Tryz.func62, Tryz.ntmps62
  go_wp2_with fail
  refine (MY.out _).mono ?_
  rintro e w1 ⟨rfl, rfl⟩
  have hdd : (y - ry).tdiv c = q := Q1.out
  have hd2 : (y - ry) / c = q := Q2.out
  obtain ⟨e0, e1, e2, e3, _⟩ := id P0
  go_upto_region 3 with fail
  have hb0 := Lib.hid b0
  clear b0 e0 e1 e2 e3
  refine wp_region_seq [(0, true), (1, true), (2, true), (3, true), (4, true), (5, true), (6, true), (7, true), (8, true), (9, true), (10, true), (11, true), (12, true), (13, true), (14, false), (15, true), (16, true), (17, true), (18, true)]
    (fun W => PatAt W w.heap.size ⟨a, b, c⟩ (.slice (some ⟨bb, off, none⟩) cs.length cap) ∧ W.cell? ⟨bb, off + k, none⟩ = some (.int .i64 col))
    (by kernel_rfl) (by kernel_rfl) (by kernel_rfl) (by kernel_rfl) (fun d _ _ _ _ h => by cases d <;> exact h)
    (by exact ⟨P0, hcell⟩) (fun hS => ?_)
  repeat (first
    | (refine SeqH.take (v := ?_) rfl (by rfl) ?_ ?_; rotate_left; (· intro w hSw; (try dsimp only at hSw); obtain ⟨⟨c0, c1, c2, c3, _⟩, c4⟩ := hSw; go_simp; (try with_reducible rfl)); simp only [Act.put, List.setIfInBounds_toArray, List.set_cons_zero, List.set_cons_succ]))
  refine SeqH.step rfl (by rfl) (fun K hK => ?_)
  go_simp
  go_at_call 83
  refine (MX.out _).mono ?_
  rintro e w2 ⟨rfl, rfl⟩
  try dsimp only
  refine hK.out _ _ hS (fun _ => ?_)
  clear hK K
  try simp only [Act.put, List.setIfInBounds_toArray, List.set_cons_zero, List.set_cons_succ]
  repeat (first
    | (refine SeqH.take (v := ?_) rfl (by rfl) ?_ ?_; rotate_left; (· intro w hSw; (try dsimp only at hSw); obtain ⟨⟨c0, c1, c2, c3, _⟩, c4⟩ := hSw; go_simp; (try with_reducible rfl)); simp only [Act.put, List.setIfInBounds_toArray, List.set_cons_zero, List.set_cons_succ]))
  refine SeqH.done ?_
  go_wp2
  go_ret
  exact ⟨rfl, below_drewN hb0.out _⟩
end Go.Proofs.YtigigmjdockdeaaGreatDoor
