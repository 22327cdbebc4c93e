/- The reference's inLattice. -/
import Derived.Test.YtigigmjdockdeaaGreatDoorPat19
namespace Go.Proofs.YtigigmjdockdeaaGreatDoor
open Go.RowKit

theorem tmod_zero (y n : Int) (_hn : 1 ≤ n) : (y.tmod n = 0 ↔ y % n = 0) ∧ (y % n = 0 → y.tdiv n = y / n) := by
  constructor
  · exact ⟨fun h => Int.emod_eq_zero_of_dvd (Int.dvd_of_tmod_eq_zero h), fun h => Int.tmod_eq_zero_of_dvd (Int.dvd_of_emod_eq_zero h)⟩
  · intro h
    exact Int.tdiv_eq_ediv_of_dvd (Int.dvd_of_emod_eq_zero h)
set_option maxRecDepth 20000 in
set_option maxHeartbeats 1000000 in
theorem refIn_any (l : Pt.Lat) (v : Value) (dx dy : Int) (w : World) (hv : ∃ a n c, v = .slice a n c) (h : small l) (hx : -1000000 ≤ dx) (hx2 : dx ≤ 1000000) (hy : -1000000 ≤ dy) (hy2 : dy ≤ 1000000) :
    Calls Tryz.prog 67 #[patV l v, .int .i64 dx, .int .i64 dy] w fun e w' => e = .returned (.bool (hasB l dx dy)) ∧ Below w.heap.size w w' := by
  obtain ⟨va, vn, vc, rfl⟩ := hv
  obtain ⟨t1, t2, t3, t4, t5, t6, t7⟩ := home_in_bd l h dx dy hx hx2 hy hy2
  obtain ⟨⟨a1, b1, b2, c1⟩, a2, c2⟩ := h
  obtain ⟨z1, z2⟩ := tmod_zero dy l.c c1
  have MX := Lib.hid (fun W => refModulo_any (dx - dy / l.c * l.b) l.a W a1 (by omega) (by omega) (by omega))
  have H6 : Hid ((dx - dy / l.c * l.b) % l.a = Pt.hx l dx dy) := Lib.hid rfl
  rw [H6.out] at MX
  have hE : Hid (hasB l dx dy = ((Pt.hx l dx dy == 0) && (dy % l.c == 0))) := Lib.hid rfl
  have P0 := PatAt.fresh w l (.slice va vn vc) 24
  have hw := Lib.hid ((Below.refl w.heap.size w).alloc (Nat.le_refl _) (.cells #[.int .i64 l.a, .int .i64 l.b, .int .i64 l.c, .slice va vn vc] 24))
  generalize hasB l dx dy = r at *
  generalize Pt.hx l dx dy = rx at *
  clear H6 t5
  obtain ⟨a, b, c⟩ := l
  dsimp only at *
  have hc0 : ¬ c = 0 := by omega
  have hc1 : (c == 0) = false := beq_eq_false_iff_ne.2 hc0
  by_cases hz : dy % c = 0
  · have z3 := z2 hz
    have hr : r = (rx == 0) := by rw [hE.out, hz]; simp
    have HR := Lib.hid hr
    have q0 : (dy % c == 0) = true := beq_iff_eq.2 hz
    have q1 : (dy.tmod c == 0) = true := beq_iff_eq.2 (z1.2 hz)
    have HT := Lib.hid z3
    generalize dy / c = q at *
    have g0 : IntKind.i64.wrap q = q := IntWalk.i64_in _ ⟨by omega, by omega⟩
    have g1 : IntKind.i64.wrap (q * b) = q * b := IntWalk.i64_in _ ⟨by omega, by omega⟩
    have g2 : IntKind.i64.wrap (dx - q * b) = dx - q * b := IntWalk.i64_in _ ⟨by omega, by omega⟩
    clear hz hr z1 z2 hE
    by_cases hp : 0 ≤ dy
    all_goals
      go_enter Tryz.func67, Tryz.ntmps67
      go_upto_region 1 with fail
      refine wp_region_seq [(0, true), (1, true), (2, true), (3, true), (4, true), (5, true), (6, true), (7, true), (8, true), (9, true), (10, true), (11, true), (12, true), (13, true), (14, true), (15, true), (16, true), (17, false), (18, true), (19, true), (20, true)] (fun W => PatAt W w.heap.size ⟨a, b, c⟩ (.slice va vn vc))
        (by kernel_rfl) (by kernel_rfl) (by kernel_rfl) (by kernel_rfl) (fun d _ _ _ _ h => by cases d <;> exact h) P0 (fun hS => ?_)
      repeat (first
        | (refine SeqH.take (v := ?_) rfl (by rfl) ?_ ?_; rotate_left; (· intro w hSw; (try dsimp only at hSw); obtain ⟨c0, c1, c2, c3, _⟩ := hSw; go_simp; (try with_reducible rfl)); simp only [Act.put, List.setIfInBounds_toArray, List.set_cons_zero, List.set_cons_succ])
        | (refine SeqH.skip rfl (by rfl) ?_; simp only [Act.put, List.setIfInBounds_toArray, List.set_cons_zero, List.set_cons_succ]))
      refine SeqH.step rfl (by rfl) (fun K hK => ?_)
      go_simp
      go_at_call 83
      refine (MX.out _).mono ?_
      rintro e w1 ⟨rfl, rfl⟩
      try dsimp only
      refine hK.out _ _ hS (fun _ => ?_)
      clear hK K
      try simp only [Act.put, List.setIfInBounds_toArray, List.set_cons_zero, List.set_cons_succ]
      repeat (first
        | (refine SeqH.take (v := ?_) rfl (by rfl) ?_ ?_; rotate_left; (· intro w hSw; (try dsimp only at hSw); obtain ⟨c0, c1, c2, c3, _⟩ := hSw; go_simp; (try with_reducible rfl)); simp only [Act.put, List.setIfInBounds_toArray, List.set_cons_zero, List.set_cons_succ])
        | (refine SeqH.skip rfl (by rfl) ?_; simp only [Act.put, List.setIfInBounds_toArray, List.set_cons_zero, List.set_cons_succ]))
      refine SeqH.done ?_
      go_wp2
      go_ret
      exact ⟨by rw [HR.out]; rfl, below_drewN hw.out _⟩
  · have hr : r = false := by rw [hE.out, beq_eq_false_iff_ne.2 hz]; simp
    have HR := Lib.hid hr
    have q0 : (dy % c == 0) = false := beq_eq_false_iff_ne.2 hz
    have q1 : (dy.tmod c == 0) = false := beq_eq_false_iff_ne.2 (fun e => hz (z1.1 e))
    clear hz hr z1 z2 hE MX
    by_cases hp : 0 ≤ dy
    all_goals
      go_enter Tryz.func67, Tryz.ntmps67
      go_upto_region 1 with fail
      refine wp_region_seq [(0, true), (1, true), (2, true), (3, true), (4, true), (5, true), (6, true), (7, true), (8, true), (9, true), (10, true), (11, true), (12, true), (13, true), (14, true), (15, true), (16, true), (17, false), (18, true), (19, true), (20, true)] (fun W => PatAt W w.heap.size ⟨a, b, c⟩ (.slice va vn vc))
        (by kernel_rfl) (by kernel_rfl) (by kernel_rfl) (by kernel_rfl) (fun d _ _ _ _ h => by cases d <;> exact h) P0 (fun hS => ?_)
      repeat (first
        | (refine SeqH.take (v := ?_) rfl (by rfl) ?_ ?_; rotate_left; (· intro w hSw; (try dsimp only at hSw); obtain ⟨c0, c1, c2, c3, _⟩ := hSw; go_simp; (try with_reducible rfl)); simp only [Act.put, List.setIfInBounds_toArray, List.set_cons_zero, List.set_cons_succ])
        | (refine SeqH.skip rfl (by rfl) ?_; simp only [Act.put, List.setIfInBounds_toArray, List.set_cons_zero, List.set_cons_succ]))
      refine SeqH.pass rfl (by rfl) hS ?_
      try simp only [Act.put, List.setIfInBounds_toArray, List.set_cons_zero, List.set_cons_succ]
      repeat (first
        | (refine SeqH.take (v := ?_) rfl (by rfl) ?_ ?_; rotate_left; (· intro w hSw; (try dsimp only at hSw); obtain ⟨c0, c1, c2, c3, _⟩ := hSw; go_simp; (try with_reducible rfl)); simp only [Act.put, List.setIfInBounds_toArray, List.set_cons_zero, List.set_cons_succ])
        | (refine SeqH.skip rfl (by rfl) ?_; simp only [Act.put, List.setIfInBounds_toArray, List.set_cons_zero, List.set_cons_succ]))
      refine SeqH.done ?_
      go_wp2
      go_ret
      exact ⟨by rw [HR.out]; rfl, below_drewN hw.out _⟩
end Go.Proofs.YtigigmjdockdeaaGreatDoor
