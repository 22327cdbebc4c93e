/- Numbers of a lattice: the program's modulo, quotient, home. -/
import Derived.Test.YtigigmjdockdeaaGreatDoorPatN2
import Derived.Test.YtigigmjdockdeaaGreatDoorOwnB
import Derived.Test.YtigigmjdockdeaaGreatDoorWithin
import Derived.Deep.QuietTactic
import Derived.BigQuiet
import Derived.Test.YtigigmjdockdeaaGreatDoorSeq
import Derived.Deep.Cut
import Derived.IntWalk
namespace Go.Proofs.YtigigmjdockdeaaGreatDoor
open Go.RowKit

theorem tmod_fix (x n : Int) (hn : 1 ≤ n) : (x.tmod n < 0 → x.tmod n + n = x % n) ∧ (¬ x.tmod n < 0 → x.tmod n = x % n) ∧ -n ≤ x.tmod n ∧ x.tmod n < n := by
  have h0 := Int.emod_nonneg x (show n ≠ 0 by omega)
  have h1 := Int.emod_lt_of_pos x (show 0 < n by omega)
  have e : x % n = x.tmod n + ((if 0 ≤ x ∨ n ∣ x then 0 else n.natAbs : Nat) : Int) := Int.emod_eq_tmod
  have hs : (n.natAbs : Int) = n := by omega
  by_cases hc : 0 ≤ x ∨ n ∣ x
  · rw [if_pos hc] at e; omega
  · rw [if_neg hc] at e; omega

set_option maxRecDepth 20000 in
theorem modulo_any (x n : Int) (w : World) (hn : 1 ≤ n) (hn2 : n ≤ 1000000) (hx : -1000000000000 ≤ x) (hx2 : x ≤ 1000000000000) :
    Calls Tryz.prog 103 #[.int .i64 x, .int .i64 n] w fun e w' => e = .returned (.int .i64 (x % n)) ∧ w = w' := by
  by_cases h0 : 0 ≤ x
  · have h1 := Int.emod_nonneg x (show n ≠ 0 by omega)
    go_enter Tryz.func103, Tryz.ntmps103
    go_wp2
    go_ret
    exact ⟨rfl, rfl⟩
  · obtain ⟨f1, f2, f3, f4⟩ := tmod_fix x n hn
    by_cases hr : x.tmod n < 0
    · have HF := Lib.hid (f1 hr)
      clear f1 f2
      go_enter Tryz.func103, Tryz.ntmps103
      go_wp2
      go_ret
      exact ⟨by rw [← HF.out]; rfl, rfl⟩
    · have HF := Lib.hid (f2 hr)
      clear f1 f2
      go_enter Tryz.func103, Tryz.ntmps103
      go_wp2
      go_ret
      exact ⟨by rw [← HF.out]; rfl, rfl⟩
theorem quot_fix (x n : Int) (hn : 1 ≤ n) : (x - x % n).tdiv n = x / n ∧ (x - x % n) / n = x / n := by
  have h := Int.mul_ediv_add_emod x n
  have e : x - x % n = n * (x / n) := by omega
  rw [e, Int.mul_tdiv_cancel_left _ (by omega), Int.mul_ediv_cancel_left _ (by omega)]
  exact ⟨rfl, rfl⟩
theorem quot_bd (x n : Int) (hn : 1 ≤ n) (hx : -1000000000000 ≤ x) (hx2 : x ≤ 1000000000000) : -1000000000000 ≤ x / n ∧ x / n ≤ 1000000000000 := by
  constructor
  · exact Int.le_ediv_of_mul_le (by omega) (by
      have : -1000000000000 * n ≤ -1000000000000 * 1 := by omega
      omega)
  · by_cases h : 0 ≤ x
    · exact Int.le_trans (Int.ediv_le_self _ h) hx2
    · have := Int.ediv_neg_of_neg_of_pos (show x < 0 by omega) (show 0 < n by omega); omega

set_option maxRecDepth 20000 in
theorem quotient_any (x n : Int) (w : World) (hn : 1 ≤ n) (hn2 : n ≤ 1000000) (hx : -100000000000 ≤ x) (hx2 : x ≤ 100000000000) :
    Calls Tryz.prog 90 #[.int .i64 x, .int .i64 n] w fun e w' => e = .returned (.int .i64 (x / n)) ∧ w = w' := by
  obtain ⟨q1, q2⟩ := quot_fix x n hn
  have h1 := Int.emod_nonneg x (show n ≠ 0 by omega)
  have h2 := Int.emod_lt_of_pos x (show 0 < n by omega)
  have M := Lib.hid (modulo_any x n w hn hn2 (by omega) (by omega))
  have HQ1 := Lib.hid q1
  have HQ2 := Lib.hid q2
  clear q1 q2
  generalize x % n = m at *
  by_cases h0 : 0 ≤ x - m
  all_goals
    go_enter Tryz.func90, Tryz.ntmps90
    go_wp2_with fail
    refine M.out.mono ?_
    rintro e w' ⟨rfl, rfl⟩
    go_wp2
    go_ret
    first
      | exact ⟨by rw [← HQ1.out]; rfl, rfl⟩
      | exact ⟨by rw [← HQ2.out]; rfl, rfl⟩

/-- The numbers of a lattice that the program reckons with. -/
def small (l : Pt.Lat) : Prop := l.ok ∧ l.a ≤ 30000 ∧ l.c ≤ 30000
theorem home_in_bd (l : Pt.Lat) (h : small l) (x y : Int) (hx : -1000000 ≤ x) (hx2 : x ≤ 1000000) (hy : -1000000 ≤ y) (hy2 : y ≤ 1000000) :
    -1000000 ≤ y / l.c ∧ y / l.c ≤ 1000000 ∧ -30000000000 ≤ y / l.c * l.b ∧ y / l.c * l.b ≤ 30000000000 ∧ y - y / l.c * l.c = y % l.c ∧ -30000000000 ≤ y / l.c * l.c ∧ y / l.c * l.c ≤ 30000000000 := by
  obtain ⟨⟨a1, b1, b2, c1⟩, a2, c2⟩ := h
  have q1 : -1000000 ≤ y / l.c := Int.le_ediv_of_mul_le (by omega) (by omega)
  have q2 : y / l.c ≤ 1000000 := by
    by_cases h : 0 ≤ y
    · exact Int.le_trans (Int.ediv_le_self _ h) hy2
    · have := Int.ediv_neg_of_neg_of_pos (show y < 0 by omega) (show 0 < l.c by omega); omega
  have e := Int.mul_ediv_add_emod y l.c
  have m1 := Int.emod_nonneg y (show l.c ≠ 0 by omega)
  have m2 := Int.emod_lt_of_pos y (show 0 < l.c by omega)
  rw [Int.mul_comm] at e
  generalize y / l.c = q at *
  have p1 : (-1000000) * l.b ≤ q * l.b := Int.mul_le_mul_of_nonneg_right q1 b1
  have p2 : q * l.b ≤ 1000000 * l.b := Int.mul_le_mul_of_nonneg_right q2 b1
  exact ⟨q1, q2, by omega, by omega, by omega, by omega, by omega⟩
abbrev latV (l : Pt.Lat) : Value := .agg #[.int .i64 l.a, .int .i64 l.b, .int .i64 l.c]
/-- Three numbers in a block. -/
def Lat3 (w : World) (b : Nat) (l : Pt.Lat) : Prop :=
  w.cell? ⟨b, 0, none⟩ = some (.int .i64 l.a) ∧ w.cell? ⟨b, 1, none⟩ = some (.int .i64 l.b) ∧ w.cell? ⟨b, 2, none⟩ = some (.int .i64 l.c)

set_option maxRecDepth 20000 in
set_option maxHeartbeats 1000000 in
theorem home_any (l : Pt.Lat) (x y : Int) (w : World) (h : small l) (hx : -1000000 ≤ x) (hx2 : x ≤ 1000000) (hy : -1000000 ≤ y) (hy2 : y ≤ 1000000) :
    Calls Tryz.prog 65 #[latV l, .int .i64 x, .int .i64 y] w fun e w' => e = .returned (.tuple #[.int .i64 (Pt.hx l x y), .int .i64 (Pt.hy l y)]) ∧ Below w.heap.size w w' := by
  obtain ⟨t1, t2, t3, t4, t5, t6, t7⟩ := home_in_bd l h x y hx hx2 hy hy2
  obtain ⟨⟨a1, b1, b2, c1⟩, a2, c2⟩ := h
  have Q := Lib.hid (fun W => quotient_any y l.c W c1 (by omega) (by omega) (by omega))
  have M := Lib.hid (fun W => modulo_any (x - y / l.c * l.b) l.a W a1 (by omega) (by omega) (by omega))
  have H5 : Hid (y - y / l.c * l.c = Pt.hy l y) := Lib.hid t5
  have H6 : Hid ((x - y / l.c * l.b) % l.a = Pt.hx l x y) := Lib.hid rfl
  rw [H6.out] at M
  clear t5 H6
  generalize Pt.hx l x y = rx at *
  generalize Pt.hy l y = ry at *
  obtain ⟨a, b, c⟩ := l
  dsimp only at *
  generalize y / c = q at *
  have g1 : IntKind.i64.wrap (q * b) = q * b := IntWalk.i64_in _ ⟨by omega, by omega⟩
  have g2 : IntKind.i64.wrap (x - q * b) = x - q * b := IntWalk.i64_in _ ⟨by omega, by omega⟩
  have g3 : IntKind.i64.wrap (q * c) = q * c := IntWalk.i64_in _ ⟨by omega, by omega⟩
  have g4 : IntKind.i64.wrap (y - q * c) = y - q * c := IntWalk.i64_in _ ⟨by omega, by omega⟩
  go_enter Tryz.func65, Tryz.ntmps65
  go_wp2_with fail
  refine (Q.out _).mono ?_
  rintro e w' ⟨rfl, rfl⟩
  have hb0 := (Below.refl w.heap.size w).alloc (Nat.le_refl _) (.cells #[.int .i64 a, .int .i64 b, .int .i64 c] 70)
  go_upto_region 2 with fail
  refine wp_region_seq [(0, true), (1, true), (2, true), (3, true), (4, true), (5, true), (6, true), (7, true), (9, true), (10, true), (11, true), (12, true), (13, true), (14, true), (8, false), (15, true), (16, true)]
    (fun W => (W.cell? ⟨w.heap.size, 0, none⟩ = some (.int .i64 a) ∧ W.cell? ⟨w.heap.size, 1, none⟩ = some (.int .i64 b) ∧ W.cell? ⟨w.heap.size, 2, none⟩ = some (.int .i64 c)) ∧ Hid (Below w.heap.size w W))
    (by kernel_rfl) (by kernel_rfl) (by kernel_rfl) (by kernel_rfl) (fun d _ _ _ _ h => by cases d <;> exact h)
    (by exact ⟨⟨by go_simp, by go_simp, by go_simp⟩, Lib.hid hb0.drew⟩) (fun hS => ?_)
  repeat (first
    | (refine SeqH.take (v := ?_) rfl (by rfl) ?_ ?_; rotate_left; (· intro w hSw; (try dsimp only at hSw); obtain ⟨⟨c0, c1, c2⟩, _⟩ := hSw; go_simp; (try with_reducible rfl)); simp only [Act.put, List.setIfInBounds_toArray, List.set_cons_zero, List.set_cons_succ]))
  refine SeqH.step rfl (by rfl) (fun K hK => ?_)
  go_simp
  go_at_call 103
  refine (M.out _).mono ?_
  rintro e w' ⟨rfl, rfl⟩
  try dsimp only
  refine hK.out _ _ hS (fun _ => ?_)
  clear hK K
  try simp only [Act.put, List.setIfInBounds_toArray, List.set_cons_zero, List.set_cons_succ]
  repeat (first
    | (refine SeqH.take (v := ?_) rfl (by rfl) ?_ ?_; rotate_left; (· intro w hSw; (try dsimp only at hSw); obtain ⟨⟨c0, c1, c2⟩, _⟩ := hSw; go_simp; (try with_reducible rfl)); simp only [Act.put, List.setIfInBounds_toArray, List.set_cons_zero, List.set_cons_succ]))
  refine SeqH.done ?_
  have hw := hS.2.out
  clear hS hb0
  go_wp2
  go_ret2
  exact ⟨by rw [← H5.out]; rfl, hw⟩
end Go.Proofs.YtigigmjdockdeaaGreatDoor
