/- Numbers of a lattice: the program's modulo, quotient, home. The color of a cell. Whether a repeat is that of another one, moved. The basis of a lattice is found: pattern.find. Whether a lattice has a vector: lattice.has. -/
import Derived.Test.YtobolflgoljafaaGreatDoorPatPA
import Derived.Test.YtobolflgoljafaaGreatDoorSeqA
import Derived.Deep.QuietTactic
import Derived.BigQuiet
import Derived.Deep.Cut
import Derived.IntWalk
namespace Go.Proofs.YtobolflgoljafaaGreatDoor
open Go.RowKit

theorem tmod_fix (x n : Int) (hn : 1 ≤ n) : (x.tmod n < 0 → x.tmod n + n = x % n) ∧ (¬ x.tmod n < 0 → x.tmod n = x % n) ∧ -n ≤ x.tmod n ∧ x.tmod n < n := by
  have h0 := Int.emod_nonneg x (show n ≠ 0 by omega)
  have h1 := Int.emod_lt_of_pos x (show 0 < n by omega)
  have e : x % n = x.tmod n + ((if 0 ≤ x ∨ n ∣ x then 0 else n.natAbs : Nat) : Int) := Int.emod_eq_tmod
  have hs : (n.natAbs : Int) = n := by omega
  by_cases hc : 0 ≤ x ∨ n ∣ x
  · rw [if_pos hc] at e; omega
  · rw [if_neg hc] at e; omega

set_option maxRecDepth 20000 in
theorem modulo_any (x n : Int) (w : World) (hn : 1 ≤ n) (hn2 : n ≤ 1000000) (hx : -1000000000000 ≤ x) (hx2 : x ≤ 1000000000000) :
    Calls Tryz.prog 101 #[.int .i64 x, .int .i64 n] w fun e w' => e = .returned (.int .i64 (x % n)) ∧ w = w' := by
  by_cases h0 : 0 ≤ x
  · have h1 := Int.emod_nonneg x (show n ≠ 0 by omega)
    go_enter Tryz.func101, Tryz.ntmps101
    go_wp2
    go_ret
    exact ⟨rfl, rfl⟩
  · obtain ⟨f1, f2, f3, f4⟩ := tmod_fix x n hn
    by_cases hr : x.tmod n < 0
    · have HF := Lib.hid (f1 hr)
      clear f1 f2
      go_enter Tryz.func101, Tryz.ntmps101
      go_wp2
      go_ret
      exact ⟨by rw [← HF.out]; rfl, rfl⟩
    · have HF := Lib.hid (f2 hr)
      clear f1 f2
      go_enter Tryz.func101, Tryz.ntmps101
      go_wp2
      go_ret
      exact ⟨by rw [← HF.out]; rfl, rfl⟩
theorem quot_fix (x n : Int) (hn : 1 ≤ n) : (x - x % n).tdiv n = x / n ∧ (x - x % n) / n = x / n := by
  have h := Int.mul_ediv_add_emod x n
  have e : x - x % n = n * (x / n) := by omega
  rw [e, Int.mul_tdiv_cancel_left _ (by omega), Int.mul_ediv_cancel_left _ (by omega)]
  exact ⟨rfl, rfl⟩
theorem quot_bd (x n : Int) (hn : 1 ≤ n) (hx : -1000000000000 ≤ x) (hx2 : x ≤ 1000000000000) : -1000000000000 ≤ x / n ∧ x / n ≤ 1000000000000 := by
  constructor
  · exact Int.le_ediv_of_mul_le (by omega) (by
      have : -1000000000000 * n ≤ -1000000000000 * 1 := by omega
      omega)
  · by_cases h : 0 ≤ x
    · exact Int.le_trans (Int.ediv_le_self _ h) hx2
    · have := Int.ediv_neg_of_neg_of_pos (show x < 0 by omega) (show 0 < n by omega); omega

set_option maxRecDepth 20000 in
theorem quotient_any (x n : Int) (w : World) (hn : 1 ≤ n) (hn2 : n ≤ 1000000) (hx : -100000000000 ≤ x) (hx2 : x ≤ 100000000000) :
    Calls Tryz.prog 72 #[.int .i64 x, .int .i64 n] w fun e w' => e = .returned (.int .i64 (x / n)) ∧ w = w' := by
  obtain ⟨q1, q2⟩ := quot_fix x n hn
  have h1 := Int.emod_nonneg x (show n ≠ 0 by omega)
  have h2 := Int.emod_lt_of_pos x (show 0 < n by omega)
  have M := Lib.hid (modulo_any x n w hn hn2 (by omega) (by omega))
  have HQ1 := Lib.hid q1
  have HQ2 := Lib.hid q2
  clear q1 q2
  generalize x % n = m at *
  by_cases h0 : 0 ≤ x - m
  all_goals
    go_enter Tryz.func72, Tryz.ntmps72
    go_wp2_with fail
    refine M.out.mono ?_
    rintro e w' ⟨rfl, rfl⟩
    go_wp2
    go_ret
    first
      | exact ⟨by rw [← HQ1.out]; rfl, rfl⟩
      | exact ⟨by rw [← HQ2.out]; rfl, rfl⟩

/-- The numbers of a lattice that the program reckons with. -/
def small (l : Pt.Lat) : Prop := l.ok ∧ l.a ≤ 30000 ∧ l.c ≤ 30000
theorem home_in_bd (l : Pt.Lat) (h : small l) (x y : Int) (_hx : -1000000 ≤ x) (_hx2 : x ≤ 1000000) (hy : -1000000 ≤ y) (hy2 : y ≤ 1000000) :
    -1000000 ≤ y / l.c ∧ y / l.c ≤ 1000000 ∧ -30000000000 ≤ y / l.c * l.b ∧ y / l.c * l.b ≤ 30000000000 ∧ y - y / l.c * l.c = y % l.c ∧ -30000000000 ≤ y / l.c * l.c ∧ y / l.c * l.c ≤ 30000000000 := by
  obtain ⟨⟨a1, b1, b2, c1⟩, a2, c2⟩ := h
  have q1 : -1000000 ≤ y / l.c := Int.le_ediv_of_mul_le (by omega) (by omega)
  have q2 : y / l.c ≤ 1000000 := by
    by_cases h : 0 ≤ y
    · exact Int.le_trans (Int.ediv_le_self _ h) hy2
    · have := Int.ediv_neg_of_neg_of_pos (show y < 0 by omega) (show 0 < l.c by omega); omega
  have e := Int.mul_ediv_add_emod y l.c
  have m1 := Int.emod_nonneg y (show l.c ≠ 0 by omega)
  have m2 := Int.emod_lt_of_pos y (show 0 < l.c by omega)
  rw [Int.mul_comm] at e
  generalize y / l.c = q at *
  have p1 : (-1000000) * l.b ≤ q * l.b := Int.mul_le_mul_of_nonneg_right q1 b1
  have p2 : q * l.b ≤ 1000000 * l.b := Int.mul_le_mul_of_nonneg_right q2 b1
  exact ⟨q1, q2, by omega, by omega, by omega, by omega, by omega⟩
abbrev latV (l : Pt.Lat) : Value := .agg #[.int .i64 l.a, .int .i64 l.b, .int .i64 l.c]
/-- Three numbers in a block. -/
def Lat3 (w : World) (b : Nat) (l : Pt.Lat) : Prop :=
  w.cell? ⟨b, 0, none⟩ = some (.int .i64 l.a) ∧ w.cell? ⟨b, 1, none⟩ = some (.int .i64 l.b) ∧ w.cell? ⟨b, 2, none⟩ = some (.int .i64 l.c)

set_option maxRecDepth 20000 in
set_option maxHeartbeats 1000000 in
theorem home_any (l : Pt.Lat) (x y : Int) (w : World) (h : small l) (hx : -1000000 ≤ x) (hx2 : x ≤ 1000000) (hy : -1000000 ≤ y) (hy2 : y ≤ 1000000) :
    Calls Tryz.prog 100 #[latV l, .int .i64 x, .int .i64 y] w fun e w' => e = .returned (.tuple #[.int .i64 (Pt.hx l x y), .int .i64 (Pt.hy l y)]) ∧ Below w.heap.size w w' := by
  obtain ⟨t1, t2, t3, t4, t5, t6, t7⟩ := home_in_bd l h x y hx hx2 hy hy2
  obtain ⟨⟨a1, b1, b2, c1⟩, a2, c2⟩ := h
  have Q := Lib.hid (fun W => quotient_any y l.c W c1 (by omega) (by omega) (by omega))
  have M := Lib.hid (fun W => modulo_any (x - y / l.c * l.b) l.a W a1 (by omega) (by omega) (by omega))
  have H5 : Hid (y - y / l.c * l.c = Pt.hy l y) := Lib.hid t5
  have H6 : Hid ((x - y / l.c * l.b) % l.a = Pt.hx l x y) := Lib.hid rfl
  rw [H6.out] at M
  clear t5 H6
  generalize Pt.hx l x y = rx at *
  generalize Pt.hy l y = ry at *
  obtain ⟨a, b, c⟩ := l
  dsimp only at *
  generalize y / c = q at *
  have g1 : IntKind.i64.wrap (q * b) = q * b := IntWalk.i64_in _ ⟨by omega, by omega⟩
  have g2 : IntKind.i64.wrap (x - q * b) = x - q * b := IntWalk.i64_in _ ⟨by omega, by omega⟩
  have g3 : IntKind.i64.wrap (q * c) = q * c := IntWalk.i64_in _ ⟨by omega, by omega⟩
  have g4 : IntKind.i64.wrap (y - q * c) = y - q * c := IntWalk.i64_in _ ⟨by omega, by omega⟩
  go_enter Tryz.func100, Tryz.ntmps100
  go_wp2_with fail
  refine (Q.out _).mono ?_
  rintro e w' ⟨rfl, rfl⟩
  have hb0 := (Below.refl w.heap.size w).alloc (Nat.le_refl _) (.cells #[.int .i64 a, .int .i64 b, .int .i64 c] 63)
  go_upto_region 2 with fail
  refine wp_region_seq [(0, true), (1, true), (2, true), (3, true), (4, true), (5, true), (6, true), (7, true), (9, true), (10, true), (11, true), (12, true), (13, true), (14, true), (8, false), (15, true), (16, true)]
    (fun W => (W.cell? ⟨w.heap.size, 0, none⟩ = some (.int .i64 a) ∧ W.cell? ⟨w.heap.size, 1, none⟩ = some (.int .i64 b) ∧ W.cell? ⟨w.heap.size, 2, none⟩ = some (.int .i64 c)) ∧ Hid (Below w.heap.size w W))
    (by kernel_rfl) (by kernel_rfl) (by kernel_rfl) (by kernel_rfl) (fun d _ _ _ _ h => by cases d <;> exact h)
    (by exact ⟨⟨by go_simp, by go_simp, by go_simp⟩, Lib.hid hb0.drew⟩) (fun hS => ?_)
  repeat (first
    | (refine SeqH.take (v := ?_) rfl (by rfl) ?_ ?_; rotate_left; (· intro w hSw; (try dsimp only at hSw); obtain ⟨⟨c0, c1, c2⟩, _⟩ := hSw; go_simp; (try with_reducible rfl)); simp only [Act.put, List.setIfInBounds_toArray, List.set_cons_zero, List.set_cons_succ]))
  refine SeqH.step rfl (by rfl) (fun K hK => ?_)
  go_simp
  go_at_call 101
  refine (M.out _).mono ?_
  rintro e w' ⟨rfl, rfl⟩
  try dsimp only
  refine hK.out _ _ hS (fun _ => ?_)
  clear hK K
  try simp only [Act.put, List.setIfInBounds_toArray, List.set_cons_zero, List.set_cons_succ]
  repeat (first
    | (refine SeqH.take (v := ?_) rfl (by rfl) ?_ ?_; rotate_left; (· intro w hSw; (try dsimp only at hSw); obtain ⟨⟨c0, c1, c2⟩, _⟩ := hSw; go_simp; (try with_reducible rfl)); simp only [Act.put, List.setIfInBounds_toArray, List.set_cons_zero, List.set_cons_succ]))
  refine SeqH.done ?_
  have hw := hS.2.out
  clear hS hb0
  go_wp2
  go_ret2
  exact ⟨by rw [← H5.out]; rfl, hw⟩
end Go.Proofs.YtobolflgoljafaaGreatDoor
namespace Go.Proofs.YtobolflgoljafaaGreatDoor
open Go.RowKit

abbrev patV (l : Pt.Lat) (v : Value) : Value := .agg #[.int .i64 l.a, .int .i64 l.b, .int .i64 l.c, v]
def PatAt (W : World) (b : Nat) (l : Pt.Lat) (v : Value) : Prop :=
  W.cell? ⟨b, 0, none⟩ = some (.int .i64 l.a) ∧ W.cell? ⟨b, 1, none⟩ = some (.int .i64 l.b) ∧ W.cell? ⟨b, 2, none⟩ = some (.int .i64 l.c) ∧ W.cell? ⟨b, 3, none⟩ = some v ∧ b < W.heap.size
theorem PatAt.all {w w2 : World} {b : Nat} {l : Pt.Lat} {v : Value} (h : PatAt w b l v) (hb : Below w.heap.size w w2) : PatAt w2 b l v := by
  obtain ⟨h0, h1, h2, h3, h4⟩ := h
  exact ⟨(hb.cell (p := ⟨b, 0, none⟩) h4).trans h0, (hb.cell (p := ⟨b, 1, none⟩) h4).trans h1, (hb.cell (p := ⟨b, 2, none⟩) h4).trans h2, (hb.cell (p := ⟨b, 3, none⟩) h4).trans h3, Nat.lt_of_lt_of_le h4 hb.size⟩
theorem PatAt.fresh (w : World) (l : Pt.Lat) (v : Value) (t : TypeId) : PatAt (w.alloc (.cells #[.int .i64 l.a, .int .i64 l.b, .int .i64 l.c, v] t)) w.heap.size l v :=
  ⟨by simp, by simp, by simp, by simp, by simp⟩
/-- The cells of a repeat as a function. -/
def csF (cs : List Int) (i : Nat) : Int := cs.getD i 0
/-- A repeat that can be read. -/
def PatIn (W : World) (l : Pt.Lat) (v : Value) (cs : List Int) : Prop := Ints W v cs ∧ (cs.length : Int) = l.a * l.c ∧ small l ∧ (∀ i, 0 ≤ csF cs i ∧ csF cs i ≤ 1000)
theorem PatIn.all {w w2 : World} {l : Pt.Lat} {v : Value} {cs : List Int} (h : PatIn w l v cs) (hb : Below w.heap.size w w2) : PatIn w2 l v cs := ⟨h.1.all hb, h.2⟩
/-- Where a cell lies among the cells of a repeat. -/
theorem PatIn.at_ {W : World} {l : Pt.Lat} {v : Value} {cs : List Int} (h : PatIn W l v cs) (x y : Int) :
    ∃ b off cap k, v = .slice (some ⟨b, off, none⟩) cs.length cap ∧ b < W.heap.size ∧ 0 ≤ Pt.hy l y * l.a + Pt.hx l x y ∧ Pt.hy l y * l.a + Pt.hx l x y < (cs.length : Int) ∧ (Pt.hy l y * l.a + Pt.hx l x y).toNat = k ∧ k < cs.length ∧
      W.cell? ⟨b, off + k, none⟩ = some (.int .i64 (Pt.col l (csF cs) x y)) := by
  obtain ⟨hi, hl, hs, _⟩ := h
  obtain ⟨h1, h2, h3, h4⟩ := Pt.home_bd hs.1 x y
  have h5 : Pt.hy l y * l.a ≤ (l.c - 1) * l.a := Int.mul_le_mul_of_nonneg_right (by omega) (by omega)
  rw [Int.sub_mul, Int.one_mul, Int.mul_comm l.c] at h5
  have h6 : 0 ≤ Pt.hy l y * l.a := Int.mul_nonneg h3 (by omega)
  have hlt : (Pt.hy l y * l.a + Pt.hx l x y).toNat < cs.length := by omega
  rcases hi with ⟨a, c, rfl, rfl⟩ | ⟨b, off, cap, rfl, _, hb, hc⟩
  · simp at hlt
  · exact ⟨b, off, cap, _, rfl, hb, by omega, by omega, rfl, hlt, hc _ hlt⟩

set_option maxRecDepth 20000 in
theorem latticeOf_any (l : Pt.Lat) (v : Value) (w : World) (_hv : v.oneCell' = true) :
    Calls Tryz.prog 47 #[patV l v] w fun e w' => e = .returned (latV l) ∧ Below w.heap.size w w' := by
  obtain ⟨a, b, c⟩ := l
  go_enter Tryz.func47, Tryz.ntmps47
  go_wp2
  first
    | (go_ret; exact ⟨rfl, by repeat' (first | exact Below.refl _ _ | assumption | apply below_drewN | refine Below.setCell ?_ (by simp <;> omega) _ | refine Below.alloc ?_ (by simp <;> omega) _)⟩)
    | exact bodyPost_ret (v := .agg #[.int .i64 a, .int .i64 b, .int .i64 c]) (by simp [results, Tryz.results47, go_sem]) rfl ⟨rfl, by repeat' (first | exact Below.refl _ _ | assumption | apply below_drewN | refine Below.setCell ?_ (by simp <;> omega) _ | refine Below.alloc ?_ (by simp <;> omega) _)⟩

set_option maxRecDepth 20000 in
set_option maxHeartbeats 1000000 in
theorem colorAt_any (l : Pt.Lat) (v : Value) (cs : List Int) (x y : Int) (w : World) (h : PatIn w l v cs) (hx : -1000000 ≤ x) (hx2 : x ≤ 1000000) (hy : -1000000 ≤ y) (hy2 : y ≤ 1000000) :
    Calls Tryz.prog 64 #[patV l v, .int .i64 x, .int .i64 y] w fun e w' => e = .returned (.int .i64 (Pt.col l (csF cs) x y)) ∧ Below w.heap.size w w' := by
  have hsm := h.2.2.1
  obtain ⟨bb, off, cap, k, rfl, hbb, i1, i2, i3, i4, hc⟩ := h.at_ x y
  have b0 := (Below.refl w.heap.size w).alloc (Nat.le_refl _) (.cells #[.int .i64 l.a, .int .i64 l.b, .int .i64 l.c, .slice (some ⟨bb, off, none⟩) cs.length cap] 24)
  have P0 := PatAt.fresh w l (.slice (some ⟨bb, off, none⟩) cs.length cap) 24
  have L := Lib.hid (fun W => latticeOf_any l (.slice (some ⟨bb, off, none⟩) cs.length cap) W rfl)
  have HM := Lib.hid (fun W => home_any l x y W hsm hx hx2 hy hy2)
  obtain ⟨m1, m2, m3, m4⟩ := Pt.home_bd hsm.1 x y
  have hcs : (cs.length : Int) ≤ 900000000 := by
    rw [h.2.1]
    have e1 : l.a * l.c ≤ 30000 * l.c := Int.mul_le_mul_of_nonneg_right hsm.2.1 (by have := hsm.1.2.2.2; omega)
    have := hsm.2.2
    omega
  have h6 : 0 ≤ Pt.hy l y * l.a := Int.mul_nonneg m3 (by have := hsm.1.1; omega)
  clear h hsm
  generalize Pt.hx l x y = rx at *
  generalize Pt.hy l y = ry at *
  generalize Pt.col l (csF cs) x y = col at *
  obtain ⟨a, b, c⟩ := l
  dsimp only at *
  have hra : ry * a ≤ 900000000 := by omega
  go_enter Tryz.func64, Tryz.ntmps64
  go_wp2_with fail
  refine (L.out _).mono ?_
  rintro e w1 ⟨rfl, hb1⟩
  have P1 := P0.all hb1
  have hw1 := below_step b0 hb1
  clear hb1 P0 b0
  go_wp2_with fail
  refine (HM.out _).mono ?_
  rintro e w2 ⟨rfl, hb2⟩
  have P2 := P1.all hb2
  have hw2 := below_step hw1 hb2
  have hc2 := (hw2.cell (p := ⟨bb, off + k, none⟩) hbb).trans hc
  clear hb2 P1 hw1 hc L HM
  obtain ⟨c0, c1, c2, c3, _⟩ := id P2
  clear P2
  go_wp2
  go_ret
  exact ⟨rfl, hw2⟩
end Go.Proofs.YtobolflgoljafaaGreatDoor
namespace Go.Proofs.YtobolflgoljafaaGreatDoor
open Go.RowKit

/-- A row of a repeat is the other one's, moved. -/
def rowB (lp : Pt.Lat) (f g : Int → Int → Int) (dx dy : Int) (y : Nat) : Bool := (List.range lp.a.toNat).all fun x => f (x : Int) (y : Int) == g ((x : Int) + dx) ((y : Int) + dy)
def movedB (lp : Pt.Lat) (f g : Int → Int → Int) (dx dy : Int) : Bool := (List.range lp.c.toNat).all fun y => rowB lp f g dx dy y
theorem movedB_iff {lp : Pt.Lat} (_h : lp.ok) (f g : Int → Int → Int) (dx dy : Int) : movedB lp f g dx dy = true ↔ ∀ x y : Int, 0 ≤ x → x < lp.a → 0 ≤ y → y < lp.c → f x y = g (x + dx) (y + dy) := by
  unfold movedB rowB
  simp only [List.all_eq_true, List.mem_range, beq_iff_eq]
  constructor
  · intro h1 x y hx hx2 hy hy2
    have := h1 y.toNat (by omega) x.toNat (by omega)
    rwa [show ((x.toNat : Nat) : Int) = x by omega, show ((y.toNat : Nat) : Int) = y by omega] at this
  · intro h1 y hy x hx
    exact h1 _ _ (by omega) (by omega) (by omega) (by omega)
theorem moved_no {lp : Pt.Lat} {f g : Int → Int → Int} {dx dy : Int} {x y : Nat} (hx : (x : Int) < lp.a) (hy : (y : Int) < lp.c) (h : f x y ≠ g ((x : Int) + dx) ((y : Int) + dy)) : movedB lp f g dx dy = false := by
  apply Bool.eq_false_iff.2
  intro hm
  unfold movedB rowB at hm
  simp only [List.all_eq_true, List.mem_range, beq_iff_eq] at hm
  exact h (hm y (by omega) x (by omega))

set_option maxRecDepth 20000 in
set_option maxHeartbeats 2000000 in
theorem isMoved_any (lp lq : Pt.Lat) (vp vq : Value) (cp cq : List Int) (dx dy : Int) (w : World) (hp : PatIn w lp vp cp) (hq : PatIn w lq vq cq) (hx : -500000 ≤ dx) (hx2 : dx ≤ 500000) (hy : -500000 ≤ dy) (hy2 : dy ≤ 500000) :
    Calls Tryz.prog 76 #[patV lp vp, patV lq vq, .int .i64 dx, .int .i64 dy] w fun e w' => e = .returned (.bool (movedB lp (Pt.col lp (csF cp)) (Pt.col lq (csF cq)) dx dy)) ∧ Below w.heap.size w w' := by
  have hsp := hp.2.2.1
  obtain ⟨⟨a1, a2, a3, a4⟩, a5, a6⟩ := hsp
  have P := Lib.hid hp
  have C := Lib.hid (fun (x y : Int) (h1 : -1000000 ≤ x) (h2 : x ≤ 1000000) (h3 : -1000000 ≤ y) (h4 : y ≤ 1000000) W (hW : Below w.heap.size w W) => colorAt_any lq vq cq x y W (hq.all hW) h1 h2 h3 h4)
  have hvp : ∃ a n c, vp = .slice a n c := by
    obtain ⟨_, _, _, _, h, _⟩ := hp.at_ 0 0
    exact ⟨_, _, _, h⟩
  have hvq : ∃ a n c, vq = .slice a n c := by
    obtain ⟨_, _, _, _, h, _⟩ := hq.at_ 0 0
    exact ⟨_, _, _, h⟩
  have hlen : (cp.length : Int) ≤ 900000000 := by
    rw [hp.2.1]
    have e1 : lp.a * lp.c ≤ 30000 * lp.c := Int.mul_le_mul_of_nonneg_right a5 (by omega)
    omega
  obtain ⟨vpa, vpn, vpc, rfl⟩ := hvp
  obtain ⟨vqa, vqn, vqc, rfl⟩ := hvq
  have P0 := (PatAt.fresh w lp (.slice vpa vpn vpc) 24).all ((Below.refl _ (w.alloc (.cells #[.int .i64 lp.a, .int .i64 lp.b, .int .i64 lp.c, .slice vpa vpn vpc] 24))).alloc (Nat.le_refl _) (.cells #[.int .i64 lq.a, .int .i64 lq.b, .int .i64 lq.c, .slice vqa vqn vqc] 24))
  have Q0 := PatAt.fresh (w.alloc (.cells #[.int .i64 lp.a, .int .i64 lp.b, .int .i64 lp.c, .slice vpa vpn vpc] 24)) lq (.slice vqa vqn vqc) 24
  have hz1 : (w.alloc (.cells #[.int .i64 lp.a, .int .i64 lp.b, .int .i64 lp.c, .slice vpa vpn vpc] 24)).heap.size = w.heap.size + 1 := by simp
  rw [hz1] at Q0
  have B0 := ((Below.refl w.heap.size w).alloc (Nat.le_refl _) (.cells #[.int .i64 lp.a, .int .i64 lp.b, .int .i64 lp.c, .slice vpa vpn vpc] 24)).alloc (by simp) (.cells #[.int .i64 lq.a, .int .i64 lq.b, .int .i64 lq.c, .slice vqa vqn vqc] 24)
  have H0 := Lib.hid (And.intro P0 (And.intro Q0 B0))
  obtain ⟨c0, c1, c2, c3, _⟩ := id P0
  obtain ⟨A, hA⟩ : ∃ A : Nat, lp.a = A := ⟨lp.a.toNat, by omega⟩
  obtain ⟨D, hD⟩ : ∃ D : Nat, lp.c = D := ⟨lp.c.toNat, by omega⟩
  clear hp hq P0 Q0 B0 hz1
  have HA := Lib.hid hA
  have HD := Lib.hid hD
  have hA1 : 1 ≤ A := by omega
  have hA3 : lp.a ≤ (A : Int) := by omega
  have hA4 : (A : Int) ≤ lp.a := by omega
  have hD3 : lp.c ≤ (D : Int) := by omega
  have hD4 : (D : Int) ≤ lp.c := by omega
  have hA2 : A ≤ 30000 := by omega
  have hD2 : D ≤ 30000 := by omega
  have MV := Lib.hid (fun x y hx hy h => moved_no (lp := lp) (f := Pt.col lp (csF cp)) (g := Pt.col lq (csF cq)) (dx := dx) (dy := dy) (x := x) (y := y) hx hy h)
  have hMT : (∀ y, y < D → rowB lp (Pt.col lp (csF cp)) (Pt.col lq (csF cq)) dx dy y = true) → movedB lp (Pt.col lp (csF cp)) (Pt.col lq (csF cq)) dx dy = true := fun h => by
    unfold movedB
    rw [List.all_eq_true]
    intro y hy
    exact h y (by have := List.mem_range.1 hy; omega)
  have hRT : ∀ y : Nat, (∀ x : Nat, x < A → Pt.col lp (csF cp) (x : Int) (y : Int) = Pt.col lq (csF cq) ((x : Int) + dx) ((y : Int) + dy)) → rowB lp (Pt.col lp (csF cp)) (Pt.col lq (csF cq)) dx dy y = true := fun y h => by
    unfold rowB
    rw [List.all_eq_true]
    intro x hx
    rw [beq_iff_eq]
    exact h x (by have := List.mem_range.1 hx; omega)
  clear hA hD
  have MT := Lib.hid hMT
  have RT := Lib.hid hRT
  clear hMT hRT
  generalize movedB lp (Pt.col lp (csF cp)) (Pt.col lq (csF cq)) dx dy = MB at *
  go_enter Tryz.func76, Tryz.ntmps76
  go_wp2
  clear c0 c1 c2 c3
  go_loopw [13] (fun t wr => ∃ y : Nat, y ≤ D ∧ t = .int .i64 (y : Int) ∧ Hid ((∀ y', y' < y → rowB lp (Pt.col lp (csF cp)) (Pt.col lq (csF cq)) dx dy y' = true) ∧ PatAt wr w.heap.size lp (.slice vpa vpn vpc) ∧ PatAt wr (w.heap.size + 1) lq (.slice vqa vqn vqc) ∧ Below w.heap.size w wr)) (fun t _ => D - (intOf t).toNat)
  case atStart => exact ⟨0, Nat.zero_le _, rfl, Lib.hid ⟨fun _ h => absurd h (by omega), H0.out⟩⟩
  case round =>
    obtain ⟨y, hyD, rfl, hg⟩ := hrel
    clear H0
    by_cases hlt : y < D
    · obtain ⟨c0, c1, c2, c3, _⟩ := hg.out.2.1
      have hdy : decide ((y : Int) < lp.c) = true := decide_eq_true (by omega)
      go_wp2
      clear c0 c1 c2 c3
      go_loopw [18] (fun t wx => ∃ x : Nat, x ≤ A ∧ t = .int .i64 (x : Int) ∧ Hid ((∀ x', x' < x → Pt.col lp (csF cp) (x' : Int) (y : Int) = Pt.col lq (csF cq) ((x' : Int) + dx) ((y : Int) + dy)) ∧ PatAt wx w.heap.size lp (.slice vpa vpn vpc) ∧ PatAt wx (w.heap.size + 1) lq (.slice vqa vqn vqc) ∧ Below w.heap.size w wx)) (fun t _ => A - (intOf t).toNat)
      case atStart => exact ⟨0, Nat.zero_le _, rfl, Lib.hid ⟨fun _ h => absurd h (by omega), hg.out.2⟩⟩
      case round =>
        obtain ⟨x, hxA, rfl, hgx⟩ := hrel
        by_cases hxlt : x < A
        · obtain ⟨hrow, hpp, hqq, hw⟩ := hgx.out
          obtain ⟨s1, s2⟩ := Pt.home_self (l := lp) (x := (x : Int)) (y := (y : Int)) (by omega) (by rw [HA.out]; omega) (by omega) (by rw [HD.out]; omega)
          obtain ⟨bb, off, cap, k, e1, hbb, i1, i2, i3, i4, hc⟩ := (P.out.all hw).at_ (x : Int) (y : Int)
          rw [s1, s2] at i1 i2 i3
          simp only [Value.slice.injEq] at e1
          obtain ⟨rfl, rfl, rfl⟩ := e1
          have CC := Lib.hid (C.out ((x : Int) + dx) ((y : Int) + dy) (by omega) (by omega) (by omega) (by omega))
          have HRW := Lib.hid hrow
          have HMV := Lib.hid (MV.out x y (by rw [HA.out]; omega) (by rw [HD.out]; omega))
          clear s1 s2 hrow
          generalize hu : Pt.col lp (csF cp) (x : Int) (y : Int) = u at *
          generalize hv : Pt.col lq (csF cq) ((x : Int) + dx) ((y : Int) + dy) = v at *
          have HU := Lib.hid hu
          have HV := Lib.hid hv
          have hya : (y : Int) * lp.a ≤ 900000000 := by omega
          have hya0 : 0 ≤ (y : Int) * lp.a := Int.mul_nonneg (by omega) (by omega)
          have g1 : IntKind.i64.wrap ((y : Int) * lp.a) = (y : Int) * lp.a := IntWalk.i64_in _ ⟨by omega, by omega⟩
          have g2 : IntKind.i64.wrap ((y : Int) * lp.a + (x : Int)) = (y : Int) * lp.a + (x : Int) := IntWalk.i64_in _ ⟨by omega, by omega⟩
          have g3 : IntKind.i64.wrap ((x : Int) + dx) = (x : Int) + dx := IntWalk.i64_in _ ⟨by omega, by omega⟩
          have g4 : IntKind.i64.wrap ((y : Int) + dy) = (y : Int) + dy := IntWalk.i64_in _ ⟨by omega, by omega⟩
          clear hu hv hg
          go_upto_region 7 with fail
          obtain ⟨p0, p1, p2, p3, hpz⟩ := id hpp
          obtain ⟨r0, r1, r2, r3, hqz⟩ := id hqq
          refine wp_region_seq [(0, true), (1, true), (2, true), (3, true), (4, true), (5, true), (6, true), (7, true), (8, true), (9, true), (10, true), (11, true), (12, true), (13, true), (14, true), (15, true), (16, true), (17, false), (18, true)]
            (fun W => ((W.cell? ⟨w.heap.size, 0, none⟩ = some (.int .i64 lp.a) ∧ W.cell? ⟨w.heap.size, 1, none⟩ = some (.int .i64 lp.b) ∧ W.cell? ⟨w.heap.size, 2, none⟩ = some (.int .i64 lp.c) ∧ W.cell? ⟨w.heap.size, 3, none⟩ = some (.slice (some ⟨bb, off, none⟩) cp.length vpc)) ∧
              (W.cell? ⟨w.heap.size + 1, 0, none⟩ = some (.int .i64 lq.a) ∧ W.cell? ⟨w.heap.size + 1, 1, none⟩ = some (.int .i64 lq.b) ∧ W.cell? ⟨w.heap.size + 1, 2, none⟩ = some (.int .i64 lq.c) ∧ W.cell? ⟨w.heap.size + 1, 3, none⟩ = some (.slice vqa vqn vqc)) ∧ W.cell? ⟨bb, off + k, none⟩ = some (.int .i64 u)) ∧
              Hid (PatAt W w.heap.size lp (.slice (some ⟨bb, off, none⟩) cp.length vpc) ∧ PatAt W (w.heap.size + 1) lq (.slice vqa vqn vqc) ∧ Below w.heap.size w W))
            (by kernel_rfl) (by kernel_rfl) (by kernel_rfl) (by kernel_rfl) (fun d _ _ _ _ h => by cases d <;> exact h)
            (by exact ⟨⟨⟨p0, p1, p2, p3⟩, ⟨r0, r1, r2, r3⟩, hc⟩, Lib.hid ⟨hpp, hqq, hw.drew⟩⟩) (fun hS => ?_)
          clear p0 p1 p2 p3 r0 r1 r2 r3 hpp hqq hw hc hgx hpz hqz
          repeat (first
            | (refine SeqH.take (v := ?_) rfl (by rfl) ?_ ?_; rotate_left; (· intro w hSw; (try dsimp only at hSw); obtain ⟨⟨⟨c0, c1, c2, c3⟩, ⟨d0, d1, d2, d3⟩, c4⟩, _⟩ := hSw; go_simp; (try with_reducible rfl)); simp only [Act.put, List.setIfInBounds_toArray, List.set_cons_zero, List.set_cons_succ]))
          refine SeqH.step rfl (by rfl) (fun K hK => ?_)
          go_simp
          go_at_call 64
          refine (CC.out _ hS.2.out.2.2).mono ?_
          rintro e w2 ⟨rfl, hb2⟩
          try dsimp only
          have hN := Lib.hid (And.intro (hS.2.out.1.all hb2) (And.intro (hS.2.out.2.1.all hb2) (below_step hS.2.out.2.2 hb2)))
          obtain ⟨p0, p1, p2, p3, _⟩ := hN.out.1
          obtain ⟨r0, r1, r2, r3, _⟩ := hN.out.2.1
          have hS3 : ((w2.cell? ⟨w.heap.size, 0, none⟩ = some (.int .i64 lp.a) ∧ w2.cell? ⟨w.heap.size, 1, none⟩ = some (.int .i64 lp.b) ∧ w2.cell? ⟨w.heap.size, 2, none⟩ = some (.int .i64 lp.c) ∧ w2.cell? ⟨w.heap.size, 3, none⟩ = some (.slice (some ⟨bb, off, none⟩) cp.length vpc)) ∧
              (w2.cell? ⟨w.heap.size + 1, 0, none⟩ = some (.int .i64 lq.a) ∧ w2.cell? ⟨w.heap.size + 1, 1, none⟩ = some (.int .i64 lq.b) ∧ w2.cell? ⟨w.heap.size + 1, 2, none⟩ = some (.int .i64 lq.c) ∧ w2.cell? ⟨w.heap.size + 1, 3, none⟩ = some (.slice vqa vqn vqc)) ∧ w2.cell? ⟨bb, off + k, none⟩ = some (.int .i64 u)) ∧
              Hid (PatAt w2 w.heap.size lp (.slice (some ⟨bb, off, none⟩) cp.length vpc) ∧ PatAt w2 (w.heap.size + 1) lq (.slice vqa vqn vqc) ∧ Below w.heap.size w w2) :=
            ⟨⟨⟨p0, p1, p2, p3⟩, ⟨r0, r1, r2, r3⟩, (hb2.cell (p := ⟨bb, off + k, none⟩) hbb).trans hS.1.2.2⟩, hN⟩
          refine hK.out _ _ hS3 (fun _ => ?_)
          clear hK K hb2 hS p0 p1 p2 p3 r0 r1 r2 r3
          try simp only [Act.put, List.setIfInBounds_toArray, List.set_cons_zero, List.set_cons_succ]
          repeat (first
            | (refine SeqH.take (v := ?_) rfl (by rfl) ?_ ?_; rotate_left; (· intro w hSw; (try dsimp only at hSw); obtain ⟨⟨⟨c0, c1, c2, c3⟩, ⟨d0, d1, d2, d3⟩, c4⟩, _⟩ := hSw; go_simp; (try with_reducible rfl)); simp only [Act.put, List.setIfInBounds_toArray, List.set_cons_zero, List.set_cons_succ]))
          refine SeqH.done ?_
          clear hS3
          by_cases huv : u = v
          · have q1 : (u != v) = false := by simp [huv]
            have HROW : Hid (∀ x' : Nat, x' < x + 1 → Pt.col lp (csF cp) (x' : Int) (y : Int) = Pt.col lq (csF cq) ((x' : Int) + dx) ((y : Int) + dy)) := Lib.hid fun x' h => by
              by_cases e : x' = x
              · rw [e, HU.out, HV.out]; exact huv
              · exact HRW.out x' (by omega)
            clear huv
            go_wp2
            go_roundw
            case rel => exact ⟨x + 1, by omega, by go_num, Lib.hid ⟨HROW.out, hN.out⟩⟩
            case measure => simp [intOf]; omega
          · have q1 : (u != v) = true := by simp [huv]
            have HB := Lib.hid (HMV.out huv)
            clear huv
            go_wp2
            go_ret
            exact ⟨by rw [HB.out]; rfl, hN.out.2.2⟩
        · obtain rfl : x = A := by omega
          have HR := Lib.hid (RT.out y hgx.out.1)
          have HG2 := Lib.hid (And.intro hg.out.1 hgx.out.2)
          clear hgx hg
          have HROWS : Hid (∀ y', y' < y + 1 → rowB lp (Pt.col lp (csF cp)) (Pt.col lq (csF cq)) dx dy y' = true) := Lib.hid fun y' h => by
            by_cases e : y' = y
            · rw [e]; exact HR.out
            · exact HG2.out.1 y' (by omega)
          go_wp2
          go_roundw
          case rel => exact ⟨y + 1, by omega, by go_num, Lib.hid ⟨HROWS.out, HG2.out.2⟩⟩
          case measure => simp [intOf]; omega
    · obtain rfl : y = D := by omega
      have HM := Lib.hid (MT.out hg.out.1)
      have hw := hg.out.2.2.2
      clear hg
      go_wp2
      go_ret
      exact ⟨by rw [HM.out]; rfl, hw⟩
end Go.Proofs.YtobolflgoljafaaGreatDoor
namespace Go.Proofs.YtobolflgoljafaaGreatDoor
open Go.RowKit

/-- Three numbers in a block that may be written. -/
def LatW (W : World) (b : Nat) (l : Pt.Lat) : Prop :=
  (W.cell? ⟨b, 0, none⟩ = some (.int .i64 l.a) ∧ W.cell? ⟨b, 1, none⟩ = some (.int .i64 l.b) ∧ W.cell? ⟨b, 2, none⟩ = some (.int .i64 l.c)) ∧ (W.frozen? ⟨b, 0, none⟩ = false ∧ W.frozen? ⟨b, 1, none⟩ = false ∧ W.frozen? ⟨b, 2, none⟩ = false) ∧ b < W.heap.size
theorem LatW.all {w w2 : World} {b : Nat} {l : Pt.Lat} (h : LatW w b l) (hb : Below w.heap.size w w2) : LatW w2 b l := by
  obtain ⟨⟨h0, h1, h2⟩, ⟨f0, f1, f2⟩, h4⟩ := h
  exact ⟨⟨(hb.cell (p := ⟨b, 0, none⟩) h4).trans h0, (hb.cell (p := ⟨b, 1, none⟩) h4).trans h1, (hb.cell (p := ⟨b, 2, none⟩) h4).trans h2⟩, ⟨(hb.frozen (p := ⟨b, 0, none⟩) h4).trans f0, (hb.frozen (p := ⟨b, 1, none⟩) h4).trans f1, (hb.frozen (p := ⟨b, 2, none⟩) h4).trans f2⟩, Nat.lt_of_lt_of_le h4 hb.size⟩
theorem LatW.fresh (w : World) (l : Pt.Lat) (t : TypeId) : LatW (w.alloc (.cells #[.int .i64 l.a, .int .i64 l.b, .int .i64 l.c] t)) w.heap.size l :=
  ⟨⟨by simp, by simp, by simp⟩, ⟨by simp [go_sem], by simp [go_sem], by simp [go_sem]⟩, by simp⟩
def FindSays (most : Int) (l0 : Pt.Lat) (w : World) (e : Ending) (w' : World) : Prop :=
  (l0.a * l0.c ≤ most → e = .returned (.tuple #[latV l0, .bool true])) ∧ (¬ l0.a * l0.c ≤ most → e = .returned (.tuple #[latV ⟨0, 0, 0⟩, .bool false])) ∧ Below w.heap.size w w'
theorem find_facts {G : Int → Int → Prop} {gB : Int → Int → Bool} {l0 : Pt.Lat} (hG : Pt.Grp G) (h0 : Pt.IsB G l0) (hgB : ∀ x y, gB x y = true ↔ G x y) :
    (∀ a, 1 ≤ a → a < l0.a → gB a 0 = false) ∧ gB l0.a 0 = true ∧ (∀ b c, 1 ≤ c → c < l0.c → 0 ≤ b → b < l0.a → gB b c = false) ∧ (∀ b, 0 ≤ b → b < l0.b → gB b l0.c = false) ∧ gB l0.b l0.c = true := by
  refine ⟨fun a h1 h2 => ?_, (hgB _ _).2 h0.ga, fun b c h1 h2 h3 h4 => ?_, fun b h1 h2 => ?_, (hgB _ _).2 h0.gb⟩
  · apply Bool.eq_false_iff.2; intro h; exact h0.na a h1 h2 ((hgB _ _).1 h)
  · apply Bool.eq_false_iff.2; intro h; exact h0.nc b c h1 h2 h3 h4 ((hgB _ _).1 h)
  · apply Bool.eq_false_iff.2; intro h
    have hd := hG.sub h0.gb ((hgB _ _).1 h)
    rw [Int.sub_self] at hd
    have := h0.ok
    unfold Pt.Lat.ok at this
    exact h0.na _ (by omega) (by omega) hd

set_option maxRecDepth 20000 in
set_option maxHeartbeats 2000000 in
theorem find_has (k : Pt.Lat) (most : Int) (l0 : Pt.Lat) (G : Int → Int → Prop) (gB : Int → Int → Bool) (w : World) (hG : Pt.Grp G) (h0 : Pt.IsB G l0) (hgB : ∀ x y, gB x y = true ↔ G x y) (hm1 : 1 ≤ most) (hm2 : most ≤ 30000) (hA2 : l0.a ≤ 30000) (hC2 : l0.c ≤ 30000)
    (HF : ∀ (dx dy : Int) W, 0 ≤ dx → dx ≤ 30000 → 0 ≤ dy → dy ≤ 30000 → Below w.heap.size w W → Calls Tryz.prog 93 #[latV k, .int .i64 dx, .int .i64 dy] W fun e w' => e = .returned (.bool (gB dx dy)) ∧ Below W.heap.size W w') :
    Calls Tryz.prog 90 #[.int .i64 most, .func (.func 93) #[latV k] #[]] w (FindSays most l0 w) := by
  obtain ⟨f1, f2, f3, f4, f5⟩ := find_facts hG h0 hgB
  obtain ⟨a1, b1, b2, c1⟩ := h0.ok
  obtain ⟨A, B, C⟩ := l0
  dsimp only at *
  have F1 := Lib.hid f1
  have F2 := Lib.hid f2
  have F3 := Lib.hid f3
  have F4 := Lib.hid f4
  have F5 := Lib.hid f5
  have HH := Lib.hid HF
  have Z0 := LatW.fresh w ⟨0, 0, 0⟩ 63
  have B0 := (Below.refl w.heap.size w).alloc (Nat.le_refl _) (.cells #[.int .i64 0, .int .i64 0, .int .i64 0] 63)
  have H0 := Lib.hid (And.intro Z0 B0)
  clear f1 f2 f3 f4 f5 HF hG h0 hgB Z0 B0
  have HNO : Hid (¬ A * C ≤ most → ∀ (W : World), Below w.heap.size w W → FindSays most ⟨A, B, C⟩ w (.returned (.tuple #[latV ⟨0, 0, 0⟩, .bool false])) W) := Lib.hid fun h W hW => ⟨fun h2 => absurd h2 h, fun _ => rfl, hW⟩
  have HYES : Hid (A * C ≤ most → ∀ (W : World), Below w.heap.size w W → FindSays most ⟨A, B, C⟩ w (.returned (.tuple #[latV ⟨A, B, C⟩, .bool true])) W) := Lib.hid fun h W hW => ⟨fun _ => rfl, fun h2 => absurd h h2, hW⟩
  go_enter Tryz.func90, Tryz.ntmps90
  go_wp2
  go_loopw [6] (fun t wr => ∃ a : Int, 1 ≤ a ∧ a ≤ A ∧ a ≤ most ∧ t = .int .i64 a ∧ Hid (LatW wr w.heap.size ⟨0, 0, 0⟩ ∧ Below w.heap.size w wr)) (fun t _ => (A - intOf t).toNat)
  case atStart => exact ⟨1, by omega, by omega, by omega, rfl, H0⟩
  case round =>
    obtain ⟨a, ha1, haA, ham, rfl, hg⟩ := hrel
    clear H0
    have CA := Lib.hid (HH.out a 0 _ (by omega) (by omega) (by omega) (by omega) hg.out.2)
    by_cases hlt : a < A
    · rw [F1.out a ha1 hlt] at CA
      go_wp2_with fail
      refine CA.out.mono ?_
      rintro e w1 ⟨rfl, hb1⟩
      have hL := hg.out.1.all hb1
      have HW := Lib.hid (And.intro hL (below_step hg.out.2 hb1))
      obtain ⟨⟨c0, c1', c2⟩, ⟨z0, z1, z2⟩, _⟩ := hL
      clear hb1 CA
      by_cases hmo : a + 1 ≤ most
      · have hd : decide (most < a + 1) = false := decide_eq_false (by omega)
        clear c0 c1' c2 z0 z1 z2
        go_wp2
        go_roundw
        case rel => exact ⟨a + 1, by omega, by omega, hmo, rfl, HW⟩
        case measure => simp [intOf]; omega
      · have hd : decide (most < a + 1) = true := decide_eq_true (by omega)
        have hbig : ¬ A * C ≤ most := by
          intro h
          have : A * 1 ≤ A * C := Int.mul_le_mul_of_nonneg_left c1 (by omega)
          omega
        have HE := Lib.hid (HNO.out (by omega))
        clear hbig
        dsimp only at c0 c1' c2
        go_wp2
        exact bodyPost_ret (v := .tuple #[.agg #[.int .i64 0, .int .i64 0, .int .i64 0], .bool false]) (by simp [results, Tryz.results90, go_sem, c0, c1', c2]) rfl (HE.out _ (((HW.out.2.setCell (Nat.le_refl _) _).setCell (Nat.le_refl _) _).setCell (Nat.le_refl _) _))
    · obtain rfl : a = A := by omega
      rw [F2.out] at CA
      go_wp2_with fail
      refine CA.out.mono ?_
      rintro e w1 ⟨rfl, hb1⟩
      have HW := Lib.hid (And.intro (hg.out.1.all hb1) (below_step hg.out.2 hb1))
      clear hb1 CA hg hlt
      go_wp2
      go_loopw [7] (fun t wr => ∃ c : Int, 1 ≤ c ∧ c ≤ C ∧ t = .int .i64 c ∧ Hid (LatW wr w.heap.size ⟨0, 0, 0⟩ ∧ Below w.heap.size w wr)) (fun t _ => (C + 1 - intOf t).toNat)
      case atStart => exact ⟨1, by omega, by omega, rfl, HW⟩
      case round =>
        obtain ⟨c, hc1, hcC, rfl, hg⟩ := hrel
        clear HW
        have hp0 : 0 ≤ a * c := Int.mul_nonneg (by omega) (by omega)
        have hp1 : a * c ≤ a * C := Int.mul_le_mul_of_nonneg_left hcC (by omega)
        have hcc : c ≤ a * c := by have := Int.mul_le_mul_of_nonneg_right ha1 (show 0 ≤ c by omega); omega
        have hp2 : a * c ≤ 900000000 := by
          have := Int.mul_le_mul_of_nonneg_right hA2 (show 0 ≤ c by omega)
          omega
        have g1 : IntKind.i64.wrap (a * c) = a * c := IntWalk.i64_in _ ⟨by omega, by omega⟩
        by_cases hle : a * c ≤ most
        · have hd : decide (a * c ≤ most) = true := decide_eq_true hle
          go_wp2
          go_loopw [27] (fun t wx => ∃ b : Int, 0 ≤ b ∧ b ≤ a ∧ t = .int .i64 b ∧ Hid ((c = C → b ≤ B) ∧ LatW wx w.heap.size ⟨0, 0, 0⟩ ∧ Below w.heap.size w wx)) (fun t _ => (a - intOf t).toNat)
          case atStart => exact ⟨0, by omega, by omega, rfl, Lib.hid ⟨fun _ => b1, hg.out⟩⟩
          case round =>
            obtain ⟨b, hb0, hba, rfl, hgb⟩ := hrel
            clear hg
            by_cases hbl : b < a
            · have CB := Lib.hid (HH.out b c _ (by omega) (by omega) (by omega) (by omega) hgb.out.2.2)
              have hcB := hgb.out.1
              by_cases hhit : c = C ∧ b = B
              · obtain ⟨rfl, rfl⟩ := hhit
                rw [F5.out] at CB
                have HE := Lib.hid (HYES.out hle)
                clear hcB
                go_wp2_with fail
                refine CB.out.mono ?_
                rintro e w2 ⟨rfl, hb2⟩
                have hL := hgb.out.2.1.all hb2
                have HW := Lib.hid (below_step hgb.out.2.2 hb2)
                obtain ⟨⟨c0, c1', c2⟩, ⟨z0, z1, z2⟩, _⟩ := hL
                clear hb2 CB hgb
                dsimp only at c0 c1' c2
                go_wp2
                exact bodyPost_ret (v := .tuple #[.agg #[.int .i64 a, .int .i64 b, .int .i64 c], .bool true]) (by simp [results, Tryz.results90, go_sem, c0, c1', c2]) rfl (HE.out _ (((HW.out.setCell (Nat.le_refl _) _).setCell (Nat.le_refl _) _).setCell (Nat.le_refl _) _))
              · have hno : gB b c = false := by
                  by_cases hcC2 : c < C
                  · exact F3.out b c hc1 hcC2 hb0 hbl
                  · have e : c = C := by omega
                    have := hcB e
                    rw [e]
                    exact F4.out b hb0 (by omega)
                rw [hno] at CB
                have HCB : Hid (c = C → b + 1 ≤ B) := Lib.hid fun e => by have := hcB e; omega
                clear hno hcB hhit
                go_wp2_with fail
                refine CB.out.mono ?_
                rintro e w2 ⟨rfl, hb2⟩
                have HW := Lib.hid (And.intro HCB.out (And.intro (hgb.out.2.1.all hb2) (below_step hgb.out.2.2 hb2)))
                clear hb2 CB hgb HCB
                go_wp2
                go_roundw
                case rel => exact ⟨b + 1, by omega, by omega, rfl, HW⟩
                case measure => simp [intOf]; omega
            · obtain rfl : b = a := by omega
              have hcC3 : c < C := by
                by_cases e : c = C
                · have := hgb.out.1 e; omega
                · omega
              have HW := Lib.hid hgb.out.2
              clear hgb
              go_wp2
              go_roundw
              case rel => exact ⟨c + 1, by omega, by omega, rfl, HW⟩
              case measure => simp [intOf]; omega
        · have hd : decide (a * c ≤ most) = false := decide_eq_false hle
          have HE := Lib.hid (HNO.out (by omega))
          obtain ⟨hL, hw⟩ := hg.out
          obtain ⟨⟨c0, c1', c2⟩, ⟨z0, z1, z2⟩, _⟩ := hL
          have HW := Lib.hid hw
          clear hg hw
          dsimp only at c0 c1' c2
          go_wp2
          exact bodyPost_ret (v := .tuple #[.agg #[.int .i64 0, .int .i64 0, .int .i64 0], .bool false]) (by simp [results, Tryz.results90, go_sem, c0, c1', c2]) rfl (HE.out _ (((HW.out.setCell (Nat.le_refl _) _).setCell (Nat.le_refl _) _).setCell (Nat.le_refl _) _))
end Go.Proofs.YtobolflgoljafaaGreatDoor
namespace Go.Proofs.YtobolflgoljafaaGreatDoor
open Go.RowKit

def hasB (k : Pt.Lat) (x y : Int) : Bool := (Pt.hx k x y == 0) && (Pt.hy k y == 0)
theorem hasB_iff {k : Pt.Lat} (h : k.ok) (x y : Int) : hasB k x y = true ↔ Pt.inL k x y := by
  rw [Pt.inL_iff h]
  unfold hasB
  simp only [Bool.and_eq_true, beq_iff_eq]

set_option maxRecDepth 20000 in
set_option maxHeartbeats 1000000 in
theorem has_any (k : Pt.Lat) (x y : Int) (w : World) (h : small k) (hx : -1000000 ≤ x) (hx2 : x ≤ 1000000) (hy : -1000000 ≤ y) (hy2 : y ≤ 1000000) :
    Calls Tryz.prog 93 #[latV k, .int .i64 x, .int .i64 y] w fun e w' => e = .returned (.bool (hasB k x y)) ∧ Below w.heap.size w w' := by
  have H := Lib.hid (fun W => home_any k x y W h hx hx2 hy hy2)
  have hb0 := (Below.refl w.heap.size w).alloc (Nat.le_refl _) (.cells #[.int .i64 k.a, .int .i64 k.b, .int .i64 k.c] 63)
  have HB := Lib.hid hb0
  obtain ⟨t1, t2, t3, t4⟩ := Pt.home_bd h.1 x y
  have HE : Hid (hasB k x y = ((Pt.hx k x y == 0) && (Pt.hy k y == 0))) := Lib.hid rfl
  clear hb0 h
  obtain ⟨a, b, c⟩ := k
  dsimp only at *
  generalize hasB ⟨a, b, c⟩ x y = r at *
  generalize Pt.hx ⟨a, b, c⟩ x y = rx at *
  generalize Pt.hy ⟨a, b, c⟩ y = ry at *
  go_enter Tryz.func93, Tryz.ntmps93
  go_wp2_with fail
  refine (H.out _).mono ?_
  rintro e w' ⟨rfl, hb1⟩
  have HW := Lib.hid (below_step HB.out hb1)
  clear hb1
  by_cases h0 : rx = 0
  · subst h0
    have h1 := HE.out
    simp only [beq_self_eq_true, Bool.true_and] at h1
    have HE2 := Lib.hid h1
    clear h1
    go_wp2
    go_ret
    exact ⟨by rw [HE2.out]; rfl, HW.out⟩
  · have h1 := HE.out
    rw [show (rx == 0) = false from beq_eq_false_iff_ne.2 h0] at h1
    simp only [Bool.false_and] at h1
    have HE2 := Lib.hid h1
    clear h1
    go_wp2
    go_ret
    exact ⟨by rw [HE2.out]; rfl, HW.out⟩
end Go.Proofs.YtobolflgoljafaaGreatDoor
