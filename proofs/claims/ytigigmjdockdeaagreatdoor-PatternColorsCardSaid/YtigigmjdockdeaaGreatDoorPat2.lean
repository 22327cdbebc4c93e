/- The color of a cell. -/
import Derived.Test.YtigigmjdockdeaaGreatDoorPat1
namespace Go.Proofs.YtigigmjdockdeaaGreatDoor
open Go.RowKit

abbrev patV (l : Pt.Lat) (v : Value) : Value := .agg #[.int .i64 l.a, .int .i64 l.b, .int .i64 l.c, v]
def PatAt (W : World) (b : Nat) (l : Pt.Lat) (v : Value) : Prop :=
  W.cell? ⟨b, 0, none⟩ = some (.int .i64 l.a) ∧ W.cell? ⟨b, 1, none⟩ = some (.int .i64 l.b) ∧ W.cell? ⟨b, 2, none⟩ = some (.int .i64 l.c) ∧ W.cell? ⟨b, 3, none⟩ = some v ∧ b < W.heap.size
theorem PatAt.all {w w2 : World} {b : Nat} {l : Pt.Lat} {v : Value} (h : PatAt w b l v) (hb : Below w.heap.size w w2) : PatAt w2 b l v := by
  obtain ⟨h0, h1, h2, h3, h4⟩ := h
  exact ⟨(hb.cell (p := ⟨b, 0, none⟩) h4).trans h0, (hb.cell (p := ⟨b, 1, none⟩) h4).trans h1, (hb.cell (p := ⟨b, 2, none⟩) h4).trans h2, (hb.cell (p := ⟨b, 3, none⟩) h4).trans h3, Nat.lt_of_lt_of_le h4 hb.size⟩
theorem PatAt.fresh (w : World) (l : Pt.Lat) (v : Value) (t : TypeId) : PatAt (w.alloc (.cells #[.int .i64 l.a, .int .i64 l.b, .int .i64 l.c, v] t)) w.heap.size l v :=
  ⟨by simp, by simp, by simp, by simp, by simp⟩
/-- The cells of a repeat as a function. -/
def csF (cs : List Int) (i : Nat) : Int := cs.getD i 0
/-- A repeat that can be read. -/
def PatIn (W : World) (l : Pt.Lat) (v : Value) (cs : List Int) : Prop := Ints W v cs ∧ (cs.length : Int) = l.a * l.c ∧ small l ∧ (∀ i, 0 ≤ csF cs i ∧ csF cs i ≤ 1000)
theorem PatIn.all {w w2 : World} {l : Pt.Lat} {v : Value} {cs : List Int} (h : PatIn w l v cs) (hb : Below w.heap.size w w2) : PatIn w2 l v cs := ⟨h.1.all hb, h.2⟩
/-- Where a cell lies among the cells of a repeat. -/
theorem PatIn.at_ {W : World} {l : Pt.Lat} {v : Value} {cs : List Int} (h : PatIn W l v cs) (x y : Int) :
    ∃ b off cap k, v = .slice (some ⟨b, off, none⟩) cs.length cap ∧ b < W.heap.size ∧ 0 ≤ Pt.hy l y * l.a + Pt.hx l x y ∧ Pt.hy l y * l.a + Pt.hx l x y < (cs.length : Int) ∧ (Pt.hy l y * l.a + Pt.hx l x y).toNat = k ∧ k < cs.length ∧
      W.cell? ⟨b, off + k, none⟩ = some (.int .i64 (Pt.col l (csF cs) x y)) := by
  obtain ⟨hi, hl, hs, _⟩ := h
  obtain ⟨h1, h2, h3, h4⟩ := Pt.home_bd hs.1 x y
  have h5 : Pt.hy l y * l.a ≤ (l.c - 1) * l.a := Int.mul_le_mul_of_nonneg_right (by omega) (by omega)
  rw [Int.sub_mul, Int.one_mul, Int.mul_comm l.c] at h5
  have h6 : 0 ≤ Pt.hy l y * l.a := Int.mul_nonneg h3 (by omega)
  have hlt : (Pt.hy l y * l.a + Pt.hx l x y).toNat < cs.length := by omega
  rcases hi with ⟨a, c, rfl, rfl⟩ | ⟨b, off, cap, rfl, _, hb, hc⟩
  · simp at hlt
  · exact ⟨b, off, cap, _, rfl, hb, by omega, by omega, rfl, hlt, hc _ hlt⟩

set_option maxRecDepth 20000 in
theorem latticeOf_any (l : Pt.Lat) (v : Value) (w : World) (hv : v.oneCell' = true) :
    Calls Tryz.prog 63 #[patV l v] w fun e w' => e = .returned (latV l) ∧ Below w.heap.size w w' := by
  obtain ⟨a, b, c⟩ := l
  go_enter Tryz.func63, Tryz.ntmps63
  go_wp2
  first
    | (go_ret; exact ⟨rfl, by repeat' (first | exact Below.refl _ _ | assumption | apply below_drewN | refine Below.setCell ?_ (by simp <;> omega) _ | refine Below.alloc ?_ (by simp <;> omega) _)⟩)
    | exact bodyPost_ret (v := .agg #[.int .i64 a, .int .i64 b, .int .i64 c]) (by simp [results, Tryz.results63, go_sem]) rfl ⟨rfl, by repeat' (first | exact Below.refl _ _ | assumption | apply below_drewN | refine Below.setCell ?_ (by simp <;> omega) _ | refine Below.alloc ?_ (by simp <;> omega) _)⟩

set_option maxRecDepth 20000 in
set_option maxHeartbeats 1000000 in
theorem colorAt_any (l : Pt.Lat) (v : Value) (cs : List Int) (x y : Int) (w : World) (h : PatIn w l v cs) (hx : -1000000 ≤ x) (hx2 : x ≤ 1000000) (hy : -1000000 ≤ y) (hy2 : y ≤ 1000000) :
    Calls Tryz.prog 60 #[patV l v, .int .i64 x, .int .i64 y] w fun e w' => e = .returned (.int .i64 (Pt.col l (csF cs) x y)) ∧ Below w.heap.size w w' := by
  have hsm := h.2.2.1
  obtain ⟨bb, off, cap, k, rfl, hbb, i1, i2, i3, i4, hc⟩ := h.at_ x y
  have b0 := (Below.refl w.heap.size w).alloc (Nat.le_refl _) (.cells #[.int .i64 l.a, .int .i64 l.b, .int .i64 l.c, .slice (some ⟨bb, off, none⟩) cs.length cap] 24)
  have P0 := PatAt.fresh w l (.slice (some ⟨bb, off, none⟩) cs.length cap) 24
  have L := Lib.hid (fun W => latticeOf_any l (.slice (some ⟨bb, off, none⟩) cs.length cap) W rfl)
  have HM := Lib.hid (fun W => home_any l x y W hsm hx hx2 hy hy2)
  obtain ⟨m1, m2, m3, m4⟩ := Pt.home_bd hsm.1 x y
  have hcs : (cs.length : Int) ≤ 900000000 := by
    rw [h.2.1]
    have e1 : l.a * l.c ≤ 30000 * l.c := Int.mul_le_mul_of_nonneg_right hsm.2.1 (by have := hsm.1.2.2.2; omega)
    have := hsm.2.2
    omega
  have h6 : 0 ≤ Pt.hy l y * l.a := Int.mul_nonneg m3 (by have := hsm.1.1; omega)
  clear h hsm
  generalize Pt.hx l x y = rx at *
  generalize Pt.hy l y = ry at *
  generalize Pt.col l (csF cs) x y = col at *
  obtain ⟨a, b, c⟩ := l
  dsimp only at *
  have hra : ry * a ≤ 900000000 := by omega
  go_enter Tryz.func60, Tryz.ntmps60
  go_wp2_with fail
  refine (L.out _).mono ?_
  rintro e w1 ⟨rfl, hb1⟩
  have P1 := P0.all hb1
  have hw1 := below_step b0 hb1
  clear hb1 P0 b0
  go_wp2_with fail
  refine (HM.out _).mono ?_
  rintro e w2 ⟨rfl, hb2⟩
  have P2 := P1.all hb2
  have hw2 := below_step hw1 hb2
  have hc2 := (hw2.cell (p := ⟨bb, off + k, none⟩) hbb).trans hc
  clear hb2 P1 hw1 hc L HM
  obtain ⟨c0, c1, c2, c3, _⟩ := id P2
  clear P2
  go_wp2
  go_ret
  exact ⟨rfl, hw2⟩
end Go.Proofs.YtigigmjdockdeaaGreatDoor
