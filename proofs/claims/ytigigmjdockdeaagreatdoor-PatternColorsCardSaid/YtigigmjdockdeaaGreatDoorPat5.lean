/- Whether a lattice has a vector: lattice.has. -/
import Derived.Test.YtigigmjdockdeaaGreatDoorPat4
namespace Go.Proofs.YtigigmjdockdeaaGreatDoor
open Go.RowKit

def hasB (k : Pt.Lat) (x y : Int) : Bool := (Pt.hx k x y == 0) && (Pt.hy k y == 0)
theorem hasB_iff {k : Pt.Lat} (h : k.ok) (x y : Int) : hasB k x y = true ↔ Pt.inL k x y := by
  rw [Pt.inL_iff h]
  unfold hasB
  simp only [Bool.and_eq_true, beq_iff_eq]

set_option maxRecDepth 20000 in
set_option maxHeartbeats 1000000 in
theorem has_any (k : Pt.Lat) (x y : Int) (w : World) (h : small k) (hx : -1000000 ≤ x) (hx2 : x ≤ 1000000) (hy : -1000000 ≤ y) (hy2 : y ≤ 1000000) :
    Calls Tryz.prog 109 #[latV k, .int .i64 x, .int .i64 y] w fun e w' => e = .returned (.bool (hasB k x y)) ∧ Below w.heap.size w w' := by
  have H := Lib.hid (fun W => home_any k x y W h hx hx2 hy hy2)
  have hb0 := (Below.refl w.heap.size w).alloc (Nat.le_refl _) (.cells #[.int .i64 k.a, .int .i64 k.b, .int .i64 k.c] 70)
  have HB := Lib.hid hb0
  obtain ⟨t1, t2, t3, t4⟩ := Pt.home_bd h.1 x y
  have HE : Hid (hasB k x y = ((Pt.hx k x y == 0) && (Pt.hy k y == 0))) := Lib.hid rfl
  clear hb0 h
  obtain ⟨a, b, c⟩ := k
  dsimp only at *
  generalize hasB ⟨a, b, c⟩ x y = r at *
  generalize Pt.hx ⟨a, b, c⟩ x y = rx at *
  generalize Pt.hy ⟨a, b, c⟩ y = ry at *
  go_enter Tryz.func109, Tryz.ntmps109
  go_wp2_with fail
  refine (H.out _).mono ?_
  rintro e w' ⟨rfl, hb1⟩
  have HW := Lib.hid (below_step HB.out hb1)
  clear hb1
  by_cases h0 : rx = 0
  · subst h0
    have h1 := HE.out
    simp only [beq_self_eq_true, Bool.true_and] at h1
    have HE2 := Lib.hid h1
    clear h1
    go_wp2
    go_ret
    exact ⟨by rw [HE2.out]; rfl, HW.out⟩
  · have h1 := HE.out
    rw [show (rx == 0) = false from beq_eq_false_iff_ne.2 h0] at h1
    simp only [Bool.false_and] at h1
    have HE2 := Lib.hid h1
    clear h1
    go_wp2
    go_ret
    exact ⟨by rw [HE2.out]; rfl, HW.out⟩
end Go.Proofs.YtigigmjdockdeaaGreatDoor
