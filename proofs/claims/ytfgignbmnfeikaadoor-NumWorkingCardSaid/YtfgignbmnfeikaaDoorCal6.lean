/- IsOpen: the program's and the reference's answers. -/
import Derived.Test.YtfgignbmnfeikaaDoorCal5
namespace Go.Proofs.YtfgignbmnfeikaaDoor
open Go.RowKit

namespace Cal
def isoB (s e : Int) (rs hs : List Int) (d : Int) : Bool := if valD s e rs hs d = 0 then openB rs hs d else false
theorem valD_zero {s e d : Int} {rs hs : List Int} (h : valD s e rs hs d = 0) : valE s e rs hs = 0 ∧ 0 ≤ d ∧ d ≤ 1999 := by
  unfold valD at h
  by_cases a : valE s e rs hs = 0
  · rw [if_pos a] at h
    by_cases b : 0 ≤ d ∧ d ≤ 1999
    · exact ⟨a, b⟩
    · rw [if_neg b] at h; omega
  · rw [if_neg a] at h; exact absurd h a
theorem valE_zero_sets {s e : Int} {rs hs : List Int} (h : valE s e rs hs = 0) : setB 7 rs = true ∧ hs.Pairwise (· < ·) := by
  obtain ⟨_, h1, _, _, h2⟩ := valE_zero h
  exact ⟨h1, (setGo_iff.1 h2).2⟩
end Cal

/-- A calendar that lies in memory. -/
def CalAt (w : World) (b : Nat) (s e : Int) (vr vh : Value) : Prop :=
  w.cell? ⟨b, 0, none⟩ = some (.int .i64 s) ∧ w.cell? ⟨b, 1, none⟩ = some (.int .i64 e) ∧ w.cell? ⟨b, 2, none⟩ = some vr ∧ w.cell? ⟨b, 3, none⟩ = some vh ∧ b < w.heap.size
theorem CalAt.all {w w2 : World} {b : Nat} {s e : Int} {vr vh : Value} (h : CalAt w b s e vr vh) (hb : Below w.heap.size w w2) : CalAt w2 b s e vr vh := by
  obtain ⟨h0, h1, h2, h3, h4⟩ := h
  exact ⟨(hb.cell (p := ⟨b, 0, none⟩) h4).trans h0, (hb.cell (p := ⟨b, 1, none⟩) h4).trans h1, (hb.cell (p := ⟨b, 2, none⟩) h4).trans h2, (hb.cell (p := ⟨b, 3, none⟩) h4).trans h3, Nat.lt_of_lt_of_le h4 hb.size⟩
theorem CalAt.fresh (w : World) (s e : Int) (vr vh : Value) (t : TypeId) : CalAt (w.alloc (.cells #[.int .i64 s, .int .i64 e, vr, vh] t)) w.heap.size s e vr vh :=
  ⟨by simp, by simp, by simp, by simp, by simp⟩

/-- A week of rest as the program keeps it says whether a day is open. -/
theorem isOpen_rest (s e d : Int) (vh : Value) (rs hs : List Int) (w : World) (hh : Ints w vh hs) (lh : hs.length ≤ 1000) (hsort : hs.Pairwise (· < ·)) (d1 : 0 ≤ d) (d2 : d ≤ 100000) :
    Calls Tryd.prog 80 #[hrs s e (fun j => Cal.hasB rs j) vh, .int .i64 d] w fun x w' => x = .returned (.bool (Cal.openB rs hs d)) ∧ Below w.heap.size w w' :=
  (isOpen_any s e d (fun j => Cal.hasB rs j) vh hs w hh lh hsort d1 d2).mono fun x w' ⟨h1, h2⟩ => ⟨by rw [h1, ← Cal.open_eq d1], h2⟩

set_option maxRecDepth 20000 in
theorem numIsOpen_any (s e d : Int) (vr vh : Value) (rs hs : List Int) (w : World) (hr : Ints w vr rs) (hh : Ints w vh hs) (lr : rs.length ≤ 1000) (lh : hs.length ≤ 1000)
    (s1 : -9223372036854775808 ≤ s) (s2 : s ≤ 9223372036854775807) (e1 : -9223372036854775808 ≤ e) (e2 : e ≤ 9223372036854775807) (hd1 : -9223372036854775808 ≤ d) (hd2 : d ≤ 9223372036854775807) :
    Calls Tryd.prog 45 #[cal s e vr vh, .int .i64 d] w fun x w' => x = .returned (.tuple #[.bool (Cal.isoB s e rs hs d), .int .i64 (Cal.valD s e rs hs d)]) ∧ Below w.heap.size w w' := by
  have SV := Lib.hid (fun W (hW : Below w.heap.size w W) => validateDay_any s e d vr vh rs hs W (hr.all hW) (hh.all hW) lr lh s1 s2 e1 e2 hd1 hd2)
  unfold Cal.isoB
  by_cases hv : Cal.valD s e rs hs d = 0
  · rw [if_pos hv, hv]
    rw [hv] at SV
    obtain ⟨h0, d1, d2⟩ := Cal.valD_zero hv
    obtain ⟨h1, h2⟩ := Cal.valE_zero_sets h0
    clear hv h0
    have SH := Lib.hid (fun W (hW : Below w.heap.size w W) => hoursOf_look s e vr vh rs hs W (hr.all hW) (hh.all hW) lr lh h1)
    have SI := Lib.hid (fun W (hW : Below w.heap.size w W) => isOpen_rest s e d vh rs hs W (hh.all hW) lh h2 d1 (by omega))
    clear h1 h2 hr hh
    generalize Cal.openB rs hs d = g at SI ⊢
    go_enter Tryd.func45, Tryd.ntmps45
    go_wp2_with fail
    refine (SV.out _ (by repeat' (first | exact Below.refl _ _ | assumption | apply below_drewN | refine Below.setCell ?_ (by simp <;> omega) _ | refine Below.alloc ?_ (by simp <;> omega) _))).mono ?_
    rintro x w1 ⟨rfl, hb1⟩
    have ca1 := (CalAt.fresh w s e vr vh 48).all hb1
    have hw1 := below_step (w := w) (by repeat' (first | exact Below.refl _ _ | assumption | apply below_drewN | refine Below.setCell ?_ (by simp <;> omega) _ | refine Below.alloc ?_ (by simp <;> omega) _)) hb1
    clear hb1
    obtain ⟨k0, k1, k2, k3, _⟩ := id ca1
    go_wp2_with fail
    refine (SH.out _ (by repeat' (first | exact Below.refl _ _ | assumption | apply below_drewN | refine Below.setCell ?_ (by simp <;> omega) _ | refine Below.alloc ?_ (by simp <;> omega) _))).mono ?_
    rintro x w2 ⟨rfl, hb2⟩
    have ca2 := ca1.all hb2
    have hw2 := below_step (w := w) (by repeat' (first | exact Below.refl _ _ | assumption | apply below_drewN | refine Below.setCell ?_ (by simp <;> omega) _ | refine Below.alloc ?_ (by simp <;> omega) _)) hb2
    clear hb2 ca1
    go_wp2_with fail
    refine (SI.out _ (by repeat' (first | exact Below.refl _ _ | assumption | apply below_drewN | refine Below.setCell ?_ (by simp <;> omega) _ | refine Below.alloc ?_ (by simp <;> omega) _))).mono ?_
    rintro x w3 ⟨rfl, hb3⟩
    have ca3 := ca2.all hb3
    have hw3 := below_step (w := w) (by repeat' (first | exact Below.refl _ _ | assumption | apply below_drewN | refine Below.setCell ?_ (by simp <;> omega) _ | refine Below.alloc ?_ (by simp <;> omega) _)) hb3
    clear hb3 ca2
    go_wp2
    go_ret2
    exact ⟨rfl, by assumption⟩
  · rw [if_neg hv]
    generalize Cal.valD s e rs hs d = v at *
    have hv' : (v == 0) = false := by simpa using hv
    clear hv hr hh
    go_enter Tryd.func45, Tryd.ntmps45
    go_wp2_with fail
    refine (SV.out _ (by repeat' (first | exact Below.refl _ _ | assumption | apply below_drewN | refine Below.setCell ?_ (by simp <;> omega) _ | refine Below.alloc ?_ (by simp <;> omega) _))).mono ?_
    rintro x w1 ⟨rfl, hb1⟩
    have ca1 := (CalAt.fresh w s e vr vh 48).all hb1
    have hw1 := below_step (w := w) (by repeat' (first | exact Below.refl _ _ | assumption | apply below_drewN | refine Below.setCell ?_ (by simp <;> omega) _ | refine Below.alloc ?_ (by simp <;> omega) _)) hb1
    clear hb1
    go_wp2
    go_ret2
    exact ⟨rfl, by assumption⟩

set_option maxRecDepth 20000 in
theorem refIsOpen_any (s e d : Int) (vr vh : Value) (rs hs : List Int) (w : World) (hr : Ints w vr rs) (hh : Ints w vh hs) (lr : rs.length ≤ 1000) (lh : hs.length ≤ 1000)
    (s1 : -9223372036854775808 ≤ s) (s2 : s ≤ 9223372036854775807) (e1 : -9223372036854775808 ≤ e) (e2 : e ≤ 9223372036854775807) (hd1 : -9223372036854775808 ≤ d) (hd2 : d ≤ 9223372036854775807) :
    Calls Tryd.prog 46 #[cal s e vr vh, .int .i64 d] w fun x w' => x = .returned (.tuple #[.bool (Cal.isoB s e rs hs d), .int .i64 (Cal.valD s e rs hs d)]) ∧ Below w.heap.size w w' := by
  have SV := Lib.hid (fun W (hW : Below w.heap.size w W) => ref_validate_any s e vr vh rs hs W (hr.all hW) (hh.all hW) lr lh s1 s2 e1 e2)
  unfold Cal.isoB Cal.valD
  by_cases hv : Cal.valE s e rs hs = 0
  · rw [if_pos hv]
    rw [hv] at SV
    by_cases hd : 0 ≤ d ∧ d ≤ 1999
    · rw [if_pos hd, if_pos rfl]
      have SO := Lib.hid (fun W (hW : Below w.heap.size w W) => refOpen_any s e d vr vh rs hs W (hr.all hW) (hh.all hW) lr lh hd.1 (by omega))
      clear hr hh
      generalize Cal.openB rs hs d = g at SO ⊢
      go_enter Tryd.func46, Tryd.ntmps46
      go_wp2_with fail
      refine (SV.out _ (by repeat' (first | exact Below.refl _ _ | assumption | apply below_drewN | refine Below.setCell ?_ (by simp <;> omega) _ | refine Below.alloc ?_ (by simp <;> omega) _))).mono ?_
      rintro x w1 ⟨rfl, hb1⟩
      have ca1 := (CalAt.fresh w s e vr vh 48).all hb1
      have hw1 := below_step (w := w) (by repeat' (first | exact Below.refl _ _ | assumption | apply below_drewN | refine Below.setCell ?_ (by simp <;> omega) _ | refine Below.alloc ?_ (by simp <;> omega) _)) hb1
      clear hb1
      obtain ⟨k0, k1, k2, k3, _⟩ := id ca1
      go_wp2_with fail
      refine (within_true _ _ _ _ hd).mono ?_
      rintro x wx ⟨rfl, rfl⟩
      go_wp2_with fail
      refine (SO.out _ (by repeat' (first | exact Below.refl _ _ | assumption | apply below_drewN | refine Below.setCell ?_ (by simp <;> omega) _ | refine Below.alloc ?_ (by simp <;> omega) _))).mono ?_
      rintro x w2 ⟨rfl, hb2⟩
      have ca2 := ca1.all hb2
      have hw2 := below_step (w := w) (by repeat' (first | exact Below.refl _ _ | assumption | apply below_drewN | refine Below.setCell ?_ (by simp <;> omega) _ | refine Below.alloc ?_ (by simp <;> omega) _)) hb2
      clear hb2 ca1
      go_wp2
      go_ret2
      exact ⟨rfl, by assumption⟩
    · rw [if_neg hd, if_neg (by decide)]
      clear hr hh
      go_enter Tryd.func46, Tryd.ntmps46
      go_wp2_with fail
      refine (SV.out _ (by repeat' (first | exact Below.refl _ _ | assumption | apply below_drewN | refine Below.setCell ?_ (by simp <;> omega) _ | refine Below.alloc ?_ (by simp <;> omega) _))).mono ?_
      rintro x w1 ⟨rfl, hb1⟩
      have ca1 := (CalAt.fresh w s e vr vh 48).all hb1
      have hw1 := below_step (w := w) (by repeat' (first | exact Below.refl _ _ | assumption | apply below_drewN | refine Below.setCell ?_ (by simp <;> omega) _ | refine Below.alloc ?_ (by simp <;> omega) _)) hb1
      clear hb1
      go_wp2_with fail
      refine (within_false _ _ _ _ hd).mono ?_
      rintro x wx ⟨rfl, rfl⟩
      go_wp2
      go_ret2
      exact ⟨rfl, by assumption⟩
  · rw [if_neg hv, if_neg hv]
    generalize Cal.valE s e rs hs = v at *
    have hv' : (v == 0) = false := by simpa using hv
    clear hv hr hh
    go_enter Tryd.func46, Tryd.ntmps46
    go_wp2_with fail
    refine (SV.out _ (by repeat' (first | exact Below.refl _ _ | assumption | apply below_drewN | refine Below.setCell ?_ (by simp <;> omega) _ | refine Below.alloc ?_ (by simp <;> omega) _))).mono ?_
    rintro x w1 ⟨rfl, hb1⟩
    have ca1 := (CalAt.fresh w s e vr vh 48).all hb1
    have hw1 := below_step (w := w) (by repeat' (first | exact Below.refl _ _ | assumption | apply below_drewN | refine Below.setCell ?_ (by simp <;> omega) _ | refine Below.alloc ?_ (by simp <;> omega) _)) hb1
    clear hb1
    go_wp2
    go_ret2
    exact ⟨rfl, by assumption⟩
end Go.Proofs.YtfgignbmnfeikaaDoor
