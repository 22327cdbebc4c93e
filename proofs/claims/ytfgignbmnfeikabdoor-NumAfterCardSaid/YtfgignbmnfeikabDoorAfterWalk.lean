/- NumAfter returns true, whatever the calendar the time and the minutes. -/
import Derived.Test.YtfgignbmnfeikabDoorAfter
import Derived.Test.YtfgignbmnfeikabDoorCalendarsWalk
namespace Go.Proofs.YtfgignbmnfeikabDoor
open Go.RowKit

set_option maxRecDepth 20000 in
set_option maxHeartbeats 1000000 in
theorem after_walk (s e x y : Int) (vr vh : Value) (rs hs : List Int) (w : World) (hr : Ints w vr rs) (hh : Ints w vh hs)
    (s1 : -9223372036854775808 ≤ s) (s2 : s ≤ 9223372036854775807) (e1 : -9223372036854775808 ≤ e) (e2 : e ≤ 9223372036854775807) (x1 : -9223372036854775808 ≤ x) (x2 : x ≤ 9223372036854775807) (y1 : -9223372036854775808 ≤ y) (y2 : y ≤ 9223372036854775807) :
    Calls Tryd.prog 3 #[cal s e vr vh, .int .i64 x, .int .i64 y] w fun x w' => x = .returned (.bool true) ∧ Below w.heap.size w w' := by
  obtain ⟨a, c, rfl⟩ := hr.form
  obtain ⟨a', c', rfl⟩ := hh.form
  by_cases hm : 100 < rs.length ∨ 200 < hs.length
  · clear hr hh
    go_enter Tryd.func3, Tryd.ntmps3
    go_wp2_with fail
    refine (many_yes _ _ _ _ _ _ _ _ _ hm).mono ?_
    rintro z w1 ⟨rfl, hb1⟩
    have hw1 := below_step (w := w) (by repeat' (first | exact Below.refl _ _ | assumption | apply below_drewN | refine Below.setCell ?_ (by simp <;> omega) _ | refine Below.alloc ?_ (by simp <;> omega) _)) hb1
    clear hb1
    go_wp2_with fail
    refine (known_any _).mono ?_
    rintro z w2 ⟨rfl, hb2⟩
    go_wp2
    go_ret
    exact ⟨rfl, below_step hw1 hb2⟩
  · have lr : rs.length ≤ 1000 := by omega
    have lh : hs.length ≤ 1000 := by omega
    have NI := Lib.hid (fun W (hW : Below w.heap.size w W) => numAfter_any s e x y _ _ rs hs W (hr.all hW) (hh.all hW) lr lh s1 s2 e1 e2 x1 x2 y1 y2)
    have RI := Lib.hid (fun W (hW : Below w.heap.size w W) => refAfter_any s e x y _ _ rs hs W (hr.all hW) (hh.all hW) lr lh s1 s2 e1 e2 x1 x2 y1 y2)
    clear hr hh
    generalize Cal.afV s e rs hs x y = o at *
    generalize Cal.afE s e rs hs x y = v at *
    go_enter Tryd.func3, Tryd.ntmps3
    go_wp2_with fail
    refine (many_no _ _ _ _ _ _ _ _ _ hm).mono ?_
    rintro x w1 ⟨rfl, hb1⟩
    have ca1 := (CalAt.fresh w s e _ _ 24).all hb1
    have hw1 := below_step (w := w) (by repeat' (first | exact Below.refl _ _ | assumption | apply below_drewN | refine Below.setCell ?_ (by simp <;> omega) _ | refine Below.alloc ?_ (by simp <;> omega) _)) hb1
    clear hb1
    obtain ⟨k0, k1, k2, k3, _⟩ := id ca1
    go_wp2_with fail
    refine (NI.out _ hw1).mono ?_
    rintro x w2 ⟨rfl, hb2⟩
    have ca2 := ca1.all hb2
    have hw2 := below_step hw1 hb2
    clear hb2 hw1 ca1 k0 k1 k2 k3
    obtain ⟨k0, k1, k2, k3, _⟩ := id ca2
    go_wp2_with fail
    refine (RI.out _ hw2).mono ?_
    rintro x w3 ⟨rfl, hb3⟩
    have ca3 := ca2.all hb3
    have hw3 := below_step hw2 hb3
    clear hb3 hw2 ca2 k0 k1 k2 k3
    obtain ⟨k0, k1, k2, k3, _⟩ := id ca3
    clear k0 k1 k2 k3
    go_wp2_with fail
    refine (known_any _).mono ?_
    rintro z w4 ⟨rfl, hb4⟩
    go_wp2
    go_ret
    exact ⟨rfl, below_step hw3 hb4⟩
end Go.Proofs.YtfgignbmnfeikabDoor
