/- Working: the program's and the reference's answers. -/
import Derived.Test.YtmmmlcnclehilaaDoorWork1
namespace Go.Proofs.YtmmmlcnclehilaaDoor
open Go.RowKit

namespace Cal
def wE (s e : Int) (rs hs : List Int) (x y : Int) : Int := if valE s e rs hs = 0 then (if 0 ≤ x ∧ x ≤ y ∧ y ≤ 2880000 then 0 else 1) else valE s e rs hs
def wV (s e : Int) (rs hs : List Int) (x y : Int) : Int := if valE s e rs hs = 0 then (if 0 ≤ x ∧ x ≤ y ∧ y ≤ 2880000 then sumV s e rs hs x y 2000 0 else 0) else 0
theorem sum_start {s e x y : Int} {rs hs : List Int} (h2 : e ≤ 1440) (x1 : 0 ≤ x) (x2 : x ≤ 2880000) : 0 + sumV s e rs hs x y (2000 - x / 1440).toNat (x / 1440) = sumV s e rs hs x y 2000 0 := by
  have := sumV_early (s := s) (x := x) (y := y) (rs := rs) (hs := hs) h2 (k := (x / 1440).toNat) (n := (2000 - x / 1440).toNat) (d := 0) (by omega)
  rw [show (x / 1440).toNat + (2000 - x / 1440).toNat = 2000 by omega, show (0 : Int) + ((x / 1440).toNat : Int) = x / 1440 by omega] at this
  omega
end Cal

set_option maxRecDepth 20000 in
set_option maxHeartbeats 1000000 in
theorem numWorking_any (s e x y : Int) (vr vh : Value) (rs hs : List Int) (w : World) (hr : Ints w vr rs) (hh : Ints w vh hs) (lr : rs.length ≤ 1000) (lh : hs.length ≤ 1000)
    (s1 : -9223372036854775808 ≤ s) (s2 : s ≤ 9223372036854775807) (e1 : -9223372036854775808 ≤ e) (e2 : e ≤ 9223372036854775807) (x1 : -9223372036854775808 ≤ x) (x2 : x ≤ 9223372036854775807) (y1 : -9223372036854775808 ≤ y) (y2 : y ≤ 9223372036854775807) :
    Calls Tryd.prog 21 #[cal s e vr vh, .int .i64 x, .int .i64 y] w fun z w' => z = .returned (.tuple #[.int .i64 (Cal.wV s e rs hs x y), .int .i64 (Cal.wE s e rs hs x y)]) ∧ Below w.heap.size w w' := by
  obtain ⟨a', c', rfl⟩ := hh.form
  have SV := Lib.hid (fun W (hW : Below w.heap.size w W) => validate_any s e vr _ rs hs W (hr.all hW) (hh.all hW) lr lh s1 s2 e1 e2)
  unfold Cal.wE Cal.wV
  by_cases hv : Cal.valE s e rs hs = 0
  · rw [if_pos hv, if_pos hv]
    rw [hv] at SV
    by_cases hd : 0 ≤ x ∧ x ≤ y ∧ y ≤ 2880000
    · rw [if_pos hd, if_pos hd]
      obtain ⟨h1, h2⟩ := Cal.valE_zero_sets hv
      obtain ⟨t1, t2, t3, t4⟩ := Cal.valE_zero_times hv
      obtain ⟨d1, d2, d3⟩ := hd
      clear hv
      have SH := Lib.hid (fun W (hW : Below w.heap.size w W) => hoursOf_look s e vr _ rs hs W (hr.all hW) (hh.all hW) lr lh h1)
      have SI := Lib.hid (fun (D : Int) (x1 : 0 ≤ D) (x2 : D ≤ 100000) W (hW : Below w.heap.size w W) => of_any s e D _ rs hs W (hh.all hW) lh h2 x1 x2 t1 t2 t3 t4)
      clear h1 h2 hr hh
      have NV := Lib.hid (Cal.sum_start (s := s) (y := y) (rs := rs) (hs := hs) t4 d1 (by omega))
      generalize hnv : Cal.sumV s e rs hs x y 2000 0 = nv at NV ⊢
      clear hnv
      go_enter Tryd.func21, Tryd.ntmps21
      go_wp2_with fail
      refine (SV.out _ (by repeat' (first | exact Below.refl _ _ | assumption | apply below_drewN | refine Below.setCell ?_ (by simp <;> omega) _ | refine Below.alloc ?_ (by simp <;> omega) _))).mono ?_
      rintro x w1 ⟨rfl, hb1⟩
      have ca1 := (CalAt.fresh w s e vr _ 40).all hb1
      have hw1 := below_step (w := w) (by repeat' (first | exact Below.refl _ _ | assumption | apply below_drewN | refine Below.setCell ?_ (by simp <;> omega) _ | refine Below.alloc ?_ (by simp <;> omega) _)) hb1
      clear hb1
      obtain ⟨k0, k1, k2, k3, _⟩ := id ca1
      go_wp2_with fail
      refine (SH.out _ (by repeat' (first | exact Below.refl _ _ | assumption | apply below_drewN | refine Below.setCell ?_ (by simp <;> omega) _ | refine Below.alloc ?_ (by simp <;> omega) _))).mono ?_
      rintro x w2 ⟨rfl, hb2⟩
      have ca2 := ca1.all hb2
      have hw2 := below_step (w := w) (by repeat' (first | exact Below.refl _ _ | assumption | apply below_drewN | refine Below.setCell ?_ (by simp <;> omega) _ | refine Below.alloc ?_ (by simp <;> omega) _)) hb2
      clear hb2 ca1
      clear SV SH k0 k1 k2 k3 ca2
      have ha := HrsAt.fresh w2 s e (fun j => Cal.hasB rs j) (.slice a' hs.length c') 73
      have hw3 := hw2.alloc hw2.size (.cells #[.int .i64 s, .int .i64 e, .bool (Cal.hasB rs 0), .bool (Cal.hasB rs 1), .bool (Cal.hasB rs 2), .bool (Cal.hasB rs 3), .bool (Cal.hasB rs 4), .bool (Cal.hasB rs 5), .bool (Cal.hasB rs 6), .slice a' hs.length c'] 73)
      have HW := Lib.hid (And.intro ha hw3)
      clear ha hw3 hw1 hw2
      go_wp2_with fail
      go_loopw [10, 11] (fun m t wr => ∃ (M D : Int), t = .int .i64 D ∧ m = .int .i64 M ∧ 0 ≤ D ∧ D ≤ 2000 ∧ 0 ≤ M ∧ M ≤ 1440 * D ∧ Hid (M + Cal.sumV s e rs hs x y (2000 - D).toNat D = nv) ∧ Hid (HrsAt wr w2.heap.size s e (fun j => Cal.hasB rs j) (.slice a' hs.length c') ∧ Below w.heap.size w wr)) (fun _ t _ => (2000 - intOf t).toNat)
      case atStart => exact ⟨0, x / 1440, rfl, rfl, by omega, by omega, by omega, by omega, NV, HW⟩
      case round =>
        obtain ⟨M, D, rfl, rfl, D1, D2, M1, M2, hg, HX⟩ := hrel
        clear NV HW
        by_cases hlt : D * 1440 < y
        · obtain ⟨ha, hw⟩ := HX.out
          clear HX
          have S := SI.out D D1 (by omega) _ hw
          clear SI
          have G := Lib.hid (Cal.sumV_step (s := s) (e := e) (x := x) (y := y) (rs := rs) (hs := hs) (d := D) (by omega))
          obtain ⟨b1, b2⟩ := Cal.opn_bounds (s := s) (d := D) (o := Cal.openB rs hs D) t1 t2
          obtain ⟨b3, b4⟩ := Cal.opn_bounds (s := e) (d := D) (o := Cal.openB rs hs D) t3 t4
          have GV := Lib.hid (Cal.dayV_num (s := s) (e := e) (d := D) (x := x) (y := y) (o := Cal.openB rs hs D))
          obtain ⟨v1, v2⟩ := Cal.dayV_bounds (d := D) (x := x) (y := y) (o := Cal.openB rs hs D) t1 t4
          generalize Cal.dayV s e (Cal.openB rs hs D) D x y = v at *
          generalize Cal.opn s (Cal.openB rs hs D) D = op at *
          generalize Cal.opn e (Cal.openB rs hs D) D = cl at *
          have S := Lib.hid S
          obtain ⟨c0, c1, c2, c3, c4, c5, c6, c7, c8, c9, _⟩ := id ha
          go_wp2_with fail
          refine S.out.mono ?_
          rintro q w4 ⟨rfl, hb4⟩
          have hw4 := below_step hw hb4
          have ha4 := ha.all hb4
          have HX := Lib.hid (And.intro ha4 hw4)
          clear hb4 hw ha hw4 ha4 c0 c1 c2 c3 c4 c5 c6 c7 c8 c9
          go_wp2
          rw [GV.out]
          refine ⟨⟨M + v, D + 1, rfl, rfl, by omega, by omega, by omega, by omega, Lib.hid ?_, HX⟩, by simp [intOf]; omega⟩
          rw [← hg.out, G.out]; omega
        · obtain ⟨ha, hw⟩ := HX.out
          clear HX SI
          have hz : Cal.sumV s e rs hs x y (2000 - D).toNat D = 0 := Cal.sumV_late t1 (by omega)
          have hM : M = nv := by rw [← hg.out, hz]; omega
          subst hM
          clear hz
          go_wp2
          go_ret2
          exact ⟨rfl, hw⟩
    · rw [if_neg hd, if_neg hd]
      clear hr hh hv
      have hcs : x < 0 ∨ (0 ≤ x ∧ y < x) ∨ (0 ≤ x ∧ x ≤ y ∧ 2880000 < y) := by omega
      clear hd
      rcases hcs with k | ⟨k, k'⟩ | ⟨k, k', k''⟩
      all_goals
        go_enter Tryd.func21, Tryd.ntmps21
        go_wp2_with fail
        refine (SV.out _ (by repeat' (first | exact Below.refl _ _ | assumption | apply below_drewN | refine Below.setCell ?_ (by simp <;> omega) _ | refine Below.alloc ?_ (by simp <;> omega) _))).mono ?_
        rintro x w1 ⟨rfl, hb1⟩
        have ca1 := (CalAt.fresh w s e vr _ 40).all hb1
        have hw1 := below_step (w := w) (by repeat' (first | exact Below.refl _ _ | assumption | apply below_drewN | refine Below.setCell ?_ (by simp <;> omega) _ | refine Below.alloc ?_ (by simp <;> omega) _)) hb1
        clear hb1
        go_wp2
        go_ret2
        exact ⟨rfl, by assumption⟩
  · rw [if_neg hv, if_neg hv]
    generalize Cal.valE s e rs hs = v at *
    have hv' : (v == 0) = false := by simpa using hv
    clear hv hr hh
    go_enter Tryd.func21, Tryd.ntmps21
    go_wp2_with fail
    refine (SV.out _ (by repeat' (first | exact Below.refl _ _ | assumption | apply below_drewN | refine Below.setCell ?_ (by simp <;> omega) _ | refine Below.alloc ?_ (by simp <;> omega) _))).mono ?_
    rintro x w1 ⟨rfl, hb1⟩
    have ca1 := (CalAt.fresh w s e vr _ 40).all hb1
    have hw1 := below_step (w := w) (by repeat' (first | exact Below.refl _ _ | assumption | apply below_drewN | refine Below.setCell ?_ (by simp <;> omega) _ | refine Below.alloc ?_ (by simp <;> omega) _)) hb1
    clear hb1
    go_wp2
    go_ret2
    exact ⟨rfl, by assumption⟩

end Go.Proofs.YtmmmlcnclehilaaDoor
