/- After: the program's and the reference's answers. -/
import Derived.Test.YtmmmlcnclehilaaDoorWork1
namespace Go.Proofs.YtmmmlcnclehilaaDoor
open Go.RowKit

namespace Cal
/-- When so many minutes are over, looking at so many days from a day on: the time, and the error. -/
def aV (s e : Int) (rs hs : List Int) (x : Int) : Nat → Int → Int → Int
  | 0, _, _ => 0
  | n + 1, d, m => if dayV s e (openB rs hs d) d x 2880000 < m then aV s e rs hs x n (d + 1) (m - dayV s e (openB rs hs d) d x 2880000) else max (d * 1440 + s) x + m
def aE (s e : Int) (rs hs : List Int) (x : Int) : Nat → Int → Int → Int
  | 0, _, _ => 4
  | n + 1, d, m => if dayV s e (openB rs hs d) d x 2880000 < m then aE s e rs hs x n (d + 1) (m - dayV s e (openB rs hs d) d x 2880000) else 0
theorem a_hit {s e x d m : Int} {rs hs : List Int} (hd : d < 2000) (h : ¬ dayV s e (openB rs hs d) d x 2880000 < m) : aV s e rs hs x (2000 - d).toNat d m = max (d * 1440 + s) x + m ∧ aE s e rs hs x (2000 - d).toNat d m = 0 := by
  rw [show (2000 - d).toNat = (2000 - (d + 1)).toNat + 1 by omega]; simp only [aV, aE, if_neg h, and_self]
theorem a_miss {s e x d m : Int} {rs hs : List Int} (hd : d < 2000) (h : dayV s e (openB rs hs d) d x 2880000 < m) :
    aV s e rs hs x (2000 - d).toNat d m = aV s e rs hs x (2000 - (d + 1)).toNat (d + 1) (m - dayV s e (openB rs hs d) d x 2880000) ∧ aE s e rs hs x (2000 - d).toNat d m = aE s e rs hs x (2000 - (d + 1)).toNat (d + 1) (m - dayV s e (openB rs hs d) d x 2880000) := by
  rw [show (2000 - d).toNat = (2000 - (d + 1)).toNat + 1 by omega]; simp only [aV, aE, if_pos h, and_self]
theorem a_early {s e x m : Int} {rs hs : List Int} (h2 : e ≤ 1440) (hm : 1 ≤ m) : ∀ {k n : Nat} {d : Int}, (d + k) * 1440 ≤ x → aV s e rs hs x (k + n) d m = aV s e rs hs x n (d + k) m ∧ aE s e rs hs x (k + n) d m = aE s e rs hs x n (d + k) m
  | 0, n, d, _ => by simp
  | k + 1, n, d, h => by
    have h0 : dayV s e (openB rs hs d) d x 2880000 = 0 := dayV_early h2 (by push_cast at h; omega)
    have ih := a_early (s := s) (x := x) (rs := rs) (hs := hs) h2 hm (k := k) (n := n) (d := d + 1) (by push_cast at h; omega)
    rw [show k + 1 + n = (k + n) + 1 by omega, aV, aE, h0, if_pos (by omega), if_pos (by omega), show m - 0 = m by omega, ih.1, ih.2]
    rw [show d + 1 + (k : Int) = d + ((k + 1 : Nat) : Int) by push_cast; omega]
    exact ⟨rfl, rfl⟩
theorem a_start {s e x m : Int} {rs hs : List Int} (h2 : e ≤ 1440) (hm : 1 ≤ m) (x1 : 0 ≤ x) (x2 : x ≤ 2880000) : aV s e rs hs x (2000 - x / 1440).toNat (x / 1440) m = aV s e rs hs x 2000 0 m ∧ aE s e rs hs x (2000 - x / 1440).toNat (x / 1440) m = aE s e rs hs x 2000 0 m := by
  have := a_early (s := s) (x := x) (rs := rs) (hs := hs) h2 hm (k := (x / 1440).toNat) (n := (2000 - x / 1440).toNat) (d := 0) (by omega)
  rw [show (x / 1440).toNat + (2000 - x / 1440).toNat = 2000 by omega, show (0 : Int) + ((x / 1440).toNat : Int) = x / 1440 by omega] at this
  exact ⟨this.1.symm, this.2.symm⟩
/-- The program's look at a day. -/
theorem a_day {s e d x : Int} {o : Bool} (h : d < 2000) (_ : 0 ≤ d) (h2 : e ≤ 1440) : max 0 (opn e o d - max (opn s o d) x) = dayV s e o d x 2880000 ∧ (0 < dayV s e o d x 2880000 → max (opn s o d) x = max (d * 1440 + s) x ∧ opn e o d - max (opn s o d) x = dayV s e o d x 2880000) := by
  have hY : opn e o d ≤ 2880000 := by unfold opn; split <;> omega
  have h1 := dayV_num (s := s) (e := e) (d := d) (x := x) (y := 2880000) (o := o)
  rw [show min (opn e o d) 2880000 = opn e o d by omega] at h1
  refine ⟨h1, fun hp => ⟨?_, by omega⟩⟩
  cases o with
  | false => exact absurd hp (by show ¬ (0 : Int) < 0; decide)
  | true => rfl
def afV (s e : Int) (rs hs : List Int) (x m : Int) : Int := if valE s e rs hs = 0 then (if 0 ≤ x ∧ x ≤ 2880000 ∧ 0 ≤ m then (if m = 0 then x else aV s e rs hs x 2000 0 m) else 0) else 0
def afE (s e : Int) (rs hs : List Int) (x m : Int) : Int := if valE s e rs hs = 0 then (if 0 ≤ x ∧ x ≤ 2880000 ∧ 0 ≤ m then (if m = 0 then 0 else aE s e rs hs x 2000 0 m) else 1) else valE s e rs hs
end Cal

set_option maxRecDepth 20000 in
set_option maxHeartbeats 1000000 in
theorem numAfter_any (s e x m : Int) (vr vh : Value) (rs hs : List Int) (w : World) (hr : Ints w vr rs) (hh : Ints w vh hs) (lr : rs.length ≤ 1000) (lh : hs.length ≤ 1000)
    (s1 : -9223372036854775808 ≤ s) (s2 : s ≤ 9223372036854775807) (e1 : -9223372036854775808 ≤ e) (e2 : e ≤ 9223372036854775807) (x1 : -9223372036854775808 ≤ x) (x2 : x ≤ 9223372036854775807) (y1 : -9223372036854775808 ≤ m) (y2 : m ≤ 9223372036854775807) :
    Calls Tryd.prog 22 #[cal s e vr vh, .int .i64 x, .int .i64 m] w fun z w' => z = .returned (.tuple #[.int .i64 (Cal.afV s e rs hs x m), .int .i64 (Cal.afE s e rs hs x m)]) ∧ Below w.heap.size w w' := by
  obtain ⟨a', c', rfl⟩ := hh.form
  have SV := Lib.hid (fun W (hW : Below w.heap.size w W) => validate_any s e vr _ rs hs W (hr.all hW) (hh.all hW) lr lh s1 s2 e1 e2)
  unfold Cal.afE Cal.afV
  by_cases hv : Cal.valE s e rs hs = 0
  · rw [if_pos hv, if_pos hv]
    rw [hv] at SV
    by_cases hd : 0 ≤ x ∧ x ≤ 2880000 ∧ 0 ≤ m
    · rw [if_pos hd, if_pos hd]
      obtain ⟨h1, h2⟩ := Cal.valE_zero_sets hv
      obtain ⟨t1, t2, t3, t4⟩ := Cal.valE_zero_times hv
      obtain ⟨d1, d2, d3⟩ := hd
      clear hv
      by_cases hm : m = 0
      · subst hm
        rw [if_pos rfl, if_pos rfl]
        clear h1 h2 hr hh
        go_enter Tryd.func22, Tryd.ntmps22
        go_wp2_with fail
        refine (SV.out _ (by repeat' (first | exact Below.refl _ _ | assumption | apply below_drewN | refine Below.setCell ?_ (by simp <;> omega) _ | refine Below.alloc ?_ (by simp <;> omega) _))).mono ?_
        rintro x w1 ⟨rfl, hb1⟩
        have ca1 := (CalAt.fresh w s e vr _ 40).all hb1
        have hw1 := below_step (w := w) (by repeat' (first | exact Below.refl _ _ | assumption | apply below_drewN | refine Below.setCell ?_ (by simp <;> omega) _ | refine Below.alloc ?_ (by simp <;> omega) _)) hb1
        clear hb1
        go_wp2
        go_ret2
        exact ⟨rfl, by assumption⟩
      · rw [if_neg hm, if_neg hm]
        have SH := Lib.hid (fun W (hW : Below w.heap.size w W) => hoursOf_look s e vr _ rs hs W (hr.all hW) (hh.all hW) lr lh h1)
        have SI := Lib.hid (fun (D : Int) (x1 : 0 ≤ D) (x2 : D ≤ 100000) W (hW : Below w.heap.size w W) => of_any s e D _ rs hs W (hh.all hW) lh h2 x1 x2 t1 t2 t3 t4)
        clear h1 h2 hr hh
        have hm1 : 1 ≤ m := by omega
        have NV := Cal.a_start (s := s) (rs := rs) (hs := hs) t4 hm1 d1 d2
        generalize hnv : Cal.aV s e rs hs x 2000 0 m = nv at NV ⊢
        generalize hne : Cal.aE s e rs hs x 2000 0 m = ne at NV ⊢
        clear hnv hne
        have NV := Lib.hid NV
        have hmz : (m == 0) = false := by simpa using hm
        clear hm
        go_enter Tryd.func22, Tryd.ntmps22
        go_wp2_with fail
        refine (SV.out _ (by repeat' (first | exact Below.refl _ _ | assumption | apply below_drewN | refine Below.setCell ?_ (by simp <;> omega) _ | refine Below.alloc ?_ (by simp <;> omega) _))).mono ?_
        rintro x w1 ⟨rfl, hb1⟩
        have ca1 := (CalAt.fresh w s e vr _ 40).all hb1
        have hw1 := below_step (w := w) (by repeat' (first | exact Below.refl _ _ | assumption | apply below_drewN | refine Below.setCell ?_ (by simp <;> omega) _ | refine Below.alloc ?_ (by simp <;> omega) _)) hb1
        clear hb1
        obtain ⟨k0, k1, k2, k3, _⟩ := id ca1
        go_wp2_with fail
        refine (SH.out _ (by repeat' (first | exact Below.refl _ _ | assumption | apply below_drewN | refine Below.setCell ?_ (by simp <;> omega) _ | refine Below.alloc ?_ (by simp <;> omega) _))).mono ?_
        rintro x w2 ⟨rfl, hb2⟩
        have ca2 := ca1.all hb2
        have hw2 := below_step (w := w) (by repeat' (first | exact Below.refl _ _ | assumption | apply below_drewN | refine Below.setCell ?_ (by simp <;> omega) _ | refine Below.alloc ?_ (by simp <;> omega) _)) hb2
        clear hb2 ca1
        clear SV SH k0 k1 k2 k3 ca2
        have ha := HrsAt.fresh w2 s e (fun j => Cal.hasB rs j) (.slice a' hs.length c') 73
        have hw3 := hw2.alloc hw2.size (.cells #[.int .i64 s, .int .i64 e, .bool (Cal.hasB rs 0), .bool (Cal.hasB rs 1), .bool (Cal.hasB rs 2), .bool (Cal.hasB rs 3), .bool (Cal.hasB rs 4), .bool (Cal.hasB rs 5), .bool (Cal.hasB rs 6), .slice a' hs.length c'] 73)
        have HW := Lib.hid (And.intro ha hw3)
        clear ha hw3 hw1 hw2
        go_wp2_with fail
        clear hmz
        go_loopw [2, 10] (fun q t wr => ∃ (M D : Int), t = .int .i64 D ∧ q = .int .i64 M ∧ 0 ≤ D ∧ D ≤ 2000 ∧ 1 ≤ M ∧ M ≤ 9223372036854775807 ∧ Hid (Cal.aV s e rs hs x (2000 - D).toNat D M = nv ∧ Cal.aE s e rs hs x (2000 - D).toNat D M = ne) ∧ Hid (HrsAt wr w2.heap.size s e (fun j => Cal.hasB rs j) (.slice a' hs.length c') ∧ Below w.heap.size w wr)) (fun _ t _ => (2000 - intOf t).toNat)
        case atStart => exact ⟨m, x / 1440, rfl, rfl, by omega, by omega, by omega, by omega, NV, HW⟩
        case round =>
          obtain ⟨M, D, rfl, rfl, D1, D2, M1, M2, hg, HX⟩ := hrel
          clear NV HW
          by_cases hlt : D < 2000
          · obtain ⟨ha, hw⟩ := HX.out
            clear HX
            have S := SI.out D D1 (by omega) _ hw
            clear SI
            obtain ⟨b1, b2⟩ := Cal.opn_bounds (s := s) (d := D) (o := Cal.openB rs hs D) t1 t2
            obtain ⟨b3, b4⟩ := Cal.opn_bounds (s := e) (d := D) (o := Cal.openB rs hs D) t3 t4
            obtain ⟨GV, GP⟩ := Cal.a_day (s := s) (e := e) (d := D) (x := x) (o := Cal.openB rs hs D) hlt D1 t4
            obtain ⟨v1, v2⟩ := Cal.dayV_bounds (d := D) (x := x) (y := 2880000) (o := Cal.openB rs hs D) t1 t4
            by_cases hmiss : Cal.dayV s e (Cal.openB rs hs D) D x 2880000 < M
            · have G := Lib.hid (Cal.a_miss (s := s) (e := e) (x := x) (rs := rs) (hs := hs) hlt hmiss)
              generalize Cal.dayV s e (Cal.openB rs hs D) D x 2880000 = v at *
              generalize Cal.opn s (Cal.openB rs hs D) D = op at *
              generalize Cal.opn e (Cal.openB rs hs D) D = cl at *
              have S := Lib.hid S
              have HG := Lib.hid GV
              have hno : ¬ (M ≤ cl - max op x) := by omega
              clear GV GP
              obtain ⟨c0, c1, c2, c3, c4, c5, c6, c7, c8, c9, _⟩ := id ha
              go_wp2_with fail
              refine S.out.mono ?_
              rintro q w4 ⟨rfl, hb4⟩
              have hw4 := below_step hw hb4
              have ha4 := ha.all hb4
              have HX := Lib.hid (And.intro ha4 hw4)
              clear hb4 hw ha hw4 ha4 c0 c1 c2 c3 c4 c5 c6 c7 c8 c9
              go_wp2
              rw [HG.out]
              refine ⟨⟨M - v, D + 1, rfl, rfl, by omega, by omega, by omega, by omega, Lib.hid ?_, HX⟩, by simp [intOf]; omega⟩
              exact ⟨by rw [← G.out.1]; exact hg.out.1, by rw [← G.out.2]; exact hg.out.2⟩
            · have G := Lib.hid (Cal.a_hit (s := s) (e := e) (x := x) (rs := rs) (hs := hs) hlt hmiss)
              generalize Cal.dayV s e (Cal.openB rs hs D) D x 2880000 = v at *
              generalize Cal.opn s (Cal.openB rs hs D) D = op at *
              generalize Cal.opn e (Cal.openB rs hs D) D = cl at *
              have S := Lib.hid S
              obtain ⟨g1, g2⟩ := GP (by omega)
              have hyes : M ≤ cl - max op x := by omega
              have HG := Lib.hid g1
              clear GV GP g1 g2
              obtain ⟨c0, c1, c2, c3, c4, c5, c6, c7, c8, c9, _⟩ := id ha
              go_wp2_with fail
              refine S.out.mono ?_
              rintro q w4 ⟨rfl, hb4⟩
              have hw4 := below_step hw hb4
              clear hb4 hw ha c0 c1 c2 c3 c4 c5 c6 c7 c8 c9
              go_wp2
              go_ret2
              exact ⟨by rw [← hg.out.1, ← hg.out.2, G.out.1, G.out.2, ← HG.out]; rfl, hw4⟩
          · obtain ⟨ha, hw⟩ := HX.out
            clear HX SI
            obtain rfl : D = 2000 := by omega
            go_wp2
            go_ret2
            exact ⟨by rw [← hg.out.1, ← hg.out.2]; rfl, hw⟩
    · rw [if_neg hd, if_neg hd]
      clear hr hh hv
      have hcs : x < 0 ∨ (0 ≤ x ∧ 2880000 < x) ∨ (0 ≤ x ∧ x ≤ 2880000 ∧ m < 0) := by omega
      clear hd
      rcases hcs with k | ⟨k, k'⟩ | ⟨k, k', k''⟩
      all_goals
        go_enter Tryd.func22, Tryd.ntmps22
        go_wp2_with fail
        refine (SV.out _ (by repeat' (first | exact Below.refl _ _ | assumption | apply below_drewN | refine Below.setCell ?_ (by simp <;> omega) _ | refine Below.alloc ?_ (by simp <;> omega) _))).mono ?_
        rintro x w1 ⟨rfl, hb1⟩
        have ca1 := (CalAt.fresh w s e vr _ 40).all hb1
        have hw1 := below_step (w := w) (by repeat' (first | exact Below.refl _ _ | assumption | apply below_drewN | refine Below.setCell ?_ (by simp <;> omega) _ | refine Below.alloc ?_ (by simp <;> omega) _)) hb1
        clear hb1
        go_wp2
        go_ret2
        exact ⟨rfl, by assumption⟩
  · rw [if_neg hv, if_neg hv]
    generalize Cal.valE s e rs hs = v at *
    have hv' : (v == 0) = false := by simpa using hv
    clear hv hr hh
    go_enter Tryd.func22, Tryd.ntmps22
    go_wp2_with fail
    refine (SV.out _ (by repeat' (first | exact Below.refl _ _ | assumption | apply below_drewN | refine Below.setCell ?_ (by simp <;> omega) _ | refine Below.alloc ?_ (by simp <;> omega) _))).mono ?_
    rintro x w1 ⟨rfl, hb1⟩
    have ca1 := (CalAt.fresh w s e vr _ 40).all hb1
    have hw1 := below_step (w := w) (by repeat' (first | exact Below.refl _ _ | assumption | apply below_drewN | refine Below.setCell ?_ (by simp <;> omega) _ | refine Below.alloc ?_ (by simp <;> omega) _)) hb1
    clear hb1
    go_wp2
    go_ret2
    exact ⟨rfl, by assumption⟩

end Go.Proofs.YtmmmlcnclehilaaDoor
