/- NextOpen: the program's and the reference's answers. -/
import Derived.Test.YtfgignbmnfeikaaDoorCal6
namespace Go.Proofs.YtfgignbmnfeikaaDoor
open Go.RowKit

namespace Cal
/-- The next day on which the works is open, of so many days from a day on. -/
def nxV (rs hs : List Int) : Nat → Int → Int
  | 0, _ => 0
  | n + 1, d => if openB rs hs d = true then d else nxV rs hs n (d + 1)
def nxE (rs hs : List Int) : Nat → Int → Int
  | 0, _ => 4
  | n + 1, d => if openB rs hs d = true then 0 else nxE rs hs n (d + 1)
theorem nx_hit {rs hs : List Int} {d : Int} (hd : d < 2000) (h : openB rs hs d = true) : nxV rs hs (2000 - d).toNat d = d ∧ nxE rs hs (2000 - d).toNat d = 0 := by
  obtain ⟨n, hn⟩ : ∃ n, (2000 - d).toNat = n + 1 := ⟨(2000 - d).toNat - 1, by omega⟩
  rw [hn]; simp [nxV, nxE, h]
theorem nx_miss {rs hs : List Int} {d : Int} (hd : d < 2000) (h : openB rs hs d = false) : nxV rs hs (2000 - d).toNat d = nxV rs hs (2000 - (d + 1)).toNat (d + 1) ∧ nxE rs hs (2000 - d).toNat d = nxE rs hs (2000 - (d + 1)).toNat (d + 1) := by
  rw [show (2000 - d).toNat = (2000 - (d + 1)).toNat + 1 by omega]; simp [nxV, nxE, h]
def nexV (s e : Int) (rs hs : List Int) (d : Int) : Int := if valD s e rs hs d = 0 then nxV rs hs (2000 - d).toNat d else 0
def nexE (s e : Int) (rs hs : List Int) (d : Int) : Int := if valD s e rs hs d = 0 then nxE rs hs (2000 - d).toNat d else valD s e rs hs d
end Cal

/-- The hours of a calendar that lie in memory. -/
def HrsAt (w : World) (b : Nat) (s e : Int) (f : Nat → Bool) (vh : Value) : Prop :=
  w.cell? ⟨b, 0, none⟩ = some (.int .i64 s) ∧ w.cell? ⟨b, 1, none⟩ = some (.int .i64 e) ∧ w.cell? ⟨b, 2, none⟩ = some (.bool (f 0)) ∧ w.cell? ⟨b, 3, none⟩ = some (.bool (f 1)) ∧ w.cell? ⟨b, 4, none⟩ = some (.bool (f 2)) ∧ w.cell? ⟨b, 5, none⟩ = some (.bool (f 3)) ∧ w.cell? ⟨b, 6, none⟩ = some (.bool (f 4)) ∧ w.cell? ⟨b, 7, none⟩ = some (.bool (f 5)) ∧ w.cell? ⟨b, 8, none⟩ = some (.bool (f 6)) ∧ w.cell? ⟨b, 9, none⟩ = some vh ∧ b < w.heap.size
theorem HrsAt.all {w w2 : World} {b : Nat} {s e : Int} {f : Nat → Bool} {vh : Value} (h : HrsAt w b s e f vh) (hb : Below w.heap.size w w2) : HrsAt w2 b s e f vh := by
  obtain ⟨h0, h1, h2, h3, h4, h5, h6, h7, h8, h9, hz⟩ := h
  exact ⟨(hb.cell (p := ⟨b, 0, none⟩) hz).trans h0, (hb.cell (p := ⟨b, 1, none⟩) hz).trans h1, (hb.cell (p := ⟨b, 2, none⟩) hz).trans h2, (hb.cell (p := ⟨b, 3, none⟩) hz).trans h3, (hb.cell (p := ⟨b, 4, none⟩) hz).trans h4, (hb.cell (p := ⟨b, 5, none⟩) hz).trans h5, (hb.cell (p := ⟨b, 6, none⟩) hz).trans h6, (hb.cell (p := ⟨b, 7, none⟩) hz).trans h7, (hb.cell (p := ⟨b, 8, none⟩) hz).trans h8, (hb.cell (p := ⟨b, 9, none⟩) hz).trans h9, Nat.lt_of_lt_of_le hz hb.size⟩
theorem HrsAt.fresh (w : World) (s e : Int) (f : Nat → Bool) (vh : Value) (t : TypeId) : HrsAt (w.alloc (.cells #[.int .i64 s, .int .i64 e, .bool (f 0), .bool (f 1), .bool (f 2), .bool (f 3), .bool (f 4), .bool (f 5), .bool (f 6), vh] t)) w.heap.size s e f vh :=
  ⟨by simp, by simp, by simp, by simp, by simp, by simp, by simp, by simp, by simp, by simp, by simp⟩

set_option maxRecDepth 20000 in
set_option maxHeartbeats 1000000 in
theorem numNextOpen_any (s e d : Int) (vr vh : Value) (rs hs : List Int) (w : World) (hr : Ints w vr rs) (hh : Ints w vh hs) (lr : rs.length ≤ 1000) (lh : hs.length ≤ 1000)
    (s1 : -9223372036854775808 ≤ s) (s2 : s ≤ 9223372036854775807) (e1 : -9223372036854775808 ≤ e) (e2 : e ≤ 9223372036854775807) (hd1 : -9223372036854775808 ≤ d) (hd2 : d ≤ 9223372036854775807) :
    Calls Tryd.prog 47 #[cal s e vr vh, .int .i64 d] w fun x w' => x = .returned (.tuple #[.int .i64 (Cal.nexV s e rs hs d), .int .i64 (Cal.nexE s e rs hs d)]) ∧ Below w.heap.size w w' := by
  obtain ⟨a', c', rfl⟩ := hh.form
  have SV := Lib.hid (fun W (hW : Below w.heap.size w W) => validateDay_any s e d vr _ rs hs W (hr.all hW) (hh.all hW) lr lh s1 s2 e1 e2 hd1 hd2)
  unfold Cal.nexV Cal.nexE
  by_cases hv : Cal.valD s e rs hs d = 0
  · rw [if_pos hv, if_pos hv]
    rw [hv] at SV
    obtain ⟨h0, d1, d2⟩ := Cal.valD_zero hv
    obtain ⟨h1, h2⟩ := Cal.valE_zero_sets h0
    clear hv h0
    have SH := Lib.hid (fun W (hW : Below w.heap.size w W) => hoursOf_look s e vr _ rs hs W (hr.all hW) (hh.all hW) lr lh h1)
    have SI := Lib.hid (fun (x : Int) (x1 : 0 ≤ x) (x2 : x ≤ 100000) W (hW : Below w.heap.size w W) => isOpen_rest s e x _ rs hs W (hh.all hW) lh h2 x1 x2)
    clear h1 h2 hr hh
    generalize hnv : Cal.nxV rs hs (2000 - d).toNat d = nv
    generalize hne : Cal.nxE rs hs (2000 - d).toNat d = ne
    have NV := Lib.hid (And.intro hnv hne)
    clear hnv hne
    go_enter Tryd.func47, Tryd.ntmps47
    go_wp2_with fail
    refine (SV.out _ (by repeat' (first | exact Below.refl _ _ | assumption | apply below_drewN | refine Below.setCell ?_ (by simp <;> omega) _ | refine Below.alloc ?_ (by simp <;> omega) _))).mono ?_
    rintro x w1 ⟨rfl, hb1⟩
    have ca1 := (CalAt.fresh w s e vr _ 48).all hb1
    have hw1 := below_step (w := w) (by repeat' (first | exact Below.refl _ _ | assumption | apply below_drewN | refine Below.setCell ?_ (by simp <;> omega) _ | refine Below.alloc ?_ (by simp <;> omega) _)) hb1
    clear hb1
    obtain ⟨k0, k1, k2, k3, _⟩ := id ca1
    go_wp2_with fail
    refine (SH.out _ (by repeat' (first | exact Below.refl _ _ | assumption | apply below_drewN | refine Below.setCell ?_ (by simp <;> omega) _ | refine Below.alloc ?_ (by simp <;> omega) _))).mono ?_
    rintro x w2 ⟨rfl, hb2⟩
    have ca2 := ca1.all hb2
    have hw2 := below_step (w := w) (by repeat' (first | exact Below.refl _ _ | assumption | apply below_drewN | refine Below.setCell ?_ (by simp <;> omega) _ | refine Below.alloc ?_ (by simp <;> omega) _)) hb2
    clear hb2 ca1
    clear SV SH k0 k1 k2 k3
    have ha := HrsAt.fresh w2 s e (fun j => Cal.hasB rs j) (.slice a' hs.length c') 90
    have hw3 := hw2.alloc hw2.size (.cells #[.int .i64 s, .int .i64 e, .bool (Cal.hasB rs 0), .bool (Cal.hasB rs 1), .bool (Cal.hasB rs 2), .bool (Cal.hasB rs 3), .bool (Cal.hasB rs 4), .bool (Cal.hasB rs 5), .bool (Cal.hasB rs 6), .slice a' hs.length c'] 90)
    have HW := Lib.hid (And.intro ha hw3)
    clear ha hw3
    go_wp2_with fail
    go_loopw [1] (fun t wr => ∃ x : Int, t = .int .i64 x ∧ d ≤ x ∧ x ≤ 2000 ∧ Hid (Cal.nxV rs hs (2000 - x).toNat x = nv ∧ Cal.nxE rs hs (2000 - x).toNat x = ne) ∧ Hid (HrsAt wr w2.heap.size s e (fun j => Cal.hasB rs j) (.slice a' hs.length c') ∧ Below w.heap.size w wr)) (fun t _ => (2000 - intOf t).toNat)
    case atStart => exact ⟨d, rfl, by omega, by omega, NV, HW⟩
    case round =>
      obtain ⟨x, rfl, x1, x2, hg, HX⟩ := hrel
      clear NV HW
      by_cases hlt : x < 2000
      · obtain ⟨ha, hw⟩ := HX.out
        clear HX
        have S := SI.out x (by omega) (by omega) _ hw
        clear SI
        by_cases k : Cal.openB rs hs x = true
        · rw [k] at S
          have S := Lib.hid S
          have G := Lib.hid (Cal.nx_hit hlt k)
          clear k
          obtain ⟨c0, c1, c2, c3, c4, c5, c6, c7, c8, c9, _⟩ := id ha
          go_wp2_with fail
          refine S.out.mono ?_
          rintro y w4 ⟨rfl, hb4⟩
          have hw4 := below_step hw hb4
          clear hb4 hw
          go_wp2
          go_ret2
          exact ⟨by rw [← hg.out.1, ← hg.out.2, G.out.1, G.out.2]; rfl, hw4⟩
        · have k' : Cal.openB rs hs x = false := by simpa using k
          rw [k'] at S
          have S := Lib.hid S
          have G := Lib.hid (Cal.nx_miss hlt k')
          clear k k'
          obtain ⟨c0, c1, c2, c3, c4, c5, c6, c7, c8, c9, _⟩ := id ha
          go_wp2_with fail
          refine S.out.mono ?_
          rintro y w4 ⟨rfl, hb4⟩
          have hw4 := below_step hw hb4
          have ha4 := ha.all hb4
          have HX := Lib.hid (And.intro ha4 hw4)
          clear hb4 hw ha hw4 ha4 c0 c1 c2 c3 c4 c5 c6 c7 c8 c9
          go_wp2
          go_roundw
          case rel => exact ⟨x + 1, by go_num, by omega, by omega, Lib.hid ⟨by rw [← G.out.1]; exact hg.out.1, by rw [← G.out.2]; exact hg.out.2⟩, HX⟩
          case measure => simp [intOf]; omega
      · obtain rfl : x = 2000 := by omega
        obtain ⟨ha, hw⟩ := HX.out
        clear HX SI
        go_wp2
        go_ret2
        exact ⟨by rw [← hg.out.1, ← hg.out.2]; rfl, hw⟩
  · rw [if_neg hv, if_neg hv]
    generalize Cal.valD s e rs hs d = v at *
    have hv' : (v == 0) = false := by simpa using hv
    clear hv hr hh
    go_enter Tryd.func47, Tryd.ntmps47
    go_wp2_with fail
    refine (SV.out _ (by repeat' (first | exact Below.refl _ _ | assumption | apply below_drewN | refine Below.setCell ?_ (by simp <;> omega) _ | refine Below.alloc ?_ (by simp <;> omega) _))).mono ?_
    rintro x w1 ⟨rfl, hb1⟩
    have ca1 := (CalAt.fresh w s e vr _ 48).all hb1
    have hw1 := below_step (w := w) (by repeat' (first | exact Below.refl _ _ | assumption | apply below_drewN | refine Below.setCell ?_ (by simp <;> omega) _ | refine Below.alloc ?_ (by simp <;> omega) _)) hb1
    clear hb1
    go_wp2
    go_ret2
    exact ⟨rfl, by assumption⟩

set_option maxRecDepth 20000 in
set_option maxHeartbeats 1000000 in
theorem refNextOpen_any (s e d : Int) (vr vh : Value) (rs hs : List Int) (w : World) (hr : Ints w vr rs) (hh : Ints w vh hs) (lr : rs.length ≤ 1000) (lh : hs.length ≤ 1000)
    (s1 : -9223372036854775808 ≤ s) (s2 : s ≤ 9223372036854775807) (e1 : -9223372036854775808 ≤ e) (e2 : e ≤ 9223372036854775807) (hd1 : -9223372036854775808 ≤ d) (hd2 : d ≤ 9223372036854775807) :
    Calls Tryd.prog 48 #[cal s e vr vh, .int .i64 d] w fun x w' => x = .returned (.tuple #[.int .i64 (Cal.nexV s e rs hs d), .int .i64 (Cal.nexE s e rs hs d)]) ∧ Below w.heap.size w w' := by
  have SV := Lib.hid (fun W (hW : Below w.heap.size w W) => ref_validate_any s e vr vh rs hs W (hr.all hW) (hh.all hW) lr lh s1 s2 e1 e2)
  unfold Cal.nexV Cal.nexE Cal.valD
  by_cases hv : Cal.valE s e rs hs = 0
  · rw [if_pos hv]
    rw [hv] at SV
    by_cases hd : 0 ≤ d ∧ d ≤ 1999
    · rw [if_pos hd, if_pos rfl, if_pos rfl]
      have SI := Lib.hid (fun (x : Int) (x1 : 0 ≤ x) (x2 : x ≤ 100000) W (hW : Below w.heap.size w W) => refOpen_any s e x vr vh rs hs W (hr.all hW) (hh.all hW) lr lh x1 x2)
      clear hr hh
      generalize hnv : Cal.nxV rs hs (2000 - d).toNat d = nv
      generalize hne : Cal.nxE rs hs (2000 - d).toNat d = ne
      have NV := Lib.hid (And.intro hnv hne)
      clear hnv hne
      go_enter Tryd.func48, Tryd.ntmps48
      go_wp2_with fail
      refine (SV.out _ (by repeat' (first | exact Below.refl _ _ | assumption | apply below_drewN | refine Below.setCell ?_ (by simp <;> omega) _ | refine Below.alloc ?_ (by simp <;> omega) _))).mono ?_
      rintro x w1 ⟨rfl, hb1⟩
      have ca1 := (CalAt.fresh w s e vr vh 48).all hb1
      have hw1 := below_step (w := w) (by repeat' (first | exact Below.refl _ _ | assumption | apply below_drewN | refine Below.setCell ?_ (by simp <;> omega) _ | refine Below.alloc ?_ (by simp <;> omega) _)) hb1
      clear hb1
      go_wp2_with fail
      refine (within_true _ _ _ _ hd).mono ?_
      rintro x wx ⟨rfl, rfl⟩
      have HW := Lib.hid (And.intro ca1 hw1)
      clear ca1 hw1
      obtain ⟨d1, d2⟩ := hd
      go_wp2_with fail
      go_loopw [1] (fun t wr => ∃ x : Int, t = .int .i64 x ∧ d ≤ x ∧ x ≤ 2000 ∧ Hid (Cal.nxV rs hs (2000 - x).toNat x = nv ∧ Cal.nxE rs hs (2000 - x).toNat x = ne) ∧ Hid (CalAt wr w.heap.size s e vr vh ∧ Below w.heap.size w wr)) (fun t _ => (2000 - intOf t).toNat)
      case atStart => exact ⟨d, rfl, by omega, by omega, NV, HW⟩
      case round =>
        obtain ⟨x, rfl, x1, x2, hg, HX⟩ := hrel
        clear NV HW
        by_cases hlt : x < 2000
        · obtain ⟨ha, hw⟩ := HX.out
          clear HX
          have S := SI.out x (by omega) (by omega) _ hw
          clear SI
          by_cases k : Cal.openB rs hs x = true
          · rw [k] at S
            have S := Lib.hid S
            have G := Lib.hid (Cal.nx_hit hlt k)
            clear k
            obtain ⟨c0, c1, c2, c3, _⟩ := id ha
            go_wp2_with fail
            refine S.out.mono ?_
            rintro y w4 ⟨rfl, hb4⟩
            have hw4 := below_step hw hb4
            clear hb4 hw
            go_wp2
            go_ret2
            exact ⟨by rw [← hg.out.1, ← hg.out.2, G.out.1, G.out.2]; rfl, hw4⟩
          · have k' : Cal.openB rs hs x = false := by simpa using k
            rw [k'] at S
            have S := Lib.hid S
            have G := Lib.hid (Cal.nx_miss hlt k')
            clear k k'
            obtain ⟨c0, c1, c2, c3, _⟩ := id ha
            go_wp2_with fail
            refine S.out.mono ?_
            rintro y w4 ⟨rfl, hb4⟩
            have hw4 := below_step hw hb4
            have ha4 := ha.all hb4
            have HX := Lib.hid (And.intro ha4 hw4)
            clear hb4 hw ha hw4 ha4 c0 c1 c2 c3
            go_wp2
            go_roundw
            case rel => exact ⟨x + 1, by go_num, by omega, by omega, Lib.hid ⟨by rw [← G.out.1]; exact hg.out.1, by rw [← G.out.2]; exact hg.out.2⟩, HX⟩
            case measure => simp [intOf]; omega
        · obtain rfl : x = 2000 := by omega
          obtain ⟨ha, hw⟩ := HX.out
          clear HX SI
          go_wp2
          go_ret2
          exact ⟨by rw [← hg.out.1, ← hg.out.2]; rfl, hw⟩
    · rw [if_neg hd, if_neg (by decide), if_neg (by decide)]
      clear hr hh
      go_enter Tryd.func48, Tryd.ntmps48
      go_wp2_with fail
      refine (SV.out _ (by repeat' (first | exact Below.refl _ _ | assumption | apply below_drewN | refine Below.setCell ?_ (by simp <;> omega) _ | refine Below.alloc ?_ (by simp <;> omega) _))).mono ?_
      rintro x w1 ⟨rfl, hb1⟩
      have ca1 := (CalAt.fresh w s e vr vh 48).all hb1
      have hw1 := below_step (w := w) (by repeat' (first | exact Below.refl _ _ | assumption | apply below_drewN | refine Below.setCell ?_ (by simp <;> omega) _ | refine Below.alloc ?_ (by simp <;> omega) _)) hb1
      clear hb1
      go_wp2_with fail
      refine (within_false _ _ _ _ hd).mono ?_
      rintro x wx ⟨rfl, rfl⟩
      go_wp2
      go_ret2
      exact ⟨rfl, by assumption⟩
  · rw [if_neg hv, if_neg hv]
    generalize Cal.valE s e rs hs = v at *
    have hv' : (v == 0) = false := by simpa using hv
    clear hr hh
    rw [if_neg hv]
    clear hv
    go_enter Tryd.func48, Tryd.ntmps48
    go_wp2_with fail
    refine (SV.out _ (by repeat' (first | exact Below.refl _ _ | assumption | apply below_drewN | refine Below.setCell ?_ (by simp <;> omega) _ | refine Below.alloc ?_ (by simp <;> omega) _))).mono ?_
    rintro x w1 ⟨rfl, hb1⟩
    have ca1 := (CalAt.fresh w s e vr vh 48).all hb1
    have hw1 := below_step (w := w) (by repeat' (first | exact Below.refl _ _ | assumption | apply below_drewN | refine Below.setCell ?_ (by simp <;> omega) _ | refine Below.alloc ?_ (by simp <;> omega) _)) hb1
    clear hb1
    go_wp2
    go_ret2
    exact ⟨rfl, by assumption⟩
end Go.Proofs.YtfgignbmnfeikaaDoor
