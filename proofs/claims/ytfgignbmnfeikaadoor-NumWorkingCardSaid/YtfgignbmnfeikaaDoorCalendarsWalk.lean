/- NumCalendars returns true, whatever the calendar and the day. -/
import Derived.Test.YtfgignbmnfeikaaDoorCal7
import Derived.Test.YtfgignbmnfeikaaDoorMoney0
import Derived.Test.YtfgignbmnfeikaaDoorSeq
namespace Go.Proofs.YtfgignbmnfeikaaDoor
open Go.RowKit

theorem keepCal {w0 a c : World} {b : Nat} {x0 x1 x2 x3 : Value}
    (h : a.cell? ⟨b, 0, none⟩ = some x0 ∧ a.cell? ⟨b, 1, none⟩ = some x1 ∧ a.cell? ⟨b, 2, none⟩ = some x2 ∧ a.cell? ⟨b, 3, none⟩ = some x3 ∧ b < a.heap.size ∧ Below w0.heap.size w0 a) (hb : Below a.heap.size a c) :
    c.cell? ⟨b, 0, none⟩ = some x0 ∧ c.cell? ⟨b, 1, none⟩ = some x1 ∧ c.cell? ⟨b, 2, none⟩ = some x2 ∧ c.cell? ⟨b, 3, none⟩ = some x3 ∧ b < c.heap.size ∧ Below w0.heap.size w0 c := by
  obtain ⟨h0, h1, h2, h3, hz, hw⟩ := h
  exact ⟨(hb.cell (p := ⟨b, 0, none⟩) hz).trans h0, (hb.cell (p := ⟨b, 1, none⟩) hz).trans h1, (hb.cell (p := ⟨b, 2, none⟩) hz).trans h2, (hb.cell (p := ⟨b, 3, none⟩) hz).trans h3, Nat.lt_of_lt_of_le hz hb.size, hw.trans (hb.mono hw.size)⟩

set_option maxRecDepth 20000 in
theorem many_any (s e : Int) (a a' : Option Addr) (n n' c c' : Nat) (w : World) :
    Calls Tryd.prog 44 #[cal s e (.slice a n c) (.slice a' n' c')] w fun x w' => x = .returned (.bool (decide (100 < n) || decide (200 < n'))) ∧ Below w.heap.size w w' := by
  by_cases k1 : 100 < n
  · rw [show (decide (100 < n) || decide (200 < n')) = true by simp [k1]]
    have k1' : (100 : Int) < (n : Int) := by omega
    clear k1
    go_enter Tryd.func44, Tryd.ntmps44
    go_wp2
    go_ret
    exact ⟨rfl, by repeat' (first | exact Below.refl _ _ | assumption | apply below_drewN | refine Below.setCell ?_ (by simp <;> omega) _ | refine Below.alloc ?_ (by simp <;> omega) _)⟩
  · by_cases k2 : 200 < n'
    · rw [show (decide (100 < n) || decide (200 < n')) = true by simp [k2]]
      have k1' : ¬ (100 : Int) < (n : Int) := by omega
      have k2' : (200 : Int) < (n' : Int) := by omega
      clear k1 k2
      go_enter Tryd.func44, Tryd.ntmps44
      go_wp2
      go_ret
      exact ⟨rfl, by repeat' (first | exact Below.refl _ _ | assumption | apply below_drewN | refine Below.setCell ?_ (by simp <;> omega) _ | refine Below.alloc ?_ (by simp <;> omega) _)⟩
    · rw [show (decide (100 < n) || decide (200 < n')) = false by simp [k1, k2]]
      have k1' : ¬ (100 : Int) < (n : Int) := by omega
      have k2' : ¬ (200 : Int) < (n' : Int) := by omega
      clear k1 k2
      go_enter Tryd.func44, Tryd.ntmps44
      go_wp2
      go_ret
      exact ⟨rfl, by repeat' (first | exact Below.refl _ _ | assumption | apply below_drewN | refine Below.setCell ?_ (by simp <;> omega) _ | refine Below.alloc ?_ (by simp <;> omega) _)⟩
theorem many_yes (s e : Int) (a a' : Option Addr) (n n' c c' : Nat) (w : World) (h : 100 < n ∨ 200 < n') :
    Calls Tryd.prog 44 #[cal s e (.slice a n c) (.slice a' n' c')] w fun x w' => x = .returned (.bool true) ∧ Below w.heap.size w w' :=
  (many_any s e a a' n n' c c' w).mono fun x w' ⟨h1, h2⟩ => ⟨by rw [h1]; rcases h with h | h <;> simp [h], h2⟩
theorem many_no (s e : Int) (a a' : Option Addr) (n n' c c' : Nat) (w : World) (h : ¬ (100 < n ∨ 200 < n')) :
    Calls Tryd.prog 44 #[cal s e (.slice a n c) (.slice a' n' c')] w fun x w' => x = .returned (.bool false) ∧ Below w.heap.size w w' :=
  (many_any s e a a' n n' c c' w).mono fun x w' ⟨h1, h2⟩ => ⟨by rw [h1]; simp; omega, h2⟩

set_option maxRecDepth 20000 in
set_option maxHeartbeats 1000000 in
theorem calendars_walk (s e d : Int) (vr vh : Value) (rs hs : List Int) (w : World) (hr : Ints w vr rs) (hh : Ints w vh hs)
    (s1 : -9223372036854775808 ≤ s) (s2 : s ≤ 9223372036854775807) (e1 : -9223372036854775808 ≤ e) (e2 : e ≤ 9223372036854775807) (hd1 : -9223372036854775808 ≤ d) (hd2 : d ≤ 9223372036854775807) :
    Calls Tryd.prog 13 #[cal s e vr vh, .int .i64 d] w fun x w' => x = .returned (.bool true) ∧ Below w.heap.size w w' := by
  obtain ⟨a, c, rfl⟩ := hr.form
  obtain ⟨a', c', rfl⟩ := hh.form
  by_cases hm : 100 < rs.length ∨ 200 < hs.length
  · clear hr hh
    go_enter Tryd.func13, Tryd.ntmps13
    go_wp2_with fail
    refine (many_yes _ _ _ _ _ _ _ _ _ hm).mono ?_
    rintro x w1 ⟨rfl, hb1⟩
    have hw1 := below_step (w := w) (by repeat' (first | exact Below.refl _ _ | assumption | apply below_drewN | refine Below.setCell ?_ (by simp <;> omega) _ | refine Below.alloc ?_ (by simp <;> omega) _)) hb1
    clear hb1
    go_wp2_with fail
    refine (known_any _).mono ?_
    rintro x w2 ⟨rfl, hb2⟩
    go_wp2
    go_ret
    exact ⟨rfl, below_step hw1 hb2⟩
  · have lr : rs.length ≤ 1000 := by omega
    have lh : hs.length ≤ 1000 := by omega
    have NI := Lib.hid (fun W (hW : Below w.heap.size w W) => numIsOpen_any s e d _ _ rs hs W (hr.all hW) (hh.all hW) lr lh s1 s2 e1 e2 hd1 hd2)
    have RI := Lib.hid (fun W (hW : Below w.heap.size w W) => refIsOpen_any s e d _ _ rs hs W (hr.all hW) (hh.all hW) lr lh s1 s2 e1 e2 hd1 hd2)
    have NN := Lib.hid (fun W (hW : Below w.heap.size w W) => numNextOpen_any s e d _ _ rs hs W (hr.all hW) (hh.all hW) lr lh s1 s2 e1 e2 hd1 hd2)
    have RN := Lib.hid (fun W (hW : Below w.heap.size w W) => refNextOpen_any s e d _ _ rs hs W (hr.all hW) (hh.all hW) lr lh s1 s2 e1 e2 hd1 hd2)
    have NV := Lib.hid (fun W (hW : Below w.heap.size w W) => validate_any s e _ _ rs hs W (hr.all hW) (hh.all hW) lr lh s1 s2 e1 e2)
    have RV := Lib.hid (fun W (hW : Below w.heap.size w W) => ref_validate_any s e _ _ rs hs W (hr.all hW) (hh.all hW) lr lh s1 s2 e1 e2)
    clear hr hh
    generalize Cal.isoB s e rs hs d = o at *
    generalize Cal.valD s e rs hs d = v at *
    generalize Cal.nexV s e rs hs d = nv at *
    generalize Cal.nexE s e rs hs d = ne at *
    generalize Cal.valE s e rs hs = ve at *
    go_enter Tryd.func13, Tryd.ntmps13
    go_wp2_with fail
    refine (many_no _ _ _ _ _ _ _ _ _ hm).mono ?_
    rintro x w1 ⟨rfl, hb1⟩
    have ca1 := (CalAt.fresh w s e _ _ 48).all hb1
    have hw1 := below_step (w := w) (by repeat' (first | exact Below.refl _ _ | assumption | apply below_drewN | refine Below.setCell ?_ (by simp <;> omega) _ | refine Below.alloc ?_ (by simp <;> omega) _)) hb1
    clear hb1
    obtain ⟨k0, k1, k2, k3, _⟩ := id ca1
    go_wp2_with fail
    refine (NI.out _ hw1).mono ?_
    rintro x w2 ⟨rfl, hb2⟩
    have ca2 := ca1.all hb2
    have hw2 := below_step hw1 hb2
    clear hb2 hw1 ca1 k0 k1 k2 k3
    obtain ⟨k0, k1, k2, k3, _⟩ := id ca2
    go_wp2_with fail
    refine (RI.out _ hw2).mono ?_
    rintro x w3 ⟨rfl, hb3⟩
    have ca3 := ca2.all hb3
    have hw3 := below_step hw2 hb3
    clear hb3 hw2 ca2 k0 k1 k2 k3
    obtain ⟨k0, k1, k2, k3, _⟩ := id ca3
    go_wp2_with fail
    refine (NN.out _ hw3).mono ?_
    rintro x w4 ⟨rfl, hb4⟩
    have ca4 := ca3.all hb4
    have hw4 := below_step hw3 hb4
    clear hb4 hw3 ca3 k0 k1 k2 k3
    obtain ⟨k0, k1, k2, k3, _⟩ := id ca4
    go_wp2_with fail
    refine (RN.out _ hw4).mono ?_
    rintro x w5 ⟨rfl, hb5⟩
    have ca5 := ca4.all hb5
    have hw5 := below_step hw4 hb5
    clear hb5 hw4 ca4 k0 k1 k2 k3
    obtain ⟨k0, k1, k2, k3, _⟩ := id ca5
    clear k0 k1 k2 k3
    have HS := Lib.hid (And.intro ca5 hw5)
    clear ca5 hw5
    go_wp2_with fail
    refine wp_region_seq [(0, true), (2, true), (1, false), (3, false), (4, true), (5, true), (6, true), (7, true), (8, true), (9, true), (10, true), (11, true), (12, true), (13, true), (14, true), (15, true), (16, true), (17, true), (18, true), (19, true), (20, true), (21, true), (22, true), (23, true), (24, true), (25, true), (26, false), (27, true), (28, true)]
      (fun W => W.cell? ⟨w.heap.size, 0, none⟩ = some (.int .i64 s) ∧ W.cell? ⟨w.heap.size, 1, none⟩ = some (.int .i64 e) ∧ W.cell? ⟨w.heap.size, 2, none⟩ = some (.slice a rs.length c) ∧ W.cell? ⟨w.heap.size, 3, none⟩ = some (.slice a' hs.length c') ∧ w.heap.size < W.heap.size ∧ Below w.heap.size w W)
      (by kernel_rfl) (by kernel_rfl) (by kernel_rfl) (by kernel_rfl) (fun d _ _ _ _ h => by cases d <;> exact h)
      (by obtain ⟨⟨h0, h1, h2, h3, h4⟩, hw⟩ := HS.out; exact ⟨h0, h1, h2, h3, h4, hw.drew⟩) (fun hS => ?_)
    clear HS
    repeat (first
      | (refine SeqH.take (v := ?_) rfl (by rfl) ?_ ?_; rotate_left; (· intro w hSw; (try dsimp only at hSw); go_simp; (try with_reducible rfl)); simp only [Act.put, List.setIfInBounds_toArray, List.set_cons_zero, List.set_cons_succ])
      | (refine SeqH.skip rfl (by rfl) ?_; simp only [Act.put, List.setIfInBounds_toArray, List.set_cons_zero, List.set_cons_succ])
      | (refine SeqH.pass rfl (by rfl) hS ?_; simp only [Act.put, List.setIfInBounds_toArray, List.set_cons_zero, List.set_cons_succ])
      | (refine SeqH.step rfl (by rfl) (fun K hK => ?_); go_simp
         first
           | (go_at_call 49; refine (NV.out _ hS.2.2.2.2.2).mono ?_; rintro e w' ⟨rfl, hbv⟩)
           | (go_at_call 50; refine (RV.out _ hS.2.2.2.2.2).mono ?_; rintro e w' ⟨rfl, hbv⟩)
           | (go_at_call 19; refine (known_any _).mono ?_; rintro e w' ⟨rfl, hbv⟩)
         try dsimp only
         refine hK.out _ _ (keepCal hS hbv) (fun hSn => ?_)
         clear hK K hS hbv
         have hS := hSn
         clear hSn
         try simp only [Act.put, List.setIfInBounds_toArray, List.set_cons_zero, List.set_cons_succ]))
    refine SeqH.done ?_
    go_wp2
    go_ret
    exact ⟨rfl, hS.2.2.2.2.2⟩
end Go.Proofs.YtfgignbmnfeikaaDoor
