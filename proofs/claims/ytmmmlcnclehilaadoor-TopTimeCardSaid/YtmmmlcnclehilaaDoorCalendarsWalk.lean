/- NumCalendars returns true, whatever the calendar and the day. -/
import Derived.Test.YtmmmlcnclehilaaDoorCal7
import Derived.Test.YtmmmlcnclehilaaDoorMoney0
import Derived.Test.YtmmmlcnclehilaaDoorSeq
namespace Go.Proofs.YtmmmlcnclehilaaDoor
open Go.RowKit

theorem keepCal {w0 a c : World} {b : Nat} {x0 x1 x2 x3 : Value}
    (h : a.cell? ⟨b, 0, none⟩ = some x0 ∧ a.cell? ⟨b, 1, none⟩ = some x1 ∧ a.cell? ⟨b, 2, none⟩ = some x2 ∧ a.cell? ⟨b, 3, none⟩ = some x3 ∧ b < a.heap.size ∧ Below w0.heap.size w0 a) (hb : Below a.heap.size a c) :
    c.cell? ⟨b, 0, none⟩ = some x0 ∧ c.cell? ⟨b, 1, none⟩ = some x1 ∧ c.cell? ⟨b, 2, none⟩ = some x2 ∧ c.cell? ⟨b, 3, none⟩ = some x3 ∧ b < c.heap.size ∧ Below w0.heap.size w0 c := by
  obtain ⟨h0, h1, h2, h3, hz, hw⟩ := h
  exact ⟨(hb.cell (p := ⟨b, 0, none⟩) hz).trans h0, (hb.cell (p := ⟨b, 1, none⟩) hz).trans h1, (hb.cell (p := ⟨b, 2, none⟩) hz).trans h2, (hb.cell (p := ⟨b, 3, none⟩) hz).trans h3, Nat.lt_of_lt_of_le hz hb.size, hw.trans (hb.mono hw.size)⟩

set_option maxRecDepth 20000 in
theorem many_any (s e : Int) (a a' : Option Addr) (n n' c c' : Nat) (w : World) :
    Calls Tryd.prog 19 #[cal s e (.slice a n c) (.slice a' n' c')] w fun x w' => x = .returned (.bool (decide (100 < n) || decide (200 < n'))) ∧ Below w.heap.size w w' := by
  by_cases k1 : 100 < n
  · rw [show (decide (100 < n) || decide (200 < n')) = true by simp [k1]]
    have k1' : (100 : Int) < (n : Int) := by omega
    clear k1
    go_enter Tryd.func19, Tryd.ntmps19
    go_wp2
    go_ret
    exact ⟨rfl, by repeat' (first | exact Below.refl _ _ | assumption | apply below_drewN | refine Below.setCell ?_ (by simp <;> omega) _ | refine Below.alloc ?_ (by simp <;> omega) _)⟩
  · by_cases k2 : 200 < n'
    · rw [show (decide (100 < n) || decide (200 < n')) = true by simp [k2]]
      have k1' : ¬ (100 : Int) < (n : Int) := by omega
      have k2' : (200 : Int) < (n' : Int) := by omega
      clear k1 k2
      go_enter Tryd.func19, Tryd.ntmps19
      go_wp2
      go_ret
      exact ⟨rfl, by repeat' (first | exact Below.refl _ _ | assumption | apply below_drewN | refine Below.setCell ?_ (by simp <;> omega) _ | refine Below.alloc ?_ (by simp <;> omega) _)⟩
    · rw [show (decide (100 < n) || decide (200 < n')) = false by simp [k1, k2]]
      have k1' : ¬ (100 : Int) < (n : Int) := by omega
      have k2' : ¬ (200 : Int) < (n' : Int) := by omega
      clear k1 k2
      go_enter Tryd.func19, Tryd.ntmps19
      go_wp2
      go_ret
      exact ⟨rfl, by repeat' (first | exact Below.refl _ _ | assumption | apply below_drewN | refine Below.setCell ?_ (by simp <;> omega) _ | refine Below.alloc ?_ (by simp <;> omega) _)⟩
theorem many_yes (s e : Int) (a a' : Option Addr) (n n' c c' : Nat) (w : World) (h : 100 < n ∨ 200 < n') :
    Calls Tryd.prog 19 #[cal s e (.slice a n c) (.slice a' n' c')] w fun x w' => x = .returned (.bool true) ∧ Below w.heap.size w w' :=
  (many_any s e a a' n n' c c' w).mono fun x w' ⟨h1, h2⟩ => ⟨by rw [h1]; rcases h with h | h <;> simp [h], h2⟩
theorem many_no (s e : Int) (a a' : Option Addr) (n n' c c' : Nat) (w : World) (h : ¬ (100 < n ∨ 200 < n')) :
    Calls Tryd.prog 19 #[cal s e (.slice a n c) (.slice a' n' c')] w fun x w' => x = .returned (.bool false) ∧ Below w.heap.size w w' :=
  (many_any s e a a' n n' c c' w).mono fun x w' ⟨h1, h2⟩ => ⟨by rw [h1]; simp; omega, h2⟩

end Go.Proofs.YtmmmlcnclehilaaDoor
