/- Whether a mark meets a query, of the program and of the reference. -/
import Derived.Test.YtbmjjmpdlmbehaaBand41
namespace Go.Proofs.Ytbmjjmpdlmbehaa
open Go.RowKit

def Bd.holds (la mo sh fl : Int) (m : Bd.M) : Bool := decide (la ≤ m.t) && decide (m.t ≤ mo) && (sh == -1 || sh == m.s) && (bits BinOp.andNot IntKind.i64 m.f fl == 0)

set_option maxRecDepth 20000 in
set_option maxHeartbeats 2000000 in
theorem num_holds_any (la mo sh fl : Int) (m : Bd.M) (w : World) :
    Calls Try.prog 84 #[.agg #[.int .i64 la, .int .i64 mo, .int .i64 sh, .int .i64 fl], markV m] w fun e w' => e = .returned (.bool (Bd.holds la mo sh fl m)) ∧ Below w.heap.size w w' := by
  generalize hh : Bd.holds la mo sh fl m = H
  have HH := Lib.hid hh
  clear hh
  by_cases h1 : la ≤ m.t
  · by_cases h2 : m.t ≤ mo
    · by_cases h3 : sh = -1
      · subst h3
        go_enter Try.func84, Try.ntmps84
        go_wp2
        go_ret
        exact ⟨ret_bool (by rw [← HH.out]; simp [Bd.holds, *]; try (intros; omega)), by repeat' (first | exact Below.refl _ _ | refine Below.alloc ?_ (by simp <;> omega) _)⟩
      · have h3b : (sh == -1) = false := by simp [h3]
        by_cases h4 : sh = m.s
        · have h4b : (sh == m.s) = true := by simp [h4]
          go_enter Try.func84, Try.ntmps84
          go_wp2
          go_ret
          exact ⟨ret_bool (by rw [← HH.out]; simp [Bd.holds, *]; try (intros; omega)), by repeat' (first | exact Below.refl _ _ | refine Below.alloc ?_ (by simp <;> omega) _)⟩
        · have h4b : (sh == m.s) = false := by simp [h4]
          go_enter Try.func84, Try.ntmps84
          go_wp2
          go_ret
          exact ⟨ret_bool (by rw [← HH.out]; simp [Bd.holds, *]; try (intros; omega)), by repeat' (first | exact Below.refl _ _ | refine Below.alloc ?_ (by simp <;> omega) _)⟩
    · skip
      go_enter Try.func84, Try.ntmps84
      go_wp2
      go_ret
      exact ⟨ret_bool (by rw [← HH.out]; simp [Bd.holds, *]; try (intros; omega)), by repeat' (first | exact Below.refl _ _ | refine Below.alloc ?_ (by simp <;> omega) _)⟩
  · skip
    go_enter Try.func84, Try.ntmps84
    go_wp2
    go_ret
    exact ⟨ret_bool (by rw [← HH.out]; simp [Bd.holds, *]; try (intros; omega)), by repeat' (first | exact Below.refl _ _ | refine Below.alloc ?_ (by simp <;> omega) _)⟩

set_option maxRecDepth 20000 in
set_option maxHeartbeats 2000000 in
theorem ref_holds_any (la mo sh fl : Int) (m : Bd.M) (w : World) :
    Calls Try.prog 60 #[.agg #[.int .i64 la, .int .i64 mo, .int .i64 sh, .int .i64 fl], markV m] w fun e w' => e = .returned (.bool (Bd.holds la mo sh fl m)) ∧ Below w.heap.size w w' := by
  generalize hh : Bd.holds la mo sh fl m = H
  have HH := Lib.hid hh
  clear hh
  by_cases h1 : la ≤ m.t
  · by_cases h2 : m.t ≤ mo
    · by_cases h3 : sh = -1
      · subst h3
        go_enter Try.func60, Try.ntmps60
        go_wp2
        go_ret
        exact ⟨ret_bool (by rw [← HH.out]; simp [Bd.holds, *]; try (intros; omega)), by repeat' (first | exact Below.refl _ _ | refine Below.alloc ?_ (by simp <;> omega) _)⟩
      · have h3b : (sh == -1) = false := by simp [h3]
        by_cases h4 : sh = m.s
        · have h4b : (sh == m.s) = true := by simp [h4]
          go_enter Try.func60, Try.ntmps60
          go_wp2
          go_ret
          exact ⟨ret_bool (by rw [← HH.out]; simp [Bd.holds, *]; try (intros; omega)), by repeat' (first | exact Below.refl _ _ | refine Below.alloc ?_ (by simp <;> omega) _)⟩
        · have h4b : (sh == m.s) = false := by simp [h4]
          go_enter Try.func60, Try.ntmps60
          go_wp2
          go_ret
          exact ⟨ret_bool (by rw [← HH.out]; simp [Bd.holds, *]; try (intros; omega)), by repeat' (first | exact Below.refl _ _ | refine Below.alloc ?_ (by simp <;> omega) _)⟩
    · skip
      go_enter Try.func60, Try.ntmps60
      go_wp2
      go_ret
      exact ⟨ret_bool (by rw [← HH.out]; simp [Bd.holds, *]; try (intros; omega)), by repeat' (first | exact Below.refl _ _ | refine Below.alloc ?_ (by simp <;> omega) _)⟩
  · skip
    go_enter Try.func60, Try.ntmps60
    go_wp2
    go_ret
    exact ⟨ret_bool (by rw [← HH.out]; simp [Bd.holds, *]; try (intros; omega)), by repeat' (first | exact Below.refl _ _ | refine Below.alloc ?_ (by simp <;> omega) _)⟩
end Go.Proofs.Ytbmjjmpdlmbehaa
