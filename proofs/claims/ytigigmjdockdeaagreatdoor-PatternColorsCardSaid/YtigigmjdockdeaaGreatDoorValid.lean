/- Which fractions the program and the reference call valid. -/
import Derived.Test.YtigigmjdockdeaaGreatDoorMake
import Derived.Deep.RegionWith
namespace Go.Proofs.YtigigmjdockdeaaGreatDoor
open Go.RowKit

theorem ok_in {n d : Int} (hb : 1 ≤ d ∧ d ≤ 1048576 ∧ -1099511627776 ≤ n ∧ n ≤ 1099511627776) : Fr.ok n d = ((Nat.gcd n.natAbs d.natAbs : Int) == 1) := by
  rw [Bool.eq_iff_iff, Fr.ok_iff, beq_iff_eq]
  omega
theorem ok_out {n d : Int} (hb : ¬ (1 ≤ d ∧ d ≤ 1048576 ∧ -1099511627776 ≤ n ∧ n ≤ 1099511627776)) : Fr.ok n d = false := by
  cases h : Fr.ok n d with
  | false => rfl
  | true => have := Fr.ok_iff.1 h; omega

theorem ret_bool {a b : Bool} (h : a = b) : Ending.returned (.bool a) = .returned (.bool b) := by rw [h]

theorem within_true (n lo hi : Int) (w : World) (h : lo ≤ n ∧ n ≤ hi) :
    Calls Tryz.prog 154 #[.int .i64 n, .int .i64 lo, .int .i64 hi] w fun e w' => e = .returned (.bool true) ∧ w' = w :=
  (within_any n lo hi w).mono fun _ _ ⟨he, hw⟩ => ⟨by rw [he]; simp [h.1, h.2], hw.symm⟩
theorem within_false (n lo hi : Int) (w : World) (h : ¬ (lo ≤ n ∧ n ≤ hi)) :
    Calls Tryz.prog 154 #[.int .i64 n, .int .i64 lo, .int .i64 hi] w fun e w' => e = .returned (.bool false) ∧ w' = w :=
  (within_any n lo hi w).mono fun _ _ ⟨he, hw⟩ => ⟨by rw [he]; by_cases a : lo ≤ n <;> by_cases b : n ≤ hi <;> simp [a, b]; exact h ⟨a, b⟩, hw.symm⟩

theorem u64_of (d : Int) (h : 0 ≤ d) (h2 : d ≤ 9223372036854775807) : d = (d.natAbs : Int) := by omega

end Go.Proofs.YtigigmjdockdeaaGreatDoor
