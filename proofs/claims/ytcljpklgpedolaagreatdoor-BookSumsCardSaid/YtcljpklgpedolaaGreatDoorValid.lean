/- Which fractions the program and the reference call valid. -/
import Derived.Test.YtcljpklgpedolaaGreatDoorMake
import Derived.Deep.RegionWith
namespace Go.Proofs.YtcljpklgpedolaaGreatDoor
open Go.RowKit

theorem ok_in {n d : Int} (hb : 1 ≤ d ∧ d ≤ 1048576 ∧ -1099511627776 ≤ n ∧ n ≤ 1099511627776) : Fr.ok n d = ((Nat.gcd n.natAbs d.natAbs : Int) == 1) := by
  rw [Bool.eq_iff_iff, Fr.ok_iff, beq_iff_eq]
  omega
theorem ok_out {n d : Int} (hb : ¬ (1 ≤ d ∧ d ≤ 1048576 ∧ -1099511627776 ≤ n ∧ n ≤ 1099511627776)) : Fr.ok n d = false := by
  cases h : Fr.ok n d with
  | false => rfl
  | true => have := Fr.ok_iff.1 h; omega

theorem ret_bool {a b : Bool} (h : a = b) : Ending.returned (.bool a) = .returned (.bool b) := by rw [h]

theorem valid_any (n d : Int) (w : World) (n1 : -9223372036854775808 ≤ n) (n2 : n ≤ 9223372036854775807) (d1 : -9223372036854775808 ≤ d) (d2 : d ≤ 9223372036854775807) :
    Calls Tryz.prog 85 #[rat n d] w fun e w' => e = .returned (.bool (Fr.ok n d)) ∧ Below w.heap.size w w' := by
  by_cases hb : 1 ≤ d ∧ d ≤ 1048576 ∧ -1099511627776 ≤ n ∧ n ≤ 1099511627776
  · have HO := Lib.hid (ok_in hb)
    obtain ⟨b1, b2, b3, b4⟩ := hb
    go_enter Tryz.func85, Tryz.ntmps85
    go_wp2
    go_quiet ((first | (go_at_call 113; exact Calls.quiet_of_same ((magnitude_any _ _ (by omega) (by omega)).mono fun _ _ h => ⟨h.1, h.2.symm⟩)) | (go_at_call 112; exact Calls.quiet_of (divisor_any _ _ _ (by omega) (by omega)))))
    go_wp2
    go_ret
    exact ⟨ret_bool HO.out.symm, by repeat' (first | exact Below.refl _ _ | apply below_drewN | refine Below.setCell ?_ (by simp) _ | refine Below.alloc ?_ (by simp) _)⟩
  · rw [ok_out hb]
    go_enter Tryz.func85, Tryz.ntmps85
    go_wp2
    all_goals go_ret
    all_goals exact ⟨rfl, by repeat' (first | exact Below.refl _ _ | apply below_drewN | refine Below.setCell ?_ (by simp) _ | refine Below.alloc ?_ (by simp) _)⟩

theorem within_true (n lo hi : Int) (w : World) (h : lo ≤ n ∧ n ≤ hi) :
    Calls Tryz.prog 103 #[.int .i64 n, .int .i64 lo, .int .i64 hi] w fun e w' => e = .returned (.bool true) ∧ w' = w :=
  (within_any n lo hi w).mono fun _ _ ⟨he, hw⟩ => ⟨by rw [he]; simp [h.1, h.2], hw.symm⟩
theorem within_false (n lo hi : Int) (w : World) (h : ¬ (lo ≤ n ∧ n ≤ hi)) :
    Calls Tryz.prog 103 #[.int .i64 n, .int .i64 lo, .int .i64 hi] w fun e w' => e = .returned (.bool false) ∧ w' = w :=
  (within_any n lo hi w).mono fun _ _ ⟨he, hw⟩ => ⟨by rw [he]; by_cases a : lo ≤ n <;> by_cases b : n ≤ hi <;> simp [a, b]; exact h ⟨a, b⟩, hw.symm⟩

theorem u64_of (d : Int) (h : 0 ≤ d) (h2 : d ≤ 9223372036854775807) : d = (d.natAbs : Int) := by omega

theorem ref_valid_any (n d : Int) (w : World) (n1 : -9223372036854775808 ≤ n) (n2 : n ≤ 9223372036854775807) (_d1 : -9223372036854775808 ≤ d) (_d2 : d ≤ 9223372036854775807) :
    Calls Tryz.prog 88 #[rat n d] w fun e w' => e = .returned (.bool (Fr.ok n d)) ∧ Below w.heap.size w w' := by
  by_cases hd : 1 ≤ d ∧ d ≤ 1048576
  · by_cases hn : -1099511627776 ≤ n ∧ n ≤ 1099511627776
    · have HO := Lib.hid (ok_in ⟨hd.1, hd.2, hn.1, hn.2⟩)
      obtain ⟨D, hD⟩ : ∃ D : Nat, d = D := ⟨d.toNat, by omega⟩
      subst hD
      have e1 : IntKind.u64.wrap (D : Int) = D := by simp [IntKind.wrap, IntKind.bits, IntKind.signed]; omega
      obtain ⟨b1, b2⟩ := hd
      obtain ⟨b3, b4⟩ := hn
      go_enter Tryz.func88, Tryz.ntmps88
      go_wp2
      go_quiet ((first | (go_at_call 103; exact Calls.quiet_of_same (within_true _ _ _ _ (by omega))) | (go_at_call 118; exact Calls.quiet_of_same ((size_any _ _ (by omega) (by omega)).mono fun _ _ h => ⟨h.1, h.2.symm⟩)) | (go_at_call 117; exact Calls.quiet_of (gcd_any _ _ _ (by omega) (by omega)))))
      go_wp2
      go_ret
      exact ⟨ret_bool (by rw [HO.out]; simp), by repeat' (first | exact Below.refl _ _ | apply below_drewN | refine Below.setCell ?_ (by simp) _ | refine Below.alloc ?_ (by simp) _)⟩
    · rw [ok_out (by omega)]
      go_enter Tryz.func88, Tryz.ntmps88
      go_wp2
      go_quiet ((first | (go_at_call_of 103 (Value.int IntKind.i64 d); exact Calls.quiet_of_same (within_true _ _ _ _ hd)) | (go_at_call_of 103 (Value.int IntKind.i64 n); exact Calls.quiet_of_same (within_false _ _ _ _ hn))))
      go_wp2
      go_ret
      exact ⟨rfl, by repeat' (first | exact Below.refl _ _ | apply below_drewN | refine Below.setCell ?_ (by simp) _ | refine Below.alloc ?_ (by simp) _)⟩
  · rw [ok_out (by omega)]
    go_enter Tryz.func88, Tryz.ntmps88
    go_wp2
    go_quiet ((go_at_call 103; exact Calls.quiet_of_same (within_false _ _ _ _ hd)))
    go_wp2
    go_ret
    exact ⟨rfl, by repeat' (first | exact Below.refl _ _ | apply below_drewN | refine Below.setCell ?_ (by simp) _ | refine Below.alloc ?_ (by simp) _)⟩
end Go.Proofs.YtcljpklgpedolaaGreatDoor
