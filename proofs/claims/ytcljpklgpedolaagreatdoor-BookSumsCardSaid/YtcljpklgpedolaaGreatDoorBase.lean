/- What the program and the reference answer for the least functions of fractions: magnitudes, divisors, valid fractions, fractions that are made. -/
import Derived.Test.YtcljpklgpedolaaGreatDoorNum
import Derived.Test.YtcljpklgpedolaaGreatDoorProg
import Derived.WalkKit
import Derived.WalkSpells
import Derived.ScopeJumps
import Derived.BigQuiet
import Derived.Deep.QuietTactic
import Derived.Outline
import Derived.Lib.Hide
namespace Go.Proofs.YtcljpklgpedolaaGreatDoor
open Go.RowKit

theorem ret_int {k : IntKind} {a b : Int} (h : a = b) : Ending.returned (.int k a) = .returned (.int k b) := by rw [h]

theorem u64_neg (n : Int) (h1 : -9223372036854775808 ≤ n) (h2 : n < 0) : IntKind.u64.wrap (-(IntKind.u64.wrap n)) = n.natAbs := by
  simp [IntKind.wrap, IntKind.bits, IntKind.signed]
  omega

theorem magnitude_any (n : Int) (w : World) (h1 : -9223372036854775808 ≤ n) (h2 : n ≤ 9223372036854775807) :
    Calls Tryz.prog 113 #[.int .i64 n] w fun e w' => e = .returned (.int .u64 n.natAbs) ∧ w = w' := by
  by_cases h : n < 0
  · have h3 := u64_neg n h1 h
    have H3 := Lib.hid h3
    clear h3
    go_enter Tryz.func113, Tryz.ntmps113
    go_wp2
    go_ret
    exact ⟨ret_int H3.out, rfl⟩
  · have h3 : n = n.natAbs := by omega
    have H3 := Lib.hid h3
    clear h3
    go_enter Tryz.func113, Tryz.ntmps113
    go_wp2
    go_ret
    exact ⟨ret_int H3.out, rfl⟩

theorem u64_size (n : Int) (h1 : -9223372036854775808 ≤ n) (h2 : n < 0) : IntKind.u64.wrap (IntKind.u64.wrap (wrap64 (-(wrap64 (n + 1)))) + 1) = n.natAbs := by
  simp [IntKind.wrap, IntKind.bits, IntKind.signed, wrap64]
  omega

theorem size_any (n : Int) (w : World) (h1 : -9223372036854775808 ≤ n) (h2 : n ≤ 9223372036854775807) :
    Calls Tryz.prog 118 #[.int .i64 n] w fun e w' => e = .returned (.int .u64 n.natAbs) ∧ w = w' := by
  by_cases h : n < 0
  · go_enter Tryz.func118, Tryz.ntmps118
    go_wp2
    go_ret
    exact ⟨ret_int (by omega), rfl⟩
  · have h3 : n = n.natAbs := by omega
    have H3 := Lib.hid h3
    clear h3
    go_enter Tryz.func118, Tryz.ntmps118
    go_wp2
    go_ret
    exact ⟨ret_int H3.out, rfl⟩

def Drawn (w w' : World) : Prop := ∃ n, w' = w.drewN n
theorem Drawn.refl (w : World) : Drawn w w := ⟨0, rfl⟩
theorem Drawn.drew {w w' : World} (h : Drawn w w') : Drawn w w'.drew := by
  obtain ⟨n, rfl⟩ := h
  exact ⟨n + 1, rfl⟩
theorem Drawn.drewN {w w' : World} (h : Drawn w w') (k : Nat) : Drawn w (w'.drewN k) := by
  obtain ⟨n, rfl⟩ := h
  exact ⟨n + k, World.drewN_drewN _ _ _⟩

theorem gcd_step (x y : Nat) : Nat.gcd y (x % y) = Nat.gcd x y := by rw [Nat.gcd_comm, ← Nat.gcd_rec, Nat.gcd_comm]

theorem gcd_any (a b : Nat) (w : World) (ha : a < 18446744073709551616) (hb : b < 18446744073709551616) :
    Calls Tryz.prog 117 #[.int .u64 a, .int .u64 b] w fun e w' => e = .returned (.int .u64 (Nat.gcd a b)) ∧ ∃ n, w' = w.drewN n := by
  go_enter Tryz.func117, Tryz.ntmps117
  go_wp2
  go_loopw [0, 1] (fun s t wr => ∃ x y : Nat, s = .int .u64 x ∧ t = .int .u64 y ∧ Hid (Nat.gcd x y = Nat.gcd a b) ∧ x < 18446744073709551616 ∧ y < 18446744073709551616 ∧ Drawn w wr) (fun _ t _ => (intOf t).toNat)
  case atStart => exact ⟨a, b, rfl, rfl, Lib.hid rfl, ha, hb, Drawn.refl _⟩
  case round =>
    obtain ⟨x, y, rfl, rfl, hg, hx, hy, hd⟩ := hrel
    by_cases h : y = 0
    · subst h
      go_wp2
      go_ret
      exact ⟨ret_int (by have := hg.out; rw [Nat.gcd_zero_right] at this; rw [this]), hd⟩
    · have hne : ((y : Int) == 0) = false := by simp; omega
      go_wp2
      go_quiet (fail)
      go_wp2
      have hl : x % y < y := Nat.mod_lt _ (by omega)
      have hh : Hid (Nat.gcd y (x % y) = Nat.gcd a b) := Lib.hid (by rw [gcd_step]; exact hg.out)
      go_roundw
      case rel => exact ⟨y, x % y, rfl, by go_num, hh, hy, by omega, hd.drewN _⟩
      case measure => simp [intOf]; omega

theorem divisor_any (a b : Nat) (w : World) (ha : a < 18446744073709551616) (hb : b < 18446744073709551616) :
    Calls Tryz.prog 112 #[.int .u64 a, .int .u64 b] w fun e w' => e = .returned (.int .u64 (Nat.gcd a b)) ∧ ∃ n, w' = w.drewN n := by
  go_enter Tryz.func112, Tryz.ntmps112
  go_wp2
  refine wp_scope_jumps 0 (fun a' w' => Drawn w w' ∧ ∃ (x y : Nat) (u5 u6 u7 u8 u9 u10 u11 : Value), a' = { tmps := #[.int .u64 x, .int .u64 y, undef, undef, .int .u64 0, u5, u6, u7, u8, u9, u10, u11], defers := [] } ∧ Hid (Nat.gcd x y = Nat.gcd a b) ∧ x < 18446744073709551616 ∧ y < 18446744073709551616) (fun a' _ => (intOf (a'.tmps.getD 1 undef)).toNat) rfl ?_ ?_
  · by_cases h : b = 0
    · subst h
      go_wp2
      go_step3
      go_wp2
      simp only [Exit.jump]
      go_ret
      exact ⟨ret_int (by rw [Nat.gcd_zero_right]), Drawn.refl _⟩
    · have hne : ((b : Int) == 0) = false := by simp; omega
      go_wp2
      go_step3
      go_wp2
      go_quiet (fail)
      go_wp2
      go_step3
      have hl : a % b < b := Nat.mod_lt _ (by omega)
      exact ⟨rfl, ⟨_, rfl⟩, b, a % b, _, _, _, _, _, _, _, rfl, Lib.hid (gcd_step _ _), hb, by omega⟩
  · rintro a' w' ⟨hd, x, y, u5, u6, u7, u8, u9, u10, u11, rfl, hg, hx, hy⟩
    by_cases h : y = 0
    · subst h
      go_wp2
      simp only [Exit.jump]
      go_ret
      exact ⟨ret_int (by have := hg.out; rw [Nat.gcd_zero_right] at this; rw [this]), hd⟩
    · have hne : ((y : Int) == 0) = false := by simp; omega
      go_wp2
      go_quiet (fail)
      go_wp2
      go_step3
      have hl : x % y < y := Nat.mod_lt _ (by omega)
      exact ⟨rfl, ⟨hd.drewN _, y, x % y, _, _, _, _, _, _, _, rfl, Lib.hid (by rw [gcd_step]; exact hg.out), hy, by omega⟩, by simp [intOf]; omega⟩

theorem within_any (n lo hi : Int) (w : World) :
    Calls Tryz.prog 103 #[.int .i64 n, .int .i64 lo, .int .i64 hi] w fun e w' => e = .returned (.bool (decide (lo ≤ n) && decide (n ≤ hi))) ∧ w = w' := by
  by_cases h1 : lo ≤ n
  · by_cases h2 : n ≤ hi
    all_goals
      go_enter Tryz.func103, Tryz.ntmps103
      go_wp2
      go_ret
      exact ⟨by simp [h1, h2]; try omega, rfl⟩
  · go_enter Tryz.func103, Tryz.ntmps103
    go_wp2
    go_ret
    exact ⟨by simp [h1]; try omega, rfl⟩
end Go.Proofs.YtcljpklgpedolaaGreatDoor
