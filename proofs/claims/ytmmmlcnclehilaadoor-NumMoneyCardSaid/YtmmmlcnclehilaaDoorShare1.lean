/- The program's look at weights. -/
import Derived.Test.YtmmmlcnclehilaaDoorIntsI
namespace Go.Proofs.YtmmmlcnclehilaaDoor
open Go.RowKit

namespace Sh
/-- The sum of weights, and whether they can be used; behind a first part of the sum. -/
def goV : Int → List Int → Int
  | acc, [] => acc
  | acc, x :: r => if x < 0 ∨ 1048576 < x then 0 else goV (acc + x) r
def goB : Int → List Int → Bool
  | acc, [] => decide (0 < acc)
  | acc, x :: r => if x < 0 ∨ 1048576 < x then false else goB (acc + x) r
theorem go_end {acc : Int} {xs : List Int} : goV acc (xs.drop xs.length) = acc ∧ goB acc (xs.drop xs.length) = decide (0 < acc) := by simp [goV, goB]
theorem go_bad {acc : Int} {xs : List Int} {k : Nat} (h : k < xs.length) (hb : xs[k] < 0 ∨ 1048576 < xs[k]) : goV acc (xs.drop k) = 0 ∧ goB acc (xs.drop k) = false := by
  rw [Cal.drop_cons h, goV, goB, if_pos hb, if_pos hb]; exact ⟨rfl, rfl⟩
theorem go_good {acc : Int} {xs : List Int} {k : Nat} (h : k < xs.length) (hb : ¬ (xs[k] < 0 ∨ 1048576 < xs[k])) : goV acc (xs.drop k) = goV (acc + xs[k]) (xs.drop (k + 1)) ∧ goB acc (xs.drop k) = goB (acc + xs[k]) (xs.drop (k + 1)) := by
  rw [Cal.drop_cons h, goV, goB, if_neg hb, if_neg hb]; exact ⟨rfl, rfl⟩
def sumV (xs : List Int) : Int := if 16 < xs.length then 0 else goV 0 xs
def sumB (xs : List Int) : Bool := if 16 < xs.length then false else goB 0 xs
end Sh

set_option maxRecDepth 20000 in
theorem sumOfWeights_any (v : Value) (xs : List Int) (w : World) (hv : Ints w v xs) (hlen : xs.length ≤ 1000) :
    Calls Tryd.prog 24 #[v] w fun e w' => e = .returned (.tuple #[.int .i64 (Sh.sumV xs), .bool (Sh.sumB xs)]) ∧ w = w' := by
  unfold Sh.sumV Sh.sumB
  rcases hv with ⟨a0, c0, rfl, rfl⟩ | ⟨b, off, cap, rfl, hcap, hb, hc⟩
  · rw [if_neg (by simp), if_neg (by simp)]
    go_enter Tryd.func24, Tryd.ntmps24
    go_wp2
    go_loop [4, 12] (fun s t => s = .int .i64 0 ∧ t = .int .i64 0) (fun _ t => (0 - intOf t).toNat)
    case atStart => exact ⟨rfl, rfl⟩
    case round =>
      obtain ⟨rfl, rfl⟩ := hrel
      go_wp2
      go_ret2
      exact ⟨rfl, rfl⟩
  · by_cases hl : 16 < xs.length
    · rw [if_pos hl, if_pos hl]
      have hl' : (16 : Int) < (xs.length : Int) := by omega
      clear hl
      go_enter Tryd.func24, Tryd.ntmps24
      go_wp2
      go_ret2
      exact ⟨rfl, rfl⟩
    · rw [if_neg hl, if_neg hl]
      have hl' : ¬ (16 : Int) < (xs.length : Int) := by omega
      clear hl
      go_enter Tryd.func24, Tryd.ntmps24
      go_wp2
      go_loop [4, 12] (fun s t => ∃ (k : Nat) (A : Int), k ≤ xs.length ∧ t = .int .i64 k ∧ s = .int .i64 A ∧ 0 ≤ A ∧ A ≤ 1048576 * (k : Int) ∧ Hid (Sh.goV A (xs.drop k) = Sh.goV 0 xs ∧ Sh.goB A (xs.drop k) = Sh.goB 0 xs)) (fun _ t => xs.length - (intOf t).toNat)
      case atStart => exact ⟨0, 0, Nat.zero_le _, rfl, rfl, by omega, by omega, Lib.hid ⟨rfl, rfl⟩⟩
      case round =>
        obtain ⟨k, A, hk, rfl, rfl, hA, hA2, hg⟩ := hrel
        by_cases hlt : k < xs.length
        · have hck := hc k hlt
          rw [getD_at hlt] at hck
          clear hc
          by_cases hbad : xs[k] < 0 ∨ 1048576 < xs[k]
          · have hr := Lib.hid (Sh.go_bad (acc := A) hlt hbad)
            generalize xs[k] = x at *
            by_cases hx : x < 0
            all_goals
              go_wp2
              go_ret2
              exact ⟨by rw [← hg.out.1, ← hg.out.2, hr.out.1, hr.out.2]; rfl, rfl⟩
          · have hr := Lib.hid (Sh.go_good (acc := A) hlt hbad)
            generalize xs[k] = x at *
            have b1 : 0 ≤ x := by omega
            have b2 : x ≤ 1048576 := by omega
            clear hbad
            go_wp2
            go_round
            case rel => exact ⟨k + 1, A + x, by omega, by go_num, by go_num, by omega, by push_cast; omega, Lib.hid ⟨by rw [← hr.out.1]; exact hg.out.1, by rw [← hr.out.2]; exact hg.out.2⟩⟩
            case measure => simp [intOf]; omega
        · obtain rfl : k = xs.length := by omega
          clear hc
          have hr := Lib.hid (Sh.go_end (acc := A) (xs := xs))
          go_wp2
          go_ret2
          exact ⟨by rw [← hg.out.1, ← hg.out.2, hr.out.1, hr.out.2]; rfl, rfl⟩
end Go.Proofs.YtmmmlcnclehilaaDoor
