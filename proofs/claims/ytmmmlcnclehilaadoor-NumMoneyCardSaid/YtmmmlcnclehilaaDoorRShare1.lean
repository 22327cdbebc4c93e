/- The reference's division of a total: what it refuses. -/
import Derived.Test.YtmmmlcnclehilaaDoorOwnB
import Derived.Test.YtmmmlcnclehilaaDoorShare4
import Derived.Test.YtmmmlcnclehilaaDoorBase
namespace Go.Proofs.YtmmmlcnclehilaaDoor
open Go.RowKit Go.Sort

theorem within_t (n lo hi : Int) (w : World) (h1 : lo ≤ n) (h2 : n ≤ hi) :
    Calls Tryd.prog 28 #[.int .i64 n, .int .i64 lo, .int .i64 hi] w fun e w' => e = .returned (.bool true) ∧ w = w' :=
  (within_any n lo hi w).mono fun e w' ⟨h, k⟩ => ⟨by rw [h]; simp [h1, h2], k⟩
theorem within_f (n lo hi : Int) (w : World) (h : n < lo ∨ hi < n) :
    Calls Tryd.prog 28 #[.int .i64 n, .int .i64 lo, .int .i64 hi] w fun e w' => e = .returned (.bool false) ∧ w = w' :=
  (within_any n lo hi w).mono fun e w' ⟨h1, k⟩ => ⟨by rw [h1]; congr 2; simp; omega, k⟩

set_option maxRecDepth 20000 in
set_option maxHeartbeats 1000000 in
theorem refShare_bad (T : Int) (v : Value) (ws : List Int) (w : World) (hv : Ints w v ws) (hlen : ws.length ≤ 1000) (hb : shareOk T ws = false) :
    Calls Tryd.prog 10 #[.int .i64 T, v] w fun e w' => e = .returned (.tuple #[.slice none 0 0, .int .i64 1]) ∧ Below w.heap.size w w' := by
  have hform : ∃ a c, v = .slice a ws.length c := by
    rcases hv with ⟨a, c, rfl, rfl⟩ | ⟨b, off, cap, rfl, _⟩
    · exact ⟨a, c, rfl⟩
    · exact ⟨_, cap, rfl⟩
  by_cases hT : 0 ≤ T ∧ T ≤ 1099511627776
  · obtain ⟨hT1, hT2⟩ := hT
    by_cases hl : 1 ≤ ws.length ∧ ws.length ≤ 16
    · obtain ⟨hl1, hl2⟩ := hl
      have hg : Sh.goB 0 ws = false := by
        unfold shareOk Sh.sumB at hb
        rw [if_neg (by omega), decide_eq_true hT1, decide_eq_true hT2, Bool.and_true, Bool.and_true] at hb
        exact hb
      rcases hv with ⟨a, c, rfl, rfl⟩ | ⟨b, off, cap, rfl, _, hbl, hc⟩
      · simp at hl1
      have HG := Lib.hid hg
      clear hb hg hform
      go_enter Tryd.func10, Tryd.ntmps10
      go_wp2_with fail
      refine (within_t _ _ _ _ hT1 hT2).mono ?_
      rintro e w' ⟨rfl, rfl⟩
      go_wp2_with fail
      refine (within_t _ _ _ _ (by omega) (by omega)).mono ?_
      rintro e w' ⟨rfl, rfl⟩
      go_wp2
      go_loop [6, 7] (fun s t => ∃ (k : Nat) (A : Int), k ≤ ws.length ∧ t = .int .i64 k ∧ s = .int .i64 A ∧ 0 ≤ A ∧ A ≤ 1048576 * (k : Int) ∧ Hid (Sh.goB A (ws.drop k) = false)) (fun _ t => ws.length - (intOf t).toNat)
      case atStart => exact ⟨0, 0, Nat.zero_le _, rfl, rfl, by omega, by omega, HG⟩
      case round =>
        obtain ⟨k, A, hk, rfl, rfl, hA, hA2, hg⟩ := hrel
        by_cases hlt : k < ws.length
        · have hck := hc k hlt
          rw [getD_at hlt] at hck
          clear hc HG
          by_cases hbad : ws[k] < 0 ∨ 1048576 < ws[k]
          · generalize ws[k] = x at *
            go_wp2_with fail
            refine (within_f _ _ _ _ hbad).mono ?_
            rintro e w' ⟨rfl, rfl⟩
            go_wp2
            go_ret2
            exact ⟨rfl, Below.refl _ _⟩
          · have hr := Lib.hid (Sh.go_good (acc := A) hlt hbad)
            generalize ws[k] = x at *
            have b1 : 0 ≤ x := by omega
            have b2 : x ≤ 1048576 := by omega
            clear hbad
            go_wp2_with fail
            refine (within_t _ _ _ _ b1 b2).mono ?_
            rintro e w' ⟨rfl, rfl⟩
            go_wp2
            go_round
            case rel => exact ⟨k + 1, A + x, by omega, by go_num, by go_num, by omega, by push_cast; omega, Lib.hid (by rw [← hr.out.2]; exact hg.out)⟩
            case measure => simp [intOf]; omega
        · obtain rfl : k = ws.length := by omega
          have hA0 : A = 0 := by
            have := hg.out
            rw [(Sh.go_end (acc := A) (xs := ws)).2] at this
            have := of_decide_eq_false this
            omega
          subst hA0
          clear hc HG hg
          go_wp2
          go_ret2
          exact ⟨rfl, Below.refl _ _⟩
    · obtain ⟨a, c, rfl⟩ := hform
      have hl' : (ws.length : Int) < 1 ∨ 16 < (ws.length : Int) := by omega
      clear hv hb hl
      go_enter Tryd.func10, Tryd.ntmps10
      go_wp2_with fail
      refine (within_t _ _ _ _ hT1 hT2).mono ?_
      rintro e w' ⟨rfl, rfl⟩
      go_wp2_with fail
      refine (within_f _ _ _ _ hl').mono ?_
      rintro e w' ⟨rfl, rfl⟩
      go_wp2
      go_ret2
      exact ⟨rfl, Below.refl _ _⟩
  · obtain ⟨a, c, rfl⟩ := hform
    have hT' : T < 0 ∨ 1099511627776 < T := by omega
    clear hv hb hT
    go_enter Tryd.func10, Tryd.ntmps10
    go_wp2_with fail
    refine (within_f _ _ _ _ hT').mono ?_
    rintro e w' ⟨rfl, rfl⟩
    go_wp2
    go_ret2
    exact ⟨rfl, Below.refl _ _⟩
end Go.Proofs.YtmmmlcnclehilaaDoor
