/- The reference's look at sets. -/
import Derived.Test.YtfgignbmnfeikabDoorCal1
namespace Go.Proofs.YtfgignbmnfeikabDoor
open Go.RowKit

set_option maxRecDepth 20000 in
set_option maxHeartbeats 400000 in
theorem isSet_any (v : Value) (xs : List Int) (hi : Int) (w : World) (hv : Ints w v xs) (hlen : xs.length ≤ 1000) (hl : 0 ≤ hi) (hl2 : hi ≤ 100000) :
    Calls Tryd.prog 29 #[v, .int .i64 0, .int .i64 hi] w fun e w' => e = .returned (.bool (Cal.setB (hi + 1) xs)) ∧ Drawn w w' := by
  rcases hv with ⟨a0, c0, rfl, rfl⟩ | ⟨b, off, cap, rfl, hcap, hb, hc⟩
  · go_enter Tryd.func29, Tryd.ntmps29
    go_wp2
    go_loop [7] (fun t => t = .int .i64 0) (fun t => (0 - intOf t).toNat)
    case atStart => exact rfl
    case round =>
      obtain rfl := hrel
      go_wp2
      go_ret
      exact ⟨rfl, Drawn.refl _⟩
  · go_enter Tryd.func29, Tryd.ntmps29
    go_wp2
    go_loopw [7] (fun t wr => ∃ (k : Nat) (L : Int), k ≤ xs.length ∧ t = .int .i64 k ∧ 0 ≤ L ∧ Hid ((k = 0 ∧ L = 0) ∨ (0 < k ∧ L = xs.getD (k - 1) 0 + 1)) ∧ Hid (Cal.setGo (hi + 1) L (xs.drop k) = Cal.setB (hi + 1) xs) ∧ Drawn w wr) (fun t _ => xs.length - (intOf t).toNat)
    case atStart => exact ⟨0, 0, Nat.zero_le _, rfl, by omega, Lib.hid (.inl ⟨rfl, rfl⟩), Lib.hid rfl, Drawn.refl _⟩
    case round =>
      obtain ⟨k, L, hk, rfl, hL, hkL, hg, hd⟩ := hrel
      by_cases hlt : k < xs.length
      · have hck : wr.cell? ⟨b, off + k, none⟩ = some (.int .i64 (xs.getD k 0)) := by obtain ⟨n, rfl⟩ := hd; exact hc k hlt
        have hx := getD_at hlt
        rw [hx] at hck
        by_cases hin : 0 ≤ xs[k] ∧ xs[k] ≤ hi
        · rcases hkL.out with ⟨rfl, rfl⟩ | ⟨hkp, hLe⟩
          · have hr := Lib.hid (Cal.setGo_good (limit := hi + 1) (least := 0) hlt (by omega))
            have HX := Lib.hid hx
            clear hx hc
            simp only [Nat.add_zero] at hck
            generalize xs[0] = x at *
            go_wp2
            go_quiet ((go_at_call 17; exact Calls.quiet_of_same (within_true _ _ _ _ hin)))
            go_wp2
            go_roundw
            case rel => exact ⟨1, x + 1, by omega, by go_num, by omega, Lib.hid (.inr ⟨by omega, by show x + 1 = xs.getD 0 0 + 1; rw [HX.out]⟩), Lib.hid (by rw [← hr.out]; exact hg.out), hd.drewN _⟩
            case measure => simp [intOf]; omega
          · obtain ⟨j, rfl⟩ : ∃ j, k = j + 1 := ⟨k - 1, by omega⟩
            have hpk : wr.cell? ⟨b, off + j, none⟩ = some (.int .i64 (xs.getD j 0)) := by obtain ⟨n, rfl⟩ := hd; exact hc j (by omega)
            have hLe' : L = xs.getD j 0 + 1 := by simpa using hLe
            clear hLe hc hkL
            generalize xs.getD j 0 = y at *
            subst hLe'
            by_cases hyx : xs[j + 1] ≤ y
            · have hr := Lib.hid (Cal.setGo_bad (limit := hi + 1) (least := y + 1) hlt (by omega))
              clear hx
              generalize xs[j + 1] = x at *
              go_wp2
              go_quiet ((go_at_call 17; exact Calls.quiet_of_same (within_true _ _ _ _ hin)))
              go_wp2
              go_ret
              exact ⟨ret_bool (by rw [← hg.out, hr.out]), hd.drewN _⟩
            · have hr := Lib.hid (Cal.setGo_good (limit := hi + 1) (least := y + 1) hlt (by omega))
              have HX := Lib.hid hx
              clear hx
              generalize xs[j + 1] = x at *
              have hyx' : y < x := by omega
              clear hyx
              go_wp2
              go_quiet ((go_at_call 17; exact Calls.quiet_of_same (within_true _ _ _ _ hin)))
              go_wp2
              go_roundw
              case rel => exact ⟨j + 1 + 1, x + 1, by omega, by go_num, by omega, Lib.hid (.inr ⟨by omega, by show x + 1 = xs.getD (j + 1) 0 + 1; rw [HX.out]⟩), Lib.hid (by rw [← hr.out]; exact hg.out), hd.drewN _⟩
              case measure => simp [intOf]; omega
        · have hr := Lib.hid (Cal.setGo_bad (limit := hi + 1) (least := L) hlt (by omega))
          clear hx hc hkL
          generalize xs[k] = x at *
          go_wp2
          go_quiet ((go_at_call 17; exact Calls.quiet_of_same (within_false _ _ _ _ hin)))
          go_wp2
          go_ret
          exact ⟨ret_bool (by rw [← hg.out, hr.out]), hd.drewN _⟩
      · obtain rfl : k = xs.length := by omega
        clear hc
        go_wp2
        go_ret
        exact ⟨ret_bool (by rw [← hg.out, Cal.setGo_end]), hd⟩
end Go.Proofs.YtfgignbmnfeikabDoor
