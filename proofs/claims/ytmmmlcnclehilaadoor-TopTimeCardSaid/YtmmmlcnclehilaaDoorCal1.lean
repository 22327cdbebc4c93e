/- The program's and the reference's looks at lists of numbers that came in. -/
import Derived.Test.YtmmmlcnclehilaaDoorIntsI
namespace Go.Proofs.YtmmmlcnclehilaaDoor
open Go.RowKit

set_option maxRecDepth 20000 in
theorem isSetBelow_any (v : Value) (xs : List Int) (limit : Int) (w : World) (hv : Ints w v xs) (hlen : xs.length ≤ 1000) (hl : 0 ≤ limit) (hl2 : limit ≤ 100000) :
    Calls Tryd.prog 42 #[v, .int .i64 limit] w fun e w' => e = .returned (.bool (Cal.setB limit xs)) ∧ w = w' := by
  rcases hv with ⟨a0, c0, rfl, rfl⟩ | ⟨b, off, cap, rfl, hcap, hb, hc⟩
  · go_enter Tryd.func42, Tryd.ntmps42
    go_wp2
    go_loop [5, 10] (fun s t => s = .int .i64 0 ∧ t = .int .i64 0) (fun _ t => (0 - intOf t).toNat)
    case atStart => exact ⟨rfl, rfl⟩
    case round =>
      obtain ⟨rfl, rfl⟩ := hrel
      go_wp2
      go_ret
      exact ⟨rfl, rfl⟩
  · go_enter Tryd.func42, Tryd.ntmps42
    go_wp2
    go_loop [5, 10] (fun s t => ∃ (k : Nat) (L : Int), k ≤ xs.length ∧ t = .int .i64 k ∧ s = .int .i64 L ∧ 0 ≤ L ∧ L ≤ limit ∧ Hid (Cal.setGo limit L (xs.drop k) = Cal.setB limit xs)) (fun _ t => xs.length - (intOf t).toNat)
    case atStart => exact ⟨0, 0, Nat.zero_le _, rfl, rfl, by omega, hl, Lib.hid rfl⟩
    case round =>
      obtain ⟨k, L, hk, rfl, rfl, hL, hL2, hg⟩ := hrel
      by_cases hlt : k < xs.length
      · have hck := hc k hlt
        rw [getD_at hlt] at hck
        clear hc
        by_cases hbad : xs[k] < L ∨ limit ≤ xs[k]
        · have hr := Lib.hid (Cal.setGo_bad hlt hbad)
          generalize xs[k] = x at *
          by_cases hx : x < L
          all_goals
            go_wp2
            go_ret
            exact ⟨ret_bool (by rw [← hg.out, hr.out]), rfl⟩
        · have hr := Lib.hid (Cal.setGo_good hlt hbad)
          generalize xs[k] = x at *
          have b1 : L ≤ x := by omega
          have b2 : x < limit := by omega
          clear hbad
          go_wp2
          go_round
          case rel => exact ⟨k + 1, x + 1, by omega, by go_num, rfl, by omega, by omega, Lib.hid (by rw [← hr.out]; exact hg.out)⟩
          case measure => simp [intOf]; omega
      · obtain rfl : k = xs.length := by omega
        clear hc
        go_wp2
        go_ret
        exact ⟨ret_bool (by rw [← hg.out, Cal.setGo_end]), rfl⟩

end Go.Proofs.YtmmmlcnclehilaaDoor
