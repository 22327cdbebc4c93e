/- Sums of texts: of the reference. -/
import Derived.Test.YtcljpklgpedolaaGreatDoorBkN
import Derived.Test.YtcljpklgpedolaaGreatDoorSeq3
import Derived.Test.YtcljpklgpedolaaGreatDoorIntsI
import Derived.WalkKit
import Derived.WalkSpells
import Derived.BigQuiet
import Derived.Deep.QuietTactic
import Derived.RegionTactic
import Derived.Outline
import Derived.Lib.Hide
import Derived.Deep.CutRange
import Derived.StillTailTactics
import Derived.Laws.EntriesVeiled
import Derived.Below
namespace Go.Proofs.YtcljpklgpedolaaGreatDoor
open Go.RowKit

theorem tmod_fix (x n : Int) (hn : 1 ≤ n) : (x.tmod n < 0 → x.tmod n + n = x % n) ∧ (¬ x.tmod n < 0 → x.tmod n = x % n) ∧ -n ≤ x.tmod n ∧ x.tmod n < n := by
  have h0 := Int.emod_nonneg x (show n ≠ 0 by omega)
  have h1 := Int.emod_lt_of_pos x (show 0 < n by omega)
  have e : x % n = x.tmod n + ((if 0 ≤ x ∨ n ∣ x then 0 else n.natAbs : Nat) : Int) := Int.emod_eq_tmod
  have hs : (n.natAbs : Int) = n := by omega
  by_cases hc : 0 ≤ x ∨ n ∣ x
  · rw [if_pos hc] at e; omega
  · rw [if_neg hc] at e; omega
theorem take_next (s : ByteArray) {k : Nat} (h : k < s.size) : s.data.toList.take (k + 1) = s.data.toList.take k ++ [s[k]'h] := by
  have hl : s.data.toList.length = s.size := by rw [Array.length_toList]; rfl
  rw [List.take_succ_eq_append_getElem (by omega)]; rfl
theorem take_all (s : ByteArray) : s.data.toList.take s.size = s.data.toList := by
  have hl : s.data.toList.length = s.size := by rw [Array.length_toList]; rfl
  rw [← hl, List.take_length]
theorem Bk.sum_next (b : Int) (s : ByteArray) {k : Nat} (h : k < s.size) : Bk.sum b (s.data.toList.take (k + 1)) = (Bk.sum b (s.data.toList.take k) * 257 + ((s[k]'h).toNat : Int) + 1) % 1000003 := by
  rw [take_next s h, Bk.sum_snoc]; rfl
theorem byte_in (c : UInt8) : 0 ≤ (c.toNat : Int) ∧ (c.toNat : Int) ≤ 255 := by have := c.toNat_lt; omega
set_option maxRecDepth 20000 in
theorem refSum_any (b : Int) (s : ByteArray) (w : World) (hs : s.size ≤ 100000) (b0 : -9223372036854775808 ≤ b) (b1 : b ≤ 9223372036854775807) :
    Calls Tryz.prog 18 #[.int .i64 b, .string s] w fun e w' => e = .returned (.int .i64 (Bk.sum b s.data.toList)) ∧ Below w.heap.size w w' := by
  obtain ⟨f1, f2, f3, f4⟩ := tmod_fix b 1000003 (by omega)
  have HB : Hid ((b.tmod 1000003 + 1000003) % 1000003 = Bk.sum b (s.data.toList.take 0)) := Lib.hid (by
    rw [List.take_zero, Bk.sum_nil]
    have := Int.emod_nonneg b (show (1000003 : Int) ≠ 0 by omega)
    by_cases h : b.tmod 1000003 < 0
    · have := f1 h; omega
    · have := f2 h; omega)
  have HIN := Lib.hid (fun k => Bk.sum_in b (s.data.toList.take k))
  have HN := Lib.hid (fun k (h : k < s.size) => Bk.sum_next b s h)
  have HE : Hid (Bk.sum b (s.data.toList.take s.size) = Bk.sum b s.data.toList) := Lib.hid (by rw [take_all])
  have hw0 := Lib.hid (Below.refl w.heap.size w)
  clear f1 f2
  generalize hS : Bk.sum b s.data.toList = S at *
  clear hS
  go_enter Tryz.func18, Tryz.ntmps18
  go_wp2
  go_loopw [5, 6] (fun x t wr => ∃ (v : Int) (k : Nat), k ≤ s.size ∧ (0 ≤ v ∧ v < 1000003) ∧ x = .int .i64 v ∧ t = .int .i64 (k : Int) ∧ Hid (v = Bk.sum b (s.data.toList.take k) ∧ Below w.heap.size w wr)) (fun _ t _ => s.size - (intOf t).toNat)
  case atStart => exact ⟨_, 0, Nat.zero_le _, by rw [HB.out]; exact HIN.out 0, rfl, rfl, Lib.hid ⟨HB.out, hw0.out⟩⟩
  case round =>
    obtain ⟨v, k, hk, ⟨hv0, hv1⟩, rfl, rfl, hg⟩ := hrel
    clear HB
    by_cases hlt : k < s.size
    · obtain ⟨c0, c1⟩ := byte_in (s[k]'hlt)
      have HX := Lib.hid (HN.out k hlt)
      have HI := Lib.hid (HIN.out (k + 1))
      go_wp2
      go_roundw
      case rel => exact ⟨_, k + 1, by omega, by have := HI.out; rw [HX.out, ← hg.out.1] at this; exact this, rfl, by go_num, Lib.hid ⟨by rw [HX.out, ← hg.out.1], hg.out.2⟩⟩
      case measure => simp [intOf]; omega
    · obtain rfl : k = s.size := by omega
      go_wp2
      go_ret
      exact ⟨by rw [hg.out.1, HE.out]; rfl, hg.out.2⟩
end Go.Proofs.YtcljpklgpedolaaGreatDoor
