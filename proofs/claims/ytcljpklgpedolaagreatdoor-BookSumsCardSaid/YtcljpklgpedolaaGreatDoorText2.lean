/- Texts of numbers and fractions: the reference's. -/
import Derived.Test.YtcljpklgpedolaaGreatDoorText1
import Derived.Laws.IdiomStrings
namespace Go.Proofs.YtcljpklgpedolaaGreatDoor
open Go.RowKit Go.Sort

/-- The byte of a digit. -/
def dgB (u : Nat) : UInt8 := UInt8.ofNat (48 + u)
/-- One byte as a text. -/
theorem one_back (w : World) (u : Nat) (hu : u < 10) (x : Int) (hx : x = 48 + (u : Int)) :
    (convert 88 9 (.slice (some ⟨w.heap.size, 0, none⟩) 1 1)).run Tryz.prog (w.alloc (.cells #[.int .u8 x] 5)) = .ok (.string ⟨[dgB u].toArray⟩) (w.alloc (.cells #[.int .u8 x] 5)) :=
  run_convert_bytes_back _ _ _ _ ⟨w.heap.size, 0, none⟩ 1 [dgB u] Tryz.underlying88 Tryz.underlying5 Tryz.underlying9 fun j hj => by
    obtain rfl : j = 0 := by simpa using hj
    have e := Tx.dig_byte hu
    show _ = some (Value.int .u8 ((UInt8.ofNat (48 + u)).toNat : Int))
    rw [e, hx]
    simp [Addr.add]

set_option maxRecDepth 20000 in
theorem digits_nat (n : Nat) (w : World) (hn : n ≤ 1000000000000000000) :
    Calls Tryz.prog 104 #[.int .i64 (n : Int)] w fun e w' => e = .returned (.string ⟨(Lib.decDigits n).toArray⟩) ∧ Below w.heap.size w w' := by
  have h0 : (0 : Int) ≤ (n : Int) := by omega
  have h1 : (n : Int) ≤ 1000000000000000000 := by omega
  have hlen := Tx.dec_len 18 n (by have : (10 : Nat) ^ (18 + 1) = 10000000000000000000 := by decide
                                   omega)
  go_enter Tryz.func104, Tryz.ntmps104
  go_wp2
  go_loopw [0, 3] (fun m s wr => ∃ (k : Nat) (t : List UInt8), k ≤ n ∧ m = .int .i64 (k : Int) ∧ s = .string ⟨t.toArray⟩ ∧ t.length ≤ 20 ∧ Hid (Lib.decDigits n = Lib.decDigits k ++ t ∧ Below w.heap.size w wr)) (fun m _ _ => (intOf m).toNat)
  case atStart => exact ⟨n, [], Nat.le_refl _, rfl, rfl, by simp, Lib.hid ⟨by simp, Below.refl _ _⟩⟩
  case round =>
    obtain ⟨k, t, hk, rfl, rfl, ht, hg⟩ := hrel
    by_cases hb : 9 < k
    · have e := Tx.dec_big (u := k) (by omega)
      have HD := Lib.hid (hg.out.1.trans (by rw [e, List.append_assoc]))
      have hu : k % 10 < 10 := by omega
      have hL : t.length + 1 ≤ 19 := by
        have := congrArg List.length HD.out
        simp at this
        have := Tx.dec_ne (k / 10)
        omega
      have B := fun W => one_back W (k % 10) hu (48 + (k : Int) % 10) (by omega)
      have HB := Lib.hid (bytes_append [dgB (k % 10)] t)
      have hmod : ((k : Int) % 10) = ((k % 10 : Nat) : Int) := by omega
      have hdiv : ((k : Int) / 10) = ((k / 10 : Nat) : Int) := by omega
      have hkk : (k : Int) ≤ 1000000000000000000 := by omega
      have HM := Lib.hid hmod
      have HV := Lib.hid hdiv
      clear hmod hdiv
      go_wp2
      go_roundw
      case rel => exact ⟨k / 10, [dgB (k % 10)] ++ t, by omega, by rw [← HV.out], by rw [HB.out], by simp; omega, Lib.hid ⟨HD.out, (hg.out.2.alloc hg.out.2.size _)⟩⟩
      case measure => simp [intOf]; omega
    · have hu : k < 10 := by omega
      have e := Tx.dec_small hu
      have HD := Lib.hid (hg.out.1.trans (by rw [e]))
      have hL : t.length + 1 ≤ 19 := by
        have := congrArg List.length HD.out
        simp at this
        omega
      have B := fun W => one_back W k hu (48 + (k : Int)) rfl
      have HB := Lib.hid (bytes_append [dgB k] t)
      go_wp2
      go_ret
      refine ⟨?_, hg.out.2.alloc hg.out.2.size _⟩
      rw [HD.out]
      show Ending.returned (.string ((⟨[dgB k].toArray⟩ : ByteArray) ++ ⟨t.toArray⟩)) = Ending.returned (.string ⟨([dgB k] ++ t).toArray⟩)
      rw [HB.out]

theorem digits_any (n : Int) (w : World) (h0 : -1000000000000000000 ≤ n) (h1 : n ≤ 1000000000000000000) :
    Calls Tryz.prog 104 #[.int .i64 n] w fun e w' => e = .returned (.string ⟨(Lib.itoa n).toArray⟩) ∧ Below w.heap.size w w' := by
  by_cases hn : n < 0
  · have HI := Lib.hid (Tx.itoa_neg hn)
    have D := Lib.hid (fun W => digits_nat n.natAbs W (by omega))
    have e : ((n.natAbs : Nat) : Int) = -n := by omega
    rw [e] at D
    have HE : Hid (Lib.itoa (-n) = Lib.decDigits n.natAbs) := Lib.hid (by rw [← e]; exact Tx.itoa_nat _)
    have HL := Tx.dec_len 18 n.natAbs (by have : (10 : Nat) ^ (18 + 1) = 10000000000000000000 := by decide
                                          omega)
    clear e
    go_enter Tryz.func104, Tryz.ntmps104
    go_wp2_with fail
    refine (D.out _).mono ?_
    rintro e w1 ⟨rfl, hb1⟩
    go_wp2
    go_ret
    refine ⟨?_, hb1⟩
    rw [HI.out, HE.out]
    exact congrArg (fun x => Ending.returned (Value.string x)) (bytes_append [45] _)
  · have D := digits_nat n.toNat w (by omega)
    rw [show ((n.toNat : Nat) : Int) = n by omega] at D
    refine D.mono fun e w' ⟨he, hb⟩ => ⟨?_, hb⟩
    rw [he, show Lib.itoa n = Lib.decDigits n.toNat by unfold Lib.itoa; rw [if_neg hn]]

theorem refValid_any (n d : Int) (w : World) (n1 : -9223372036854775808 ≤ n) (n2 : n ≤ 9223372036854775807) (d1 : -9223372036854775808 ≤ d) (d2 : d ≤ 9223372036854775807) :
    Calls Tryz.prog 88 #[rat n d] w fun e w' => e = .returned (.bool (Fr.ok n d)) ∧ Below w.heap.size w w' := ref_valid_any n d w n1 n2 d1 d2
end Go.Proofs.YtcljpklgpedolaaGreatDoor
