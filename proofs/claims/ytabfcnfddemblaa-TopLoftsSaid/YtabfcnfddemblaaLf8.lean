/- Sets of sums as bits in memory: what single days, days behind a heat, and bounds make. -/
import Derived.Test.YtabfcnfddemblaaLf7
namespace Go.Proofs.Ytabfcnfddemblaa.Lo
open Go.RowKit

theorem wrap_nat (a : Nat) : IntKind.u64.wrap (a : Int) = ((a % 2 ^ 64 : Nat) : Int) := by
  simp [IntKind.wrap, IntKind.signed, IntKind.bits]
theorem wrap_lt {a : Nat} (h : a < 2 ^ 64) : IntKind.u64.wrap (a : Int) = (a : Int) := by rw [wrap_nat, Nat.mod_eq_of_lt h]
theorem bits_and {a b : Nat} (ha : a < 2 ^ 64) (hb : b < 2 ^ 64) : bits .and .u64 (a : Int) (b : Int) = ((a &&& b : Nat) : Int) := by
  have h : a &&& b < 2 ^ 64 := Nat.and_lt_two_pow _ hb
  unfold bits
  have e1 : BitVec.ofInt IntKind.u64.bits (a : Int) = BitVec.ofNat 64 a := by simp [IntKind.bits]
  have e2 : BitVec.ofInt IntKind.u64.bits (b : Int) = BitVec.ofNat 64 b := by simp [IntKind.bits]
  rw [e1, e2]
  show IntKind.u64.wrap (((BitVec.ofNat 64 a &&& BitVec.ofNat 64 b).toNat : Nat) : Int) = _
  rw [BitVec.toNat_and, BitVec.toNat_ofNat, BitVec.toNat_ofNat, Nat.mod_eq_of_lt ha, Nat.mod_eq_of_lt hb]
  exact wrap_lt h
theorem bits_or {a b : Nat} (ha : a < 2 ^ 64) (hb : b < 2 ^ 64) : bits .or .u64 (a : Int) (b : Int) = ((a ||| b : Nat) : Int) := by
  have h : a ||| b < 2 ^ 64 := Nat.or_lt_two_pow ha hb
  unfold bits
  have e1 : BitVec.ofInt IntKind.u64.bits (a : Int) = BitVec.ofNat 64 a := by simp [IntKind.bits]
  have e2 : BitVec.ofInt IntKind.u64.bits (b : Int) = BitVec.ofNat 64 b := by simp [IntKind.bits]
  rw [e1, e2]
  show IntKind.u64.wrap (((BitVec.ofNat 64 a ||| BitVec.ofNat 64 b).toNat : Nat) : Int) = _
  rw [BitVec.toNat_or, BitVec.toNat_ofNat, BitVec.toNat_ofNat, Nat.mod_eq_of_lt ha, Nat.mod_eq_of_lt hb]
  exact wrap_lt h
theorem pow_int (r : Nat) : ((2 : Int) ^ r) = ((2 ^ r : Nat) : Int) := by simp
theorem from_val {x y : Nat} (hle : 2 ^ y ≤ 2 ^ x) (hlt : 2 ^ x < 2 ^ 64) : IntKind.u64.wrap (IntKind.u64.wrap ((2 : Int) ^ x) - IntKind.u64.wrap ((2 : Int) ^ y)) = ((2 ^ x - 2 ^ y : Nat) : Int) := by
  rw [pow_int, pow_int, wrap_lt hlt, wrap_lt (Nat.lt_of_le_of_lt hle hlt), ← Int.natCast_sub hle]
  exact wrap_lt (Nat.lt_of_le_of_lt (Nat.sub_le _ _) hlt)
/-- The sets of sums in memory: 13 rows of 5. -/
abbrev ReachT : TypeId := 203
abbrev RcA (m : Nat → Nat) : Array Value := fnV 65 (fun i => .int .u64 ((m i : Nat) : Int))
theorem Rc_at {W : World} {B : Nat} {m : Nat → Nat} (h : BlockAt W B (RcA m) ReachT) {i : Nat} (hi : i < 65) : W.cell? ⟨B, i, none⟩ = some (.int .u64 ((m i : Nat) : Int)) := by
  rw [h.cell, fnV_at hi]
set_option maxRecDepth 100000 in
theorem from_any (a b : Nat) (w : World) (hab : a ≤ b) (hb : b ≤ 60) : Calls Try.prog 121 #[.int .i64 (a : Int), .int .i64 (b : Int)] w fun e w' => e = .returned (.int .u64 ((2 ^ (b + 1) - 2 ^ a : Nat) : Int)) ∧ Below w.heap.size w w' := by
  have hle : 2 ^ a ≤ 2 ^ (b + 1) := Nat.pow_le_pow_right (by decide) (by omega)
  have hlt : 2 ^ (b + 1) < 2 ^ 64 := Nat.pow_lt_pow_right (by decide) (by omega)
  have g1 : IntKind.i64.wrap ((b : Int) + 1) = (b : Int) + 1 := IntWalk.i64_in _ ⟨by omega, by omega⟩
  go_enter Try.func121, Try.ntmps121
  go_upto_region 1 with fail
  go_quiet (fail)
  go_wp2
  go_ret
  exact ⟨congrArg (fun x => Ending.returned (Value.int .u64 x)) (from_val hle hlt), below_drewN (Below.refl _ _) _⟩
set_option maxRecDepth 100000 in
set_option maxHeartbeats 1000000 in
theorem after_any (m : Nat → Nat) (B b d : Nat) (w : World) (hm : ∀ i, m i < 2 ^ 64) (hB : BlockAt w B (RcA m) ReachT) (hb : b ≤ 4) (hd : d ≤ 12) :
    Calls Try.prog 122 #[.pointer (some ⟨B, 0, none⟩), .int .i64 (b : Int), .int .i64 (d : Int)] w fun e w' => e = .returned (.int .u64 ((Lf.af (fun g => m (d * 5 + g)) b : Nat) : Int)) ∧ w = w' := by
  have CL := Lib.hid (fun W => lowest_any (b : Int) W ⟨by omega, by omega⟩)
  have CH := Lib.hid (fun W => highest_any (b : Int) W ⟨by omega, by omega⟩)
  have HC := Lib.hid (fun i (hi : i < 65) => Rc_at hB hi)
  have HO := Lib.hid (fun k => bits_or (Lf.afN_lt (m := fun g => m (d * 5 + g)) (lo := b - 1) (N := 64) (fun g => hm _) k) (hm (d * 5 + (b - 1 + k))))
  have HS : Hid (∀ k, Lf.afN (fun g => m (d * 5 + g)) (b - 1) (k + 1) = Lf.afN (fun g => m (d * 5 + g)) (b - 1) k ||| m (d * 5 + (b - 1 + k))) := Lib.hid fun _ => rfl
  have HE : Hid (Lf.af (fun g => m (d * 5 + g)) b = Lf.afN (fun g => m (d * 5 + g)) (b - 1) (Lf.nN b)) := Lib.hid rfl
  have hN : Lf.nN b = min 4 (b + 1) + 1 - (b - 1) := rfl
  generalize Lf.af (fun g => m (d * 5 + g)) b = E at *
  generalize Lf.nN b = N at *
  have H0 : Hid (Lf.afN (fun g => m (d * 5 + g)) (b - 1) 0 = 0) := Lib.hid rfl
  generalize Lf.afN (fun g => m (d * 5 + g)) (b - 1) = A at *
  have hmax : max 0 ((b : Int) - 1) = ((b - 1 : Nat) : Int) := by omega
  have hmin : min 4 ((b : Int) + 1) = ((min 4 (b + 1) : Nat) : Int) := by omega
  rw [hmax] at CL
  rw [hmin] at CH
  obtain ⟨lo, hlo⟩ : ∃ lo, lo = b - 1 := ⟨_, rfl⟩
  obtain ⟨hi, hhi⟩ : ∃ hi, hi = min 4 (b + 1) := ⟨_, rfl⟩
  rw [← hlo] at CL HO HS hN
  rw [← hhi] at CH hN
  have hlh : lo ≤ hi ∧ hi ≤ 4 := by omega
  have HN := Lib.hid hN
  clear hm hB hmax hmin hlo hhi hN
  obtain ⟨hlh, hh4⟩ := hlh
  go_enter Try.func122, Try.ntmps122
  go_wp2_with fail
  refine (CL.out _).mono ?_
  rintro e w1 ⟨rfl, rfl⟩
  go_wp2
  go_loop [7, 8] (fun s t => ∃ (k : Nat), (lo + k ≤ hi + 1) ∧ t = .int .i64 ((lo + k : Nat) : Int) ∧ ∃ a : Nat, s = .int .u64 (a : Int) ∧ Hid (a = A k)) (fun _ t => hi + 1 - (intOf t).toNat)
  case atStart => exact ⟨0, by omega, rfl, 0, rfl, Lib.hid H0.out.symm⟩
  case round =>
    obtain ⟨k, hk, rfl, a, rfl, hg⟩ := hrel
    by_cases hlt : lo + k ≤ hi
    · have HOk := HO.out k
      have HSk := HS.out k
      rw [← hg.out] at HOk HSk
      have c0 := HC.out (d * 5 + (lo + k)) (by omega)
      rw [← HSk] at HOk
      obtain ⟨a2, ha2⟩ : ∃ a2, a2 = A (k + 1) := ⟨_, rfl⟩
      rw [← ha2] at HOk HSk
      have HX := Lib.hid ha2
      generalize m (d * 5 + (lo + k)) = z at *
      clear HSk hg ha2
      obtain ⟨g, hgg⟩ : ∃ g, g = lo + k := ⟨_, rfl⟩
      rw [← hgg] at c0
      rw [← hgg]
      have hg4 : g ≤ 4 := by omega
      have hgh : g ≤ hi := by omega
      have HG := Lib.hid hgg
      clear hgg hk hlt
      go_wp2_with fail
      refine (CH.out _).mono ?_
      rintro e w1 ⟨rfl, rfl⟩
      go_wp2
      go_round
      case rel => exact ⟨k + 1, by have := HG.out; omega, congrArg (Value.int .i64) (by have := HG.out; omega), a2, rfl, HX⟩
      case measure => simp [intOf]; omega
    · have HX : Hid (a = E) := Lib.hid (by rw [HE.out, hg.out]; congr 1; have := HN.out; omega)
      obtain ⟨g, hgg⟩ : ∃ g, g = lo + k := ⟨_, rfl⟩
      rw [← hgg]
      have hgh : hi < g := by omega
      have hg4 : g ≤ 5 := by omega
      clear hg hgg hk hlt
      go_wp2_with fail
      refine (CH.out _).mono ?_
      rintro e w1 ⟨rfl, rfl⟩
      go_wp2
      go_ret
      exact ⟨by rw [HX.out] <;> rfl, rfl⟩
end Go.Proofs.Ytabfcnfddemblaa.Lo
