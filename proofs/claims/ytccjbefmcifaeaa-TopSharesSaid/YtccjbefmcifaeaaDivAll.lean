/- The library's division of two words by a small number. -/
import Derived.Test.YtccjbefmcifaeaaDivs
import Derived.Test.YtccjbefmcifaeaaDivN
import Derived.Test.YtccjbefmcifaeaaShelf
import Derived.Laws.Bits64b
import Derived.Lib.ItoaNum
namespace Go.Proofs.Ytccjbefmcifaeaa
open Go.RowKit

theorem wrapU (a : Int) : IntKind.u64.wrap a = a % 18446744073709551616 := by simp [IntKind.wrap, IntKind.bits, IntKind.signed]
theorem lz_any (y s : Nat) (hy : y < 18446744073709551616) (hs : Lib.bitLen y + s = 64) (w : World) :
    Calls Try.prog 123 #[.int .u64 y] w fun e w' => e = .returned (.int .i64 (s : Int)) ∧ w = w' := by
  refine (Try.bits_LeadingZeros64 y w (by omega) (by omega)).mono ?_
  rintro e w' ⟨rfl, h⟩
  refine ⟨?_, h.symm⟩
  rw [Int.toNat_natCast]
  congr 2; omega

set_option maxRecDepth 20000 in
set_option maxHeartbeats 1000000 in
theorem div64_walk (hi lo y s r Y v hp lq u32 u10 u1 u0 q1 p1 r1 a1 a2 b1 u21 q0 p0 r0 c1 c2 d1 d2 f1 g1 g2 g3 g4 q rem : Nat) (w : World)
    (LZ : ∀ W, Calls Try.prog 123 #[.int .u64 y] W fun e w' => e = .returned (.int .i64 (s : Int)) ∧ W = w')
    (hy0 : ((y : Int) == 0) = false) (hyh : ¬ (y : Int) ≤ (hi : Int)) (hh0 : ((hi : Int) == 0) = false) (hs : s ≤ 64)
    (e1 : IntKind.u64.wrap ((y : Int) * 2 ^ s) = (Y : Int)) (e2 : (Y : Int) / 4294967296 = (v : Int)) (e3 : bits .and .u64 (Y : Int) 4294967295 = 0)
    (e4 : IntKind.u64.wrap ((hi : Int) * 2 ^ s) = (hp : Int)) (e5 : (64 : Int) - (s : Int) = (r : Int)) (e6 : (lo : Int) / 2 ^ r = (lq : Int)) (e7 : bits .or .u64 (hp : Int) (lq : Int) = (u32 : Int))
    (e8 : IntKind.u64.wrap ((lo : Int) * 2 ^ s) = (u10 : Int)) (e9 : (u10 : Int) / 4294967296 = (u1 : Int)) (e10 : bits .and .u64 (u10 : Int) 4294967295 = (u0 : Int))
    (hv0 : ¬ v = 0) (e11 : (u32 : Int) / (v : Int) = (q1 : Int)) (e11w : IntKind.u64.wrap (q1 : Int) = (q1 : Int)) (e12 : IntKind.u64.wrap ((q1 : Int) * (v : Int)) = (p1 : Int)) (e13 : IntKind.u64.wrap ((u32 : Int) - (p1 : Int)) = (r1 : Int))
    (hq1 : decide ((4294967296 : Int) ≤ (q1 : Int)) = false) (e14 : IntKind.u64.wrap (4294967296 * (r1 : Int)) = (c1 : Int)) (e15 : IntKind.u64.wrap ((c1 : Int) + (u1 : Int)) = (c2 : Int))
    (e16 : IntKind.u64.wrap ((u32 : Int) * 4294967296) = (a1 : Int)) (e17 : IntKind.u64.wrap ((a1 : Int) + (u1 : Int)) = (a2 : Int)) (e18 : IntKind.u64.wrap ((q1 : Int) * (Y : Int)) = (b1 : Int)) (e19 : IntKind.u64.wrap ((a2 : Int) - (b1 : Int)) = (u21 : Int))
    (e20 : (u21 : Int) / (v : Int) = (q0 : Int)) (e20w : IntKind.u64.wrap (q0 : Int) = (q0 : Int)) (e21 : IntKind.u64.wrap ((q0 : Int) * (v : Int)) = (p0 : Int)) (e22 : IntKind.u64.wrap ((u21 : Int) - (p0 : Int)) = (r0 : Int))
    (hq0 : decide ((4294967296 : Int) ≤ (q0 : Int)) = false) (hgt1 : decide ((c2 : Int) < 0) = false) (e23 : IntKind.u64.wrap (4294967296 * (r0 : Int)) = (d1 : Int)) (e24 : IntKind.u64.wrap ((d1 : Int) + (u0 : Int)) = (d2 : Int)) (hgt0 : decide ((d2 : Int) < 0) = false)
    (e25 : IntKind.u64.wrap ((q1 : Int) * 4294967296) = (f1 : Int)) (e26 : IntKind.u64.wrap ((f1 : Int) + (q0 : Int)) = (q : Int)) (e27 : IntKind.u64.wrap ((u21 : Int) * 4294967296) = (g1 : Int)) (e28 : IntKind.u64.wrap ((g1 : Int) + (u0 : Int)) = (g2 : Int)) (e29 : IntKind.u64.wrap ((q0 : Int) * (Y : Int)) = (g3 : Int)) (e30 : IntKind.u64.wrap ((g2 : Int) - (g3 : Int)) = (g4 : Int)) (e31 : (g4 : Int) / 2 ^ s = (rem : Int)) :
    Calls Try.prog 117 #[.int .u64 hi, .int .u64 lo, .int .u64 y] w fun e w' => e = .returned (.tuple #[.int .u64 (q : Int), .int .u64 (rem : Int)]) ∧ Below w.heap.size w w' := by
  have L := Lib.hid LZ
  clear LZ
  go_enter Try.func117, Try.ntmps117
  go_wp2_with fail
  refine (L.out _).mono ?_
  rintro e w1 ⟨rfl, rfl⟩
  go_wp2
  go_loop [15, 16] (fun a b => a = .int .u64 q1 ∧ b = .int .u64 r1) (fun _ _ => 0)
  case atStart => exact ⟨rfl, rfl⟩
  case round =>
    obtain ⟨rfl, rfl⟩ := hrel
    go_wp2
    go_loop [18, 16] (fun a b => a = .int .u64 q0 ∧ b = .int .u64 r0) (fun _ _ => 0)
    case atStart => exact ⟨rfl, rfl⟩
    case round =>
      obtain ⟨rfl, rfl⟩ := hrel
      go_wp2
      go_ret2
      exact ⟨rfl, Below.refl _ _⟩
theorem u64_nat {a b : Nat} {x : Int} (h : x = (a : Int)) (e : a % 18446744073709551616 = b) : IntKind.u64.wrap x = (b : Int) := by rw [wrapU, h]; omega
theorem cast_shl (a s : Nat) : (a : Int) * 2 ^ s = ((a * 2 ^ s : Nat) : Int) := by rw [Int.natCast_mul, Int.natCast_pow]; rfl
theorem cast_shr (a s : Nat) : (a : Int) / 2 ^ s = ((a / 2 ^ s : Nat) : Int) := by rw [Int.natCast_ediv, Int.natCast_pow]; rfl
theorem and_mask (a : Nat) (h : a < 18446744073709551616) : bits .and .u64 (a : Int) 4294967295 = ((a % 4294967296 : Nat) : Int) := by
  have := bits_and_u64_nat a 4294967295 h (by omega)
  rw [show ((4294967295 : Nat) : Int) = (4294967295 : Int) from rfl] at this
  rw [this, show (4294967295 : Nat) = 2 ^ 32 - 1 from rfl, Nat.and_two_pow_sub_one_eq_mod]
theorem sub_wrap {a b c m n : Nat} (h : m = n + c) (hc : c < 18446744073709551616) (ha : a % 18446744073709551616 = m % 18446744073709551616) (hb : b % 18446744073709551616 = n % 18446744073709551616) :
    IntKind.u64.wrap ((a : Int) - (b : Int)) = (c : Int) := by rw [wrapU]; omega

set_option maxRecDepth 100000 in
theorem div64_any (hi lo y : Nat) (w : World) (hi0 : 0 < hi) (hh : hi < y) (hy : y ≤ 1048576) (hlo : lo < 18446744073709551616) :
    Calls Try.prog 117 #[.int .u64 hi, .int .u64 lo, .int .u64 y] w fun e w' => e = .returned (.tuple #[.int .u64 (((hi * 18446744073709551616 + lo) / y : Nat) : Int), .int .u64 (((hi * 18446744073709551616 + lo) % y : Nat) : Int)]) ∧ Below w.heap.size w w' := by
  have hbl := Lib.bitLenAux_bounds 64 y (by omega) (by omega)
  have hbl21 := Lib.bitLen_le y 21 (by omega) (by omega)
  obtain ⟨r, hr⟩ : ∃ r, Lib.bitLen y = r := ⟨_, rfl⟩
  have hbl : 1 ≤ r ∧ 2 ^ (r - 1) ≤ y ∧ y < 2 ^ r := by rw [← hr]; exact hbl
  rw [hr] at hbl21
  obtain ⟨s, hs⟩ : ∃ s, r + s = 64 := ⟨64 - r, by omega⟩
  have LZ := fun W => lz_any y s (by omega) (by rw [hr]; exact hs) W
  have hPR : 2 ^ s * 2 ^ r = 4294967296 * 4294967296 := by rw [← Nat.pow_add, show s + r = 64 by omega]
  have hP0 : 0 < 2 ^ s := Nat.pow_pos (by omega)
  have hR0 : 0 < 2 ^ r := Nat.pow_pos (by omega)
  have hvT : y * 2 ^ (s - 32) * 4294967296 = y * 2 ^ s := by
    rw [Nat.mul_assoc, show (4294967296 : Nat) = 2 ^ 32 from rfl, ← Nat.pow_add, show s - 32 + 32 = s by omega]
  obtain ⟨v, hv⟩ : ∃ v, y * 2 ^ (s - 32) = v := ⟨_, rfl⟩
  rw [hv] at hvT
  have hYlt : y * 2 ^ s < 18446744073709551616 := by
    have : y * 2 ^ s < 2 ^ r * 2 ^ s := Nat.mul_lt_mul_of_pos_right hbl.2.2 hP0
    rw [Nat.mul_comm (2 ^ r), hPR] at this; exact this
  have hhi : hi * 2 ^ s ≤ y * 2 ^ s := Nat.mul_le_mul_right _ (by omega)
  have hv0 : 0 < v := by rw [← hv]; exact Nat.mul_pos (by omega) (Nat.pow_pos (by omega))
  have hor : hi * 2 ^ s ||| lo / 2 ^ r = hi * 2 ^ s + lo / 2 ^ r := by
    rw [Nat.mul_comm hi, Nat.two_pow_add_eq_or_of_lt]
    refine Nat.div_lt_of_lt_mul ?_
    rw [Nat.mul_comm, hPR]; exact hlo
  have hu10 : lo * 2 ^ s % 18446744073709551616 = lo % 2 ^ r * 2 ^ s := by
    rw [show (18446744073709551616 : Nat) = 2 ^ r * 2 ^ s by rw [Nat.mul_comm, hPR], Nat.mul_mod_mul_right]
  have hcr : ∀ x : Nat, (x : Int) / 2 ^ r = ((x / 2 ^ r : Nat) : Int) := fun x => cast_shr x r
  have hcs : ∀ x : Nat, (x : Int) / 2 ^ s = ((x / 2 ^ s : Nat) : Int) := fun x => cast_shr x s
  have key := fun u32 u10 u1 u0 q1 r1 u21 q0 r0 => @Dv.q_eq hi lo y v 4294967296 (2 ^ s) (2 ^ r) (by omega) hP0 hR0 hPR (by omega) hvT hh hlo u32 u10 u1 u0 q1 r1 u21 q0 r0
  have sy := cast_shl y s
  have hlq6 := cast_shr lo r
  have sh := cast_shl hi s
  have sl := cast_shl lo s
  have hdl : lo / 2 ^ r < 2 ^ s := Nat.div_lt_of_lt_mul (by rw [Nat.mul_comm, hPR]; exact hlo)
  have hpp : ∀ x z, x * 2 ^ s = z → z / 2 ^ s = x := fun x z e => by rw [← e, Nat.mul_div_cancel _ hP0]
  obtain ⟨u32, h32⟩ : ∃ x, x = hi * 2 ^ s + lo / 2 ^ r := ⟨_, rfl⟩
  obtain ⟨u10, h10⟩ : ∃ x, x = lo % 2 ^ r * 2 ^ s := ⟨_, rfl⟩
  obtain ⟨u1, hu1⟩ : ∃ x, x = u10 / 4294967296 := ⟨_, rfl⟩
  obtain ⟨u0, hu0⟩ : ∃ x, x = u10 % 4294967296 := ⟨_, rfl⟩
  obtain ⟨q1, hq1⟩ : ∃ x, x = u32 / v := ⟨_, rfl⟩
  obtain ⟨r1, hr1⟩ : ∃ x, x = u32 % v := ⟨_, rfl⟩
  obtain ⟨u21, h21⟩ : ∃ x, x = r1 * 4294967296 + u1 := ⟨_, rfl⟩
  obtain ⟨q0, hq0⟩ : ∃ x, x = u21 / v := ⟨_, rfl⟩
  obtain ⟨r0, hr0⟩ : ∃ x, x = u21 % v := ⟨_, rfl⟩
  obtain ⟨k1, k0, l32, l21, l10, lw1, lw0, hquo, hrem⟩ := key u32 u10 u1 u0 q1 r1 u21 q0 r0 h32 h10 hu1 hu0 hq1 hr1 h21 hq0 hr0
  rw [show (4294967296 : Nat) * 4294967296 = 18446744073709551616 from rfl] at *
  have hd1 : v * q1 + r1 = u32 := by rw [hq1, hr1]; exact Nat.div_add_mod _ _
  have hd0 : v * q0 + r0 = u21 := by rw [hq0, hr0]; exact Nat.div_add_mod _ _
  have hr1v : r1 < v := by rw [hr1]; exact Nat.mod_lt _ hv0
  have hr0v : r0 < v := by rw [hr0]; exact Nat.mod_lt _ hv0
  have hz1 : q1 * (y * 2 ^ s) = v * q1 * 4294967296 := by rw [← hvT, ← Nat.mul_assoc, Nat.mul_comm q1 v]
  have hz0 : q0 * (y * 2 ^ s) = v * q0 * 4294967296 := by rw [← hvT, ← Nat.mul_assoc, Nat.mul_comm q0 v]
  have hc1 : q1 * v = v * q1 := Nat.mul_comm _ _
  have hc0 : q0 * v = v * q0 := Nat.mul_comm _ _
  have hYi : ((q1 : Int) * ((y * 2 ^ s : Nat) : Int)) = ((q1 * (y * 2 ^ s) : Nat) : Int) := (Int.natCast_mul _ _).symm
  have hYi0 : ((q0 : Int) * ((y * 2 ^ s : Nat) : Int)) = ((q0 * (y * 2 ^ s) : Nat) : Int) := (Int.natCast_mul _ _).symm
  have hvi : ((q1 : Int) * (v : Int)) = ((v * q1 : Nat) : Int) := by rw [← hc1, Int.natCast_mul]
  have hvi0 : ((q0 : Int) * (v : Int)) = ((v * q0 : Nat) : Int) := by rw [← hc0, Int.natCast_mul]
  have hq1i : (u32 : Int) / (v : Int) = (q1 : Int) := by rw [hq1, Int.natCast_ediv]
  have hq0i : (u21 : Int) / (v : Int) = (q0 : Int) := by rw [hq0, Int.natCast_ediv]
  have hremP := hpp _ _ hrem.symm
  rw [hz1] at hYi
  rw [hz0] at hYi0
  have hb7 := bits_or_u64_nat (hi * 2 ^ s) (lo / 2 ^ r) (by omega) (by omega)
  rw [hor, ← h32] at hb7
  rw [← hquo]
  obtain ⟨rem, hrm⟩ : ∃ x, x = (hi * 18446744073709551616 + lo) % y := ⟨_, rfl⟩
  rw [← hrm] at hrem hremP ⊢
  clear hquo hrm key hrem hpp
  generalize hY : y * 2 ^ s = Y at *
  generalize hi * 2 ^ s = hp at *
  generalize lo / 2 ^ r = lq at *
  generalize v * q1 = z1 at *
  generalize v * q0 = z0 at *
  refine div64_walk hi lo y s r Y v hp lq u32 u10 u1 u0 q1 z1 r1 (u32 * 4294967296 % 18446744073709551616) ((u32 * 4294967296 % 18446744073709551616 + u1) % 18446744073709551616) (z1 * 4294967296 % 18446744073709551616) u21 q0 z0 r0 (4294967296 * r1) (4294967296 * r1 + u1) (4294967296 * r0) (4294967296 * r0 + u0)
    (q1 * 4294967296) (u21 * 4294967296 % 18446744073709551616) ((u21 * 4294967296 % 18446744073709551616 + u0) % 18446744073709551616) (z0 * 4294967296 % 18446744073709551616) (r0 * 4294967296 + u0) (q1 * 4294967296 + q0) rem w LZ
    (by simp; omega) (by omega) (by simp; omega) (by omega) (u64_nat sy (by omega)) (by omega) ?_ (u64_nat sh (by omega)) (by omega) ?_ hb7 (u64_nat sl ?_) (by omega) ?_ (by omega) hq1i (u64_nat rfl (by omega)) (u64_nat hvi (by omega)) ?_
    (decide_eq_false (by omega)) (u64_nat (a := 4294967296 * r1) (by omega) (by omega)) (u64_nat (a := 4294967296 * r1 + u1) (by omega) (by omega)) (u64_nat (a := u32 * 4294967296) (by omega) rfl) (u64_nat (a := u32 * 4294967296 % 18446744073709551616 + u1) (by omega) rfl) (u64_nat hYi rfl) ?_
    hq0i (u64_nat rfl (by omega)) (u64_nat hvi0 (by omega)) ?_ (decide_eq_false (by omega)) (decide_eq_false (by omega)) (u64_nat (a := 4294967296 * r0) (by omega) (by omega)) (u64_nat (a := 4294967296 * r0 + u0) (by omega) (by omega)) (decide_eq_false (by omega))
    (u64_nat (a := q1 * 4294967296) (by omega) (by omega)) (u64_nat (a := q1 * 4294967296 + q0) (by omega) (by omega)) (u64_nat (a := u21 * 4294967296) (by omega) rfl) (u64_nat (a := u21 * 4294967296 % 18446744073709551616 + u0) (by omega) rfl) (u64_nat hYi0 rfl) ?_ ?_
  · rw [and_mask Y (by omega)]; omega
  · exact hlq6
  · rw [hu10, ← h10]
  · rw [and_mask u10 (by omega), hu0]
  · rw [wrapU]; omega
  · refine sub_wrap (m := u32 * 4294967296 + u1) (n := z1 * 4294967296) ?_ ?_ ?_ ?_
    · rw [h21, ← hd1, Nat.add_mul, Nat.add_assoc]
    · omega
    · exact (Nat.mod_mod _ _).trans (Nat.mod_add_mod _ _ _)
    · exact Nat.mod_mod _ _
  · rw [wrapU]; omega
  · refine sub_wrap (m := u21 * 4294967296 + u0) (n := z0 * 4294967296) ?_ ?_ ?_ ?_
    · rw [← hd0, Nat.add_mul, Nat.add_assoc]
    · omega
    · exact (Nat.mod_mod _ _).trans (Nat.mod_add_mod _ _ _)
    · exact Nat.mod_mod _ _
  · rw [hcs, hremP]
/-- So the premise on divisions holds. -/
theorem div_all {a d : Nat} (hd : 0 < d) (hd2 : d ≤ 1048576) : DivAt a d := by
  intro i hi W
  have hr : Wd.re a d (i + 1) < d := Nat.mod_lt _ hd
  have e2 := Wd.wd_div a i hd
  have e3 := Wd.re_step a d i
  by_cases h0 : Wd.re a d (i + 1) = 0
  · rw [h0, Nat.zero_mul, Nat.zero_add] at e2 e3
    rw [h0, e2, e3]
    exact div64_0 _ _ (Wd.wd_lt a i) hd W
  · rw [e2, e3]
    exact div64_any _ _ d W (by omega) hr hd2 (Wd.wd_lt a i)
end Go.Proofs.Ytccjbefmcifaeaa
