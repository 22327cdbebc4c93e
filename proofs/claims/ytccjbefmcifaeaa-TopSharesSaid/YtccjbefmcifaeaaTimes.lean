/- Numbers of eight words: the program's multiples by a list of factors. -/
import Derived.Test.YtccjbefmcifaeaaWords
namespace Go.Proofs.Ytccjbefmcifaeaa
open Go.RowKit

/-- A list of numbers from 0 on that can be read. -/
def Nums (w : World) (v : Value) (fs : List Nat) : Prop :=
  (∃ a c, v = .slice a 0 c ∧ fs = []) ∨ ∃ b off cap, v = .slice (some ⟨b, off, none⟩) fs.length cap ∧ fs.length ≤ cap ∧ b < w.heap.size ∧ ∀ k, k < fs.length → w.cell? ⟨b, off + k, none⟩ = some (.int .i64 (fs.getD k 0 : Nat))
theorem Nums.all {w w2 : World} {v : Value} {fs : List Nat} (h : Nums w v fs) (hb : Below w.heap.size w w2) : Nums w2 v fs := by
  rcases h with h | ⟨b, off, cap, h1, h2, h3, h4⟩
  · exact .inl h
  · exact .inr ⟨b, off, cap, h1, h2, Nat.lt_of_lt_of_le h3 hb.size, fun k hk => (hb.cell (p := ⟨b, off + k, none⟩) h3).trans (h4 k hk)⟩
def prodL : List Nat → Nat
  | [] => 1
  | f :: r => f * prodL r
theorem prodL_append (a b : List Nat) : prodL (a ++ b) = prodL a * prodL b := by
  induction a with
  | nil => simp [prodL]
  | cons f a ih => simp [prodL, ih, Nat.mul_assoc]
theorem prodL_succ {fs : List Nat} {k : Nat} (h : k < fs.length) : prodL (fs.take (k + 1)) = prodL (fs.take k) * fs[k] := by
  rw [List.take_succ_eq_append_getElem h, prodL_append]; simp [prodL]

theorem add64_0 (x y : Nat) (w : World) : (callFunc 116 #[.int .u64 x, .int .u64 y, .int .u64 0]).run Try.prog w =
    .ok (.value (.tuple #[.int .u64 (((x : Int) + y) % 18446744073709551616), .int .u64 (((x : Int) + y) / 18446744073709551616)])) w := by
  have := add64 x y 0 (by omega) w
  simpa using this
theorem mul64_any (x y : Nat) (hx : x < 18446744073709551616) (hy : y < 18446744073709551616) (w : World) :
    Calls Try.prog 83 #[.int .u64 x, .int .u64 y] w fun e w' => ∃ hi lo : Nat, e = .returned (.tuple #[.int .u64 hi, .int .u64 lo]) ∧ (hi = x * y / 18446744073709551616 ∧ lo = x * y % 18446744073709551616) ∧ w = w' := by
  refine (Try.bits_Mul64 x y hx hy w).mono ?_
  rintro e w' h
  exact ⟨_, _, h.1, ⟨rfl, rfl⟩, h.2.symm⟩
theorem add64_n (x y : Nat) : ∃ s o : Nat, (∀ W, (callFunc 116 #[.int .u64 x, .int .u64 y, .int .u64 0]).run Try.prog W = .ok (.value (.tuple #[.int .u64 s, .int .u64 o])) W) ∧ (s : Int) = ((x : Int) + y) % 18446744073709551616 ∧ (o : Int) = ((x : Int) + y) / 18446744073709551616 := by
  refine ⟨(x + y) % 18446744073709551616, (x + y) / 18446744073709551616, fun W => ?_, by simp, by simp⟩
  rw [add64_0]; simp
theorem wrap_u {a : Int} (h0 : 0 ≤ a) (h : a < 18446744073709551616) : IntKind.u64.wrap a = a := by
  simp [IntKind.wrap, IntKind.bits, IntKind.signed]; omega
theorem wV_mul {a f k hi lo : Nat} (h1 : hi = Wd.wd a k * f / 18446744073709551616) (h2 : lo = Wd.wd a k * f % 18446744073709551616) :
    wV (a * f) k = .int .u64 (((lo : Int) + (Wd.cm a f k : Int)) % 18446744073709551616) ∧ (Wd.cm a f (k + 1) : Int) = hi + ((lo : Int) + (Wd.cm a f k : Int)) / 18446744073709551616 := by
  constructor
  · unfold wV; rw [Wd.wd_mul, Wd.wm_two, h2]; simp [Wd.B]
  · rw [Wd.cm_succ, Wd.cm_two, h1, h2]; simp [Wd.B]
theorem carry_lt {a f k : Nat} (h : f < 18446744073709551616) : (Wd.cm a f k : Int) < 18446744073709551616 := by
  have := Wd.cm_lt a f k (by unfold Wd.B; exact h)
  unfold Wd.B at this; omega

set_option maxRecDepth 100000 in
set_option maxHeartbeats 1000000 in
theorem times_any (n : Nat) (v : Value) (fs : List Nat) (w : World) (hv : Nums w v fs) (hl : fs.length ≤ 1000) (hf : ∀ k, k < fs.length → fs.getD k 0 < 9223372036854775808) :
    Calls Try.prog 96 #[natV n, v] w fun e w' => e = .returned (natV (n * prodL fs)) ∧ Below w.heap.size w w' := by
  have bN := (BlockAt.new w #[wV n 0, wV n 1, wV n 2, wV n 3, wV n 4, wV n 5, wV n 6, wV n 7] 85).alloc (.cells zero8 85)
  have bZ := BlockAt.new (w.alloc (.cells #[wV n 0, wV n 1, wV n 2, wV n 3, wV n 4, wV n 5, wV n 6, wV n 7] 85)) zero8 85
  have hw0 := ((Below.refl w.heap.size w).alloc (Nat.le_refl _) (.cells #[wV n 0, wV n 1, wV n 2, wV n 3, wV n 4, wV n 5, wV n 6, wV n 7] 85)).alloc (by simp) (.cells zero8 85)
  simp only [World.size_alloc] at bN bZ
  have H0 := Lib.hid (And.intro bN (And.intro bZ hw0))
  have HF := Lib.hid hf
  clear bN bZ hw0 hf
  have hform : ∃ a c, v = .slice a fs.length c := by
    rcases hv with ⟨a, c, rfl, rfl⟩ | ⟨b, off, cap, rfl, _⟩
    · exact ⟨a, c, rfl⟩
    · exact ⟨_, _, rfl⟩
  have HV := Lib.hid hv
  obtain ⟨ao, cp, rfl⟩ := hform
  clear hv
  go_enter Try.func96, Try.ntmps96
  go_wp2
  go_loopw [15] (fun t wr => ∃ k : Nat, k ≤ fs.length ∧ t = .int .i64 k ∧ Hid (∃ a, a = n * prodL (fs.take k) ∧ BlockAt wr w.heap.size #[wV a 0, wV a 1, wV a 2, wV a 3, wV a 4, wV a 5, wV a 6, wV a 7] 85 ∧ BlockAt wr (w.heap.size + 1) zero8 85 ∧ Below w.heap.size w wr)) (fun t _ => fs.length - (intOf t).toNat)
  case atStart => exact ⟨0, by omega, rfl, Lib.hid ⟨n, by simp [prodL], H0.out⟩⟩
  case round =>
    obtain ⟨k, hk, rfl, hg⟩ := hrel
    obtain ⟨a, ha, b0, b1, hw⟩ := hg.out
    have HA := Lib.hid ha
    clear H0 hg ha
    by_cases hlt : k < fs.length
    · have hft := HF.out k hlt
      have hcell : ∃ b off, ao = some ⟨b, off, none⟩ ∧ wr.cell? ⟨b, off + k, none⟩ = some (.int .i64 (fs.getD k 0 : Nat)) := by
        rcases HV.out with ⟨a, c, e, rfl⟩ | ⟨b, off, cap, e, _, h3, h4⟩
        · cases hlt
        · simp only [Value.slice.injEq] at e
          exact ⟨b, off, e.1, (hw.cell (p := ⟨b, off + k, none⟩) h3).trans (h4 k hlt)⟩
      obtain ⟨b, off, rfl, hc⟩ := hcell
      have hgd : fs.getD k 0 = fs[k] := by simp [hlt]
      have HP := Lib.hid (prodL_succ hlt)
      rw [hgd] at hft hc
      clear hgd
      generalize fs[k] = f at *
      have HB := Lib.hid (And.intro b0 (And.intro b1 hw))
      clear b0 b1 hw
      obtain ⟨wo, hwo⟩ : ∃ wo : World, wo = wr := ⟨_, rfl⟩
      subst hwo
      go_wp2
      go_loopw [7, 19] (fun c t wr => ∃ j : Nat, j ≤ 8 ∧ t = .int .i64 j ∧ c = .int .u64 (Wd.cm a f j) ∧ Hid (BlockAt wr w.heap.size (rowC (a * f) a j) 85 ∧ BlockAt wr (w.heap.size + 1) zero8 85 ∧ Below w.heap.size w wr)) (fun _ t _ => 8 - (intOf t).toNat)
      case atStart => exact ⟨0, by omega, rfl, by rw [Wd.cm_zero]; rfl, Lib.hid ⟨by rw [rowC_zero]; exact HB.out.1, HB.out.2.1, HB.out.2.2⟩⟩
      case round =>
        obtain ⟨j, hj, rfl, rfl, hg⟩ := hrel
        clear HB
        by_cases hjl : j < 8
        · obtain ⟨b0, b1, hw⟩ := hg.out
          have c0 := (b0.cell j).trans (rowC_at _ _ _ _ hjl)
          rw [if_neg (Nat.lt_irrefl j)] at c0
          have f0 := b0.frozen j
          have hcl := carry_lt (a := a) (f := f) (k := j) (by omega)
          have hcl2 := carry_lt (a := a) (f := f) (k := j + 1) (by omega)
          have hx := Wd.wd_lt a j
          unfold Wd.B at hx
          have M := Lib.hid (fun W => mul64_any (Wd.wd a j) f hx (by omega) W)
          have hcv := wrap_u (a := (f : Int)) (by omega) (by omega)
          have HC := Lib.hid (And.intro hcl hcl2)
          clear b0 b1 hw hcl hcl2 hx hft
          go_wp2_with fail
          refine (M.out _).mono ?_
          rintro e w1 ⟨hi, lo, rfl, hhl, rfl⟩
          obtain ⟨hcl, hcl2⟩ := HC.out
          obtain ⟨m1, m2⟩ := wV_mul hhl.1 hhl.2
          rw [m2] at hcl2
          obtain ⟨sm, ov, HA64, hsm, hov⟩ := add64_n lo (Wd.cm a f j)
          rw [← hsm] at m1
          rw [← hov] at m2 hcl2
          have HM := Lib.hid m1
          have HM2 := Lib.hid m2
          have hwr := wrap_u (a := (hi : Int) + ov) (by omega) hcl2
          clear m1 m2 hhl hcl hcl2 hsm hov HC hcv M
          go_wp2
          go_roundw
          case rel =>
            obtain ⟨b0, b1, hw⟩ := hg.out
            have := b0.set j (wV (a * f) j)
            rw [rowC_set, HM.out] at this
            exact ⟨j + 1, by omega, by go_num, by rw [HM2.out], Lib.hid ⟨this, b1.other (by omega) _, hw.setCell (by simp) _⟩⟩
          case measure => simp [intOf]; omega
        · obtain rfl : j = 8 := by omega
          go_wp2
          go_roundw
          case rel =>
            obtain ⟨b0, b1, hw⟩ := hg.out
            rw [rowC_all] at b0
            exact ⟨k + 1, by omega, by go_num, Lib.hid ⟨a * f, by rw [HP.out, HA.out, Nat.mul_assoc], b0, b1, hw⟩⟩
          case measure => simp [intOf]; omega
    · obtain rfl : k = fs.length := by omega
      rw [List.take_length] at HA
      obtain ⟨c0, c1, c2, c3, c4, c5, c6, c7⟩ := nat_cells b0
      obtain ⟨z0, z1, z2, z3, z4, z5, z6, z7⟩ := zero_cells b1
      obtain ⟨f0, f1, f2, f3, f4, f5, f6, f7⟩ := free8 b1
      have HB := Lib.hid (And.intro b1 hw)
      clear b0 b1 hw
      go_wp2
      obtain ⟨W2, hW⟩ : ∃ W2, storeN wr (w.heap.size + 1) a = W2 := ⟨_, rfl⟩
      have hb := store_below HB.out.2 (by omega) hW
      obtain ⟨c0, c1, c2, c3, c4, c5, c6, c7⟩ := store_cells HB.out.1 hW
      unfold storeN at hW
      rw [hW]
      exact bodyPost_ret (v := natV a) (by simp [results, Try.results96, go_sem, c0, c1, c2, c3, c4, c5, c6, c7]) rfl ⟨by rw [HA.out], hb⟩
end Go.Proofs.Ytccjbefmcifaeaa
