/- Numbers of eight words: the program's quotients and remainders by a small number. -/
import Derived.Test.YtccjbefmcifaeaaTimes
namespace Go.Proofs.Ytccjbefmcifaeaa
open Go.RowKit

/-- The library's division answers as it should for each word of a number. -/
def DivAt (a d : Nat) : Prop := ∀ i, i < 8 → ∀ W : World, Calls Try.prog 117 #[.int .u64 (Wd.re a d (i + 1)), .int .u64 (Wd.wd a i), .int .u64 d] W fun e w' =>
  e = .returned (.tuple #[.int .u64 (Wd.wd (a / d) i), .int .u64 (Wd.re a d i)]) ∧ Below W.heap.size W w'

theorem rowC_down (a b k : Nat) : (rowC a b (k + 1)).setIfInBounds k (wV b k) = rowC a b k := by
  unfold rowC
  rw [List.setIfInBounds_toArray, ← List.map_set]
  congr 2
  refine List.ext_getElem? fun i => ?_
  by_cases hi : i < 8
  · rw [List.getElem?_set, Wd.row_at _ _ _ _ hi, Wd.row_at _ _ _ _ hi]
    by_cases e : k = i
    · subst e; rw [if_pos rfl, if_pos (by simp [Wd.row]; omega), if_neg (by omega)]
    · rw [if_neg e]
      by_cases h1 : i < k
      · rw [if_pos h1, if_pos (by omega)]
      · rw [if_neg h1, if_neg (by omega)]
  · rw [List.getElem?_eq_none (by simp [Wd.row]; omega), List.getElem?_eq_none (by simp [Wd.row]; omega)]
theorem wrap_i {a : Int} (h0 : 0 ≤ a) (h : a < 9223372036854775808) : IntKind.i64.wrap a = a := by
  simp [IntKind.wrap, IntKind.bits, IntKind.signed]; omega
theorem div64_0 (lo y : Nat) (h1 : lo < 18446744073709551616) (hy : 0 < y) (w : World) :
    Calls Try.prog 117 #[.int .u64 0, .int .u64 lo, .int .u64 y] w fun e w' => e = .returned (.tuple #[.int .u64 ((lo / y : Nat) : Int), .int .u64 ((lo % y : Nat) : Int)]) ∧ Below w.heap.size w w' := by
  have hq : IntKind.u64.wrap ((lo : Int) / (y : Int)) = ((lo / y : Nat) : Int) := by
    rw [wrap_u]
    · simp
    · exact Int.ediv_nonneg (by omega) (by omega)
    · have := Nat.div_le_self lo y
      have e : (lo : Int) / (y : Int) = ((lo / y : Nat) : Int) := by simp
      rw [e]; omega
  have HR : Hid ((lo : Int) % (y : Int) = ((lo % y : Nat) : Int)) := Lib.hid (by simp)
  have hy0 : ((y : Int) == 0) = false := by simp; omega
  have hy1 : ¬ (y : Int) ≤ 0 := by omega
  generalize lo / y = q at *
  generalize lo % y = r at *
  clear h1
  go_enter Try.func117, Try.ntmps117
  go_wp2
  go_quiet (fail)
  go_wp2
  go_ret2
  exact ⟨by rw [← HR.out]; rfl, below_drewN (Below.refl _ _) _⟩

theorem small_div {a d : Nat} (ha : a < 18446744073709551616) (hd : 0 < d) : DivAt a d := by
  intro i hi W
  have e1 : Wd.re a d (i + 1) = 0 := Wd.re_top (n := i + 1) (by rw [Nat.pow_succ]; exact Nat.lt_of_lt_of_le (show a < Wd.B from ha) (Nat.le_mul_of_pos_left _ (Wd.pw_pos i)))
  have e2 := Wd.wd_div a i hd
  have e3 := Wd.re_step a d i
  rw [e1, Nat.zero_mul, Nat.zero_add] at e2 e3
  rw [e1, e2, e3]
  exact div64_0 _ _ (Wd.wd_lt a i) hd W

set_option maxRecDepth 100000 in
set_option maxHeartbeats 1000000 in
theorem divided_any (n d : Nat) (w : World) (hn : n < Wd.B ^ 8) (hd : 0 < d) (hd2 : d < 9223372036854775808) (hD : DivAt n d) :
    Calls Try.prog 100 #[natV n, .int .i64 d] w fun e w' => e = .returned (.tuple #[natV (n / d), .int .i64 ((n % d : Nat) : Int)]) ∧ Below w.heap.size w w' := by
  have bN := (BlockAt.new w #[wV n 0, wV n 1, wV n 2, wV n 3, wV n 4, wV n 5, wV n 6, wV n 7] 85).alloc (.cells zero8 85)
  have bZ := BlockAt.new (w.alloc (.cells #[wV n 0, wV n 1, wV n 2, wV n 3, wV n 4, wV n 5, wV n 6, wV n 7] 85)) zero8 85
  have hw0 := ((Below.refl w.heap.size w).alloc (Nat.le_refl _) (.cells #[wV n 0, wV n 1, wV n 2, wV n 3, wV n 4, wV n 5, wV n 6, wV n 7] 85)).alloc (by simp) (.cells zero8 85)
  simp only [World.size_alloc] at bN bZ
  have H0 := Lib.hid (And.intro bN (And.intro bZ hw0))
  have hcv := wrap_u (a := (d : Int)) (by omega) (by omega)
  have hml := Nat.mod_lt n hd
  have HM := Lib.hid (show n % d < 9223372036854775808 by omega)
  have HT := Lib.hid (Wd.re_top (a := n) (d := d) hn)
  have HZ := Lib.hid (Wd.re_zero n d)
  have HD := Lib.hid hD
  clear bN bZ hw0 hn hd2 hD hml
  go_enter Try.func100, Try.ntmps100
  go_wp2
  go_loopw [6, 7] (fun r t wr => ∃ z : Int, ∃ k : Nat, (k ≤ 8 ∧ z = (k : Int) - 1) ∧ t = .int .i64 z ∧ r = .int .u64 (Wd.re n d k) ∧ Hid (BlockAt wr w.heap.size (rowC n (n / d) k) 85 ∧ BlockAt wr (w.heap.size + 1) zero8 85 ∧ Below w.heap.size w wr)) (fun _ t _ => (intOf t + 1).toNat)
  case atStart => exact ⟨7, 8, ⟨by omega, rfl⟩, rfl, by rw [HT.out]; rfl, Lib.hid ⟨by rw [rowC_all]; exact H0.out.1, H0.out.2.1, H0.out.2.2⟩⟩
  case round =>
    obtain ⟨z, k, hk, rfl, rfl, hg⟩ := hrel
    clear H0
    by_cases hz : 0 ≤ z
    · obtain ⟨j, rfl⟩ : ∃ j : Nat, z = (j : Int) := ⟨z.toNat, by omega⟩
      obtain ⟨hk8, hkj⟩ := hk
      obtain rfl : k = j + 1 := by omega
      clear hkj hz
      obtain ⟨b0, b1, hw⟩ := hg.out
      have c0 := (b0.cell j).trans (rowC_at _ _ _ _ (by omega))
      rw [if_pos (Nat.lt_succ_self j)] at c0
      have D := Lib.hid (HD.out j (by omega))
      have b0' := b0
      have HB := Lib.hid (And.intro b0' (And.intro b1 hw))
      clear b0 b1 hw b0' hg HD
      generalize Wd.re n d (j + 1) = r1 at *
      go_wp2_with fail
      refine (D.out _).mono ?_
      rintro e w1 ⟨rfl, hb1⟩
      obtain ⟨b0, b1, hw⟩ := HB.out
      have b0 := b0.below hb1 b0.lt
      have b1 := b1.below hb1 b1.lt
      have hw := below_step hw hb1
      have f0 := b0.frozen j
      have c0 := (b0.cell j).trans (rowC_at _ _ _ _ (by omega))
      rw [if_pos (Nat.lt_succ_self j)] at c0
      have HB := Lib.hid (And.intro b0 (And.intro b1 hw))
      clear b0 b1 hw hb1 D
      go_wp2
      go_roundw
      case rel =>
        obtain ⟨b0, b1, hw⟩ := HB.out
        have := b0.set j (wV (n / d) j)
        rw [rowC_down] at this
        exact ⟨(j : Int) - 1, j, ⟨by omega, rfl⟩, by first | rfl | go_num, rfl, Lib.hid ⟨this, b1.other (by omega) _, hw.setCell (by simp) _⟩⟩
      case measure => simp [intOf]
    · obtain rfl : k = 0 := by omega
      have hz2 : z < 0 := by omega
      clear hk hz
      obtain ⟨b0, b1, hw⟩ := hg.out
      rw [rowC_zero] at b0
      obtain ⟨c0, c1, c2, c3, c4, c5, c6, c7⟩ := nat_cells b0
      obtain ⟨z0, z1, z2, z3, z4, z5, z6, z7⟩ := zero_cells b1
      obtain ⟨f0, f1, f2, f3, f4, f5, f6, f7⟩ := free8 b1
      have HB := Lib.hid (And.intro b1 hw)
      clear b0 b1 hw hg
      rw [HZ.out]
      have hcv2 := wrap_i (a := ((n % d : Nat) : Int)) (by omega) (by have := HM.out; omega)
      generalize hrr : n % d = rr at *
      have HRR := Lib.hid hrr
      clear hrr
      go_wp2
      obtain ⟨W2, hW⟩ : ∃ W2, storeN wr (w.heap.size + 1) (n / d) = W2 := ⟨_, rfl⟩
      have hb := store_below HB.out.2 (by omega) hW
      obtain ⟨c0, c1, c2, c3, c4, c5, c6, c7⟩ := store_cells HB.out.1 hW
      unfold storeN at hW
      rw [hW]
      exact bodyPost_ret (v := .tuple #[natV (n / d), .int .i64 rr]) (by simp [results, Try.results100, go_sem, c0, c1, c2, c3, c4, c5, c6, c7, hcv2]) rfl ⟨by rw [HRR.out], hb⟩
end Go.Proofs.Ytccjbefmcifaeaa
