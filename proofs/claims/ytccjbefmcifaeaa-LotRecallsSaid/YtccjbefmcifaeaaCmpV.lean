/- How a share compares with a fraction: both sides, for all valid fractions. -/
import Derived.Test.YtccjbefmcifaeaaCmpShare
import Derived.Test.YtccjbefmcifaeaaRShare
import Derived.Test.YtccjbefmcifaeaaNumOps
namespace Go.Proofs.Ytccjbefmcifaeaa
open Go.RowKit

/-- What the comparison of a share with a valid fraction answers. -/
def cmpV (s d : Nat) (rn rd : Int) : Int := if rn < 0 then 1 else cmpN (s * rd.toNat) (d * rn.toNat)
theorem cmp_same (a b : Nat) : Wh.cmpN a b = cmpN a b := by 
  unfold Wh.cmpN cmpN
  by_cases h : a < b
  · rw [if_pos h, if_pos h]
  · rw [if_neg h, if_neg h]
    by_cases h2 : b < a
    · rw [if_pos h2, if_neg (by omega)]
    · rw [if_neg h2, if_pos (by omega)]
theorem cmpV_nat (s d rn rd : Nat) : cmpV s d rn rd = cmpN (s * rd) (d * rn) := by
  unfold cmpV
  rw [if_neg (by omega), Int.toNat_natCast, Int.toNat_natCast]
theorem cmpV_above {s d rn rd : Nat} (hs : s ≤ d) (hd : 0 < d) (h : rd < rn) : cmpV s d rn rd = -1 := by
  rw [cmpV_nat]
  have h1 : s * rd ≤ d * rd := Nat.mul_le_mul_right _ hs
  have h2 : d * rd < d * rn := Nat.mul_lt_mul_of_pos_left h hd
  unfold cmpN
  rw [if_pos (by omega)]

theorem fracCompare_neg (s : Nat) (v : Value) (rn rd : Int) (w : World) (h : rn < 0) (hform : ∃ a n c, v = .slice a n c) :
    Calls Try.prog 78 #[fracV s v, .agg #[.int .i64 rn, .int .i64 rd]] w fun e w' => e = .returned (.int .i64 1) ∧ Below w.heap.size w w' := by
  obtain ⟨a, n, c, rfl⟩ := hform
  have bR := BlockAt.new (w.alloc (.cells #[wV s 0, wV s 1, wV s 2, wV s 3, wV s 4, wV s 5, wV s 6, wV s 7, .slice a n c] 87)) #[.int .i64 rn, .int .i64 rd] 43
  have hw0 := below_alloc (below_alloc (Below.refl w.heap.size w) (.cells #[wV s 0, wV s 1, wV s 2, wV s 3, wV s 4, wV s 5, wV s 6, wV s 7, .slice a n c] 87)) (.cells #[.int .i64 rn, .int .i64 rd] 43)
  simp only [World.size_alloc] at bR
  have d0 := bR.cell 0
  have HW := Lib.hid hw0
  clear bR hw0
  go_enter Try.func78, Try.ntmps78
  go_wp2
  go_ret
  exact ⟨rfl, HW.out⟩
theorem fracCmp_any (s : Nat) (v : Value) (fs : List Nat) (rn rd : Int) (w : World) (hv : Nums w v fs) (hl : fs.length ≤ 1000) (hf : ∀ k, k < fs.length → fs.getD k 0 < 9223372036854775808) (hok : Fr.ok rn rd = true)
    (h1 : s * 1048576 < Wd.B ^ 8) (h2 : prodL fs * 1099511627776 < Wd.B ^ 8) :
    Calls Try.prog 78 #[fracV s v, .agg #[.int .i64 rn, .int .i64 rd]] w fun e w' => e = .returned (.int .i64 (cmpV s (prodL fs) rn rd)) ∧ Below w.heap.size w w' := by
  obtain ⟨k1, k2, k3, k4, _⟩ := Fr.ok_iff.1 hok
  by_cases hn : rn < 0
  · unfold cmpV
    rw [if_pos hn]
    refine fracCompare_neg s v rn rd w hn ?_
    rcases hv with ⟨a, c, h, _⟩ | ⟨b, off, cap, h, _⟩
    · exact ⟨a, 0, c, h⟩
    · exact ⟨_, _, _, h⟩
  · obtain ⟨a, rfl⟩ : ∃ a : Nat, rn = (a : Int) := ⟨rn.toNat, by omega⟩
    obtain ⟨b, rfl⟩ : ∃ b : Nat, rd = (b : Int) := ⟨rd.toNat, by omega⟩
    rw [cmpV_nat]
    exact fracCompare_any s v fs a b w hv hl hf (by omega) (by omega) (Nat.lt_of_le_of_lt (Nat.mul_le_mul_left _ (by omega)) h1) (Nat.lt_of_le_of_lt (Nat.mul_le_mul_left _ (by omega)) h2)

set_option maxRecDepth 20000 in
set_option maxHeartbeats 1000000 in
theorem refCompare_any (s d : Nat) (v u : Value) (rn rd : Int) (w : World) (hv : Wo w v s) (hu : Wo w u d) (hs : s ≤ d) (hd0 : 0 < d) (hnd : Wh.nd d ≤ 90) (hok : Fr.ok rn rd = true) :
    Calls Try.prog 80 #[v, u, .agg #[.int .i64 rn, .int .i64 rd]] w fun e w' => e = .returned (.int .i64 (cmpV s d rn rd)) ∧ Below w.heap.size w w' := by
  obtain ⟨k1, k2, k3, k4, _⟩ := Fr.ok_iff.1 hok
  have bR := BlockAt.new w #[.int .i64 rn, .int .i64 rd] 43
  have hw0 := below_alloc (Below.refl w.heap.size w) (.cells #[.int .i64 rn, .int .i64 rd] 43)
  have d0 := bR.cell 0
  have d1 := bR.cell 1
  have hns : Wh.nd s ≤ 90 := Nat.le_trans (Wh.nd_mono hs) hnd
  by_cases hn : rn < 0
  · have HW := Lib.hid hw0
    have hR : cmpV s d rn rd = 1 := by unfold cmpV; rw [if_pos hn]
    rw [hR]
    clear bR hw0 hv hu hok hR
    go_enter Try.func80, Try.ntmps80
    go_wp2
    go_ret
    exact ⟨rfl, HW.out⟩
  · obtain ⟨a, rfl⟩ : ∃ a : Nat, rn = (a : Int) := ⟨rn.toNat, by omega⟩
    obtain ⟨b, rfl⟩ : ∃ b : Nat, rd = (b : Int) := ⟨rd.toNat, by omega⟩
    by_cases hab : b < a
    · have hR := cmpV_above hs hd0 hab
      rw [hR]
      have HW := Lib.hid hw0
      have habi : (b : Int) < (a : Int) := by omega
      clear bR hw0 hv hu hok hR hab
      go_enter Try.func80, Try.ntmps80
      go_wp2
      go_ret
      exact ⟨rfl, HW.out⟩
    · have habi : ¬ (b : Int) < (a : Int) := by omega
      rw [cmpV_nat, ← cmp_same]
      have hb20 : b ≤ 1048576 := by omega
      have T1 := Lib.hid (fun W (hW : Below w.heap.size w W) => wTimes_any s b v W (hv.all hW) (by omega) (by omega))
      have T2 := Lib.hid (fun W (hW : Below w.heap.size w W) => wTimes_any d a u W (hu.all hW) (by omega) (by omega))
      have hx1 := Wh.nd_le (nd_times (n := s) (k := b) (by omega) (by omega))
      have hx2 := Wh.nd_le (nd_times (n := d) (k := a) (by omega) (by omega))
      have C := Lib.hid (fun W y z (hy : Wo W y (s * b)) (hz : Wo W z (d * a)) => wCompare_any _ _ y z W hy hz (by omega) (by omega))
      generalize hcv : Wh.cmpN (s * b) (d * a) = cv at *
      have HB := Lib.hid (And.intro bR hw0)
      have hS0 : (w.alloc (.cells #[.int .i64 (a : Int), .int .i64 (b : Int)] 43)).drew.cell? ⟨w.heap.size, 0, none⟩ = some (.int .i64 (a : Int)) ∧ (w.alloc (.cells #[.int .i64 (a : Int), .int .i64 (b : Int)] 43)).drew.cell? ⟨w.heap.size, 1, none⟩ = some (.int .i64 (b : Int)) := ⟨bR.cell 0, bR.cell 1⟩
      have HS0 := Lib.hid hS0
      clear bR hw0 hv hu hok hab hx1 hx2 hcv hn hS0 hns hnd hs hd0
      go_enter Try.func80, Try.ntmps80
      go_wp2_with fail
      clear d0 d1
      refine wp_region_seq [(0, true), (1, true), (2, true), (4, true), (5, true), (6, true), (3, false), (7, false), (8, false), (9, true)] (fun W => W.cell? ⟨w.heap.size, 0, none⟩ = some (.int .i64 (a : Int)) ∧ W.cell? ⟨w.heap.size, 1, none⟩ = some (.int .i64 (b : Int)))
        (by kernel_rfl) (by kernel_rfl) (by kernel_rfl) (by kernel_rfl) (fun d _ _ _ _ h => by cases d <;> exact h) HS0.out (fun hS => ?_)
      obtain ⟨X0, hX0⟩ : ∃ X, (w.alloc (.cells #[.int .i64 (a : Int), .int .i64 (b : Int)] 43)).drew = X := ⟨_, rfl⟩
      have HB : Hid (BlockAt X0 w.heap.size #[.int .i64 (a : Int), .int .i64 (b : Int)] 43 ∧ Below w.heap.size w X0) := Lib.hid ⟨by rw [← hX0]; exact HB.out.1.drew, by rw [← hX0]; exact HB.out.2.drew⟩
      rw [hX0] at hS ⊢
      clear hX0 HS0
      repeat (refine SeqH.take (v := ?_) rfl (by rfl) ?_ ?_; rotate_left; (· intro w hSw; (try dsimp only at hSw); obtain ⟨q0, q1⟩ := hSw; go_simp; (try with_reducible rfl)); simp only [Act.put, List.setIfInBounds_toArray, List.set_cons_zero, List.set_cons_succ])
      refine SeqH.step rfl (by rfl) (fun K hK => ?_)
      go_simp
      refine (T1.out _ HB.out.2).mono ?_
      rintro e X1 ⟨y, rfl, hy, hb1⟩
      have HB := Lib.hid (And.intro (HB.out.1.below hb1 HB.out.1.lt) (below_step HB.out.2 hb1))
      have HY := Lib.hid hy
      have hS1 : X1.cell? ⟨w.heap.size, 0, none⟩ = some (.int .i64 (a : Int)) ∧ X1.cell? ⟨w.heap.size, 1, none⟩ = some (.int .i64 (b : Int)) := ⟨HB.out.1.cell 0, HB.out.1.cell 1⟩
      clear hy hb1 T1
      try dsimp only
      refine hK.out _ _ hS1 (fun _ => ?_)
      clear hK K hS hS1
      try simp only [Act.put, List.setIfInBounds_toArray, List.set_cons_zero, List.set_cons_succ]
      refine SeqH.step rfl (by rfl) (fun K hK => ?_)
      go_simp
      refine (T2.out _ HB.out.2).mono ?_
      rintro e X2 ⟨z, rfl, hz, hb2⟩
      have C1 := Lib.hid (C.out _ _ _ (HY.out.all hb2) hz)
      have HB := Lib.hid (And.intro (HB.out.1.below hb2 HB.out.1.lt) (below_step HB.out.2 hb2))
      have hS2 : X2.cell? ⟨w.heap.size, 0, none⟩ = some (.int .i64 (a : Int)) ∧ X2.cell? ⟨w.heap.size, 1, none⟩ = some (.int .i64 (b : Int)) := ⟨HB.out.1.cell 0, HB.out.1.cell 1⟩
      clear hz hb2 T2 C
      try dsimp only
      refine hK.out _ _ hS2 (fun _ => ?_)
      clear hK K hS2
      try simp only [Act.put, List.setIfInBounds_toArray, List.set_cons_zero, List.set_cons_succ]
      refine SeqH.step rfl (by rfl) (fun K hK => ?_)
      go_simp
      refine C1.out.mono ?_
      rintro e X3 ⟨rfl, hb3⟩
      have HB := Lib.hid (And.intro (HB.out.1.below hb3 HB.out.1.lt) (below_step HB.out.2 hb3))
      have hS3 : X3.cell? ⟨w.heap.size, 0, none⟩ = some (.int .i64 (a : Int)) ∧ X3.cell? ⟨w.heap.size, 1, none⟩ = some (.int .i64 (b : Int)) := ⟨HB.out.1.cell 0, HB.out.1.cell 1⟩
      clear hb3 C1
      try dsimp only
      refine hK.out _ _ hS3 (fun _ => ?_)
      clear hK K hS3
      try simp only [Act.put, List.setIfInBounds_toArray, List.set_cons_zero, List.set_cons_succ]
      repeat (refine SeqH.take (v := ?_) rfl (by rfl) ?_ ?_; rotate_left; (· intro w hSw; (try dsimp only at hSw); go_simp; (try with_reducible rfl)); simp only [Act.put, List.setIfInBounds_toArray, List.set_cons_zero, List.set_cons_succ])
      refine SeqH.done ?_
      go_wp2
      go_ret
      exact ⟨rfl, HB.out.2⟩
end Go.Proofs.Ytccjbefmcifaeaa
