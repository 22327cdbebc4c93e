/- NumMakes returns true, whatever the numbers: the program and the reference make one fraction, and call the same fractions valid. -/
import Derived.Test.YtfgignbmnfeikaaDoorRefMake
import Derived.Test.YtfgignbmnfeikaaDoorMoney0
import Derived.Test.YtfgignbmnfeikaaDoorSeq
namespace Go.Proofs.YtfgignbmnfeikaaDoor
open Go.RowKit

/-- What a region keeps while its calls make memory: three fractions, and that nothing old has turned. -/
theorem keep3 {w0 a c : World} {b1 b2 b3 : Nat} {x1 y1 x2 y2 x3 y3 : Int}
    (h : a.cell? ⟨b1, 0, none⟩ = some (.int .i64 x1) ∧ a.cell? ⟨b1, 1, none⟩ = some (.int .i64 y1) ∧ a.cell? ⟨b2, 0, none⟩ = some (.int .i64 x2) ∧ a.cell? ⟨b2, 1, none⟩ = some (.int .i64 y2) ∧
      a.cell? ⟨b3, 0, none⟩ = some (.int .i64 x3) ∧ a.cell? ⟨b3, 1, none⟩ = some (.int .i64 y3) ∧ b1 < a.heap.size ∧ b2 < a.heap.size ∧ b3 < a.heap.size ∧ Below w0.heap.size w0 a) (hb : Below a.heap.size a c) :
    c.cell? ⟨b1, 0, none⟩ = some (.int .i64 x1) ∧ c.cell? ⟨b1, 1, none⟩ = some (.int .i64 y1) ∧ c.cell? ⟨b2, 0, none⟩ = some (.int .i64 x2) ∧ c.cell? ⟨b2, 1, none⟩ = some (.int .i64 y2) ∧
      c.cell? ⟨b3, 0, none⟩ = some (.int .i64 x3) ∧ c.cell? ⟨b3, 1, none⟩ = some (.int .i64 y3) ∧ b1 < c.heap.size ∧ b2 < c.heap.size ∧ b3 < c.heap.size ∧ Below w0.heap.size w0 c := by
  obtain ⟨h1, h2, h3, h4, h5, h6, s1, s2, s3, hw⟩ := h
  have hs := hb.size
  exact ⟨(hb.cell (p := ⟨b1, 0, none⟩) s1).trans h1, (hb.cell (p := ⟨b1, 1, none⟩) s1).trans h2, (hb.cell (p := ⟨b2, 0, none⟩) s2).trans h3, (hb.cell (p := ⟨b2, 1, none⟩) s2).trans h4,
    (hb.cell (p := ⟨b3, 0, none⟩) s3).trans h5, (hb.cell (p := ⟨b3, 1, none⟩) s3).trans h6, by omega, by omega, by omega, hw.trans (hb.mono hw.size)⟩

theorem tail3 {w0 a : World} {b1 b2 b3 : Nat} {x1 y1 x2 y2 x3 y3 : Int}
    (h : a.cell? ⟨b1, 0, none⟩ = some (.int .i64 x1) ∧ a.cell? ⟨b1, 1, none⟩ = some (.int .i64 y1) ∧ a.cell? ⟨b2, 0, none⟩ = some (.int .i64 x2) ∧ a.cell? ⟨b2, 1, none⟩ = some (.int .i64 y2) ∧
      a.cell? ⟨b3, 0, none⟩ = some (.int .i64 x3) ∧ a.cell? ⟨b3, 1, none⟩ = some (.int .i64 y3) ∧ b1 < a.heap.size ∧ b2 < a.heap.size ∧ b3 < a.heap.size ∧ Below w0.heap.size w0 a) : Below w0.heap.size w0 a := h.2.2.2.2.2.2.2.2.2

set_option maxHeartbeats 1000000 in
theorem makes_walk (n d rn rd : Int) (w : World) (n1 : -9223372036854775808 ≤ n) (n2 : n ≤ 9223372036854775807) (d1 : -9223372036854775808 ≤ d) (d2 : d ≤ 9223372036854775807)
    (r1 : -9223372036854775808 ≤ rn) (r2 : rn ≤ 9223372036854775807) (r3 : -9223372036854775808 ≤ rd) (r4 : rd ≤ 9223372036854775807) :
    Calls Tryd.prog 3 #[.int .i64 n, .int .i64 d, rat rn rd] w fun e w' => e = .returned (.bool true) ∧ Below w.heap.size w w' := by
  have MK := Lib.hid (fun w => make_any n d w n1 n2 d1 d2)
  have RK := Lib.hid (fun w => ref_make_any n d w n1 n2 d1 d2)
  have hok : Fr.er n d = 0 → Fr.ok (Fr.nu n d) (Fr.de n d) = true := Fr.ok_mk
  obtain ⟨x1, x2⟩ := Fr.nu_bound n d
  obtain ⟨y1, y2⟩ := Fr.de_bound n d
  have hz : Fr.er n d = 0 ∨ Fr.er n d = 1 ∨ Fr.er n d = 4 := Fr.er_cases n d
  generalize Fr.nu n d = x at *
  generalize Fr.de n d = y at *
  generalize Fr.er n d = z at *
  have HOK := Lib.hid hok
  clear hok
  rcases hz with rfl | rfl | rfl
  all_goals
    go_enter Tryd.func3, Tryd.ntmps3
    go_wp2_with fail
    refine (MK.out _).mono ?_
    rintro e w1 ⟨rfl, hb1⟩
    have hr1 := (RatAt.fresh w rn rd 23).all hb1
    have hs1 : w.heap.size < w1.heap.size := hr1.2.2.2.2
    have hw1 : Below w.heap.size w w1 := ((Below.refl _ _).alloc (Nat.le_refl _) _).trans (hb1.mono (by simp))
    clear hb1
    go_wp2_with fail
    refine (RK.out _).mono ?_
    rintro e w2 ⟨rfl, hb2⟩
    have hr2 := (hr1.alloc _).all hb2
    have hx2 := (RatAt.fresh w1 x y 23).all hb2
    have hw2 : Below w.heap.size w w2 := (hw1.alloc hw1.size _).trans (hb2.mono (by simp; omega))
    clear hb2 hr1 hw1
    have hr3 := hr2.alloc (.cells #[.int .i64 x, .int .i64 y] 23)
    have hx3 := hx2.alloc (.cells #[.int .i64 x, .int .i64 y] 23)
    have hy3 := RatAt.fresh w2 x y 23
    have hw3 := hw2.alloc hw2.size (.cells #[.int .i64 x, .int .i64 y] 23)
    clear hr2 hx2 hw2
    have HS := Lib.hid (And.intro hr3 (And.intro hx3 (And.intro hy3 hw3)))
    clear hr3 hx3 hy3 hw3
    go_wp2_with fail
    refine wp_region_seq [(0, true), (1, true), (2, true), (3, true), (4, true), (5, true), (6, true), (7, true), (8, true), (9, true), (11, true), (10, false), (12, false), (13, true), (14, true), (15, true), (16, true), (17, true), (18, true), (19, true), (20, false), (21, true), (22, true), (23, true), (24, false), (25, true), (26, true)]
      (fun W => W.cell? ⟨w.heap.size, 0, none⟩ = some (.int .i64 rn) ∧ W.cell? ⟨w.heap.size, 1, none⟩ = some (.int .i64 rd) ∧ W.cell? ⟨w1.heap.size, 0, none⟩ = some (.int .i64 x) ∧ W.cell? ⟨w1.heap.size, 1, none⟩ = some (.int .i64 y) ∧
      W.cell? ⟨w2.heap.size, 0, none⟩ = some (.int .i64 x) ∧ W.cell? ⟨w2.heap.size, 1, none⟩ = some (.int .i64 y) ∧ w.heap.size < W.heap.size ∧ w1.heap.size < W.heap.size ∧ w2.heap.size < W.heap.size ∧ Below w.heap.size w W)
      (by kernel_rfl) (by kernel_rfl) (by kernel_rfl) (by kernel_rfl) (fun d _ _ _ _ h => by cases d <;> exact h)
      (by obtain ⟨hr3, hx3, hy3, hw3⟩ := HS.out; exact ⟨hr3.1, hr3.2.1, hx3.1, hx3.2.1, hy3.1, hy3.2.1, hr3.2.2.2.2, hx3.2.2.2.2, hy3.2.2.2.2, hw3.drew⟩) (fun hS => ?_)
    clear HS
    repeat (first
      | (refine SeqH.take (v := ?_) rfl (by rfl) ?_ ?_; rotate_left; (· intro w hSw; (try dsimp only at hSw); go_simp; (try with_reducible rfl)); simp only [Act.put, List.setIfInBounds_toArray, List.set_cons_zero, List.set_cons_succ])
      | (refine SeqH.skip rfl (by rfl) ?_; simp only [Act.put, List.setIfInBounds_toArray, List.set_cons_zero, List.set_cons_succ])
      | (refine SeqH.pass rfl (by rfl) hS ?_; simp only [Act.put, List.setIfInBounds_toArray, List.set_cons_zero, List.set_cons_succ])
      | (refine SeqH.step rfl (by rfl) (fun K hK => ?_); go_simp
         first
           | (go_at_call_of 17 (Value.agg #[Value.int IntKind.i64 x, Value.int IntKind.i64 y]); refine (valid_any _ _ _ (by omega) (by omega) (by omega) (by omega)).mono ?_; rintro e w' ⟨rfl, hbv⟩; rw [HOK.out (by trivial)])
           | (go_at_call 17; refine (valid_any _ _ _ (by omega) (by omega) (by omega) (by omega)).mono ?_; rintro e w' ⟨rfl, hbv⟩)
           | (go_at_call 18; refine (ref_valid_any _ _ _ (by omega) (by omega) (by omega) (by omega)).mono ?_; rintro e w' ⟨rfl, hbv⟩)
           | (go_at_call 19; refine (known_any _).mono ?_; rintro e w' ⟨rfl, hbv⟩)
         try dsimp only
         refine hK.out _ _ (keep3 hS hbv) (fun hSn => ?_)
         clear hK K hS hbv
         have hS := hSn
         clear hSn
         try simp only [Act.put, List.setIfInBounds_toArray, List.set_cons_zero, List.set_cons_succ]))
    refine SeqH.done ?_
    go_wp2
    go_ret
    exact ⟨rfl, tail3 hS⟩
end Go.Proofs.YtfgignbmnfeikaaDoor
