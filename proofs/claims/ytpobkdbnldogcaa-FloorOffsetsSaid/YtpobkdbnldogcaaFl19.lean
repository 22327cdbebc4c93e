/- The law's sanity check holds; whether lists are too long. -/
import Derived.Test.YtpobkdbnldogcaaFl18
namespace Go.Proofs.Ytpobkdbnldogcaa
open Go.RowKit

set_option maxRecDepth 20000 in
set_option maxHeartbeats 2000000 in
theorem sane_any (w : World) : Calls Try.prog 16 #[] w fun e w' => e = .returned (.bool true) ∧ Below w.heap.size w w' := by
  have hw1 := below_alloc2 (Below.refl w.heap.size w) (.cells (rectA ⟨0, 0, 10, 8⟩) RectT)
  have CS := stripsF_any (.slice (some ⟨w.heap.size, 0, none⟩) 1 1) (.slice none 0 0) [⟨0, 0, 10, 8⟩] [] 4 0 (w.alloc (.cells (rectA ⟨0, 0, 10, 8⟩) RectT)) (RowsOf.laid rectC_len (BlockAt.new w (rectA ⟨0, 0, 10, 8⟩) RectT) rfl rfl) (RowsOf.nil _ _ _) (by decide) (by decide)
  rw [Fl.ex_strips, Fl.ex_off] at CS
  have HCS := Lib.hid CS
  have HW1 := Lib.hid hw1
  have hlen : (3 : Nat) = 3 := rfl
  clear CS hw1 hlen
  go_enter Try.func16, Try.ntmps16
  go_wp2_with fail
  refine HCS.out.mono ?_
  rintro e w1 ⟨a1, c1, rfl, ho1, hb1⟩
  have HO1 := Lib.hid ho1
  have HB1 := Lib.hid (below_step HW1.out hb1)
  clear ho1 hb1 HCS HW1
  have B9 : BlockAt (((w1.alloc (.cells #[.int .i64 0, .int .i64 0, .int .i64 8, .int .i64 4, .int .i64 0, .int .i64 8, .int .i64 8, .int .i64 0, .int .i64 8] StripT)).alloc (.cells #[.int .i64 20, .int .i64 0, .int .i64 0, .int .i64 10, .int .i64 0, .int .i64 0] RolT)).alloc (.cells #[.slice (some ⟨w1.heap.size, 0, none⟩) 3 3, .slice (some ⟨w1.heap.size + 1, 0, none⟩) 2 2, .int .i64 1] JobT)) w1.heap.size #[.int .i64 0, .int .i64 0, .int .i64 8, .int .i64 4, .int .i64 0, .int .i64 8, .int .i64 8, .int .i64 0, .int .i64 8] StripT := ((BlockAt.new w1 _ StripT).alloc _).alloc _
  have B6 : BlockAt (((w1.alloc (.cells #[.int .i64 0, .int .i64 0, .int .i64 8, .int .i64 4, .int .i64 0, .int .i64 8, .int .i64 8, .int .i64 0, .int .i64 8] StripT)).alloc (.cells #[.int .i64 20, .int .i64 0, .int .i64 0, .int .i64 10, .int .i64 0, .int .i64 0] RolT)).alloc (.cells #[.slice (some ⟨w1.heap.size, 0, none⟩) 3 3, .slice (some ⟨w1.heap.size + 1, 0, none⟩) 2 2, .int .i64 1] JobT)) (w1.heap.size + 1) #[.int .i64 20, .int .i64 0, .int .i64 0, .int .i64 10, .int .i64 0, .int .i64 0] RolT := by
    have := (BlockAt.new (w1.alloc (.cells #[.int .i64 0, .int .i64 0, .int .i64 8, .int .i64 4, .int .i64 0, .int .i64 8, .int .i64 8, .int .i64 0, .int .i64 8] StripT)) #[.int .i64 20, .int .i64 0, .int .i64 0, .int .i64 10, .int .i64 0, .int .i64 0] RolT).alloc (.cells #[.slice (some ⟨w1.heap.size, 0, none⟩) 3 3, .slice (some ⟨w1.heap.size + 1, 0, none⟩) 2 2, .int .i64 1] JobT)
    simpa using this
  have BJ : BlockAt (((w1.alloc (.cells #[.int .i64 0, .int .i64 0, .int .i64 8, .int .i64 4, .int .i64 0, .int .i64 8, .int .i64 8, .int .i64 0, .int .i64 8] StripT)).alloc (.cells #[.int .i64 20, .int .i64 0, .int .i64 0, .int .i64 10, .int .i64 0, .int .i64 0] RolT)).alloc (.cells #[.slice (some ⟨w1.heap.size, 0, none⟩) 3 3, .slice (some ⟨w1.heap.size + 1, 0, none⟩) 2 2, .int .i64 1] JobT)) (w1.heap.size + 1 + 1) #[.slice (some ⟨w1.heap.size, 0, none⟩) 3 3, .slice (some ⟨w1.heap.size + 1, 0, none⟩) 2 2, .int .i64 1] JobT := by
    have := BlockAt.new ((w1.alloc (.cells #[.int .i64 0, .int .i64 0, .int .i64 8, .int .i64 4, .int .i64 0, .int .i64 8, .int .i64 8, .int .i64 0, .int .i64 8] StripT)).alloc (.cells #[.int .i64 20, .int .i64 0, .int .i64 0, .int .i64 10, .int .i64 0, .int .i64 0] RolT)) #[.slice (some ⟨w1.heap.size, 0, none⟩) 3 3, .slice (some ⟨w1.heap.size + 1, 0, none⟩) 2 2, .int .i64 1] JobT
    simpa using this
  have hS := RowsOf.laid (c := 3) (cs := stripC) (n := 3) (xs := Fl.exJ.ss) stripC_len B9 rfl rfl
  have hR := RowsOf.laid (c := 3) (cs := rolC) (n := 2) (xs := Fl.exJ.rs) rolC_len B6 rfl rfl
  have CF := fewestF_any (.slice (some ⟨w1.heap.size, 0, none⟩) 3 3) (.slice (some ⟨w1.heap.size + 1, 0, none⟩) 2 2) Fl.exJ _ hS hR (by decide) (by decide)
  rw [Fl.ex_cost, Fl.ex_few, Fl.ex_job] at CF
  have HCF := Lib.hid CF
  have HB2 := Lib.hid (below_alloc2 (below_alloc2 (below_alloc2 HB1.out (.cells #[.int .i64 0, .int .i64 0, .int .i64 8, .int .i64 4, .int .i64 0, .int .i64 8, .int .i64 8, .int .i64 0, .int .i64 8] StripT)) (.cells #[.int .i64 20, .int .i64 0, .int .i64 0, .int .i64 10, .int .i64 0, .int .i64 0] RolT)) (.cells #[.slice (some ⟨w1.heap.size, 0, none⟩) 3 3, .slice (some ⟨w1.heap.size + 1, 0, none⟩) 2 2, .int .i64 1] JobT))
  have HO2 := Lib.hid ((HO1.out.all (below_alloc2 (below_alloc2 (below_alloc2 (Below.refl _ _) (.cells #[.int .i64 0, .int .i64 0, .int .i64 8, .int .i64 4, .int .i64 0, .int .i64 8, .int .i64 8, .int .i64 0, .int .i64 8] StripT)) (.cells #[.int .i64 20, .int .i64 0, .int .i64 0, .int .i64 10, .int .i64 0, .int .i64 0] RolT)) (.cells #[.slice (some ⟨w1.heap.size, 0, none⟩) 3 3, .slice (some ⟨w1.heap.size + 1, 0, none⟩) 2 2, .int .i64 1] JobT))).rows stripC_len)
  have HS2 := Lib.hid hS
  have HBJ := Lib.hid BJ
  generalize (Fl.fewR Fl.exJ).l.length = NL at *
  have HL3 : Hid (([⟨0, 0, 8⟩, ⟨4, 0, 8⟩, ⟨8, 0, 8⟩] : List Fl.S).length = 3) := Lib.hid rfl
  clear B9 B6 BJ hS hR CF HO1 HB1
  go_wp2_with fail
  refine HCF.out.mono ?_
  rintro e w3 ⟨a3, n3, rfl, _, hb3⟩
  have C := Lib.hid (sameStrips_any (.slice a1 3 c1) (.slice (some ⟨w1.heap.size, 0, none⟩) 3 3) Fl.exJ.ss w3 (HO2.out.all hb3) (HS2.out.all hb3) (by decide))
  have HB3 := Lib.hid (below_step HB2.out hb3)
  have y0 : World.cell? _ _ = some (.slice (some ⟨w1.heap.size, 0, none⟩) 3 3) := (HBJ.out.below hb3 HBJ.out.lt).cell 0
  clear hb3 HO2 HS2 HBJ HCF HB2
  go_wp2_with fail
  refine C.out.mono ?_
  rintro e w4 ⟨rfl, hb4⟩
  have HB4 := Lib.hid (below_step HB3.out hb4)
  clear hb4 y0
  go_wp2
  go_ret
  exact ⟨rfl, HB4.out⟩
def manyB (rs : List Fl.R) (ds : List Fl.D) (n : Nat) : Bool := decide (20 < rs.length) || (decide (20 < ds.length) || decide (60 < n))
theorem manyB_no {rs : List Fl.R} {ds : List Fl.D} {n : Nat} (h : manyB rs ds n = false) : rs.length ≤ 20 ∧ ds.length ≤ 20 ∧ n ≤ 60 := by
  simp [manyB] at h; omega
set_option maxRecDepth 20000 in
set_option maxHeartbeats 1000000 in
theorem many_any (rv dv : Value) (la : Option Addr) (n lc : Nat) (rs : List Fl.R) (ds : List Fl.D) (w : World) (hr : Rects w rv rs) (hd : Doors w dv ds) :
    Calls Try.prog 15 #[roomV rv dv, .slice la n lc] w fun e w' => e = .returned (.bool (manyB rs ds n)) ∧ Below w.heap.size w w' := by
  obtain ⟨ra, rc, rfl⟩ := hr.form
  obtain ⟨da, dc, rfl⟩ := hd.form
  have HE : Hid (manyB rs ds n = (decide (20 < rs.length) || (decide (20 < ds.length) || decide (60 < n)))) := Lib.hid rfl
  generalize manyB rs ds n = E at *
  clear hr hd
  by_cases h1 : 20 < rs.length
  · have HF : Hid (E = true) := Lib.hid (HE.out.trans (by rw [decide_eq_true h1]; rfl))
    go_enter Try.func15, Try.ntmps15
    go_wp2
    go_ret
    exact ⟨by rw [HF.out]; rfl, below_alloc2 (Below.refl _ _) _⟩
  by_cases h2 : 20 < ds.length
  · have HF : Hid (E = true) := Lib.hid (HE.out.trans (by rw [decide_eq_false h1, decide_eq_true h2]; rfl))
    go_enter Try.func15, Try.ntmps15
    go_wp2
    go_ret
    exact ⟨by rw [HF.out]; rfl, below_alloc2 (Below.refl _ _) _⟩
  have hd1 : decide (20 < (rs.length : Int)) = false := decide_eq_false (by omega)
  have hd2 : decide (20 < (ds.length : Int)) = false := decide_eq_false (by omega)
  by_cases h3 : 60 < n
  · have HF : Hid (E = true) := Lib.hid (HE.out.trans (by rw [decide_eq_false h1, decide_eq_false h2, decide_eq_true h3]; rfl))
    have hd3 : decide (60 < (n : Int)) = true := decide_eq_true (by omega)
    go_enter Try.func15, Try.ntmps15
    go_wp2
    go_ret
    exact ⟨by rw [HF.out]; rfl, below_alloc2 (Below.refl _ _) _⟩
  have HF : Hid (E = false) := Lib.hid (HE.out.trans (by rw [decide_eq_false h1, decide_eq_false h2, decide_eq_false h3]; rfl))
  have hd3 : decide (60 < (n : Int)) = false := decide_eq_false (by omega)
  go_enter Try.func15, Try.ntmps15
  go_wp2
  go_ret
  exact ⟨by rw [HF.out]; rfl, below_alloc2 (Below.refl _ _) _⟩
end Go.Proofs.Ytpobkdbnldogcaa
