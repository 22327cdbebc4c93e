/- The reference's At and IsPeriod. -/
import Derived.Test.YtigigmjdockdeaaGreatDoorPat16
namespace Go.Proofs.YtigigmjdockdeaaGreatDoor
open Go.RowKit

theorem place_bad {A B C : Int} {cs : List Int} {x y : Int} (h : validE A B C cs ≠ 0) : placeE A B C cs x y = validE A B C cs := if_neg h
theorem place_near {A B C : Int} {cs : List Int} {x y : Int} (h : validE A B C cs = 0) (hn : (fromB (-100000) 100000 x && fromB (-100000) 100000 y) = false) : placeE A B C cs x y = 1 := by
  unfold placeE
  rw [if_pos h, if_pos (Bool.and_eq_false_iff.1 hn)]
theorem place_in {A B C : Int} {cs : List Int} {x y : Int} (h : validE A B C cs = 0) (hn : (fromB (-100000) 100000 x && fromB (-100000) 100000 y) = true) : placeE A B C cs x y = 0 := by
  unfold placeE
  rw [if_pos h, if_neg (by rw [Bool.and_eq_true] at hn; rw [hn.1, hn.2]; decide)]

set_option maxRecDepth 20000 in
set_option maxHeartbeats 1000000 in
theorem refAt_any (A B C : Int) (v : Value) (cs : List Int) (x y : Int) (w : World) (hv : Ints w v cs) (hkl : cs.length ≤ 1000000000) (hA1 : -9223372036854775808 ≤ A) (hA2 : A ≤ 9223372036854775807) :
    Calls Tryz.prog 20 #[.agg #[.int .i64 A, .int .i64 B, .int .i64 C, v], .int .i64 x, .int .i64 y] w fun e w' => e = .returned (if placeE A B C cs x y = 0 then .tuple #[.int .i64 (Pt.col ⟨A, B, C⟩ (csF cs) x y), .int .i64 0] else .tuple #[.int .i64 0, .int .i64 (placeE A B C cs x y)]) ∧ Below w.heap.size w w' := by
  have VA := Lib.hid (fun W hW => refValidate_any A B C v cs W (hv.all hW) hkl hA1 hA2)
  have NR := Lib.hid (fun W => refNear_any x y W)
  obtain ⟨va, vc, rfl, _⟩ := hv.look'
  have b0 := BlockAt.new w #[.int .i64 A, .int .i64 B, .int .i64 C, .slice va cs.length vc] 24
  have hw := (Below.refl w.heap.size w).alloc (Nat.le_refl _) (.cells #[.int .i64 A, .int .i64 B, .int .i64 C, .slice va cs.length vc] 24)
  have HB := Lib.hid (And.intro b0 hw)
  clear b0 hw
  by_cases hz0 : validE A B C cs = 0
  · rw [hz0] at VA
    by_cases hnr : (fromB (-100000) 100000 x && fromB (-100000) 100000 y) = true
    · have hz := place_in hz0 hnr
      obtain ⟨_, ⟨x1, x2⟩, ⟨y1, y2⟩⟩ := place_ok hz
      rw [if_pos hz]
      rw [hnr] at NR
      obtain ⟨hp, hm⟩ := valid_in hz0 hv
      have CA := Lib.hid (fun W hW => refColor_any ⟨A, B, C⟩ _ cs x y W (hp.all hW) (by omega) (by omega) (by omega) (by omega))
      clear hp hm
      generalize Pt.col ⟨A, B, C⟩ (csF cs) x y = r at *
      clear hz hz0 hv hnr
      go_enter Tryz.func20, Tryz.ntmps20
      go_wp2_with fail
      refine (VA.out _ HB.out.2).mono ?_
      rintro e w1 ⟨rfl, hb1⟩
      have HP := Lib.hid (HB.out.1.below hb1 HB.out.1.lt)
      have HW := Lib.hid (below_step HB.out.2 hb1)
      have c0 : World.cell? _ _ = some (.int .i64 A) := HP.out.cell 0
      have c1 : World.cell? _ _ = some (.int .i64 B) := HP.out.cell 1
      have c2 : World.cell? _ _ = some (.int .i64 C) := HP.out.cell 2
      have c3 : World.cell? _ _ = some (.slice va cs.length vc) := HP.out.cell 3
      clear hb1 VA HB
      go_wp2_with fail
      refine (NR.out _).mono ?_
      rintro e w2 ⟨rfl, rfl⟩
      go_wp2_with fail
      refine (CA.out _ HW.out).mono ?_
      rintro e w2 ⟨rfl, hb2⟩
      have HW2 := Lib.hid (below_step HW.out hb2)
      clear hb2
      go_wp2
      exact bodyPost_ret (v := .tuple #[.int .i64 r, .int .i64 0]) (by simp [results, Tryz.results20, go_sem]) rfl ⟨rfl, HW2.out⟩
    · have hnf : (fromB (-100000) 100000 x && fromB (-100000) 100000 y) = false := by simpa using hnr
      rw [place_near hz0 hnf, if_neg (by decide)]
      rw [hnf] at NR
      clear hz0 hv hnr hnf
      go_enter Tryz.func20, Tryz.ntmps20
      go_wp2_with fail
      refine (VA.out _ HB.out.2).mono ?_
      rintro e w1 ⟨rfl, hb1⟩
      have HW := Lib.hid (below_step HB.out.2 hb1)
      clear hb1
      go_wp2_with fail
      refine (NR.out _).mono ?_
      rintro e w2 ⟨rfl, rfl⟩
      go_wp2
      exact bodyPost_ret (v := .tuple #[.int .i64 0, .int .i64 1]) (by simp [results, Tryz.results20, go_sem]) rfl ⟨rfl, HW.out⟩
  · rw [place_bad hz0, if_neg hz0]
    generalize validE A B C cs = q at *
    have hd : (q == 0) = false := beq_eq_false_iff_ne.2 hz0
    have hd2 : (q != 0) = true := by rw [bne, hd]; rfl
    clear hz0 hv
    go_enter Tryz.func20, Tryz.ntmps20
    go_wp2_with fail
    refine (VA.out _ HB.out.2).mono ?_
    rintro e w1 ⟨rfl, hb1⟩
    have HW := Lib.hid (below_step HB.out.2 hb1)
    clear hb1
    go_wp2
    exact bodyPost_ret (v := .tuple #[.int .i64 0, .int .i64 q]) (by simp [results, Tryz.results20, go_sem]) rfl ⟨rfl, HW.out⟩

set_option maxRecDepth 20000 in
set_option maxHeartbeats 1000000 in
theorem refIsPeriod_any (A B C : Int) (v : Value) (cs : List Int) (x y : Int) (w : World) (hv : Ints w v cs) (hkl : cs.length ≤ 1000000000) (hA1 : -9223372036854775808 ≤ A) (hA2 : A ≤ 9223372036854775807) :
    Calls Tryz.prog 32 #[.agg #[.int .i64 A, .int .i64 B, .int .i64 C, v], .int .i64 x, .int .i64 y] w fun e w' => e = .returned (if placeE A B C cs x y = 0 then .tuple #[.bool (movedB ⟨A, B, C⟩ (Pt.col ⟨A, B, C⟩ (csF cs)) (Pt.col ⟨A, B, C⟩ (csF cs)) x y), .int .i64 0] else .tuple #[.bool false, .int .i64 (placeE A B C cs x y)]) ∧ Below w.heap.size w w' := by
  have VA := Lib.hid (fun W hW => refValidate_any A B C v cs W (hv.all hW) hkl hA1 hA2)
  have NR := Lib.hid (fun W => refNear_any x y W)
  obtain ⟨va, vc, rfl, _⟩ := hv.look'
  have b0 := BlockAt.new w #[.int .i64 A, .int .i64 B, .int .i64 C, .slice va cs.length vc] 24
  have hw := (Below.refl w.heap.size w).alloc (Nat.le_refl _) (.cells #[.int .i64 A, .int .i64 B, .int .i64 C, .slice va cs.length vc] 24)
  have HB := Lib.hid (And.intro b0 hw)
  clear b0 hw
  by_cases hz0 : validE A B C cs = 0
  · rw [hz0] at VA
    by_cases hnr : (fromB (-100000) 100000 x && fromB (-100000) 100000 y) = true
    · have hz := place_in hz0 hnr
      obtain ⟨_, ⟨x1, x2⟩, ⟨y1, y2⟩⟩ := place_ok hz
      rw [if_pos hz]
      rw [hnr] at NR
      obtain ⟨hp, hm⟩ := valid_in hz0 hv
      have CA := Lib.hid (fun W hW => refPeriod_any ⟨A, B, C⟩ _ cs x y W (hp.all hW) (by omega) (by omega) (by omega) (by omega))
      clear hp hm
      generalize movedB ⟨A, B, C⟩ (Pt.col ⟨A, B, C⟩ (csF cs)) (Pt.col ⟨A, B, C⟩ (csF cs)) x y = r at *
      clear hz hz0 hv hnr
      go_enter Tryz.func32, Tryz.ntmps32
      go_wp2_with fail
      refine (VA.out _ HB.out.2).mono ?_
      rintro e w1 ⟨rfl, hb1⟩
      have HP := Lib.hid (HB.out.1.below hb1 HB.out.1.lt)
      have HW := Lib.hid (below_step HB.out.2 hb1)
      have c0 : World.cell? _ _ = some (.int .i64 A) := HP.out.cell 0
      have c1 : World.cell? _ _ = some (.int .i64 B) := HP.out.cell 1
      have c2 : World.cell? _ _ = some (.int .i64 C) := HP.out.cell 2
      have c3 : World.cell? _ _ = some (.slice va cs.length vc) := HP.out.cell 3
      clear hb1 VA HB
      go_wp2_with fail
      refine (NR.out _).mono ?_
      rintro e w2 ⟨rfl, rfl⟩
      go_wp2_with fail
      refine (CA.out _ HW.out).mono ?_
      rintro e w2 ⟨rfl, hb2⟩
      have HW2 := Lib.hid (below_step HW.out hb2)
      clear hb2
      go_wp2
      exact bodyPost_ret (v := .tuple #[.bool r, .int .i64 0]) (by simp [results, Tryz.results32, go_sem]) rfl ⟨rfl, HW2.out⟩
    · have hnf : (fromB (-100000) 100000 x && fromB (-100000) 100000 y) = false := by simpa using hnr
      rw [place_near hz0 hnf, if_neg (by decide)]
      rw [hnf] at NR
      clear hz0 hv hnr hnf
      go_enter Tryz.func32, Tryz.ntmps32
      go_wp2_with fail
      refine (VA.out _ HB.out.2).mono ?_
      rintro e w1 ⟨rfl, hb1⟩
      have HW := Lib.hid (below_step HB.out.2 hb1)
      clear hb1
      go_wp2_with fail
      refine (NR.out _).mono ?_
      rintro e w2 ⟨rfl, rfl⟩
      go_wp2
      exact bodyPost_ret (v := .tuple #[.bool false, .int .i64 1]) (by simp [results, Tryz.results32, go_sem]) rfl ⟨rfl, HW.out⟩
  · rw [place_bad hz0, if_neg hz0]
    generalize validE A B C cs = q at *
    have hd : (q == 0) = false := beq_eq_false_iff_ne.2 hz0
    have hd2 : (q != 0) = true := by rw [bne, hd]; rfl
    clear hz0 hv
    go_enter Tryz.func32, Tryz.ntmps32
    go_wp2_with fail
    refine (VA.out _ HB.out.2).mono ?_
    rintro e w1 ⟨rfl, hb1⟩
    have HW := Lib.hid (below_step HB.out.2 hb1)
    clear hb1
    go_wp2
    exact bodyPost_ret (v := .tuple #[.bool false, .int .i64 q]) (by simp [results, Tryz.results32, go_sem]) rfl ⟨rfl, HW.out⟩
end Go.Proofs.YtigigmjdockdeaaGreatDoor
