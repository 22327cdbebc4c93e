/- Cells and vectors of any pattern: validatePlace, At, IsPeriod, Home. -/
import Derived.Test.YtigigmjdockdeaaGreatDoorPat12
namespace Go.Proofs.YtigigmjdockdeaaGreatDoor
open Go.RowKit

def placeE (A B C : Int) (cs : List Int) (x y : Int) : Int :=
  if validE A B C cs = 0 then (if fromB (-100000) 100000 x = false ∨ fromB (-100000) 100000 y = false then 1 else 0) else validE A B C cs
theorem place_ok {A B C : Int} {cs : List Int} {x y : Int} (h : placeE A B C cs x y = 0) : validE A B C cs = 0 ∧ (-100000 ≤ x ∧ x ≤ 100000) ∧ (-100000 ≤ y ∧ y ≤ 100000) := by
  unfold placeE at h
  by_cases h0 : validE A B C cs = 0
  · rw [if_pos h0] at h
    by_cases h1 : fromB (-100000) 100000 x = false ∨ fromB (-100000) 100000 y = false
    · rw [if_pos h1] at h; omega
    · simp only [not_or, Bool.not_eq_false] at h1
      exact ⟨h0, (fromB_iff _ _ _).1 h1.1, (fromB_iff _ _ _).1 h1.2⟩
  · rw [if_neg h0] at h; exact absurd h h0

set_option maxRecDepth 20000 in
set_option maxHeartbeats 1000000 in
theorem validatePlace_any (A B C : Int) (v : Value) (cs : List Int) (x y : Int) (w : World) (hv : Ints w v cs) (hkl : cs.length ≤ 1000000000) (hA1 : -9223372036854775808 ≤ A) (hA2 : A ≤ 9223372036854775807) :
    Calls Tryz.prog 59 #[.agg #[.int .i64 A, .int .i64 B, .int .i64 C, v], .int .i64 x, .int .i64 y] w fun e w' => e = .returned (.int .i64 (placeE A B C cs x y)) ∧ Below w.heap.size w w' := by
  have VA := Lib.hid (fun W hW => validate_any A B C v cs W (hv.all hW) hkl hA1 hA2)
  have IX := Lib.hid (fun W => isFrom_any (-100000) 100000 x W)
  have IY := Lib.hid (fun W => isFrom_any (-100000) 100000 y W)
  obtain ⟨va, vc, rfl, _⟩ := hv.look'
  have hE : ∃ R, placeE A B C cs x y = R := ⟨_, rfl⟩
  obtain ⟨R, hR⟩ := hE
  have HR := Lib.hid hR
  have hw := Lib.hid ((Below.refl w.heap.size w).alloc (Nat.le_refl _) (.cells #[.int .i64 A, .int .i64 B, .int .i64 C, .slice va cs.length vc] 24))
  rw [hR]
  unfold placeE at HR
  generalize validE A B C cs = q at *
  generalize fromB (-100000) 100000 x = rx at *
  generalize fromB (-100000) 100000 y = ry at *
  clear hR hv
  by_cases hz : q = 0
  · subst hz
    have HR2 := HR.out
    rw [if_pos rfl] at HR2
    have HE := Lib.hid HR2
    clear HR HR2
    cases rx
    · go_enter Tryz.func59, Tryz.ntmps59
      go_wp2_with fail
      refine (VA.out _ hw.out).mono ?_
      rintro e w1 ⟨rfl, hb1⟩
      have HW := Lib.hid (below_step hw.out hb1)
      clear hb1
      go_wp2_with fail
      refine (IX.out _).mono ?_
      rintro e w2 ⟨rfl, rfl⟩
      go_wp2
      go_ret
      exact ⟨by rw [← HE.out]; rfl, HW.out⟩
    · cases ry
      all_goals
        go_enter Tryz.func59, Tryz.ntmps59
        go_wp2_with fail
        refine (VA.out _ hw.out).mono ?_
        rintro e w1 ⟨rfl, hb1⟩
        have HW := Lib.hid (below_step hw.out hb1)
        clear hb1
        go_wp2_with fail
        refine (IX.out _).mono ?_
        rintro e w2 ⟨rfl, rfl⟩
        go_wp2_with fail
        refine (IY.out _).mono ?_
        rintro e w2 ⟨rfl, rfl⟩
        go_wp2
        go_ret
        exact ⟨by rw [← HE.out]; rfl, HW.out⟩
  · have HE : Hid (q = R) := Lib.hid (by rw [← HR.out, if_neg hz])
    have hd : (q == 0) = false := beq_eq_false_iff_ne.2 hz
    have hd2 : (q != 0) = true := by rw [bne, hd]; rfl
    clear hz HR
    go_enter Tryz.func59, Tryz.ntmps59
    go_wp2_with fail
    refine (VA.out _ hw.out).mono ?_
    rintro e w1 ⟨rfl, hb1⟩
    have HW := Lib.hid (below_step hw.out hb1)
    clear hb1
    go_wp2
    go_ret
    exact ⟨by rw [← HE.out]; rfl, HW.out⟩

set_option maxRecDepth 20000 in
set_option maxHeartbeats 1000000 in
theorem At_any (A B C : Int) (v : Value) (cs : List Int) (x y : Int) (w : World) (hv : Ints w v cs) (hkl : cs.length ≤ 1000000000) (hA1 : -9223372036854775808 ≤ A) (hA2 : A ≤ 9223372036854775807) :
    Calls Tryz.prog 19 #[.agg #[.int .i64 A, .int .i64 B, .int .i64 C, v], .int .i64 x, .int .i64 y] w fun e w' => e = .returned (if placeE A B C cs x y = 0 then .tuple #[.int .i64 (Pt.col ⟨A, B, C⟩ (csF cs) x y), .int .i64 0] else .tuple #[.int .i64 0, .int .i64 (placeE A B C cs x y)]) ∧ Below w.heap.size w w' := by
  have VA := Lib.hid (fun W hW => validatePlace_any A B C v cs x y W (hv.all hW) hkl hA1 hA2)
  obtain ⟨va, vc, rfl, _⟩ := hv.look'
  have b0 := BlockAt.new w #[.int .i64 A, .int .i64 B, .int .i64 C, .slice va cs.length vc] 24
  have hw := (Below.refl w.heap.size w).alloc (Nat.le_refl _) (.cells #[.int .i64 A, .int .i64 B, .int .i64 C, .slice va cs.length vc] 24)
  have HB := Lib.hid (And.intro b0 hw)
  clear b0 hw
  by_cases hz : placeE A B C cs x y = 0
  · obtain ⟨hz0, ⟨x1, x2⟩, ⟨y1, y2⟩⟩ := place_ok hz
    rw [if_pos hz]
    rw [hz] at VA
    obtain ⟨hp, hm⟩ := valid_in hz0 hv
    have CA := Lib.hid (fun W hW => colorAt_any ⟨A, B, C⟩ _ cs x y W (hp.all hW) (by omega) (by omega) (by omega) (by omega))
    clear hp hm
    generalize Pt.col ⟨A, B, C⟩ (csF cs) x y = r at *
    clear hz hz0 hv
    go_enter Tryz.func19, Tryz.ntmps19
    go_wp2_with fail
    refine (VA.out _ HB.out.2).mono ?_
    rintro e w1 ⟨rfl, hb1⟩
    have HP := Lib.hid (HB.out.1.below hb1 HB.out.1.lt)
    have HW := Lib.hid (below_step HB.out.2 hb1)
    have c0 : World.cell? _ _ = some (.int .i64 A) := HP.out.cell 0
    have c1 : World.cell? _ _ = some (.int .i64 B) := HP.out.cell 1
    have c2 : World.cell? _ _ = some (.int .i64 C) := HP.out.cell 2
    have c3 : World.cell? _ _ = some (.slice va cs.length vc) := HP.out.cell 3
    clear hb1 VA HB
    go_wp2_with fail
    refine (CA.out _ HW.out).mono ?_
    rintro e w2 ⟨rfl, hb2⟩
    have HW2 := Lib.hid (below_step HW.out hb2)
    clear hb2
    go_wp2
    exact bodyPost_ret (v := .tuple #[.int .i64 r, .int .i64 0]) (by simp [results, Tryz.results19, go_sem]) rfl ⟨rfl, HW2.out⟩
  · rw [if_neg hz]
    generalize placeE A B C cs x y = q at *
    have hd : (q == 0) = false := beq_eq_false_iff_ne.2 hz
    have hd2 : (q != 0) = true := by rw [bne, hd]; rfl
    clear hz hv
    go_enter Tryz.func19, Tryz.ntmps19
    go_wp2_with fail
    refine (VA.out _ HB.out.2).mono ?_
    rintro e w1 ⟨rfl, hb1⟩
    have HW := Lib.hid (below_step HB.out.2 hb1)
    clear hb1
    go_wp2
    exact bodyPost_ret (v := .tuple #[.int .i64 0, .int .i64 q]) (by simp [results, Tryz.results19, go_sem]) rfl ⟨rfl, HW.out⟩

set_option maxRecDepth 20000 in
set_option maxHeartbeats 1000000 in
theorem IsPeriod_any (A B C : Int) (v : Value) (cs : List Int) (x y : Int) (w : World) (hv : Ints w v cs) (hkl : cs.length ≤ 1000000000) (hA1 : -9223372036854775808 ≤ A) (hA2 : A ≤ 9223372036854775807) :
    Calls Tryz.prog 31 #[.agg #[.int .i64 A, .int .i64 B, .int .i64 C, v], .int .i64 x, .int .i64 y] w fun e w' => e = .returned (if placeE A B C cs x y = 0 then .tuple #[.bool (movedB ⟨A, B, C⟩ (Pt.col ⟨A, B, C⟩ (csF cs)) (Pt.col ⟨A, B, C⟩ (csF cs)) x y), .int .i64 0] else .tuple #[.bool false, .int .i64 (placeE A B C cs x y)]) ∧ Below w.heap.size w w' := by
  have VA := Lib.hid (fun W hW => validatePlace_any A B C v cs x y W (hv.all hW) hkl hA1 hA2)
  obtain ⟨va, vc, rfl, _⟩ := hv.look'
  have b0 := BlockAt.new w #[.int .i64 A, .int .i64 B, .int .i64 C, .slice va cs.length vc] 24
  have hw := (Below.refl w.heap.size w).alloc (Nat.le_refl _) (.cells #[.int .i64 A, .int .i64 B, .int .i64 C, .slice va cs.length vc] 24)
  have HB := Lib.hid (And.intro b0 hw)
  clear b0 hw
  by_cases hz : placeE A B C cs x y = 0
  · obtain ⟨hz0, ⟨x1, x2⟩, ⟨y1, y2⟩⟩ := place_ok hz
    rw [if_pos hz]
    rw [hz] at VA
    obtain ⟨hp, hm⟩ := valid_in hz0 hv
    have CA := Lib.hid (fun W hW => isMoved_any ⟨A, B, C⟩ ⟨A, B, C⟩ _ _ cs cs x y W (hp.all hW) (hp.all hW) (by omega) (by omega) (by omega) (by omega))
    clear hp hm
    generalize movedB ⟨A, B, C⟩ (Pt.col ⟨A, B, C⟩ (csF cs)) (Pt.col ⟨A, B, C⟩ (csF cs)) x y = r at *
    clear hz hz0 hv
    go_enter Tryz.func31, Tryz.ntmps31
    go_wp2_with fail
    refine (VA.out _ HB.out.2).mono ?_
    rintro e w1 ⟨rfl, hb1⟩
    have HP := Lib.hid (HB.out.1.below hb1 HB.out.1.lt)
    have HW := Lib.hid (below_step HB.out.2 hb1)
    have c0 : World.cell? _ _ = some (.int .i64 A) := HP.out.cell 0
    have c1 : World.cell? _ _ = some (.int .i64 B) := HP.out.cell 1
    have c2 : World.cell? _ _ = some (.int .i64 C) := HP.out.cell 2
    have c3 : World.cell? _ _ = some (.slice va cs.length vc) := HP.out.cell 3
    clear hb1 VA HB
    go_wp2_with fail
    refine (CA.out _ HW.out).mono ?_
    rintro e w2 ⟨rfl, hb2⟩
    have HW2 := Lib.hid (below_step HW.out hb2)
    clear hb2
    go_wp2
    exact bodyPost_ret (v := .tuple #[.bool r, .int .i64 0]) (by simp [results, Tryz.results31, go_sem]) rfl ⟨rfl, HW2.out⟩
  · rw [if_neg hz]
    generalize placeE A B C cs x y = q at *
    have hd : (q == 0) = false := beq_eq_false_iff_ne.2 hz
    have hd2 : (q != 0) = true := by rw [bne, hd]; rfl
    clear hz hv
    go_enter Tryz.func31, Tryz.ntmps31
    go_wp2_with fail
    refine (VA.out _ HB.out.2).mono ?_
    rintro e w1 ⟨rfl, hb1⟩
    have HW := Lib.hid (below_step HB.out.2 hb1)
    clear hb1
    go_wp2
    exact bodyPost_ret (v := .tuple #[.bool false, .int .i64 q]) (by simp [results, Tryz.results31, go_sem]) rfl ⟨rfl, HW.out⟩

set_option maxRecDepth 20000 in
set_option maxHeartbeats 1000000 in
theorem Home_any (A B C : Int) (v : Value) (cs : List Int) (x y : Int) (l0 : Pt.Lat) (w : World) (hv : Ints w v cs) (hkl : cs.length ≤ 1000000000) (hA1 : -9223372036854775808 ≤ A) (hA2 : A ≤ 9223372036854775807) (h0 : validE A B C cs = 0 → Pt.IsB (Pt.Per (Pt.col ⟨A, B, C⟩ (csF cs))) l0) :
    Calls Tryz.prog 21 #[.agg #[.int .i64 A, .int .i64 B, .int .i64 C, v], .int .i64 x, .int .i64 y] w fun e w' => e = .returned (if placeE A B C cs x y = 0 then .tuple #[.int .i64 (Pt.hx l0 x y), .int .i64 (Pt.hy l0 y), .int .i64 0] else .tuple #[.int .i64 0, .int .i64 0, .int .i64 (placeE A B C cs x y)]) ∧ Below w.heap.size w w' := by
  have VA := Lib.hid (fun W hW => validatePlace_any A B C v cs x y W (hv.all hW) hkl hA1 hA2)
  obtain ⟨va, vc, rfl, _⟩ := hv.look'
  have b0 := BlockAt.new w #[.int .i64 A, .int .i64 B, .int .i64 C, .slice va cs.length vc] 24
  have hw := (Below.refl w.heap.size w).alloc (Nat.le_refl _) (.cells #[.int .i64 A, .int .i64 B, .int .i64 C, .slice va cs.length vc] 24)
  have HB := Lib.hid (And.intro b0 hw)
  clear b0 hw
  by_cases hz : placeE A B C cs x y = 0
  · obtain ⟨hz0, ⟨x1, x2⟩, ⟨y1, y2⟩⟩ := place_ok hz
    rw [if_pos hz]
    rw [hz] at VA
    obtain ⟨hp, hm⟩ := valid_in hz0 hv
    have h1 := h0 hz0
    obtain ⟨z1, z2, z3⟩ := least_size hp.2.2.1.1 (fun x y h => Pt.col_per hp.2.2.1.1 _ h) h1
    have hs0 : small l0 := ⟨h1.ok, by dsimp only at z1; omega, by dsimp only at z1; omega⟩
    have hpos0 : 0 < (l0.a * l0.c).toNat := by have := h1.ok.1; omega
    have CA := Lib.hid (fun W hW => least_any ⟨A, B, C⟩ l0 _ cs W (hp.all hW) hm h1)
    have HM := Lib.hid (fun W => home_any l0 x y W hs0 (by omega) (by omega) (by omega) (by omega))
    clear hp hm h1 hs0 z1 z2 z3 h0
    generalize Pt.hx l0 x y = ra at *
    generalize Pt.hy l0 y = rb at *
    clear hz hz0 hv
    go_enter Tryz.func21, Tryz.ntmps21
    go_wp2_with fail
    refine (VA.out _ HB.out.2).mono ?_
    rintro e w1 ⟨rfl, hb1⟩
    have HP := Lib.hid (HB.out.1.below hb1 HB.out.1.lt)
    have HW := Lib.hid (below_step HB.out.2 hb1)
    have c0 : World.cell? _ _ = some (.int .i64 A) := HP.out.cell 0
    have c1 : World.cell? _ _ = some (.int .i64 B) := HP.out.cell 1
    have c2 : World.cell? _ _ = some (.int .i64 C) := HP.out.cell 2
    have c3 : World.cell? _ _ = some (.slice va cs.length vc) := HP.out.cell 3
    clear hb1 VA HB
    go_wp2_with fail
    refine (CA.out _ HW.out).mono ?_
    rintro e w2 ⟨u, rfl, hown, hb2⟩
    obtain ⟨g, cp, rfl, _, _⟩ := hown.form hpos0
    have LO := Lib.hid (fun W => latticeOf_any l0 (.slice (some ⟨g, 0, none⟩) (l0.a * l0.c).toNat cp) W rfl)
    have HW2 := Lib.hid (below_step HW.out hb2)
    clear hb2 hown CA c0 c1 c2 c3
    go_wp2_with fail
    refine (LO.out _).mono ?_
    rintro e w3 ⟨rfl, hb3⟩
    have HW3 := Lib.hid (below_step HW2.out hb3)
    clear hb3 LO
    go_wp2_with fail
    refine (HM.out _).mono ?_
    rintro e w4 ⟨rfl, hb4⟩
    have HW4 := Lib.hid (below_step HW3.out hb4)
    clear hb4 HM
    go_wp2
    exact bodyPost_ret (v := .tuple #[.int .i64 ra, .int .i64 rb, .int .i64 0]) (by simp [results, Tryz.results21, go_sem]) rfl ⟨rfl, HW4.out⟩
  · rw [if_neg hz]
    generalize placeE A B C cs x y = q at *
    have hd : (q == 0) = false := beq_eq_false_iff_ne.2 hz
    have hd2 : (q != 0) = true := by rw [bne, hd]; rfl
    clear hz hv
    go_enter Tryz.func21, Tryz.ntmps21
    go_wp2_with fail
    refine (VA.out _ HB.out.2).mono ?_
    rintro e w1 ⟨rfl, hb1⟩
    have HW := Lib.hid (below_step HB.out.2 hb1)
    clear hb1
    go_wp2
    exact bodyPost_ret (v := .tuple #[.int .i64 0, .int .i64 0, .int .i64 q]) (by simp [results, Tryz.results21, go_sem]) rfl ⟨rfl, HW.out⟩
end Go.Proofs.YtigigmjdockdeaaGreatDoor
