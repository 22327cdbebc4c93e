/- The reference's within, near and Validate. -/
import Derived.Test.YtigigmjdockdeaaGreatDoorPat15
namespace Go.Proofs.YtigigmjdockdeaaGreatDoor
open Go.RowKit

set_option maxRecDepth 20000 in
theorem refWithin_any (n lo hi : Int) (w : World) : Calls Tryz.prog 70 #[.int .i64 n, .int .i64 lo, .int .i64 hi] w fun e w' => e = .returned (.bool (fromB lo hi n)) ∧ w = w' := by
  by_cases h1 : lo ≤ n
  · have HE : Hid (fromB lo hi n = decide (n ≤ hi)) := Lib.hid (by unfold fromB; rw [decide_eq_true h1]; rfl)
    generalize fromB lo hi n = r at *
    go_enter Tryz.func70, Tryz.ntmps70
    go_wp2
    go_ret
    exact ⟨by rw [HE.out]; rfl, rfl⟩
  · have HE : Hid (fromB lo hi n = false) := Lib.hid (by unfold fromB; rw [decide_eq_false h1]; rfl)
    generalize fromB lo hi n = r at *
    go_enter Tryz.func70, Tryz.ntmps70
    go_wp2
    go_ret
    exact ⟨by rw [HE.out]; rfl, rfl⟩
set_option maxRecDepth 20000 in
theorem refNear_any (x y : Int) (w : World) : Calls Tryz.prog 61 #[.int .i64 x, .int .i64 y] w fun e w' => e = .returned (.bool (fromB (-100000) 100000 x && fromB (-100000) 100000 y)) ∧ w = w' := by
  have FX := Lib.hid (fun W => refWithin_any x (-100000) 100000 W)
  have FY := Lib.hid (fun W => refWithin_any y (-100000) 100000 W)
  generalize fromB (-100000) 100000 x = rx at *
  generalize fromB (-100000) 100000 y = ry at *
  cases rx
  · go_enter Tryz.func61, Tryz.ntmps61
    go_wp2_with fail
    refine (FX.out _).mono ?_
    rintro e w' ⟨rfl, rfl⟩
    go_wp2
    go_ret
    exact ⟨rfl, rfl⟩
  · go_enter Tryz.func61, Tryz.ntmps61
    go_wp2_with fail
    refine (FX.out _).mono ?_
    rintro e w' ⟨rfl, rfl⟩
    go_wp2_with fail
    refine (FY.out _).mono ?_
    rintro e w' ⟨rfl, rfl⟩
    go_wp2
    go_ret
    exact ⟨rfl, rfl⟩

set_option maxRecDepth 20000 in
set_option maxHeartbeats 2000000 in
theorem refValidate_any (A B C : Int) (v : Value) (cs : List Int) (w : World) (hv : Ints w v cs) (hkl : cs.length ≤ 1000000000) (hA1 : -9223372036854775808 ≤ A) (hA2 : A ≤ 9223372036854775807) :
    Calls Tryz.prog 24 #[.agg #[.int .i64 A, .int .i64 B, .int .i64 C, v]] w fun e w' => e = .returned (.int .i64 (validE A B C cs)) ∧ Below w.heap.size w w' := by
  have IA := Lib.hid (fun W => refWithin_any A 1 144 W)
  have IC := Lib.hid (fun W => refWithin_any C 1 144 W)
  have IB := Lib.hid (fun W => refWithin_any B 0 (A - 1) W)
  have hE : ∃ R, validE A B C cs = R := ⟨_, rfl⟩
  obtain ⟨R, hR⟩ := hE
  obtain ⟨va, vc, rfl, hk⟩ := hv.look'
  have HK := Lib.hid hk
  have HHIT := Lib.hid (fun (j : Nat) (h : j < cs.length) hx => colB_hit h hx)
  have HALL := Lib.hid (fun h => colB_all (ks := cs) h)
  have WI := Lib.hid (fun (n : Int) W => refWithin_any n 0 7 W)
  have HR := Lib.hid hR
  have HFA := Lib.hid (fromB_iff 1 144 A)
  have HFC := Lib.hid (fromB_iff 1 144 C)
  have b0 := BlockAt.new w #[.int .i64 A, .int .i64 B, .int .i64 C, .slice va cs.length vc] 24
  have hw := (Below.refl w.heap.size w).alloc (Nat.le_refl _) (.cells #[.int .i64 A, .int .i64 B, .int .i64 C, .slice va cs.length vc] 24)
  have HB := Lib.hid (And.intro b0 hw)
  rw [hR]
  unfold validE at HR
  generalize fromB 1 144 A = ra at *
  generalize fromB 1 144 C = rc at *
  generalize fromB 0 (A - 1) B = rb at *
  clear hR hv b0 hw hk
  cases ra
  · have HE : Hid (R = 1) := Lib.hid (by rw [← HR.out]; simp)
    clear HR
    go_enter Tryz.func24, Tryz.ntmps24
    go_wp2_with fail
    refine (IA.out _).mono ?_
    rintro e w' ⟨rfl, rfl⟩
    go_wp2
    go_ret
    exact ⟨by rw [HE.out]; rfl, HB.out.2⟩
  obtain ⟨hA3, _⟩ := HFA.out.1 rfl
  have hA4 : -9223372036854775808 < A := by omega
  cases rc
  · have HE : Hid (R = 1) := Lib.hid (by rw [← HR.out]; simp)
    clear HR
    go_enter Tryz.func24, Tryz.ntmps24
    go_wp2_with fail
    refine (IA.out _).mono ?_
    rintro e w' ⟨rfl, rfl⟩
    go_wp2_with fail
    refine (IC.out _).mono ?_
    rintro e w' ⟨rfl, rfl⟩
    go_wp2
    go_ret
    exact ⟨by rw [HE.out]; rfl, HB.out.2⟩
  cases rb
  · have HE : Hid (R = 1) := Lib.hid (by rw [← HR.out]; simp)
    clear HR
    go_enter Tryz.func24, Tryz.ntmps24
    go_wp2_with fail
    refine (IA.out _).mono ?_
    rintro e w' ⟨rfl, rfl⟩
    go_wp2_with fail
    refine (IC.out _).mono ?_
    rintro e w' ⟨rfl, rfl⟩
    go_wp2_with fail
    refine (IB.out _).mono ?_
    rintro e w' ⟨rfl, rfl⟩
    go_wp2
    go_ret
    exact ⟨by rw [HE.out]; rfl, HB.out.2⟩
  obtain ⟨k1, k2⟩ := HFA.out.1 rfl
  obtain ⟨k3, k4⟩ := HFC.out.1 rfl
  have hp0 : 0 ≤ A * C := Int.mul_nonneg (by omega) (by omega)
  have hp1 : A * C ≤ 144 * C := Int.mul_le_mul_of_nonneg_right k2 (by omega)
  have g1 : IntKind.i64.wrap (A * C) = A * C := IntWalk.i64_in _ ⟨by omega, by omega⟩
  have HR2 := HR.out
  simp only [Bool.true_eq_false, false_or, or_self, if_false] at HR2
  clear HR HFA HFC k1 k2 k3 k4 hp1
  by_cases hbig : 144 < A * C
  · have HE : Hid (R = 4) := Lib.hid (by rw [← HR2, if_pos hbig])
    clear HR2
    go_enter Tryz.func24, Tryz.ntmps24
    go_wp2_with fail
    refine (IA.out _).mono ?_
    rintro e w' ⟨rfl, rfl⟩
    go_wp2_with fail
    refine (IC.out _).mono ?_
    rintro e w' ⟨rfl, rfl⟩
    go_wp2_with fail
    refine (IB.out _).mono ?_
    rintro e w' ⟨rfl, rfl⟩
    go_wp2
    go_ret
    exact ⟨by rw [HE.out]; rfl, HB.out.2⟩
  have hp3 : A * C ≤ 144 := by omega
  rw [if_neg hbig] at HR2
  clear hbig
  by_cases hl : (cs.length : Int) = A * C
  · have h2 : R = if colB cs = false then 1 else 0 := by
      rw [← HR2]
      simp [hl]
    have HE := Lib.hid h2
    have hd : ((cs.length : Int) != A * C) = false := by rw [bne, beq_iff_eq.2 hl]; rfl
    have hd2 : ((cs.length : Int) == A * C) = true := beq_iff_eq.2 hl
    have HL := Lib.hid hl
    clear h2 HR2 hl
    go_enter Tryz.func24, Tryz.ntmps24
    go_wp2_with fail
    refine (IA.out _).mono ?_
    rintro e w' ⟨rfl, rfl⟩
    go_wp2_with fail
    refine (IC.out _).mono ?_
    rintro e w' ⟨rfl, rfl⟩
    go_wp2_with fail
    refine (IB.out _).mono ?_
    rintro e w' ⟨rfl, rfl⟩
    go_wp2
    go_loopw [3] (fun t wr => ∃ j : Nat, j ≤ cs.length ∧ t = .int .i64 j ∧ Hid ((∀ q, q < j → fromB 0 7 (cs.getD q 0) = true) ∧ Below w.heap.size w wr ∧ BlockAt wr w.heap.size #[.int .i64 A, .int .i64 B, .int .i64 C, .slice va cs.length vc] 24)) (fun t _ => cs.length - (intOf t).toNat)
    case atStart => exact ⟨0, Nat.zero_le _, rfl, Lib.hid ⟨fun j h => absurd h (Nat.not_lt_zero _), HB.out.2, HB.out.1⟩⟩
    case round =>
      obtain ⟨j, hj, rfl, hg⟩ := hrel
      have c3 : World.cell? _ _ = some (.slice va cs.length vc) := hg.out.2.2.cell 3
      by_cases hlt : j < cs.length
      · obtain ⟨b, off, rfl, hb, hcl⟩ := HK.out j hlt
        have hcl := (hg.out.2.1.cell (p := ⟨b, off + j, none⟩) hb).trans hcl
        have HH := Lib.hid (HHIT.out j hlt)
        have HG := Lib.hid hg.out
        have C1 := Lib.hid (fun W => WI.out (cs.getD j 0) W)
        generalize hx : fromB 0 7 (cs.getD j 0) = r at *
        have HX := Lib.hid hx
        clear hg hx
        generalize cs.getD j 0 = x at C1 hcl
        go_wp2_with fail
        refine (C1.out _).mono ?_
        rintro e w' ⟨rfl, rfl⟩
        clear C1 hcl
        cases r
        · have HL0 := Lib.hid (HH.out rfl)
          go_wp2
          go_ret
          exact ⟨by rw [HE.out, if_pos HL0.out]; rfl, HG.out.2.1⟩
        · clear HH
          go_wp2
          go_roundw
          case rel =>
            refine ⟨j + 1, by omega, by go_num, Lib.hid ⟨fun q hq => ?_, HG.out.2⟩⟩
            by_cases e : q = j
            · rw [e]; exact HX.out
            · exact HG.out.1 q (by omega)
          case measure => simp [intOf]; omega
      · obtain rfl : j = cs.length := by omega
        have HL0 := Lib.hid (HALL.out hg.out.1)
        have hw := Lib.hid hg.out.2.1
        clear hg
        go_wp2
        go_ret
        exact ⟨by rw [HE.out, HL0.out]; rfl, hw.out⟩
  · have HE : Hid (R = 1) := Lib.hid (by rw [← HR2]; simp [hl])
    have hd2 : ((cs.length : Int) == A * C) = false := beq_eq_false_iff_ne.2 hl
    have hd : ((cs.length : Int) != A * C) = true := by rw [bne, hd2]; rfl
    clear HR2
    go_enter Tryz.func24, Tryz.ntmps24
    go_wp2_with fail
    refine (IA.out _).mono ?_
    rintro e w' ⟨rfl, rfl⟩
    go_wp2_with fail
    refine (IC.out _).mono ?_
    rintro e w' ⟨rfl, rfl⟩
    go_wp2_with fail
    refine (IB.out _).mono ?_
    rintro e w' ⟨rfl, rfl⟩
    go_wp2
    go_ret
    exact ⟨by rw [HE.out]; rfl, HB.out.2⟩
end Go.Proofs.YtigigmjdockdeaaGreatDoor
