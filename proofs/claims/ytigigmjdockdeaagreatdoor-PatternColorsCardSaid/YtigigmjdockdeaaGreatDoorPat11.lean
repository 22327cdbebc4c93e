/- Whether a pattern is valid: pattern.Validate. -/
import Derived.Test.YtigigmjdockdeaaGreatDoorPat10
namespace Go.Proofs.YtigigmjdockdeaaGreatDoor
open Go.RowKit

def fromB (lo hi n : Int) : Bool := decide (lo ≤ n) && decide (n ≤ hi)
theorem ret_bool' {p : Prop} [Decidable p] {R : Bool} (h : decide p = R) : Ending.returned (.bool (decide p)) = Ending.returned (.bool R) := by rw [h]
set_option maxRecDepth 20000 in
theorem isFrom_any (lo hi n : Int) (w : World) : Calls Tryz.prog 68 #[.int .i64 lo, .int .i64 hi, .int .i64 n] w fun e w' => e = .returned (.bool (fromB lo hi n)) ∧ w = w' := by
  by_cases h1 : lo ≤ n
  · have HE : Hid (fromB lo hi n = decide (n ≤ hi)) := Lib.hid (by unfold fromB; rw [decide_eq_true h1]; rfl)
    generalize fromB lo hi n = r at *
    go_enter Tryz.func68, Tryz.ntmps68
    go_wp2
    go_ret
    exact ⟨by rw [HE.out]; rfl, rfl⟩
  · have HE : Hid (fromB lo hi n = false) := Lib.hid (by unfold fromB; rw [decide_eq_false h1]; rfl)
    generalize fromB lo hi n = r at *
    go_enter Tryz.func68, Tryz.ntmps68
    go_wp2
    go_ret
    exact ⟨by rw [HE.out]; rfl, rfl⟩
set_option maxRecDepth 20000 in
theorem isColor_any (n : Int) (w : World) : Calls Tryz.prog 91 #[.int .i64 n] w fun e w' => e = .returned (.bool (fromB 0 7 n)) ∧ w = w' := by
  have F := Lib.hid (fun W => isFrom_any 0 7 n W)
  generalize fromB 0 7 n = r at *
  go_enter Tryz.func91, Tryz.ntmps91
  go_wp2_with fail
  refine (F.out _).mono ?_
  rintro e w' ⟨rfl, rfl⟩
  go_wp2
  go_ret
  exact ⟨rfl, rfl⟩
set_option maxRecDepth 20000 in
theorem areColors1_any (n : Int) (w : World) : Calls Tryz.prog 105 #[.int .i64 n] w fun e w' => e = .returned (.bool (!fromB 0 7 n)) ∧ w = w' := by
  have F := Lib.hid (fun W => isColor_any n W)
  generalize fromB 0 7 n = r at *
  go_enter Tryz.func105, Tryz.ntmps105
  go_wp2_with fail
  refine (F.out _).mono ?_
  rintro e w' ⟨rfl, rfl⟩
  go_wp2
  go_ret
  exact ⟨rfl, rfl⟩
theorem Ints.look' {w : World} {v : Value} {ns : List Int} (h : Ints w v ns) : ∃ a c, v = .slice a ns.length c ∧ ∀ k, k < ns.length → ∃ b off, a = some ⟨b, off, none⟩ ∧ b < w.heap.size ∧ w.cell? ⟨b, off + k, none⟩ = some (.int .i64 (ns.getD k 0)) := by
  rcases h with ⟨a, c, rfl, rfl⟩ | ⟨b, off, cap, rfl, hc, hb, h4⟩
  · exact ⟨a, c, rfl, fun k hk => absurd hk (Nat.not_lt_zero _)⟩
  · exact ⟨_, _, rfl, fun k hk => ⟨b, off, rfl, hb, h4 k hk⟩⟩
def colB (ks : List Int) : Bool := ks.all (fromB 0 7)
theorem colB_hit {ks : List Int} {j : Nat} (h : j < ks.length) (hx : fromB 0 7 (ks.getD j 0) = false) : colB ks = false := by
  apply Bool.eq_false_iff.2
  intro hc
  have := List.all_eq_true.1 hc _ (List.getElem_mem h)
  rw [getD_at h] at hx
  rw [this] at hx
  exact absurd hx (by decide)
theorem colB_all {ks : List Int} (h : ∀ q, q < ks.length → fromB 0 7 (ks.getD q 0) = true) : colB ks = true := by
  refine List.all_eq_true.2 fun x hx => ?_
  obtain ⟨i, hi, rfl⟩ := List.mem_iff_getElem.1 hx
  have := h i hi
  rwa [getD_at hi] at this

set_option maxRecDepth 20000 in
set_option maxHeartbeats 1000000 in
theorem indexColor_any (u : Value) (ks : List Int) (w : World) (hu : Ints w u ks) (hkl : ks.length ≤ 1000000000) :
    Calls Tryz.prog 129 #[u, .func (.func 105) #[] #[]] w fun e w' => ∃ z : Int, e = .returned (.int .i64 z) ∧ decide (0 ≤ z) = (!colB ks) ∧ Below w.heap.size w w' := by
  obtain ⟨ka, kc, rfl, hk⟩ := hu.look'
  have HK := Lib.hid hk
  have AC := Lib.hid areColors1_any
  clear hk hu
  go_enter Tryz.func129, Tryz.ntmps129
  go_wp2
  go_loopw [8] (fun t wr => ∃ j : Nat, j ≤ ks.length ∧ t = .int .i64 j ∧ Hid ((∀ q, q < j → fromB 0 7 (ks.getD q 0) = true) ∧ Below w.heap.size w wr)) (fun t _ => ks.length - (intOf t).toNat)
  case atStart => exact ⟨0, Nat.zero_le _, rfl, Lib.hid ⟨fun j h => absurd h (Nat.not_lt_zero _), Below.refl _ _⟩⟩
  case round =>
    obtain ⟨j, hj, rfl, hg⟩ := hrel
    by_cases hlt : j < ks.length
    · obtain ⟨b, off, rfl, hb, hcl⟩ := HK.out j hlt
      have hcl := (hg.out.2.cell (p := ⟨b, off + j, none⟩) hb).trans hcl
      have HH := Lib.hid (fun h => colB_hit hlt h)
      have HG := Lib.hid hg.out
      have C1 := Lib.hid (fun W => AC.out (ks.getD j 0) W)
      generalize hx : fromB 0 7 (ks.getD j 0) = r at *
      have HX := Lib.hid hx
      clear hg hx
      generalize ks.getD j 0 = x at C1 hcl
      go_wp2_with fail
      refine (C1.out _).mono ?_
      rintro e w' ⟨rfl, rfl⟩
      clear C1 hcl
      cases r
      · have HL := Lib.hid (HH.out rfl)
        go_wp2
        go_ret
        exact ⟨(j : Int), rfl, by rw [HL.out]; simp, HG.out.2⟩
      · clear HH
        go_wp2
        go_roundw
        case rel =>
          refine ⟨j + 1, by omega, by go_num, Lib.hid ⟨fun q hq => ?_, HG.out.2⟩⟩
          by_cases e : q = j
          · rw [e]; exact HX.out
          · exact HG.out.1 q (by omega)
        case measure => simp [intOf]; omega
    · obtain rfl : j = ks.length := by omega
      have HL := Lib.hid (colB_all hg.out.1)
      have hw := hg.out.2
      clear hg
      go_wp2
      go_ret
      exact ⟨-1, rfl, by rw [HL.out]; decide, hw⟩
set_option maxRecDepth 20000 in
theorem areColors_any (u : Value) (ks : List Int) (w : World) (hu : Ints w u ks) (hkl : ks.length ≤ 1000000000) :
    Calls Tryz.prog 69 #[u] w fun e w' => e = .returned (.bool (colB ks)) ∧ Below w.heap.size w w' := by
  have CF : ∀ W, Below w.heap.size w W → Calls Tryz.prog 104 #[u, .func (.func 105) #[] #[]] W fun e w' => e = .returned (.bool (!colB ks)) ∧ Below W.heap.size W w' := by
    intro W hW
    have C := Lib.hid (indexColor_any u ks W (hu.all hW) hkl)
    obtain ⟨ka, kc, rfl, _⟩ := hu.look'
    clear hu hkl hW
    generalize (!colB ks) = R at *
    go_enter Tryz.func104, Tryz.ntmps104
    go_wp2_with fail
    refine C.out.mono ?_
    rintro e w1 ⟨z, rfl, hz, hb1⟩
    have HZ := Lib.hid hz
    clear hz
    go_wp2
    go_ret
    exact ⟨ret_bool' HZ.out, hb1⟩
  have CC := Lib.hid (CF w (Below.refl _ _))
  obtain ⟨ka, kc, rfl, _⟩ := hu.look'
  clear hu hkl CF
  generalize colB ks = r at *
  go_enter Tryz.func69, Tryz.ntmps69
  go_wp2_with fail
  refine CC.out.mono ?_
  rintro e w1 ⟨rfl, hb1⟩
  cases r
  all_goals
    go_wp2
    go_ret
    exact ⟨rfl, hb1⟩

/-- What Validate answers. -/
def validE (A B C : Int) (cs : List Int) : Int :=
  if fromB 1 144 A = false ∨ fromB 1 144 C = false ∨ fromB 0 (A - 1) B = false then 1
  else if 144 < A * C then 4 else if (cs.length : Int) ≠ A * C ∨ colB cs = false then 1 else 0
theorem fromB_iff (lo hi n : Int) : fromB lo hi n = true ↔ lo ≤ n ∧ n ≤ hi := by unfold fromB; simp
set_option maxRecDepth 20000 in
set_option maxHeartbeats 2000000 in
theorem validate_any (A B C : Int) (v : Value) (cs : List Int) (w : World) (hv : Ints w v cs) (hkl : cs.length ≤ 1000000000) (hA1 : -9223372036854775808 ≤ A) (hA2 : A ≤ 9223372036854775807) :
    Calls Tryz.prog 23 #[.agg #[.int .i64 A, .int .i64 B, .int .i64 C, v]] w fun e w' => e = .returned (.int .i64 (validE A B C cs)) ∧ Below w.heap.size w w' := by
  have IA := Lib.hid (fun W => isFrom_any 1 144 A W)
  have IC := Lib.hid (fun W => isFrom_any 1 144 C W)
  have IB := Lib.hid (fun W => isFrom_any 0 (A - 1) B W)
  have AR := Lib.hid (fun W hW => areColors_any v cs W (hv.all hW) hkl)
  have hE : ∃ R, validE A B C cs = R := ⟨_, rfl⟩
  obtain ⟨R, hR⟩ := hE
  obtain ⟨va, vc, rfl, _⟩ := hv.look'
  have HR := Lib.hid hR
  have HFA := Lib.hid (fromB_iff 1 144 A)
  have HFC := Lib.hid (fromB_iff 1 144 C)
  have b0 := BlockAt.new w #[.int .i64 A, .int .i64 B, .int .i64 C, .slice va cs.length vc] 24
  have hw := (Below.refl w.heap.size w).alloc (Nat.le_refl _) (.cells #[.int .i64 A, .int .i64 B, .int .i64 C, .slice va cs.length vc] 24)
  have HB := Lib.hid (And.intro b0 hw)
  rw [hR]
  unfold validE at HR
  generalize fromB 1 144 A = ra at *
  generalize fromB 1 144 C = rc at *
  generalize fromB 0 (A - 1) B = rb at *
  generalize colB cs = rl at *
  clear hR hv b0 hw
  cases ra
  · have HE : Hid (R = 1) := Lib.hid (by rw [← HR.out]; simp)
    clear HR
    go_enter Tryz.func23, Tryz.ntmps23
    go_wp2_with fail
    refine (IA.out _).mono ?_
    rintro e w' ⟨rfl, rfl⟩
    go_wp2
    go_ret
    exact ⟨by rw [HE.out]; rfl, HB.out.2⟩
  obtain ⟨hA3, _⟩ := HFA.out.1 rfl
  have hA4 : -9223372036854775808 < A := by omega
  cases rc
  · have HE : Hid (R = 1) := Lib.hid (by rw [← HR.out]; simp)
    clear HR
    go_enter Tryz.func23, Tryz.ntmps23
    go_wp2_with fail
    refine (IA.out _).mono ?_
    rintro e w' ⟨rfl, rfl⟩
    go_wp2_with fail
    refine (IC.out _).mono ?_
    rintro e w' ⟨rfl, rfl⟩
    go_wp2
    go_ret
    exact ⟨by rw [HE.out]; rfl, HB.out.2⟩
  cases rb
  · have HE : Hid (R = 1) := Lib.hid (by rw [← HR.out]; simp)
    clear HR
    go_enter Tryz.func23, Tryz.ntmps23
    go_wp2_with fail
    refine (IA.out _).mono ?_
    rintro e w' ⟨rfl, rfl⟩
    go_wp2_with fail
    refine (IC.out _).mono ?_
    rintro e w' ⟨rfl, rfl⟩
    go_wp2_with fail
    refine (IB.out _).mono ?_
    rintro e w' ⟨rfl, rfl⟩
    go_wp2
    go_ret
    exact ⟨by rw [HE.out]; rfl, HB.out.2⟩
  obtain ⟨k1, k2⟩ := HFA.out.1 rfl
  obtain ⟨k3, k4⟩ := HFC.out.1 rfl
  have hp0 : 0 ≤ A * C := Int.mul_nonneg (by omega) (by omega)
  have hp1 : A * C ≤ 144 * C := Int.mul_le_mul_of_nonneg_right k2 (by omega)
  have g1 : IntKind.i64.wrap (A * C) = A * C := IntWalk.i64_in _ ⟨by omega, by omega⟩
  have HR2 := HR.out
  simp only [Bool.true_eq_false, false_or, or_self, if_false] at HR2
  clear HR HFA HFC k1 k2 k3 k4 hp1
  by_cases hbig : 144 < A * C
  · have HE : Hid (R = 4) := Lib.hid (by rw [← HR2, if_pos hbig])
    clear HR2
    go_enter Tryz.func23, Tryz.ntmps23
    go_wp2_with fail
    refine (IA.out _).mono ?_
    rintro e w' ⟨rfl, rfl⟩
    go_wp2_with fail
    refine (IC.out _).mono ?_
    rintro e w' ⟨rfl, rfl⟩
    go_wp2_with fail
    refine (IB.out _).mono ?_
    rintro e w' ⟨rfl, rfl⟩
    go_wp2
    go_ret
    exact ⟨by rw [HE.out]; rfl, HB.out.2⟩
  have hp3 : A * C ≤ 144 := by omega
  rw [if_neg hbig] at HR2
  clear hbig
  by_cases hl : (cs.length : Int) = A * C
  · have h2 : R = if rl = false then 1 else 0 := by
      rw [← HR2]
      simp [hl]
    have HE := Lib.hid h2
    have hd : ((cs.length : Int) != A * C) = false := by rw [bne, beq_iff_eq.2 hl]; rfl
    have hd2 : ((cs.length : Int) == A * C) = true := beq_iff_eq.2 hl
    have HA := Lib.hid (AR.out (w.alloc (.cells #[.int .i64 A, .int .i64 B, .int .i64 C, .slice va cs.length vc] 24)) HB.out.2)
    clear h2 HR2 hl AR
    go_enter Tryz.func23, Tryz.ntmps23
    go_wp2_with fail
    refine (IA.out _).mono ?_
    rintro e w' ⟨rfl, rfl⟩
    go_wp2_with fail
    refine (IC.out _).mono ?_
    rintro e w' ⟨rfl, rfl⟩
    go_wp2_with fail
    refine (IB.out _).mono ?_
    rintro e w' ⟨rfl, rfl⟩
    go_wp2_with fail
    refine HA.out.mono ?_
    rintro e w1 ⟨rfl, hb1⟩
    have HW := Lib.hid (below_step HB.out.2 hb1)
    clear hb1
    cases rl
    all_goals
      go_wp2
      go_ret
      exact ⟨by rw [HE.out]; rfl, HW.out⟩
  · have HE : Hid (R = 1) := Lib.hid (by rw [← HR2]; simp [hl])
    have hd2 : ((cs.length : Int) == A * C) = false := beq_eq_false_iff_ne.2 hl
    have hd : ((cs.length : Int) != A * C) = true := by rw [bne, hd2]; rfl
    clear HR2
    go_enter Tryz.func23, Tryz.ntmps23
    go_wp2_with fail
    refine (IA.out _).mono ?_
    rintro e w' ⟨rfl, rfl⟩
    go_wp2_with fail
    refine (IC.out _).mono ?_
    rintro e w' ⟨rfl, rfl⟩
    go_wp2_with fail
    refine (IB.out _).mono ?_
    rintro e w' ⟨rfl, rfl⟩
    go_wp2
    go_ret
    exact ⟨by rw [HE.out]; rfl, HB.out.2⟩
end Go.Proofs.YtigigmjdockdeaaGreatDoor
