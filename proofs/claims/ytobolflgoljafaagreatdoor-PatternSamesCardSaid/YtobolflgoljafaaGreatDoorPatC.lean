/- Whether a pattern is valid: pattern.Validate. pattern.Least, of any pattern that comes in. Cells and vectors of any pattern: validatePlace, At, IsPeriod, Home. -/
import Derived.Test.YtobolflgoljafaaGreatDoorPatB
namespace Go.Proofs.YtobolflgoljafaaGreatDoor
open Go.RowKit

def fromB (lo hi n : Int) : Bool := decide (lo ≤ n) && decide (n ≤ hi)
theorem ret_bool' {p : Prop} [Decidable p] {R : Bool} (h : decide p = R) : Ending.returned (.bool (decide p)) = Ending.returned (.bool R) := by rw [h]
set_option maxRecDepth 20000 in
theorem isFrom_any (lo hi n : Int) (w : World) : Calls Tryz.prog 69 #[.int .i64 lo, .int .i64 hi, .int .i64 n] w fun e w' => e = .returned (.bool (fromB lo hi n)) ∧ w = w' := by
  by_cases h1 : lo ≤ n
  · have HE : Hid (fromB lo hi n = decide (n ≤ hi)) := Lib.hid (by unfold fromB; rw [decide_eq_true h1]; rfl)
    generalize fromB lo hi n = r at *
    go_enter Tryz.func69, Tryz.ntmps69
    go_wp2
    go_ret
    exact ⟨by rw [HE.out]; rfl, rfl⟩
  · have HE : Hid (fromB lo hi n = false) := Lib.hid (by unfold fromB; rw [decide_eq_false h1]; rfl)
    generalize fromB lo hi n = r at *
    go_enter Tryz.func69, Tryz.ntmps69
    go_wp2
    go_ret
    exact ⟨by rw [HE.out]; rfl, rfl⟩
set_option maxRecDepth 20000 in
theorem isColor_any (n : Int) (w : World) : Calls Tryz.prog 73 #[.int .i64 n] w fun e w' => e = .returned (.bool (fromB 0 7 n)) ∧ w = w' := by
  have F := Lib.hid (fun W => isFrom_any 0 7 n W)
  generalize fromB 0 7 n = r at *
  go_enter Tryz.func73, Tryz.ntmps73
  go_wp2_with fail
  refine (F.out _).mono ?_
  rintro e w' ⟨rfl, rfl⟩
  go_wp2
  go_ret
  exact ⟨rfl, rfl⟩
set_option maxRecDepth 20000 in
theorem areColors1_any (n : Int) (w : World) : Calls Tryz.prog 99 #[.int .i64 n] w fun e w' => e = .returned (.bool (!fromB 0 7 n)) ∧ w = w' := by
  have F := Lib.hid (fun W => isColor_any n W)
  generalize fromB 0 7 n = r at *
  go_enter Tryz.func99, Tryz.ntmps99
  go_wp2_with fail
  refine (F.out _).mono ?_
  rintro e w' ⟨rfl, rfl⟩
  go_wp2
  go_ret
  exact ⟨rfl, rfl⟩
theorem Ints.look' {w : World} {v : Value} {ns : List Int} (h : Ints w v ns) : ∃ a c, v = .slice a ns.length c ∧ ∀ k, k < ns.length → ∃ b off, a = some ⟨b, off, none⟩ ∧ b < w.heap.size ∧ w.cell? ⟨b, off + k, none⟩ = some (.int .i64 (ns.getD k 0)) := by
  rcases h with ⟨a, c, rfl, rfl⟩ | ⟨b, off, cap, rfl, hc, hb, h4⟩
  · exact ⟨a, c, rfl, fun k hk => absurd hk (Nat.not_lt_zero _)⟩
  · exact ⟨_, _, rfl, fun k hk => ⟨b, off, rfl, hb, h4 k hk⟩⟩
def colB (ks : List Int) : Bool := ks.all (fromB 0 7)
theorem colB_hit {ks : List Int} {j : Nat} (h : j < ks.length) (hx : fromB 0 7 (ks.getD j 0) = false) : colB ks = false := by
  apply Bool.eq_false_iff.2
  intro hc
  have := List.all_eq_true.1 hc _ (List.getElem_mem h)
  rw [getD_at h] at hx
  rw [this] at hx
  exact absurd hx (by decide)
theorem colB_all {ks : List Int} (h : ∀ q, q < ks.length → fromB 0 7 (ks.getD q 0) = true) : colB ks = true := by
  refine List.all_eq_true.2 fun x hx => ?_
  obtain ⟨i, hi, rfl⟩ := List.mem_iff_getElem.1 hx
  have := h i hi
  rwa [getD_at hi] at this

set_option maxRecDepth 20000 in
set_option maxHeartbeats 1000000 in
theorem indexColor_any (u : Value) (ks : List Int) (w : World) (hu : Ints w u ks) (hkl : ks.length ≤ 1000000000) :
    Calls Tryz.prog 119 #[u, .func (.func 99) #[] #[]] w fun e w' => ∃ z : Int, e = .returned (.int .i64 z) ∧ decide (0 ≤ z) = (!colB ks) ∧ Below w.heap.size w w' := by
  obtain ⟨ka, kc, rfl, hk⟩ := hu.look'
  have HK := Lib.hid hk
  have AC := Lib.hid areColors1_any
  clear hk hu
  go_enter Tryz.func119, Tryz.ntmps119
  go_wp2
  go_loopw [8] (fun t wr => ∃ j : Nat, j ≤ ks.length ∧ t = .int .i64 j ∧ Hid ((∀ q, q < j → fromB 0 7 (ks.getD q 0) = true) ∧ Below w.heap.size w wr)) (fun t _ => ks.length - (intOf t).toNat)
  case atStart => exact ⟨0, Nat.zero_le _, rfl, Lib.hid ⟨fun j h => absurd h (Nat.not_lt_zero _), Below.refl _ _⟩⟩
  case round =>
    obtain ⟨j, hj, rfl, hg⟩ := hrel
    by_cases hlt : j < ks.length
    · obtain ⟨b, off, rfl, hb, hcl⟩ := HK.out j hlt
      have hcl := (hg.out.2.cell (p := ⟨b, off + j, none⟩) hb).trans hcl
      have HH := Lib.hid (fun h => colB_hit hlt h)
      have HG := Lib.hid hg.out
      have C1 := Lib.hid (fun W => AC.out (ks.getD j 0) W)
      generalize hx : fromB 0 7 (ks.getD j 0) = r at *
      have HX := Lib.hid hx
      clear hg hx
      generalize ks.getD j 0 = x at C1 hcl
      go_wp2_with fail
      refine (C1.out _).mono ?_
      rintro e w' ⟨rfl, rfl⟩
      clear C1 hcl
      cases r
      · have HL := Lib.hid (HH.out rfl)
        go_wp2
        go_ret
        exact ⟨(j : Int), rfl, by rw [HL.out]; simp, HG.out.2⟩
      · clear HH
        go_wp2
        go_roundw
        case rel =>
          refine ⟨j + 1, by omega, by go_num, Lib.hid ⟨fun q hq => ?_, HG.out.2⟩⟩
          by_cases e : q = j
          · rw [e]; exact HX.out
          · exact HG.out.1 q (by omega)
        case measure => simp [intOf]; omega
    · obtain rfl : j = ks.length := by omega
      have HL := Lib.hid (colB_all hg.out.1)
      have hw := hg.out.2
      clear hg
      go_wp2
      go_ret
      exact ⟨-1, rfl, by rw [HL.out]; decide, hw⟩
set_option maxRecDepth 20000 in
theorem areColors_any (u : Value) (ks : List Int) (w : World) (hu : Ints w u ks) (hkl : ks.length ≤ 1000000000) :
    Calls Tryz.prog 62 #[u] w fun e w' => e = .returned (.bool (colB ks)) ∧ Below w.heap.size w w' := by
  have CF : ∀ W, Below w.heap.size w W → Calls Tryz.prog 98 #[u, .func (.func 99) #[] #[]] W fun e w' => e = .returned (.bool (!colB ks)) ∧ Below W.heap.size W w' := by
    intro W hW
    have C := Lib.hid (indexColor_any u ks W (hu.all hW) hkl)
    obtain ⟨ka, kc, rfl, _⟩ := hu.look'
    clear hu hkl hW
    generalize (!colB ks) = R at *
    go_enter Tryz.func98, Tryz.ntmps98
    go_wp2_with fail
    refine C.out.mono ?_
    rintro e w1 ⟨z, rfl, hz, hb1⟩
    have HZ := Lib.hid hz
    clear hz
    go_wp2
    go_ret
    exact ⟨ret_bool' HZ.out, hb1⟩
  have CC := Lib.hid (CF w (Below.refl _ _))
  obtain ⟨ka, kc, rfl, _⟩ := hu.look'
  clear hu hkl CF
  generalize colB ks = r at *
  go_enter Tryz.func62, Tryz.ntmps62
  go_wp2_with fail
  refine CC.out.mono ?_
  rintro e w1 ⟨rfl, hb1⟩
  cases r
  all_goals
    go_wp2
    go_ret
    exact ⟨rfl, hb1⟩

/-- What Validate answers. -/
def validE (A B C : Int) (cs : List Int) : Int :=
  if fromB 1 144 A = false ∨ fromB 1 144 C = false ∨ fromB 0 (A - 1) B = false then 1
  else if 144 < A * C then 4 else if (cs.length : Int) ≠ A * C ∨ colB cs = false then 1 else 0
theorem fromB_iff (lo hi n : Int) : fromB lo hi n = true ↔ lo ≤ n ∧ n ≤ hi := by unfold fromB; simp
set_option maxRecDepth 20000 in
set_option maxHeartbeats 2000000 in
theorem validate_any (A B C : Int) (v : Value) (cs : List Int) (w : World) (hv : Ints w v cs) (hkl : cs.length ≤ 1000000000) (hA1 : -9223372036854775808 ≤ A) (hA2 : A ≤ 9223372036854775807) :
    Calls Tryz.prog 52 #[.agg #[.int .i64 A, .int .i64 B, .int .i64 C, v]] w fun e w' => e = .returned (.int .i64 (validE A B C cs)) ∧ Below w.heap.size w w' := by
  have IA := Lib.hid (fun W => isFrom_any 1 144 A W)
  have IC := Lib.hid (fun W => isFrom_any 1 144 C W)
  have IB := Lib.hid (fun W => isFrom_any 0 (A - 1) B W)
  have AR := Lib.hid (fun W hW => areColors_any v cs W (hv.all hW) hkl)
  have hE : ∃ R, validE A B C cs = R := ⟨_, rfl⟩
  obtain ⟨R, hR⟩ := hE
  obtain ⟨va, vc, rfl, _⟩ := hv.look'
  have HR := Lib.hid hR
  have HFA := Lib.hid (fromB_iff 1 144 A)
  have HFC := Lib.hid (fromB_iff 1 144 C)
  have b0 := BlockAt.new w #[.int .i64 A, .int .i64 B, .int .i64 C, .slice va cs.length vc] 24
  have hw := (Below.refl w.heap.size w).alloc (Nat.le_refl _) (.cells #[.int .i64 A, .int .i64 B, .int .i64 C, .slice va cs.length vc] 24)
  have HB := Lib.hid (And.intro b0 hw)
  rw [hR]
  unfold validE at HR
  generalize fromB 1 144 A = ra at *
  generalize fromB 1 144 C = rc at *
  generalize fromB 0 (A - 1) B = rb at *
  generalize colB cs = rl at *
  clear hR hv b0 hw
  cases ra
  · have HE : Hid (R = 1) := Lib.hid (by rw [← HR.out]; simp)
    clear HR
    go_enter Tryz.func52, Tryz.ntmps52
    go_wp2_with fail
    refine (IA.out _).mono ?_
    rintro e w' ⟨rfl, rfl⟩
    go_wp2
    go_ret
    exact ⟨by rw [HE.out]; rfl, HB.out.2⟩
  obtain ⟨hA3, _⟩ := HFA.out.1 rfl
  have hA4 : -9223372036854775808 < A := by omega
  cases rc
  · have HE : Hid (R = 1) := Lib.hid (by rw [← HR.out]; simp)
    clear HR
    go_enter Tryz.func52, Tryz.ntmps52
    go_wp2_with fail
    refine (IA.out _).mono ?_
    rintro e w' ⟨rfl, rfl⟩
    go_wp2_with fail
    refine (IC.out _).mono ?_
    rintro e w' ⟨rfl, rfl⟩
    go_wp2
    go_ret
    exact ⟨by rw [HE.out]; rfl, HB.out.2⟩
  cases rb
  · have HE : Hid (R = 1) := Lib.hid (by rw [← HR.out]; simp)
    clear HR
    go_enter Tryz.func52, Tryz.ntmps52
    go_wp2_with fail
    refine (IA.out _).mono ?_
    rintro e w' ⟨rfl, rfl⟩
    go_wp2_with fail
    refine (IC.out _).mono ?_
    rintro e w' ⟨rfl, rfl⟩
    go_wp2_with fail
    refine (IB.out _).mono ?_
    rintro e w' ⟨rfl, rfl⟩
    go_wp2
    go_ret
    exact ⟨by rw [HE.out]; rfl, HB.out.2⟩
  obtain ⟨k1, k2⟩ := HFA.out.1 rfl
  obtain ⟨k3, k4⟩ := HFC.out.1 rfl
  have hp0 : 0 ≤ A * C := Int.mul_nonneg (by omega) (by omega)
  have hp1 : A * C ≤ 144 * C := Int.mul_le_mul_of_nonneg_right k2 (by omega)
  have g1 : IntKind.i64.wrap (A * C) = A * C := IntWalk.i64_in _ ⟨by omega, by omega⟩
  have HR2 := HR.out
  simp only [Bool.true_eq_false, or_self, if_false] at HR2
  clear HR HFA HFC k1 k2 k3 k4 hp1
  by_cases hbig : 144 < A * C
  · have HE : Hid (R = 4) := Lib.hid (by rw [← HR2, if_pos hbig])
    clear HR2
    go_enter Tryz.func52, Tryz.ntmps52
    go_wp2_with fail
    refine (IA.out _).mono ?_
    rintro e w' ⟨rfl, rfl⟩
    go_wp2_with fail
    refine (IC.out _).mono ?_
    rintro e w' ⟨rfl, rfl⟩
    go_wp2_with fail
    refine (IB.out _).mono ?_
    rintro e w' ⟨rfl, rfl⟩
    go_wp2
    go_ret
    exact ⟨by rw [HE.out]; rfl, HB.out.2⟩
  have hp3 : A * C ≤ 144 := by omega
  rw [if_neg hbig] at HR2
  clear hbig
  by_cases hl : (cs.length : Int) = A * C
  · have h2 : R = if rl = false then 1 else 0 := by
      rw [← HR2]
      simp [hl]
    have HE := Lib.hid h2
    have hd : ((cs.length : Int) != A * C) = false := by rw [bne, beq_iff_eq.2 hl]; rfl
    have hd2 : ((cs.length : Int) == A * C) = true := beq_iff_eq.2 hl
    have HA := Lib.hid (AR.out (w.alloc (.cells #[.int .i64 A, .int .i64 B, .int .i64 C, .slice va cs.length vc] 24)) HB.out.2)
    clear h2 HR2 hl AR
    go_enter Tryz.func52, Tryz.ntmps52
    go_wp2_with fail
    refine (IA.out _).mono ?_
    rintro e w' ⟨rfl, rfl⟩
    go_wp2_with fail
    refine (IC.out _).mono ?_
    rintro e w' ⟨rfl, rfl⟩
    go_wp2_with fail
    refine (IB.out _).mono ?_
    rintro e w' ⟨rfl, rfl⟩
    go_wp2_with fail
    refine HA.out.mono ?_
    rintro e w1 ⟨rfl, hb1⟩
    have HW := Lib.hid (below_step HB.out.2 hb1)
    clear hb1
    cases rl
    all_goals
      go_wp2
      go_ret
      exact ⟨by rw [HE.out]; rfl, HW.out⟩
  · have HE : Hid (R = 1) := Lib.hid (by rw [← HR2]; simp [hl])
    have hd2 : ((cs.length : Int) == A * C) = false := beq_eq_false_iff_ne.2 hl
    have hd : ((cs.length : Int) != A * C) = true := by rw [bne, hd2]; rfl
    clear HR2
    go_enter Tryz.func52, Tryz.ntmps52
    go_wp2_with fail
    refine (IA.out _).mono ?_
    rintro e w' ⟨rfl, rfl⟩
    go_wp2_with fail
    refine (IC.out _).mono ?_
    rintro e w' ⟨rfl, rfl⟩
    go_wp2_with fail
    refine (IB.out _).mono ?_
    rintro e w' ⟨rfl, rfl⟩
    go_wp2
    go_ret
    exact ⟨by rw [HE.out]; rfl, HB.out.2⟩
end Go.Proofs.YtobolflgoljafaaGreatDoor
namespace Go.Proofs.YtobolflgoljafaaGreatDoor
open Go.RowKit

theorem valid_ok {A B C : Int} {cs : List Int} (h : validE A B C cs = 0) : (1 ≤ A ∧ A ≤ 144) ∧ (1 ≤ C ∧ C ≤ 144) ∧ (0 ≤ B ∧ B ≤ A - 1) ∧ A * C ≤ 144 ∧ (cs.length : Int) = A * C ∧ colB cs = true := by
  unfold validE at h
  by_cases h1 : fromB 1 144 A = false ∨ fromB 1 144 C = false ∨ fromB 0 (A - 1) B = false
  · rw [if_pos h1] at h; omega
  rw [if_neg h1] at h
  by_cases h2 : 144 < A * C
  · rw [if_pos h2] at h; omega
  rw [if_neg h2] at h
  by_cases h3 : (cs.length : Int) ≠ A * C ∨ colB cs = false
  · rw [if_pos h3] at h; omega
  simp only [not_or, Bool.not_eq_false, ne_eq, Decidable.not_not] at h1 h3
  exact ⟨(fromB_iff _ _ _).1 h1.1, (fromB_iff _ _ _).1 h1.2.1, (fromB_iff _ _ _).1 h1.2.2, by omega, h3.1, h3.2⟩
theorem colB_at {ks : List Int} (h : colB ks = true) (i : Nat) : 0 ≤ csF ks i ∧ csF ks i ≤ 1000 := by
  unfold csF
  by_cases hi : i < ks.length
  · rw [getD_at hi]
    have := (fromB_iff _ _ _).1 (List.all_eq_true.1 h _ (List.getElem_mem hi))
    omega
  · rw [List.getD_eq_getElem?_getD, List.getElem?_eq_none (by omega)]
    simp
theorem valid_in {W : World} {A B C : Int} {v : Value} {cs : List Int} (h : validE A B C cs = 0) (hv : Ints W v cs) : PatIn W ⟨A, B, C⟩ v cs ∧ A * C ≤ 144 := by
  obtain ⟨⟨a1, a2⟩, ⟨c1, c2⟩, ⟨b1, b2⟩, h1, h2, h3⟩ := valid_ok h
  exact ⟨⟨hv, h2, ⟨⟨a1, b1, by show B < A; omega, c1⟩, by show A ≤ 30000; omega, by show C ≤ 30000; omega⟩, colB_at h3⟩, h1⟩
def LeastSays (A B C : Int) (cs : List Int) (l0 : Pt.Lat) (w : World) (e : Ending) (w' : World) : Prop :=
  (validE A B C cs = 0 → ∃ u, e = .returned (.tuple #[patV l0 u, .int .i64 0]) ∧ OwnF w.heap.size w' u (l0.a * l0.c).toNat (Pt.cellF l0 (Pt.col ⟨A, B, C⟩ (csF cs)))) ∧ (validE A B C cs ≠ 0 → e = .returned (.tuple #[patV ⟨0, 0, 0⟩ (.slice none 0 0), .int .i64 (validE A B C cs)])) ∧ Below w.heap.size w w'

set_option maxRecDepth 20000 in
set_option maxHeartbeats 1000000 in
theorem Least_any (A B C : Int) (v : Value) (cs : List Int) (l0 : Pt.Lat) (w : World) (hv : Ints w v cs) (hkl : cs.length ≤ 1000000000) (hA1 : -9223372036854775808 ≤ A) (hA2 : A ≤ 9223372036854775807)
    (h0 : validE A B C cs = 0 → Pt.IsB (Pt.Per (Pt.col ⟨A, B, C⟩ (csF cs))) l0) :
    Calls Tryz.prog 16 #[.agg #[.int .i64 A, .int .i64 B, .int .i64 C, v]] w (LeastSays A B C cs l0 w) := by
  have VA := Lib.hid (fun W hW => validate_any A B C v cs W (hv.all hW) hkl hA1 hA2)
  obtain ⟨va, vc, rfl, _⟩ := hv.look'
  have hX : (validE A B C cs = 0 → cs.length ≤ 1000000 ∧ 0 < (l0.a * l0.c).toNat ∧ ∀ Bk W, Below w.heap.size w W → PatAt W Bk ⟨A, B, C⟩ (.slice va cs.length vc) → Calls Tryz.prog 53 #[planeV cs.length ⟨A, B, C⟩ Bk] W fun e w' => ∃ u, e = .returned (.tuple #[patV l0 u, .int .i64 0]) ∧ OwnF W.heap.size w' u (l0.a * l0.c).toNat (Pt.cellF l0 (Pt.col ⟨A, B, C⟩ (csF cs))) ∧ Below W.heap.size W w') := fun hz => by
    obtain ⟨hp, hm⟩ := valid_in hz hv
    have hlen : (cs.length : Int) = A * C := hp.2.1
    have h1 := h0 hz
    refine ⟨by omega, ?_, fun Bk W hW hB => drawPlane_any ⟨A, B, C⟩ l0 _ cs Bk W (hp.all hW) hm h1 hB⟩
    have := Int.mul_le_mul_of_nonneg_left h1.ok.2.2.2 (show 0 ≤ l0.a by have := h1.ok.1; omega)
    have := h1.ok.1
    omega
  have DX := Lib.hid hX
  have HS : Hid (∀ e w', ((validE A B C cs = 0 → ∃ u, e = .returned (.tuple #[patV l0 u, .int .i64 0]) ∧ OwnF w.heap.size w' u (l0.a * l0.c).toNat (Pt.cellF l0 (Pt.col ⟨A, B, C⟩ (csF cs)))) ∧ (validE A B C cs ≠ 0 → e = .returned (.tuple #[patV ⟨0, 0, 0⟩ (.slice none 0 0), .int .i64 (validE A B C cs)])) ∧ Below w.heap.size w w') → LeastSays A B C cs l0 w e w') := Lib.hid fun _ _ h => h
  generalize hR : validE A B C cs = R at *
  generalize Pt.cellF l0 (Pt.col ⟨A, B, C⟩ (csF cs)) = F at *
  generalize LeastSays A B C cs l0 w = LS at *
  have b0 := (BlockAt.new w #[.int .i64 A, .int .i64 B, .int .i64 C, .slice va cs.length vc] 24).alloc (.cells #[.int .i64 0, .int .i64 0, .int .i64 0, .slice none 0 0] 24)
  have b1 := BlockAt.new (w.alloc (.cells #[.int .i64 A, .int .i64 B, .int .i64 C, .slice va cs.length vc] 24)) #[.int .i64 0, .int .i64 0, .int .i64 0, .slice none 0 0] 24
  simp only [World.size_alloc] at b1
  have hw := below_alloc (below_alloc (Below.refl w.heap.size w) (.cells #[.int .i64 A, .int .i64 B, .int .i64 C, .slice va cs.length vc] 24)) (.cells #[.int .i64 0, .int .i64 0, .int .i64 0, .slice none 0 0] 24)
  have HB := Lib.hid (And.intro b0 (And.intro b1 hw))
  clear b0 b1 hw hv h0 hX hR
  go_enter Tryz.func16, Tryz.ntmps16
  go_wp2_with fail
  refine (VA.out _ HB.out.2.2).mono ?_
  rintro e w1 ⟨rfl, hb1⟩
  have B0 := Lib.hid (HB.out.1.below hb1 HB.out.1.lt)
  have B1 := Lib.hid (HB.out.2.1.below hb1 HB.out.2.1.lt)
  have HW := Lib.hid (below_step HB.out.2.2 hb1)
  clear HB hb1 VA
  by_cases hz : R = 0
  · obtain ⟨hlen, hpos0, hDP⟩ := DX.out hz
    have PO := Lib.hid (fun W => planeOf_any ⟨A, B, C⟩ cs.length va vc W hlen)
    have DP := Lib.hid hDP
    have HZ := Lib.hid hz
    have c0 : World.cell? _ _ = some (.int .i64 A) := B0.out.cell 0
    have c1 : World.cell? _ _ = some (.int .i64 B) := B0.out.cell 1
    have c2 : World.cell? _ _ = some (.int .i64 C) := B0.out.cell 2
    have c3 : World.cell? _ _ = some (.slice va cs.length vc) := B0.out.cell 3
    have hlt := B0.out.lt
    subst hz
    clear DX hDP hlen
    go_wp2_with fail
    refine (PO.out _).mono ?_
    rintro e w2 ⟨rfl, hpa, _, hb2⟩
    have B1' := Lib.hid (B1.out.below hb2 B1.out.lt)
    have HW2 := Lib.hid (below_step HW.out hb2)
    have D := Lib.hid (DP.out _ w2 HW2.out hpa)
    clear hb2 hpa PO DP c0 c1 c2 c3 hlt B0 HW
    go_wp2_with fail
    refine D.out.mono ?_
    rintro e w3 ⟨u, rfl, hown, hb3⟩
    obtain ⟨g, cp, rfl, _, _⟩ := hown.form hpos0
    have B2 := Lib.hid (B1'.out.below hb3 B1'.out.lt)
    have HW3 := Lib.hid (below_step HW2.out hb3)
    have hsz1 := B1'.out.lt
    have HO := Lib.hid hown
    clear hown hb3 D HW2 B1 B1'
    have c0 : World.cell? _ _ = some (.int .i64 0) := B2.out.cell 0
    have c1 : World.cell? _ _ = some (.int .i64 0) := B2.out.cell 1
    have c2 : World.cell? _ _ = some (.int .i64 0) := B2.out.cell 2
    have c3 : World.cell? _ _ = some (.slice none 0 0) := B2.out.cell 3
    have f0 := B2.out.frozen 0
    have f1 := B2.out.frozen 1
    have f2 := B2.out.frozen 2
    have f3 := B2.out.frozen 3
    have hlt := B2.out.lt
    go_wp2
    refine bodyPost_ret (v := .tuple #[.agg #[.int .i64 l0.a, .int .i64 l0.b, .int .i64 l0.c, .slice (some ⟨g, 0, none⟩) (l0.a * l0.c).toNat cp], .int .i64 0]) (by simp [results, Tryz.results16, go_sem, c0, c1, c2, c3]) rfl (HS.out _ _ ⟨fun _ => ⟨_, rfl, ?_⟩, fun h => absurd rfl h, ?_⟩)
    · exact OwnF.mono ((((HO.out.setOld (by simp; omega) _).setOld (by simp; omega) _).setOld (by simp; omega) _).setOld (by simp; omega) _) (by omega)
    · exact (((HW3.out.setCell (by simp) _).setCell (by simp) _).setCell (by simp) _).setCell (by simp) _
  · have hd : (R == 0) = false := beq_eq_false_iff_ne.2 hz
    have hd2 : (R != 0) = true := by rw [bne, hd]; rfl
    have HZ := Lib.hid hz
    have c0 : World.cell? _ _ = some (.int .i64 0) := B1.out.cell 0
    have c1 : World.cell? _ _ = some (.int .i64 0) := B1.out.cell 1
    have c2 : World.cell? _ _ = some (.int .i64 0) := B1.out.cell 2
    have c3 : World.cell? _ _ = some (.slice none 0 0) := B1.out.cell 3
    have f0 := B1.out.frozen 0
    have f1 := B1.out.frozen 1
    have f2 := B1.out.frozen 2
    have f3 := B1.out.frozen 3
    have hlt := B1.out.lt
    clear hz DX
    go_wp2
    refine bodyPost_ret (v := .tuple #[.agg #[.int .i64 0, .int .i64 0, .int .i64 0, .slice none 0 0], .int .i64 R]) (by simp [results, Tryz.results16, go_sem, c0, c1, c2, c3]) rfl (HS.out _ _ ⟨fun h => absurd h HZ.out, fun _ => rfl, ?_⟩)
    exact (((HW.out.setCell (by simp) _).setCell (by simp) _).setCell (by simp) _).setCell (by simp) _
end Go.Proofs.YtobolflgoljafaaGreatDoor
namespace Go.Proofs.YtobolflgoljafaaGreatDoor
open Go.RowKit

def placeE (A B C : Int) (cs : List Int) (x y : Int) : Int :=
  if validE A B C cs = 0 then (if fromB (-100000) 100000 x = false ∨ fromB (-100000) 100000 y = false then 1 else 0) else validE A B C cs
theorem place_ok {A B C : Int} {cs : List Int} {x y : Int} (h : placeE A B C cs x y = 0) : validE A B C cs = 0 ∧ (-100000 ≤ x ∧ x ≤ 100000) ∧ (-100000 ≤ y ∧ y ≤ 100000) := by
  unfold placeE at h
  by_cases h0 : validE A B C cs = 0
  · rw [if_pos h0] at h
    by_cases h1 : fromB (-100000) 100000 x = false ∨ fromB (-100000) 100000 y = false
    · rw [if_pos h1] at h; omega
    · simp only [not_or, Bool.not_eq_false] at h1
      exact ⟨h0, (fromB_iff _ _ _).1 h1.1, (fromB_iff _ _ _).1 h1.2⟩
  · rw [if_neg h0] at h; exact absurd h h0

set_option maxRecDepth 20000 in
set_option maxHeartbeats 1000000 in
theorem validatePlace_any (A B C : Int) (v : Value) (cs : List Int) (x y : Int) (w : World) (hv : Ints w v cs) (hkl : cs.length ≤ 1000000000) (hA1 : -9223372036854775808 ≤ A) (hA2 : A ≤ 9223372036854775807) :
    Calls Tryz.prog 77 #[.agg #[.int .i64 A, .int .i64 B, .int .i64 C, v], .int .i64 x, .int .i64 y] w fun e w' => e = .returned (.int .i64 (placeE A B C cs x y)) ∧ Below w.heap.size w w' := by
  have VA := Lib.hid (fun W hW => validate_any A B C v cs W (hv.all hW) hkl hA1 hA2)
  have IX := Lib.hid (fun W => isFrom_any (-100000) 100000 x W)
  have IY := Lib.hid (fun W => isFrom_any (-100000) 100000 y W)
  obtain ⟨va, vc, rfl, _⟩ := hv.look'
  have hE : ∃ R, placeE A B C cs x y = R := ⟨_, rfl⟩
  obtain ⟨R, hR⟩ := hE
  have HR := Lib.hid hR
  have hw := Lib.hid ((Below.refl w.heap.size w).alloc (Nat.le_refl _) (.cells #[.int .i64 A, .int .i64 B, .int .i64 C, .slice va cs.length vc] 24))
  rw [hR]
  unfold placeE at HR
  generalize validE A B C cs = q at *
  generalize fromB (-100000) 100000 x = rx at *
  generalize fromB (-100000) 100000 y = ry at *
  clear hR hv
  by_cases hz : q = 0
  · subst hz
    have HR2 := HR.out
    rw [if_pos rfl] at HR2
    have HE := Lib.hid HR2
    clear HR HR2
    cases rx
    · go_enter Tryz.func77, Tryz.ntmps77
      go_wp2_with fail
      refine (VA.out _ hw.out).mono ?_
      rintro e w1 ⟨rfl, hb1⟩
      have HW := Lib.hid (below_step hw.out hb1)
      clear hb1
      go_wp2_with fail
      refine (IX.out _).mono ?_
      rintro e w2 ⟨rfl, rfl⟩
      go_wp2
      go_ret
      exact ⟨by rw [← HE.out]; rfl, HW.out⟩
    · cases ry
      all_goals
        go_enter Tryz.func77, Tryz.ntmps77
        go_wp2_with fail
        refine (VA.out _ hw.out).mono ?_
        rintro e w1 ⟨rfl, hb1⟩
        have HW := Lib.hid (below_step hw.out hb1)
        clear hb1
        go_wp2_with fail
        refine (IX.out _).mono ?_
        rintro e w2 ⟨rfl, rfl⟩
        go_wp2_with fail
        refine (IY.out _).mono ?_
        rintro e w2 ⟨rfl, rfl⟩
        go_wp2
        go_ret
        exact ⟨by rw [← HE.out]; rfl, HW.out⟩
  · have HE : Hid (q = R) := Lib.hid (by rw [← HR.out, if_neg hz])
    have hd : (q == 0) = false := beq_eq_false_iff_ne.2 hz
    have hd2 : (q != 0) = true := by rw [bne, hd]; rfl
    clear hz HR
    go_enter Tryz.func77, Tryz.ntmps77
    go_wp2_with fail
    refine (VA.out _ hw.out).mono ?_
    rintro e w1 ⟨rfl, hb1⟩
    have HW := Lib.hid (below_step hw.out hb1)
    clear hb1
    go_wp2
    go_ret
    exact ⟨by rw [← HE.out]; rfl, HW.out⟩

set_option maxRecDepth 20000 in
set_option maxHeartbeats 1000000 in
theorem At_any (A B C : Int) (v : Value) (cs : List Int) (x y : Int) (w : World) (hv : Ints w v cs) (hkl : cs.length ≤ 1000000000) (hA1 : -9223372036854775808 ≤ A) (hA2 : A ≤ 9223372036854775807) :
    Calls Tryz.prog 43 #[.agg #[.int .i64 A, .int .i64 B, .int .i64 C, v], .int .i64 x, .int .i64 y] w fun e w' => e = .returned (if placeE A B C cs x y = 0 then .tuple #[.int .i64 (Pt.col ⟨A, B, C⟩ (csF cs) x y), .int .i64 0] else .tuple #[.int .i64 0, .int .i64 (placeE A B C cs x y)]) ∧ Below w.heap.size w w' := by
  have VA := Lib.hid (fun W hW => validatePlace_any A B C v cs x y W (hv.all hW) hkl hA1 hA2)
  obtain ⟨va, vc, rfl, _⟩ := hv.look'
  have b0 := BlockAt.new w #[.int .i64 A, .int .i64 B, .int .i64 C, .slice va cs.length vc] 24
  have hw := (Below.refl w.heap.size w).alloc (Nat.le_refl _) (.cells #[.int .i64 A, .int .i64 B, .int .i64 C, .slice va cs.length vc] 24)
  have HB := Lib.hid (And.intro b0 hw)
  clear b0 hw
  by_cases hz : placeE A B C cs x y = 0
  · obtain ⟨hz0, ⟨x1, x2⟩, ⟨y1, y2⟩⟩ := place_ok hz
    rw [if_pos hz]
    rw [hz] at VA
    obtain ⟨hp, hm⟩ := valid_in hz0 hv
    have CA := Lib.hid (fun W hW => colorAt_any ⟨A, B, C⟩ _ cs x y W (hp.all hW) (by omega) (by omega) (by omega) (by omega))
    clear hp hm
    generalize Pt.col ⟨A, B, C⟩ (csF cs) x y = r at *
    clear hz hz0 hv
    go_enter Tryz.func43, Tryz.ntmps43
    go_wp2_with fail
    refine (VA.out _ HB.out.2).mono ?_
    rintro e w1 ⟨rfl, hb1⟩
    have HP := Lib.hid (HB.out.1.below hb1 HB.out.1.lt)
    have HW := Lib.hid (below_step HB.out.2 hb1)
    have c0 : World.cell? _ _ = some (.int .i64 A) := HP.out.cell 0
    have c1 : World.cell? _ _ = some (.int .i64 B) := HP.out.cell 1
    have c2 : World.cell? _ _ = some (.int .i64 C) := HP.out.cell 2
    have c3 : World.cell? _ _ = some (.slice va cs.length vc) := HP.out.cell 3
    clear hb1 VA HB
    go_wp2_with fail
    refine (CA.out _ HW.out).mono ?_
    rintro e w2 ⟨rfl, hb2⟩
    have HW2 := Lib.hid (below_step HW.out hb2)
    clear hb2
    go_wp2
    exact bodyPost_ret (v := .tuple #[.int .i64 r, .int .i64 0]) (by simp [results, Tryz.results43, go_sem]) rfl ⟨rfl, HW2.out⟩
  · rw [if_neg hz]
    generalize placeE A B C cs x y = q at *
    have hd : (q == 0) = false := beq_eq_false_iff_ne.2 hz
    have hd2 : (q != 0) = true := by rw [bne, hd]; rfl
    clear hz hv
    go_enter Tryz.func43, Tryz.ntmps43
    go_wp2_with fail
    refine (VA.out _ HB.out.2).mono ?_
    rintro e w1 ⟨rfl, hb1⟩
    have HW := Lib.hid (below_step HB.out.2 hb1)
    clear hb1
    go_wp2
    exact bodyPost_ret (v := .tuple #[.int .i64 0, .int .i64 q]) (by simp [results, Tryz.results43, go_sem]) rfl ⟨rfl, HW.out⟩

end Go.Proofs.YtobolflgoljafaaGreatDoor
