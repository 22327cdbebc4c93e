/- pattern.Least, of any pattern that comes in. -/
import Derived.Test.YtigigmjdockdeaaGreatDoorPat11
namespace Go.Proofs.YtigigmjdockdeaaGreatDoor
open Go.RowKit

theorem valid_ok {A B C : Int} {cs : List Int} (h : validE A B C cs = 0) : (1 ≤ A ∧ A ≤ 144) ∧ (1 ≤ C ∧ C ≤ 144) ∧ (0 ≤ B ∧ B ≤ A - 1) ∧ A * C ≤ 144 ∧ (cs.length : Int) = A * C ∧ colB cs = true := by
  unfold validE at h
  by_cases h1 : fromB 1 144 A = false ∨ fromB 1 144 C = false ∨ fromB 0 (A - 1) B = false
  · rw [if_pos h1] at h; omega
  rw [if_neg h1] at h
  by_cases h2 : 144 < A * C
  · rw [if_pos h2] at h; omega
  rw [if_neg h2] at h
  by_cases h3 : (cs.length : Int) ≠ A * C ∨ colB cs = false
  · rw [if_pos h3] at h; omega
  simp only [not_or, Bool.not_eq_false, ne_eq, Decidable.not_not] at h1 h3
  exact ⟨(fromB_iff _ _ _).1 h1.1, (fromB_iff _ _ _).1 h1.2.1, (fromB_iff _ _ _).1 h1.2.2, by omega, h3.1, h3.2⟩
theorem colB_at {ks : List Int} (h : colB ks = true) (i : Nat) : 0 ≤ csF ks i ∧ csF ks i ≤ 1000 := by
  unfold csF
  by_cases hi : i < ks.length
  · rw [getD_at hi]
    have := (fromB_iff _ _ _).1 (List.all_eq_true.1 h _ (List.getElem_mem hi))
    omega
  · rw [List.getD_eq_getElem?_getD, List.getElem?_eq_none (by omega)]
    simp
theorem valid_in {W : World} {A B C : Int} {v : Value} {cs : List Int} (h : validE A B C cs = 0) (hv : Ints W v cs) : PatIn W ⟨A, B, C⟩ v cs ∧ A * C ≤ 144 := by
  obtain ⟨⟨a1, a2⟩, ⟨c1, c2⟩, ⟨b1, b2⟩, h1, h2, h3⟩ := valid_ok h
  exact ⟨⟨hv, h2, ⟨⟨a1, b1, by show B < A; omega, c1⟩, by show A ≤ 30000; omega, by show C ≤ 30000; omega⟩, colB_at h3⟩, h1⟩
def LeastSays (A B C : Int) (cs : List Int) (l0 : Pt.Lat) (w : World) (e : Ending) (w' : World) : Prop :=
  (validE A B C cs = 0 → ∃ u, e = .returned (.tuple #[patV l0 u, .int .i64 0]) ∧ OwnF w.heap.size w' u (l0.a * l0.c).toNat (Pt.cellF l0 (Pt.col ⟨A, B, C⟩ (csF cs)))) ∧ (validE A B C cs ≠ 0 → e = .returned (.tuple #[patV ⟨0, 0, 0⟩ (.slice none 0 0), .int .i64 (validE A B C cs)])) ∧ Below w.heap.size w w'

set_option maxRecDepth 20000 in
set_option maxHeartbeats 1000000 in
theorem Least_any (A B C : Int) (v : Value) (cs : List Int) (l0 : Pt.Lat) (w : World) (hv : Ints w v cs) (hkl : cs.length ≤ 1000000000) (hA1 : -9223372036854775808 ≤ A) (hA2 : A ≤ 9223372036854775807)
    (h0 : validE A B C cs = 0 → Pt.IsB (Pt.Per (Pt.col ⟨A, B, C⟩ (csF cs))) l0) :
    Calls Tryz.prog 26 #[.agg #[.int .i64 A, .int .i64 B, .int .i64 C, v]] w (LeastSays A B C cs l0 w) := by
  have VA := Lib.hid (fun W hW => validate_any A B C v cs W (hv.all hW) hkl hA1 hA2)
  obtain ⟨va, vc, rfl, _⟩ := hv.look'
  have hX : (validE A B C cs = 0 → cs.length ≤ 1000000 ∧ 0 < (l0.a * l0.c).toNat ∧ ∀ Bk W, Below w.heap.size w W → PatAt W Bk ⟨A, B, C⟩ (.slice va cs.length vc) → Calls Tryz.prog 71 #[planeV cs.length ⟨A, B, C⟩ Bk] W fun e w' => ∃ u, e = .returned (.tuple #[patV l0 u, .int .i64 0]) ∧ OwnF W.heap.size w' u (l0.a * l0.c).toNat (Pt.cellF l0 (Pt.col ⟨A, B, C⟩ (csF cs))) ∧ Below W.heap.size W w') := fun hz => by
    obtain ⟨hp, hm⟩ := valid_in hz hv
    have hlen : (cs.length : Int) = A * C := hp.2.1
    have h1 := h0 hz
    refine ⟨by omega, ?_, fun Bk W hW hB => drawPlane_any ⟨A, B, C⟩ l0 _ cs Bk W (hp.all hW) hm h1 hB⟩
    have := Int.mul_le_mul_of_nonneg_left h1.ok.2.2.2 (show 0 ≤ l0.a by have := h1.ok.1; omega)
    have := h1.ok.1
    omega
  have DX := Lib.hid hX
  have HS : Hid (∀ e w', ((validE A B C cs = 0 → ∃ u, e = .returned (.tuple #[patV l0 u, .int .i64 0]) ∧ OwnF w.heap.size w' u (l0.a * l0.c).toNat (Pt.cellF l0 (Pt.col ⟨A, B, C⟩ (csF cs)))) ∧ (validE A B C cs ≠ 0 → e = .returned (.tuple #[patV ⟨0, 0, 0⟩ (.slice none 0 0), .int .i64 (validE A B C cs)])) ∧ Below w.heap.size w w') → LeastSays A B C cs l0 w e w') := Lib.hid fun _ _ h => h
  generalize hR : validE A B C cs = R at *
  generalize Pt.cellF l0 (Pt.col ⟨A, B, C⟩ (csF cs)) = F at *
  generalize LeastSays A B C cs l0 w = LS at *
  have b0 := (BlockAt.new w #[.int .i64 A, .int .i64 B, .int .i64 C, .slice va cs.length vc] 24).alloc (.cells #[.int .i64 0, .int .i64 0, .int .i64 0, .slice none 0 0] 24)
  have b1 := BlockAt.new (w.alloc (.cells #[.int .i64 A, .int .i64 B, .int .i64 C, .slice va cs.length vc] 24)) #[.int .i64 0, .int .i64 0, .int .i64 0, .slice none 0 0] 24
  simp only [World.size_alloc] at b1
  have hw := below_alloc (below_alloc (Below.refl w.heap.size w) (.cells #[.int .i64 A, .int .i64 B, .int .i64 C, .slice va cs.length vc] 24)) (.cells #[.int .i64 0, .int .i64 0, .int .i64 0, .slice none 0 0] 24)
  have HB := Lib.hid (And.intro b0 (And.intro b1 hw))
  clear b0 b1 hw hv h0 hX hR
  go_enter Tryz.func26, Tryz.ntmps26
  go_wp2_with fail
  refine (VA.out _ HB.out.2.2).mono ?_
  rintro e w1 ⟨rfl, hb1⟩
  have B0 := Lib.hid (HB.out.1.below hb1 HB.out.1.lt)
  have B1 := Lib.hid (HB.out.2.1.below hb1 HB.out.2.1.lt)
  have HW := Lib.hid (below_step HB.out.2.2 hb1)
  clear HB hb1 VA
  by_cases hz : R = 0
  · obtain ⟨hlen, hpos0, hDP⟩ := DX.out hz
    have PO := Lib.hid (fun W => planeOf_any ⟨A, B, C⟩ cs.length va vc W hlen)
    have DP := Lib.hid hDP
    have HZ := Lib.hid hz
    have c0 : World.cell? _ _ = some (.int .i64 A) := B0.out.cell 0
    have c1 : World.cell? _ _ = some (.int .i64 B) := B0.out.cell 1
    have c2 : World.cell? _ _ = some (.int .i64 C) := B0.out.cell 2
    have c3 : World.cell? _ _ = some (.slice va cs.length vc) := B0.out.cell 3
    have hlt := B0.out.lt
    subst hz
    clear DX hDP hlen
    go_wp2_with fail
    refine (PO.out _).mono ?_
    rintro e w2 ⟨rfl, hpa, _, hb2⟩
    have B1' := Lib.hid (B1.out.below hb2 B1.out.lt)
    have HW2 := Lib.hid (below_step HW.out hb2)
    have D := Lib.hid (DP.out _ w2 HW2.out hpa)
    clear hb2 hpa PO DP c0 c1 c2 c3 hlt B0 HW
    go_wp2_with fail
    refine D.out.mono ?_
    rintro e w3 ⟨u, rfl, hown, hb3⟩
    obtain ⟨g, cp, rfl, _, _⟩ := hown.form hpos0
    have B2 := Lib.hid (B1'.out.below hb3 B1'.out.lt)
    have HW3 := Lib.hid (below_step HW2.out hb3)
    have hsz1 := B1'.out.lt
    have HO := Lib.hid hown
    clear hown hb3 D HW2 B1 B1'
    have c0 : World.cell? _ _ = some (.int .i64 0) := B2.out.cell 0
    have c1 : World.cell? _ _ = some (.int .i64 0) := B2.out.cell 1
    have c2 : World.cell? _ _ = some (.int .i64 0) := B2.out.cell 2
    have c3 : World.cell? _ _ = some (.slice none 0 0) := B2.out.cell 3
    have f0 := B2.out.frozen 0
    have f1 := B2.out.frozen 1
    have f2 := B2.out.frozen 2
    have f3 := B2.out.frozen 3
    have hlt := B2.out.lt
    go_wp2
    refine bodyPost_ret (v := .tuple #[.agg #[.int .i64 l0.a, .int .i64 l0.b, .int .i64 l0.c, .slice (some ⟨g, 0, none⟩) (l0.a * l0.c).toNat cp], .int .i64 0]) (by simp [results, Tryz.results26, go_sem, c0, c1, c2, c3, hlt]) rfl (HS.out _ _ ⟨fun _ => ⟨_, rfl, ?_⟩, fun h => absurd rfl h, ?_⟩)
    · exact OwnF.mono ((((HO.out.setOld (by simp; omega) _).setOld (by simp; omega) _).setOld (by simp; omega) _).setOld (by simp; omega) _) (by omega)
    · exact (((HW3.out.setCell (by simp) _).setCell (by simp) _).setCell (by simp) _).setCell (by simp) _
  · have hd : (R == 0) = false := beq_eq_false_iff_ne.2 hz
    have hd2 : (R != 0) = true := by rw [bne, hd]; rfl
    have HZ := Lib.hid hz
    have c0 : World.cell? _ _ = some (.int .i64 0) := B1.out.cell 0
    have c1 : World.cell? _ _ = some (.int .i64 0) := B1.out.cell 1
    have c2 : World.cell? _ _ = some (.int .i64 0) := B1.out.cell 2
    have c3 : World.cell? _ _ = some (.slice none 0 0) := B1.out.cell 3
    have f0 := B1.out.frozen 0
    have f1 := B1.out.frozen 1
    have f2 := B1.out.frozen 2
    have f3 := B1.out.frozen 3
    have hlt := B1.out.lt
    clear hz DX
    go_wp2
    refine bodyPost_ret (v := .tuple #[.agg #[.int .i64 0, .int .i64 0, .int .i64 0, .slice none 0 0], .int .i64 R]) (by simp [results, Tryz.results26, go_sem, c0, c1, c2, c3, hlt]) rfl (HS.out _ _ ⟨fun h => absurd h HZ.out, fun _ => rfl, ?_⟩)
    exact (((HW.out.setCell (by simp) _).setCell (by simp) _).setCell (by simp) _).setCell (by simp) _
end Go.Proofs.YtigigmjdockdeaaGreatDoor
