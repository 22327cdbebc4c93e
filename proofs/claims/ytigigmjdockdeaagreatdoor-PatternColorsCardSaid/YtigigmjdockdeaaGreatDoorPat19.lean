/- The reference's Least. -/
import Derived.Test.YtigigmjdockdeaaGreatDoorPat18
namespace Go.Proofs.YtigigmjdockdeaaGreatDoor
open Go.RowKit

set_option maxRecDepth 20000 in
set_option maxHeartbeats 1000000 in
theorem refLeast_any (A B C : Int) (v : Value) (cs : List Int) (l0 : Pt.Lat) (w : World) (hv : Ints w v cs) (hkl : cs.length ≤ 1000000000) (hA1 : -9223372036854775808 ≤ A) (hA2 : A ≤ 9223372036854775807)
    (h0 : validE A B C cs = 0 → Pt.IsB (Pt.Per (Pt.col ⟨A, B, C⟩ (csF cs))) l0) :
    Calls Tryz.prog 27 #[.agg #[.int .i64 A, .int .i64 B, .int .i64 C, v]] w (LeastSays A B C cs l0 w) := by
  have VA := Lib.hid (fun W hW => refValidate_any A B C v cs W (hv.all hW) hkl hA1 hA2)
  obtain ⟨va, vc, rfl, _⟩ := hv.look'
  have hX : (validE A B C cs = 0 → 0 < (l0.a * l0.c).toNat ∧ ∀ W, Below w.heap.size w W → Calls Tryz.prog 66 #[.agg #[.int .i64 A, .int .i64 B, .int .i64 C, .slice va cs.length vc]] W fun e w' => ∃ u, e = .returned (patV l0 u) ∧ OwnF W.heap.size w' u (l0.a * l0.c).toNat (Pt.cellF l0 (Pt.col ⟨A, B, C⟩ (csF cs))) ∧ Below W.heap.size W w') := fun hz => by
    obtain ⟨hp, hm⟩ := valid_in hz hv
    have h1 := h0 hz
    refine ⟨?_, fun W hW => refLeast0_any ⟨A, B, C⟩ l0 _ cs W (hp.all hW) h1⟩
    have := Int.mul_le_mul_of_nonneg_left h1.ok.2.2.2 (show 0 ≤ l0.a by have := h1.ok.1; omega)
    have := h1.ok.1
    omega
  have DX := Lib.hid hX
  have HS : Hid (∀ e w', ((validE A B C cs = 0 → ∃ u, e = .returned (.tuple #[patV l0 u, .int .i64 0]) ∧ OwnF w.heap.size w' u (l0.a * l0.c).toNat (Pt.cellF l0 (Pt.col ⟨A, B, C⟩ (csF cs)))) ∧ (validE A B C cs ≠ 0 → e = .returned (.tuple #[patV ⟨0, 0, 0⟩ (.slice none 0 0), .int .i64 (validE A B C cs)])) ∧ Below w.heap.size w w') → LeastSays A B C cs l0 w e w') := Lib.hid fun _ _ h => h
  generalize hR : validE A B C cs = R at *
  generalize Pt.cellF l0 (Pt.col ⟨A, B, C⟩ (csF cs)) = F at *
  generalize LeastSays A B C cs l0 w = LS at *
  have b0 := (BlockAt.new w #[.int .i64 A, .int .i64 B, .int .i64 C, .slice va cs.length vc] 24).alloc (.cells #[.int .i64 0, .int .i64 0, .int .i64 0, .slice none 0 0] 24)
  have b1 := BlockAt.new (w.alloc (.cells #[.int .i64 A, .int .i64 B, .int .i64 C, .slice va cs.length vc] 24)) #[.int .i64 0, .int .i64 0, .int .i64 0, .slice none 0 0] 24
  simp only [World.size_alloc] at b1
  have hw := below_alloc (below_alloc (Below.refl w.heap.size w) (.cells #[.int .i64 A, .int .i64 B, .int .i64 C, .slice va cs.length vc] 24)) (.cells #[.int .i64 0, .int .i64 0, .int .i64 0, .slice none 0 0] 24)
  have HB := Lib.hid (And.intro b0 (And.intro b1 hw))
  clear b0 b1 hw hv h0 hX hR
  go_enter Tryz.func27, Tryz.ntmps27
  go_wp2_with fail
  refine (VA.out _ HB.out.2.2).mono ?_
  rintro e w1 ⟨rfl, hb1⟩
  have B0 := Lib.hid (HB.out.1.below hb1 HB.out.1.lt)
  have B1 := Lib.hid (HB.out.2.1.below hb1 HB.out.2.1.lt)
  have HW := Lib.hid (below_step HB.out.2.2 hb1)
  clear HB hb1 VA
  by_cases hz : R = 0
  · obtain ⟨hpos0, hDP⟩ := DX.out hz
    have D := Lib.hid (hDP _ HW.out)
    have c0 : World.cell? _ _ = some (.int .i64 A) := B0.out.cell 0
    have c1 : World.cell? _ _ = some (.int .i64 B) := B0.out.cell 1
    have c2 : World.cell? _ _ = some (.int .i64 C) := B0.out.cell 2
    have c3 : World.cell? _ _ = some (.slice va cs.length vc) := B0.out.cell 3
    subst hz
    clear DX hDP
    go_wp2_with fail
    refine D.out.mono ?_
    rintro e w3 ⟨u, rfl, hown, hb3⟩
    clear c0 c1 c2 c3 B0
    obtain ⟨g, cp, rfl, _, _⟩ := hown.form hpos0
    have B2 := Lib.hid (B1.out.below hb3 B1.out.lt)
    have HW3 := Lib.hid (below_step HW.out hb3)
    have hsz1 := B1.out.lt
    have HO := Lib.hid hown
    clear hown hb3 D HW B1
    have c0 : World.cell? _ _ = some (.int .i64 0) := B2.out.cell 0
    have c1 : World.cell? _ _ = some (.int .i64 0) := B2.out.cell 1
    have c2 : World.cell? _ _ = some (.int .i64 0) := B2.out.cell 2
    have c3 : World.cell? _ _ = some (.slice none 0 0) := B2.out.cell 3
    have f0 := B2.out.frozen 0
    have f1 := B2.out.frozen 1
    have f2 := B2.out.frozen 2
    have f3 := B2.out.frozen 3
    have hlt := B2.out.lt
    go_wp2
    refine bodyPost_ret (v := .tuple #[.agg #[.int .i64 l0.a, .int .i64 l0.b, .int .i64 l0.c, .slice (some ⟨g, 0, none⟩) (l0.a * l0.c).toNat cp], .int .i64 0]) (by simp [results, Tryz.results27, go_sem, c0, c1, c2, c3, hlt]) rfl (HS.out _ _ ⟨fun _ => ⟨_, rfl, ?_⟩, fun h => absurd rfl h, ?_⟩)
    · exact OwnF.mono ((((HO.out.setOld (by simp; omega) _).setOld (by simp; omega) _).setOld (by simp; omega) _).setOld (by simp; omega) _) (by omega)
    · exact (((HW3.out.setCell (by simp) _).setCell (by simp) _).setCell (by simp) _).setCell (by simp) _
  · have hd : (R == 0) = false := beq_eq_false_iff_ne.2 hz
    have hd2 : (R != 0) = true := by rw [bne, hd]; rfl
    have HZ := Lib.hid hz
    have c0 : World.cell? _ _ = some (.int .i64 0) := B1.out.cell 0
    have c1 : World.cell? _ _ = some (.int .i64 0) := B1.out.cell 1
    have c2 : World.cell? _ _ = some (.int .i64 0) := B1.out.cell 2
    have c3 : World.cell? _ _ = some (.slice none 0 0) := B1.out.cell 3
    have f0 := B1.out.frozen 0
    have f1 := B1.out.frozen 1
    have f2 := B1.out.frozen 2
    have f3 := B1.out.frozen 3
    have hlt := B1.out.lt
    clear hz DX
    go_wp2
    refine bodyPost_ret (v := .tuple #[.agg #[.int .i64 0, .int .i64 0, .int .i64 0, .slice none 0 0], .int .i64 R]) (by simp [results, Tryz.results27, go_sem, c0, c1, c2, c3, hlt]) rfl (HS.out _ _ ⟨fun h => absurd h HZ.out, fun _ => rfl, ?_⟩)
    exact (((HW.out.setCell (by simp) _).setCell (by simp) _).setCell (by simp) _).setCell (by simp) _
end Go.Proofs.YtigigmjdockdeaaGreatDoor
