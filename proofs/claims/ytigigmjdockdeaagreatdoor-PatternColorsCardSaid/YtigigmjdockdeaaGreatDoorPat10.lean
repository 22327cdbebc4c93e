/- The least pattern of a pattern: pattern.least. -/
import Derived.Test.YtigigmjdockdeaaGreatDoorPat9
namespace Go.Proofs.YtigigmjdockdeaaGreatDoor
open Go.RowKit

theorem least_size {l l0 : Pt.Lat} (h : l.ok) {f : Int → Int → Int} (hper : ∀ x y, Pt.inL l x y → Pt.Per f x y) (h0 : Pt.IsB (Pt.Per f) l0) : l0.a * l0.c ≤ l.a * l.c ∧ l0.a ≤ l0.a * l0.c ∧ l0.c ≤ l0.a * l0.c := by
  have h1 := Pt.Cells.size (Pt.per_grp f) (Pt.Cells.ofLat h hper) h0
  have hp : 0 ≤ l.a * l.c := Int.mul_nonneg (by have := h.1; omega) (by have := h.2.2.2; omega)
  obtain ⟨a1, a2, a3, a4⟩ := h0.ok
  have h2 := Int.mul_le_mul_of_nonneg_left a4 (show 0 ≤ l0.a by omega)
  have h3 := Int.mul_le_mul_of_nonneg_right a1 (show 0 ≤ l0.c by omega)
  exact ⟨by omega, by omega, by omega⟩
theorem least_is {l : Pt.Lat} (h : l.ok) {f : Int → Int → Int} (hper : ∀ x y, Pt.inL l x y → Pt.Per f x y) : ∃ l0, Pt.IsB (Pt.Per f) l0 := by
  obtain ⟨l0, h0, _⟩ := Pt.Cells.basis (Pt.per_grp f) (Pt.Cells.ofLat h hper)
  exact ⟨l0, h0⟩
/-- draw of the plane of a pattern. -/
theorem drawPlane_any (l l0 : Pt.Lat) (v : Value) (cs : List Int) (B : Nat) (w : World) (hp : PatIn w l v cs) (hm : l.a * l.c ≤ 144) (h0 : Pt.IsB (Pt.Per (Pt.col l (csF cs))) l0) (hB : PatAt w B l v) :
    Calls Tryz.prog 71 #[planeV cs.length l B] w fun e w' => ∃ u, e = .returned (.tuple #[patV l0 u, .int .i64 0]) ∧ OwnF w.heap.size w' u (l0.a * l0.c).toNat (Pt.cellF l0 (Pt.col l (csF cs))) ∧ Below w.heap.size w w' := by
  have hper : ∀ x y, Pt.inL l x y → Pt.Per (Pt.col l (csF cs)) x y := fun x y h => Pt.col_per hp.2.2.1.1 _ h
  obtain ⟨z1, z2, z3⟩ := least_size hp.2.2.1.1 hper h0
  have hlen := hp.2.1
  obtain ⟨a1, a2, a3, a4⟩ := hp.2.2.1.1
  have h2 := Int.mul_le_mul_of_nonneg_left a4 (show 0 ≤ l.a by omega)
  have h3 := Int.mul_le_mul_of_nonneg_right a1 (show 0 ≤ l.c by omega)
  have D := draw_plane l B cs.length l l0 (Pt.inL l) (hasB l) (Pt.col l (csF cs)) w (Pt.inL_grp l) (Pt.ofLat_isB hp.2.2.1.1) (fun x y => hasB_iff hp.2.2.1.1 x y) (by omega) (by omega) (by omega) (by omega) (by omega) hper
    (fun x y => hp.2.2.2 _) h0 (by omega) (by omega) (fun dx dy W e1 e2 e3 e4 hW => has_any l dx dy W hp.2.2.1 (by omega) (by omega) (by omega) (by omega))
    (fun x y W e1 e2 e3 e4 hW => planeOf1_any l v cs B x y W (hp.all hW) (hB.all hW) (by omega) (by omega) (by omega) (by omega))
  refine D.mono ?_
  rintro e w' ⟨hy, _, hb⟩
  obtain ⟨u, rfl, hown⟩ := hy (by omega)
  exact ⟨u, rfl, hown, hb⟩

set_option maxRecDepth 20000 in
set_option maxHeartbeats 1000000 in
theorem least_any (l l0 : Pt.Lat) (v : Value) (cs : List Int) (w : World) (hp : PatIn w l v cs) (hm : l.a * l.c ≤ 144) (h0 : Pt.IsB (Pt.Per (Pt.col l (csF cs))) l0) :
    Calls Tryz.prog 64 #[patV l v] w fun e w' => ∃ u, e = .returned (patV l0 u) ∧ OwnF w.heap.size w' u (l0.a * l0.c).toNat (Pt.cellF l0 (Pt.col l (csF cs))) ∧ Below w.heap.size w w' := by
  have hvp : ∃ a c, v = .slice a cs.length c := by
    obtain ⟨_, _, _, _, h, _⟩ := hp.at_ 0 0
    exact ⟨_, _, h⟩
  obtain ⟨va, vc, rfl⟩ := hvp
  have hlen : cs.length ≤ 1000000 := by have := hp.2.1; omega
  have PO := Lib.hid (fun W => planeOf_any l cs.length va vc W hlen)
  have DP := Lib.hid (fun B W hW (hB : PatAt W B l _) => drawPlane_any l l0 _ cs B W (hp.all hW) hm h0 hB)
  have hpos0 : 0 < (l0.a * l0.c).toNat := by
    have := Int.mul_le_mul_of_nonneg_left h0.ok.2.2.2 (show 0 ≤ l0.a by have := h0.ok.1; omega)
    have := h0.ok.1
    omega
  clear hp hm h0 hlen
  generalize hF : Pt.cellF l0 (Pt.col l (csF cs)) = F at *
  clear hF
  have b0 := (BlockAt.new w #[.int .i64 l.a, .int .i64 l.b, .int .i64 l.c, .slice va cs.length vc] 24).alloc (.cells #[.int .i64 0, .int .i64 0, .int .i64 0, .slice none 0 0] 24)
  have b1 := BlockAt.new (w.alloc (.cells #[.int .i64 l.a, .int .i64 l.b, .int .i64 l.c, .slice va cs.length vc] 24)) #[.int .i64 0, .int .i64 0, .int .i64 0, .slice none 0 0] 24
  simp only [World.size_alloc] at b1
  have hw := below_alloc (below_alloc (Below.refl w.heap.size w) (.cells #[.int .i64 l.a, .int .i64 l.b, .int .i64 l.c, .slice va cs.length vc] 24)) (.cells #[.int .i64 0, .int .i64 0, .int .i64 0, .slice none 0 0] 24)
  have HB := Lib.hid (And.intro b1 hw)
  clear b0 b1 hw
  go_enter Tryz.func64, Tryz.ntmps64
  go_wp2_with fail
  refine (PO.out _).mono ?_
  rintro e w1 ⟨rfl, hpa, _, hb1⟩
  have B1 := Lib.hid (HB.out.1.below hb1 HB.out.1.lt)
  have HW := Lib.hid (below_step HB.out.2 hb1)
  simp only [World.size_alloc] at hpa
  have D := Lib.hid (DP.out _ w1 HW.out hpa)
  clear HB hb1 hpa PO DP
  go_wp2_with fail
  refine D.out.mono ?_
  rintro e w2 ⟨u, rfl, hown, hb2⟩
  obtain ⟨g, cp, rfl, _, _⟩ := hown.form hpos0
  have B2 := Lib.hid (B1.out.below hb2 B1.out.lt)
  have HW2 := Lib.hid (below_step HW.out hb2)
  have hsz1 := B1.out.lt
  have HO := Lib.hid hown
  clear hown hb2 D B1 HW
  have c0 : World.cell? _ _ = some (.int .i64 0) := B2.out.cell 0
  have c1 : World.cell? _ _ = some (.int .i64 0) := B2.out.cell 1
  have c2 : World.cell? _ _ = some (.int .i64 0) := B2.out.cell 2
  have c3 : World.cell? _ _ = some (.slice none 0 0) := B2.out.cell 3
  have f0 := B2.out.frozen 0
  have f1 := B2.out.frozen 1
  have f2 := B2.out.frozen 2
  have f3 := B2.out.frozen 3
  have hlt := B2.out.lt
  go_wp2
  refine bodyPost_ret (v := .agg #[.int .i64 l0.a, .int .i64 l0.b, .int .i64 l0.c, .slice (some ⟨g, 0, none⟩) (l0.a * l0.c).toNat cp]) (by simp [results, Tryz.results64, go_sem, c0, c1, c2, c3, hlt]) rfl ⟨_, rfl, ?_, ?_⟩
  · exact OwnF.mono (World.ownsRow.alloc ((((HO.out.setOld (by simp; omega) _).setOld (by simp; omega) _).setOld (by simp; omega) _).setOld (by simp; omega) _) _) (by omega)
  · exact below_alloc ((((HW2.out.setCell (by simp) _).setCell (by simp) _).setCell (by simp) _).setCell (by simp) _) _
end Go.Proofs.YtigigmjdockdeaaGreatDoor
