/- Parse of the first example; known. -/
import Derived.Test.YtigigmjdockdeaaGreatDoorPat27
import Derived.Defers
import Derived.Recover
namespace Go.Proofs.YtigigmjdockdeaaGreatDoor
open Go.RowKit Go.Sort

/-- What a pattern or an error is told as. -/
def ansL (E : Int) (l : Pt.Lat) : Pt.Lat := if E = 0 then l else ⟨0, 0, 0⟩
def ansC (E : Int) (l : Pt.Lat) (f : Int → Int → Int) : List Int := if E = 0 then fnL (l.a * l.c).toNat (Pt.cellF l f) else []
def PatRes (E : Int) (l : Pt.Lat) (f : Int → Int → Int) (w : World) (e : Ending) (w' : World) : Prop :=
  ∃ u, e = .returned (.tuple #[patV (ansL E l) u, .int .i64 E]) ∧ OwnI w.heap.size w' u (ansC E l f) ∧ Below w.heap.size w w'
theorem OwnF.ownI {base : Nat} {w : World} {v : Value} {n : Nat} {f : Nat → Int} (h : OwnF base w v n f) : OwnI base w v (fnL n f) := by
  unfold OwnI; rw [fnL_len]; exact h
theorem patRes_of {E : Int} {l : Pt.Lat} {f : Int → Int → Int} {w w' : World} {e : Ending}
    (h0 : E = 0 → ∃ u, e = .returned (.tuple #[patV l u, .int .i64 0]) ∧ OwnF w.heap.size w' u (l.a * l.c).toNat (Pt.cellF l f)) (h1 : E ≠ 0 → e = .returned (.tuple #[patV ⟨0, 0, 0⟩ (.slice none 0 0), .int .i64 E])) (hb : Below w.heap.size w w') : PatRes E l f w e w' := by
  unfold PatRes ansL ansC
  by_cases hE : E = 0
  · obtain ⟨u, h2, h3⟩ := h0 hE
    subst hE
    exact ⟨u, by rw [if_pos rfl]; exact h2, by rw [if_pos rfl]; exact h3.ownI, hb⟩
  · exact ⟨_, by rw [if_neg hE]; exact h1 hE, by rw [if_neg hE]; exact OwnI.nil _ _, hb⟩
theorem LeastSays.res {A B C : Int} {cs : List Int} {l0 : Pt.Lat} {w w' : World} {e : Ending} (h : LeastSays A B C cs l0 w e w') : PatRes (validE A B C cs) l0 (Pt.col ⟨A, B, C⟩ (csF cs)) w e w' := patRes_of h.1 h.2.1 h.2.2

set_option maxRecDepth 20000 in
set_option maxHeartbeats 2000000 in
theorem bricksPat_ok (A B C : Int) (v : Value) (cs : List Int) (l0 : Pt.Lat) (w : World) (hv : Ints w v cs) (hkl : cs.length ≤ 1000000000) (hA1 : -9223372036854775808 ≤ A) (hA2 : A ≤ 9223372036854775807)
    (h0 : validE A B C cs = 0 → Pt.IsB (Pt.Per (Pt.col ⟨A, B, C⟩ (csF cs))) l0) :
    Calls Tryz.prog 100 #[exprV ⟨bricksW.toArray⟩ ⟨A, B, C⟩ v (.slice none 0 0) (.slice none 0 0)] w (PatRes (validE A B C cs) l0 (Pt.col ⟨A, B, C⟩ (csF cs)) w) := by
  have LE := Lib.hid (fun W (hW : Below w.heap.size w W) => (Least_any A B C v cs l0 W (hv.all hW) hkl hA1 hA2 h0).mono fun e w' h => h.res)
  obtain ⟨va, vc, rfl, _⟩ := hv.look'
  have b0 := (BlockAt.new w #[.string ⟨bricksW.toArray⟩, .int .i64 A, .int .i64 B, .int .i64 C, .slice va cs.length vc, .slice none 0 0, .slice none 0 0] 93).alloc (.cells #[.int .i64 0, .int .i64 0, .int .i64 0, .slice none 0 0] 24)
  have b1 := BlockAt.new (w.alloc (.cells #[.string ⟨bricksW.toArray⟩, .int .i64 A, .int .i64 B, .int .i64 C, .slice va cs.length vc, .slice none 0 0, .slice none 0 0] 93)) #[.int .i64 0, .int .i64 0, .int .i64 0, .slice none 0 0] 24
  simp only [World.size_alloc] at b1
  have hw := below_alloc (below_alloc (Below.refl w.heap.size w) (.cells #[.string ⟨bricksW.toArray⟩, .int .i64 A, .int .i64 B, .int .i64 C, .slice va cs.length vc, .slice none 0 0, .slice none 0 0] 93)) (.cells #[.int .i64 0, .int .i64 0, .int .i64 0, .slice none 0 0] 24)
  have HB := Lib.hid (And.intro b0 (And.intro b1 hw))
  clear b0 b1 hw hv h0
  generalize validE A B C cs = E at *
  generalize Pt.col ⟨A, B, C⟩ (csF cs) = F at *
  unfold PatRes at LE ⊢
  generalize ansL E l0 = L at *
  generalize ansC E l0 F = K at *
  go_enter Tryz.func100, Tryz.ntmps100
  go_wp2
  go_loopw [4, 12] (fun s t wr => s = .slice none 0 0 ∧ t = .int .i64 0 ∧ Hid (BlockAt wr w.heap.size #[.string ⟨bricksW.toArray⟩, .int .i64 A, .int .i64 B, .int .i64 C, .slice va cs.length vc, .slice none 0 0, .slice none 0 0] 93 ∧ BlockAt wr (w.heap.size + 1) #[.int .i64 0, .int .i64 0, .int .i64 0, .slice none 0 0] 24 ∧ Below w.heap.size w wr)) (fun _ _ _ => 0)
  case atStart => exact ⟨rfl, rfl, HB⟩
  case round =>
    obtain ⟨rfl, rfl, hg⟩ := hrel
    have c0 : World.cell? _ _ = some (.string ⟨bricksW.toArray⟩) := hg.out.1.cell 0
    have c1 : World.cell? _ _ = some (.int .i64 A) := hg.out.1.cell 1
    have c2 : World.cell? _ _ = some (.int .i64 B) := hg.out.1.cell 2
    have c3 : World.cell? _ _ = some (.int .i64 C) := hg.out.1.cell 3
    have c4 : World.cell? _ _ = some (.slice va cs.length vc) := hg.out.1.cell 4
    go_wp2_with fail
    refine (LE.out _ hg.out.2.2).mono ?_
    rintro e w1 ⟨u, rfl, hown, hb1⟩
    obtain ⟨ua, uc, rfl⟩ := hown.form
    have hB := hg.out.2.1.below hb1 hg.out.2.1.lt
    have d0 : World.cell? _ _ = some (.int .i64 0) := hB.cell 0
    have d1 : World.cell? _ _ = some (.int .i64 0) := hB.cell 1
    have d2 : World.cell? _ _ = some (.int .i64 0) := hB.cell 2
    have d3 : World.cell? _ _ = some (.slice none 0 0) := hB.cell 3
    have r0 := hB.frozen 0
    have r1 := hB.frozen 1
    have r2 := hB.frozen 2
    have r3 := hB.frozen 3
    have hlt := hB.lt
    have hlt2 := hg.out.2.1.lt
    have HZ := Lib.hid (And.intro hown (below_step hg.out.2.2 hb1))
    clear hown hb1 hB hg c0 c1 c2 c3 c4 LE HB
    go_wp2
    refine bodyPost_ret (v := .tuple #[patV L (.slice ua K.length uc), .int .i64 E]) (by simp [results, Tryz.results100, go_sem, d0, d1, d2, d3, hlt]) rfl ⟨_, rfl, ?_, ?_⟩
    · refine OwnI.mono (base := wr.heap.size) ?_ (by omega)
      repeat (refine OwnI.setOld ?_ (by dsimp only; omega) _)
      exact HZ.out.1
    · repeat (refine Below.setCell ?_ (by dsimp only; omega) _)
      exact HZ.out.2
end Go.Proofs.YtigigmjdockdeaaGreatDoor
