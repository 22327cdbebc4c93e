/- PatternGroup returns true, whatever the pattern. -/
import Derived.Test.YtigigmjdockdeaaGreatDoorPatJ
import Derived.Test.YtigigmjdockdeaaGreatDoorPatI
namespace Go.Proofs.YtigigmjdockdeaaGreatDoor
open Go.RowKit Go.Sort

/-- A pattern that is not long and wrong, or long: what a law does then. -/
theorem MakesF.unf {f : Int → Int → Int} {L : Pt.Lat} {K : List Int} (hL : latF f = L) (hK : cellsF f = K) {w w' : World} {e : Ending} (h : MakesF f w e w') : ∃ u, e = .returned (.tuple #[patV L u, .int .i64 0]) ∧ OwnI w.heap.size w' u K ∧ Below w.heap.size w w' := by
  subst hL; subst hK; exact h

set_option maxRecDepth 20000 in
set_option maxHeartbeats 8000000 in
theorem group_walk (A B C : Int) (v : Value) (cs : List Int) (w : World) (hE : Env w) (hv : Ints w v cs) (hA1 : -9223372036854775808 ≤ A) (hA2 : A ≤ 9223372036854775807) :
    Calls Tryz.prog 9 #[.agg #[.int .i64 A, .int .i64 B, .int .i64 C, v]] w fun e w' => e = .returned (.bool true) ∧ Below w.heap.size w w' := by
  have LO := Lib.hid (fun W (hW : Below w.heap.size w W) => long_any A B C v cs W (hv.all hW))
  have KN := Lib.hid (fun W (hW : Below w.heap.size w W) => known_any W (hE.all hW))
  have hvi := hv
  obtain ⟨va, vc, rfl, _⟩ := hv.look'
  have b0 := BlockAt.new w #[.int .i64 A, .int .i64 B, .int .i64 C, .slice va cs.length vc] 24
  have hw := (Below.refl w.heap.size w).alloc (Nat.le_refl _) (.cells #[.int .i64 A, .int .i64 B, .int .i64 C, .slice va cs.length vc] 24)
  have HB := Lib.hid (And.intro b0 (And.intro (hv.all ((Below.refl _ _).alloc (Nat.le_refl _) (.cells #[.int .i64 A, .int .i64 B, .int .i64 C, .slice va cs.length vc] 24))) hw))
  clear b0 hw
  by_cases hL : 400 < cs.length
  · have h1 : decide (400 < cs.length) = true := decide_eq_true hL
    rw [h1] at LO
    clear hv hvi hE hL h1
    go_enter Tryz.func9, Tryz.ntmps9
    go_wp2_with fail
    refine (LO.out _ HB.out.2.2).mono ?_
    rintro e w1 ⟨rfl, hb1⟩
    have HW := Lib.hid (below_step HB.out.2.2 hb1)
    clear hb1 HB LO
    go_wp2_with fail
    refine (KN.out _ HW.out).mono ?_
    rintro e w2 ⟨rfl, hb2⟩
    have HW2 := Lib.hid (below_step HW.out hb2)
    clear hb2 HW KN
    go_wp2
    go_ret
    exact ⟨rfl, HW2.out⟩
  have h1 : decide (400 < cs.length) = false := decide_eq_false hL
  rw [h1] at LO
  have hkl : cs.length ≤ 1000000000 := by omega
  by_cases hz : validE A B C cs = 0
  case neg =>
    have LE := Lib.hid (fun W (hW : Below w.heap.size w W) => (Least_any A B C _ cs (lat A B C cs) W (hv.all hW) hkl hA1 hA2 lat_is).mono fun e w' h => h.2.1 hz)
    have LB := Lib.hid (fun W (hW : Below w.heap.size w W) => (Least_any A B C _ cs (lat A B C cs) W (hv.all hW) hkl hA1 hA2 lat_is).mono fun e w' h => And.intro (h.2.1 hz) h.2.2)
    generalize validE A B C cs = q at *
    have hd : (q == 0) = false := beq_eq_false_iff_ne.2 hz
    have hd2 : (q != 0) = true := by rw [bne, hd]; rfl
    clear hv hvi hE hL h1 hz LE
    go_enter Tryz.func9, Tryz.ntmps9
    go_wp2_with fail
    refine (LO.out _ HB.out.2.2).mono ?_
    rintro e w1 ⟨rfl, hb1⟩
    have HN := Lib.hid (And.intro (HB.out.1.below hb1 HB.out.1.lt) (below_step HB.out.2.2 hb1))
    clear hb1 HB LO
    have c0 : World.cell? _ _ = some (.int .i64 A) := HN.out.1.cell 0
    have c1 : World.cell? _ _ = some (.int .i64 B) := HN.out.1.cell 1
    have c2 : World.cell? _ _ = some (.int .i64 C) := HN.out.1.cell 2
    have c3 : World.cell? _ _ = some (.slice va cs.length vc) := HN.out.1.cell 3
    go_wp2_with fail
    refine (LB.out _ HN.out.2).mono ?_
    rintro e w2 ⟨rfl, hb1⟩
    have HW := Lib.hid (below_alloc (below_step HN.out.2 hb1) (.cells #[.int .i64 0, .int .i64 0, .int .i64 0, .slice none 0 0] 24))
    clear hb1 HN LB c0 c1 c2 c3
    go_wp2_with fail
    refine (KN.out _ HW.out).mono ?_
    rintro e w3 ⟨rfl, hb2⟩
    have HW2 := Lib.hid (below_step HW.out hb2)
    clear hb2 HW KN
    go_wp2
    go_ret
    exact ⟨rfl, HW2.out⟩
  have p0 := pl_of hz
  have e0 : Pt.col ⟨A, B, C⟩ (csF cs) = Pt.col ⟨A, B, C⟩ (csF cs) := rfl
  generalize hF : Pt.col ⟨A, B, C⟩ (csF cs) = F at p0 e0
  have p1 := p0.rot
  have p2 := p1.rot
  have p3 := p2.rot
  have pm := p0.mir
  have pa := p1.mir
  have pb := p3.mir
  have LE := Lib.hid (fun (u : Value) W (hu : Ints W u cs) => (Least_any A B C u cs (lat A B C cs) W hu hkl hA1 hA2 lat_is).mono fun e w' h => by
    have h2 := h.res
    have el : lat A B C cs = latF F := by unfold lat latF; rw [hF]
    rw [hz, hF, el] at h2
    exact MakesF.unf rfl rfl (PatRes.makes h2))
  have T1 := Lib.hid (fun (u : Value) W (hu : Ints W u cs) => (turn_any A B C u cs W hu hkl hA1 hA2).mono fun e w' h => by
    rw [hz, hF] at h
    exact MakesF.unf (f := Pt.rotF F) rfl rfl (PatRes.makes h))
  have M1 := Lib.hid (fun (u : Value) W (hu : Ints W u cs) => (mirror_any A B C u cs W hu hkl hA1 hA2).mono fun e w' h => by
    rw [hz, hF] at h
    exact MakesF.unf (f := Pt.mirF F) rfl rfl (PatRes.makes h))
  have T2 := Lib.hid (fun (u : Value) W hu => (turn_pl p1 u W hu).mono fun e w' h => MakesF.unf rfl rfl h)
  have T3 := Lib.hid (fun (u : Value) W hu => (turn_pl p2 u W hu).mono fun e w' h => MakesF.unf rfl rfl h)
  have T4 := Lib.hid (fun (u : Value) W hu => (turn_pl p3 u W hu).mono fun e w' h => MakesF.unf (L := latF F) (K := cellsF F) (by rw [rot4]) (by rw [rot4]) h)
  have M2 := Lib.hid (fun (u : Value) W hu => (mirror_pl pm u W hu).mono fun e w' h => MakesF.unf (L := latF F) (K := cellsF F) (by rw [mir2]) (by rw [mir2]) h)
  have M3 := Lib.hid (fun (u : Value) W hu => (mirror_pl p1 u W hu).mono fun e w' h => MakesF.unf rfl rfl h)
  have M4 := Lib.hid (fun (u : Value) W hu => (mirror_pl p3 u W hu).mono fun e w' h => MakesF.unf rfl rfl h)
  have T5 := Lib.hid (fun (u : Value) W hu => (turn_pl pm u W hu).mono fun e w' h => MakesF.unf (L := latF (Pt.mirF (Pt.rotF (Pt.rotF (Pt.rotF F))))) (K := cellsF (Pt.mirF (Pt.rotF (Pt.rotF (Pt.rotF F))))) (by rw [rot_mir]) (by rw [rot_mir]) h)
  have HEQ : Hid (latF (Pt.rotF F) = latF F → cellsF (Pt.rotF F) = cellsF F → latF (Pt.mirF (Pt.rotF F)) = latF (Pt.mirF F) ∧ cellsF (Pt.mirF (Pt.rotF F)) = cellsF (Pt.mirF F)) := Lib.hid fun h1 h2 => by
    have := p1.inj p0 h1 h2
    rw [this]
    exact ⟨rfl, rfl⟩
  have n0 := p0.len.2
  have n1 := p1.len.2
  have na := pa.len.2
  have nm := pm.len.2
  have nb := pb.len.2
  clear hv hvi hE h1 hL p0 p1 p2 p3 pm pa pb e0 hF hz
  generalize latF (Pt.mirF (Pt.rotF (Pt.rotF (Pt.rotF F)))) = Lb at *
  generalize cellsF (Pt.mirF (Pt.rotF (Pt.rotF (Pt.rotF F)))) = Kb' at *
  generalize latF (Pt.rotF (Pt.rotF (Pt.rotF F))) = L3 at *
  generalize cellsF (Pt.rotF (Pt.rotF (Pt.rotF F))) = K3 at *
  generalize latF (Pt.rotF (Pt.rotF F)) = L2 at *
  generalize cellsF (Pt.rotF (Pt.rotF F)) = K2 at *
  generalize latF (Pt.mirF (Pt.rotF F)) = La at *
  generalize cellsF (Pt.mirF (Pt.rotF F)) = Ka at *
  generalize latF (Pt.rotF F) = L1 at *
  generalize cellsF (Pt.rotF F) = K1 at *
  generalize latF (Pt.mirF F) = Lm at *
  generalize cellsF (Pt.mirF F) = Km at *
  generalize latF F = L0 at *
  generalize cellsF F = K0 at *
  have EQ0 := Lib.hid (fun (u u' : Value) W hu hu' => refEqual_any L0.a L0.b L0.c L0.a L0.b L0.c u u' K0 K0 W hu hu' (by omega) (by omega))
  have EQb := Lib.hid (fun (u u' : Value) W hu hu' => refEqual_any Lb.a Lb.b Lb.c Lb.a Lb.b Lb.c u u' Kb' Kb' W hu hu' (by omega) (by omega))
  have EQ1 := Lib.hid (fun (u u' : Value) W hu hu' => refEqual_any L1.a L1.b L1.c L0.a L0.b L0.c u u' K1 K0 W hu hu' (by omega) (by omega))
  have EQa := Lib.hid (fun (u u' : Value) W hu hu' => refEqual_any La.a La.b La.c Lm.a Lm.b Lm.c u u' Ka Km W hu hu' (by omega) (by omega))
  rw [eqP_same] at EQ0 EQb
  have HX : Hid (eqP L1.a L1.b L1.c K1 L0.a L0.b L0.c K0 = true → eqP La.a La.b La.c Ka Lm.a Lm.b Lm.c Km = true) := Lib.hid fun h => by
    obtain ⟨g1, g2, g3, g4⟩ := of_decide_eq_true h
    obtain ⟨rfl, rfl⟩ := HEQ.out (by cases L1; cases L0; simp only at g1 g2 g3; rw [g1, g2, g3]) g4
    exact eqP_same _ _ _ _
  clear HEQ n0 n1 na nm nb
  generalize eqP L1.a L1.b L1.c K1 L0.a L0.b L0.c K0 = r1 at *
  generalize eqP La.a La.b La.c Ka Lm.a Lm.b Lm.c Km = r2 at *
  cases r1
  · clear HX EQa
    go_enter Tryz.func9, Tryz.ntmps9
    go_wp2_with fail
    refine (LO.out _ HB.out.2.2).mono ?_
    rintro e X1 ⟨rfl, hb1⟩
    have HN1 : Hid (BlockAt X1 w.heap.size #[.int .i64 A, .int .i64 B, .int .i64 C, .slice va cs.length vc] 24 ∧ Ints X1 (.slice va cs.length vc) cs ∧ Below w.heap.size w X1) := Lib.hid ⟨HB.out.1.below hb1 HB.out.1.lt, Ints.all HB.out.2.1 hb1, later HB.out.2.2 HB.out.2.2.size hb1⟩
    clear hb1  HB
    have c0 : World.cell? _ _ = some (.int .i64 A) := HN1.out.1.cell 0
    have c1 : World.cell? _ _ = some (.int .i64 B) := HN1.out.1.cell 1
    have c2 : World.cell? _ _ = some (.int .i64 C) := HN1.out.1.cell 2
    have c3 : World.cell? _ _ = some (.slice va cs.length vc) := HN1.out.1.cell 3
    go_wp2_with fail
    refine (LE.out _ _ HN1.out.2.1).mono ?_
    rintro e q2 ⟨u2, rfl, hown, hb1⟩
    obtain ⟨s2, t2, rfl⟩ := hown.form
    obtain ⟨X2, hX2⟩ : ∃ X, q2.alloc (.cells #[.int .i64 L0.a, .int .i64 L0.b, .int .i64 L0.c, .slice s2 K0.length t2] 24) = X := ⟨_, rfl⟩
    have hbX : Below X1.heap.size X1 X2 := by rw [← hX2]; exact hb1.alloc hb1.size _
    have HN2 : Hid (BlockAt X2 w.heap.size #[.int .i64 A, .int .i64 B, .int .i64 C, .slice va cs.length vc] 24 ∧ Ints X2 (.slice va cs.length vc) cs ∧ BlockAt X2 q2.heap.size #[.int .i64 L0.a, .int .i64 L0.b, .int .i64 L0.c, .slice s2 K0.length t2] 24 ∧ Ints X2 (.slice s2 K0.length t2) K0 ∧ Below w.heap.size w X2) := Lib.hid ⟨HN1.out.1.below hbX HN1.out.1.lt, Ints.all HN1.out.2.1 hbX, (by rw [← hX2]; exact BlockAt.new _ _ _), (by rw [← hX2]; exact (OwnI.alloc hown _).ints), later HN1.out.2.2 HN1.out.2.2.size hbX⟩
    clear hown hb1 hbX c0 c1 c2 c3 HN1
    have c0 : World.cell? _ _ = some (.int .i64 A) := HN2.out.1.cell 0
    have c1 : World.cell? _ _ = some (.int .i64 B) := HN2.out.1.cell 1
    have c2 : World.cell? _ _ = some (.int .i64 C) := HN2.out.1.cell 2
    have c3 : World.cell? _ _ = some (.slice va cs.length vc) := HN2.out.1.cell 3
    go_wp2_with (rw [hX2])
    go_wp2_with fail
    refine (T1.out _ _ HN2.out.2.1).mono ?_
    rintro e q3 ⟨u3, rfl, hown, hb1⟩
    obtain ⟨s3, t3, rfl⟩ := hown.form
    obtain ⟨X3, hX3⟩ : ∃ X, q3.alloc (.cells #[.int .i64 L1.a, .int .i64 L1.b, .int .i64 L1.c, .slice s3 K1.length t3] 24) = X := ⟨_, rfl⟩
    have hbX : Below X2.heap.size X2 X3 := by rw [← hX3]; exact hb1.alloc hb1.size _
    have HN3 : Hid (BlockAt X3 w.heap.size #[.int .i64 A, .int .i64 B, .int .i64 C, .slice va cs.length vc] 24 ∧ Ints X3 (.slice va cs.length vc) cs ∧ BlockAt X3 q2.heap.size #[.int .i64 L0.a, .int .i64 L0.b, .int .i64 L0.c, .slice s2 K0.length t2] 24 ∧ Ints X3 (.slice s2 K0.length t2) K0 ∧ BlockAt X3 q3.heap.size #[.int .i64 L1.a, .int .i64 L1.b, .int .i64 L1.c, .slice s3 K1.length t3] 24 ∧ Ints X3 (.slice s3 K1.length t3) K1 ∧ Below w.heap.size w X3) := Lib.hid ⟨HN2.out.1.below hbX HN2.out.1.lt, Ints.all HN2.out.2.1 hbX, HN2.out.2.2.1.below hbX HN2.out.2.2.1.lt, Ints.all HN2.out.2.2.2.1 hbX, (by rw [← hX3]; exact BlockAt.new _ _ _), (by rw [← hX3]; exact (OwnI.alloc hown _).ints), later HN2.out.2.2.2.2 HN2.out.2.2.2.2.size hbX⟩
    clear hown hb1 hbX c0 c1 c2 c3 hX2 HN2
    have c0 : World.cell? _ _ = some (.int .i64 L1.a) := HN3.out.2.2.2.2.1.cell 0
    have c1 : World.cell? _ _ = some (.int .i64 L1.b) := HN3.out.2.2.2.2.1.cell 1
    have c2 : World.cell? _ _ = some (.int .i64 L1.c) := HN3.out.2.2.2.2.1.cell 2
    have c3 : World.cell? _ _ = some (.slice s3 K1.length t3) := HN3.out.2.2.2.2.1.cell 3
    go_wp2_with (rw [hX3])
    go_wp2_with fail
    refine (T2.out _ _ HN3.out.2.2.2.2.2.1).mono ?_
    rintro e q4 ⟨u4, rfl, hown, hb1⟩
    obtain ⟨s4, t4, rfl⟩ := hown.form
    obtain ⟨X4, hX4⟩ : ∃ X, q4.alloc (.cells #[.int .i64 L2.a, .int .i64 L2.b, .int .i64 L2.c, .slice s4 K2.length t4] 24) = X := ⟨_, rfl⟩
    have hbX : Below X3.heap.size X3 X4 := by rw [← hX4]; exact hb1.alloc hb1.size _
    have HN4 : Hid (BlockAt X4 w.heap.size #[.int .i64 A, .int .i64 B, .int .i64 C, .slice va cs.length vc] 24 ∧ Ints X4 (.slice va cs.length vc) cs ∧ BlockAt X4 q2.heap.size #[.int .i64 L0.a, .int .i64 L0.b, .int .i64 L0.c, .slice s2 K0.length t2] 24 ∧ Ints X4 (.slice s2 K0.length t2) K0 ∧ BlockAt X4 q3.heap.size #[.int .i64 L1.a, .int .i64 L1.b, .int .i64 L1.c, .slice s3 K1.length t3] 24 ∧ Ints X4 (.slice s3 K1.length t3) K1 ∧ BlockAt X4 q4.heap.size #[.int .i64 L2.a, .int .i64 L2.b, .int .i64 L2.c, .slice s4 K2.length t4] 24 ∧ Ints X4 (.slice s4 K2.length t4) K2 ∧ Below w.heap.size w X4) := Lib.hid ⟨HN3.out.1.below hbX HN3.out.1.lt, Ints.all HN3.out.2.1 hbX, HN3.out.2.2.1.below hbX HN3.out.2.2.1.lt, Ints.all HN3.out.2.2.2.1 hbX, HN3.out.2.2.2.2.1.below hbX HN3.out.2.2.2.2.1.lt, Ints.all HN3.out.2.2.2.2.2.1 hbX, (by rw [← hX4]; exact BlockAt.new _ _ _), (by rw [← hX4]; exact (OwnI.alloc hown _).ints), later HN3.out.2.2.2.2.2.2 HN3.out.2.2.2.2.2.2.size hbX⟩
    clear hown hb1 hbX c0 c1 c2 c3 hX3 HN3
    have c0 : World.cell? _ _ = some (.int .i64 L2.a) := HN4.out.2.2.2.2.2.2.1.cell 0
    have c1 : World.cell? _ _ = some (.int .i64 L2.b) := HN4.out.2.2.2.2.2.2.1.cell 1
    have c2 : World.cell? _ _ = some (.int .i64 L2.c) := HN4.out.2.2.2.2.2.2.1.cell 2
    have c3 : World.cell? _ _ = some (.slice s4 K2.length t4) := HN4.out.2.2.2.2.2.2.1.cell 3
    go_wp2_with (rw [hX4])
    go_wp2_with fail
    refine (T3.out _ _ HN4.out.2.2.2.2.2.2.2.1).mono ?_
    rintro e q5 ⟨u5, rfl, hown, hb1⟩
    obtain ⟨s5, t5, rfl⟩ := hown.form
    obtain ⟨X5, hX5⟩ : ∃ X, q5.alloc (.cells #[.int .i64 L3.a, .int .i64 L3.b, .int .i64 L3.c, .slice s5 K3.length t5] 24) = X := ⟨_, rfl⟩
    have hbX : Below X4.heap.size X4 X5 := by rw [← hX5]; exact hb1.alloc hb1.size _
    have HN5 : Hid (BlockAt X5 w.heap.size #[.int .i64 A, .int .i64 B, .int .i64 C, .slice va cs.length vc] 24 ∧ Ints X5 (.slice va cs.length vc) cs ∧ BlockAt X5 q2.heap.size #[.int .i64 L0.a, .int .i64 L0.b, .int .i64 L0.c, .slice s2 K0.length t2] 24 ∧ Ints X5 (.slice s2 K0.length t2) K0 ∧ BlockAt X5 q3.heap.size #[.int .i64 L1.a, .int .i64 L1.b, .int .i64 L1.c, .slice s3 K1.length t3] 24 ∧ Ints X5 (.slice s3 K1.length t3) K1 ∧ BlockAt X5 q4.heap.size #[.int .i64 L2.a, .int .i64 L2.b, .int .i64 L2.c, .slice s4 K2.length t4] 24 ∧ Ints X5 (.slice s4 K2.length t4) K2 ∧ BlockAt X5 q5.heap.size #[.int .i64 L3.a, .int .i64 L3.b, .int .i64 L3.c, .slice s5 K3.length t5] 24 ∧ Ints X5 (.slice s5 K3.length t5) K3 ∧ Below w.heap.size w X5) := Lib.hid ⟨HN4.out.1.below hbX HN4.out.1.lt, Ints.all HN4.out.2.1 hbX, HN4.out.2.2.1.below hbX HN4.out.2.2.1.lt, Ints.all HN4.out.2.2.2.1 hbX, HN4.out.2.2.2.2.1.below hbX HN4.out.2.2.2.2.1.lt, Ints.all HN4.out.2.2.2.2.2.1 hbX, HN4.out.2.2.2.2.2.2.1.below hbX HN4.out.2.2.2.2.2.2.1.lt, Ints.all HN4.out.2.2.2.2.2.2.2.1 hbX, (by rw [← hX5]; exact BlockAt.new _ _ _), (by rw [← hX5]; exact (OwnI.alloc hown _).ints), later HN4.out.2.2.2.2.2.2.2.2 HN4.out.2.2.2.2.2.2.2.2.size hbX⟩
    clear hown hb1 hbX c0 c1 c2 c3 hX4 HN4
    have c0 : World.cell? _ _ = some (.int .i64 L3.a) := HN5.out.2.2.2.2.2.2.2.2.1.cell 0
    have c1 : World.cell? _ _ = some (.int .i64 L3.b) := HN5.out.2.2.2.2.2.2.2.2.1.cell 1
    have c2 : World.cell? _ _ = some (.int .i64 L3.c) := HN5.out.2.2.2.2.2.2.2.2.1.cell 2
    have c3 : World.cell? _ _ = some (.slice s5 K3.length t5) := HN5.out.2.2.2.2.2.2.2.2.1.cell 3
    go_wp2_with (rw [hX5])
    go_wp2_with fail
    refine (T4.out _ _ HN5.out.2.2.2.2.2.2.2.2.2.1).mono ?_
    rintro e q6 ⟨u6, rfl, hown, hb1⟩
    obtain ⟨s6, t6, rfl⟩ := hown.form
    obtain ⟨X6, hX6⟩ : ∃ X, q6.alloc (.cells #[.int .i64 L0.a, .int .i64 L0.b, .int .i64 L0.c, .slice s6 K0.length t6] 24) = X := ⟨_, rfl⟩
    have hbX : Below X5.heap.size X5 X6 := by rw [← hX6]; exact hb1.alloc hb1.size _
    have HN6 : Hid (BlockAt X6 w.heap.size #[.int .i64 A, .int .i64 B, .int .i64 C, .slice va cs.length vc] 24 ∧ Ints X6 (.slice va cs.length vc) cs ∧ BlockAt X6 q2.heap.size #[.int .i64 L0.a, .int .i64 L0.b, .int .i64 L0.c, .slice s2 K0.length t2] 24 ∧ Ints X6 (.slice s2 K0.length t2) K0 ∧ BlockAt X6 q3.heap.size #[.int .i64 L1.a, .int .i64 L1.b, .int .i64 L1.c, .slice s3 K1.length t3] 24 ∧ Ints X6 (.slice s3 K1.length t3) K1 ∧ BlockAt X6 q4.heap.size #[.int .i64 L2.a, .int .i64 L2.b, .int .i64 L2.c, .slice s4 K2.length t4] 24 ∧ Ints X6 (.slice s4 K2.length t4) K2 ∧ BlockAt X6 q5.heap.size #[.int .i64 L3.a, .int .i64 L3.b, .int .i64 L3.c, .slice s5 K3.length t5] 24 ∧ Ints X6 (.slice s5 K3.length t5) K3 ∧ BlockAt X6 q6.heap.size #[.int .i64 L0.a, .int .i64 L0.b, .int .i64 L0.c, .slice s6 K0.length t6] 24 ∧ Ints X6 (.slice s6 K0.length t6) K0 ∧ Below w.heap.size w X6) := Lib.hid ⟨HN5.out.1.below hbX HN5.out.1.lt, Ints.all HN5.out.2.1 hbX, HN5.out.2.2.1.below hbX HN5.out.2.2.1.lt, Ints.all HN5.out.2.2.2.1 hbX, HN5.out.2.2.2.2.1.below hbX HN5.out.2.2.2.2.1.lt, Ints.all HN5.out.2.2.2.2.2.1 hbX, HN5.out.2.2.2.2.2.2.1.below hbX HN5.out.2.2.2.2.2.2.1.lt, Ints.all HN5.out.2.2.2.2.2.2.2.1 hbX, HN5.out.2.2.2.2.2.2.2.2.1.below hbX HN5.out.2.2.2.2.2.2.2.2.1.lt, Ints.all HN5.out.2.2.2.2.2.2.2.2.2.1 hbX, (by rw [← hX6]; exact BlockAt.new _ _ _), (by rw [← hX6]; exact (OwnI.alloc hown _).ints), later HN5.out.2.2.2.2.2.2.2.2.2.2 HN5.out.2.2.2.2.2.2.2.2.2.2.size hbX⟩
    clear hown hb1 hbX c0 c1 c2 c3 hX5 HN5
    have c0 : World.cell? _ _ = some (.int .i64 A) := HN6.out.1.cell 0
    have c1 : World.cell? _ _ = some (.int .i64 B) := HN6.out.1.cell 1
    have c2 : World.cell? _ _ = some (.int .i64 C) := HN6.out.1.cell 2
    have c3 : World.cell? _ _ = some (.slice va cs.length vc) := HN6.out.1.cell 3
    go_wp2_with (rw [hX6])
    go_wp2_with fail
    refine (M1.out _ _ HN6.out.2.1).mono ?_
    rintro e q7 ⟨u7, rfl, hown, hb1⟩
    obtain ⟨s7, t7, rfl⟩ := hown.form
    obtain ⟨X7, hX7⟩ : ∃ X, q7.alloc (.cells #[.int .i64 Lm.a, .int .i64 Lm.b, .int .i64 Lm.c, .slice s7 Km.length t7] 24) = X := ⟨_, rfl⟩
    have hbX : Below X6.heap.size X6 X7 := by rw [← hX7]; exact hb1.alloc hb1.size _
    have HN7 : Hid (BlockAt X7 w.heap.size #[.int .i64 A, .int .i64 B, .int .i64 C, .slice va cs.length vc] 24 ∧ Ints X7 (.slice va cs.length vc) cs ∧ BlockAt X7 q2.heap.size #[.int .i64 L0.a, .int .i64 L0.b, .int .i64 L0.c, .slice s2 K0.length t2] 24 ∧ Ints X7 (.slice s2 K0.length t2) K0 ∧ BlockAt X7 q3.heap.size #[.int .i64 L1.a, .int .i64 L1.b, .int .i64 L1.c, .slice s3 K1.length t3] 24 ∧ Ints X7 (.slice s3 K1.length t3) K1 ∧ BlockAt X7 q4.heap.size #[.int .i64 L2.a, .int .i64 L2.b, .int .i64 L2.c, .slice s4 K2.length t4] 24 ∧ Ints X7 (.slice s4 K2.length t4) K2 ∧ BlockAt X7 q5.heap.size #[.int .i64 L3.a, .int .i64 L3.b, .int .i64 L3.c, .slice s5 K3.length t5] 24 ∧ Ints X7 (.slice s5 K3.length t5) K3 ∧ BlockAt X7 q6.heap.size #[.int .i64 L0.a, .int .i64 L0.b, .int .i64 L0.c, .slice s6 K0.length t6] 24 ∧ Ints X7 (.slice s6 K0.length t6) K0 ∧ BlockAt X7 q7.heap.size #[.int .i64 Lm.a, .int .i64 Lm.b, .int .i64 Lm.c, .slice s7 Km.length t7] 24 ∧ Ints X7 (.slice s7 Km.length t7) Km ∧ Below w.heap.size w X7) := Lib.hid ⟨HN6.out.1.below hbX HN6.out.1.lt, Ints.all HN6.out.2.1 hbX, HN6.out.2.2.1.below hbX HN6.out.2.2.1.lt, Ints.all HN6.out.2.2.2.1 hbX, HN6.out.2.2.2.2.1.below hbX HN6.out.2.2.2.2.1.lt, Ints.all HN6.out.2.2.2.2.2.1 hbX, HN6.out.2.2.2.2.2.2.1.below hbX HN6.out.2.2.2.2.2.2.1.lt, Ints.all HN6.out.2.2.2.2.2.2.2.1 hbX, HN6.out.2.2.2.2.2.2.2.2.1.below hbX HN6.out.2.2.2.2.2.2.2.2.1.lt, Ints.all HN6.out.2.2.2.2.2.2.2.2.2.1 hbX, HN6.out.2.2.2.2.2.2.2.2.2.2.1.below hbX HN6.out.2.2.2.2.2.2.2.2.2.2.1.lt, Ints.all HN6.out.2.2.2.2.2.2.2.2.2.2.2.1 hbX, (by rw [← hX7]; exact BlockAt.new _ _ _), (by rw [← hX7]; exact (OwnI.alloc hown _).ints), later HN6.out.2.2.2.2.2.2.2.2.2.2.2.2 HN6.out.2.2.2.2.2.2.2.2.2.2.2.2.size hbX⟩
    clear hown hb1 hbX c0 c1 c2 c3 hX6 HN6
    have c0 : World.cell? _ _ = some (.int .i64 Lm.a) := HN7.out.2.2.2.2.2.2.2.2.2.2.2.2.1.cell 0
    have c1 : World.cell? _ _ = some (.int .i64 Lm.b) := HN7.out.2.2.2.2.2.2.2.2.2.2.2.2.1.cell 1
    have c2 : World.cell? _ _ = some (.int .i64 Lm.c) := HN7.out.2.2.2.2.2.2.2.2.2.2.2.2.1.cell 2
    have c3 : World.cell? _ _ = some (.slice s7 Km.length t7) := HN7.out.2.2.2.2.2.2.2.2.2.2.2.2.1.cell 3
    go_wp2_with (rw [hX7])
    go_wp2_with fail
    refine (M2.out _ _ HN7.out.2.2.2.2.2.2.2.2.2.2.2.2.2.1).mono ?_
    rintro e q8 ⟨u8, rfl, hown, hb1⟩
    obtain ⟨s8, t8, rfl⟩ := hown.form
    obtain ⟨X8, hX8⟩ : ∃ X, q8.alloc (.cells #[.int .i64 L0.a, .int .i64 L0.b, .int .i64 L0.c, .slice s8 K0.length t8] 24) = X := ⟨_, rfl⟩
    have hbX : Below X7.heap.size X7 X8 := by rw [← hX8]; exact hb1.alloc hb1.size _
    have HN8 : Hid (BlockAt X8 w.heap.size #[.int .i64 A, .int .i64 B, .int .i64 C, .slice va cs.length vc] 24 ∧ Ints X8 (.slice va cs.length vc) cs ∧ BlockAt X8 q2.heap.size #[.int .i64 L0.a, .int .i64 L0.b, .int .i64 L0.c, .slice s2 K0.length t2] 24 ∧ Ints X8 (.slice s2 K0.length t2) K0 ∧ BlockAt X8 q3.heap.size #[.int .i64 L1.a, .int .i64 L1.b, .int .i64 L1.c, .slice s3 K1.length t3] 24 ∧ Ints X8 (.slice s3 K1.length t3) K1 ∧ BlockAt X8 q4.heap.size #[.int .i64 L2.a, .int .i64 L2.b, .int .i64 L2.c, .slice s4 K2.length t4] 24 ∧ Ints X8 (.slice s4 K2.length t4) K2 ∧ BlockAt X8 q5.heap.size #[.int .i64 L3.a, .int .i64 L3.b, .int .i64 L3.c, .slice s5 K3.length t5] 24 ∧ Ints X8 (.slice s5 K3.length t5) K3 ∧ BlockAt X8 q6.heap.size #[.int .i64 L0.a, .int .i64 L0.b, .int .i64 L0.c, .slice s6 K0.length t6] 24 ∧ Ints X8 (.slice s6 K0.length t6) K0 ∧ BlockAt X8 q7.heap.size #[.int .i64 Lm.a, .int .i64 Lm.b, .int .i64 Lm.c, .slice s7 Km.length t7] 24 ∧ Ints X8 (.slice s7 Km.length t7) Km ∧ BlockAt X8 q8.heap.size #[.int .i64 L0.a, .int .i64 L0.b, .int .i64 L0.c, .slice s8 K0.length t8] 24 ∧ Ints X8 (.slice s8 K0.length t8) K0 ∧ Below w.heap.size w X8) := Lib.hid ⟨HN7.out.1.below hbX HN7.out.1.lt, Ints.all HN7.out.2.1 hbX, HN7.out.2.2.1.below hbX HN7.out.2.2.1.lt, Ints.all HN7.out.2.2.2.1 hbX, HN7.out.2.2.2.2.1.below hbX HN7.out.2.2.2.2.1.lt, Ints.all HN7.out.2.2.2.2.2.1 hbX, HN7.out.2.2.2.2.2.2.1.below hbX HN7.out.2.2.2.2.2.2.1.lt, Ints.all HN7.out.2.2.2.2.2.2.2.1 hbX, HN7.out.2.2.2.2.2.2.2.2.1.below hbX HN7.out.2.2.2.2.2.2.2.2.1.lt, Ints.all HN7.out.2.2.2.2.2.2.2.2.2.1 hbX, HN7.out.2.2.2.2.2.2.2.2.2.2.1.below hbX HN7.out.2.2.2.2.2.2.2.2.2.2.1.lt, Ints.all HN7.out.2.2.2.2.2.2.2.2.2.2.2.1 hbX, HN7.out.2.2.2.2.2.2.2.2.2.2.2.2.1.below hbX HN7.out.2.2.2.2.2.2.2.2.2.2.2.2.1.lt, Ints.all HN7.out.2.2.2.2.2.2.2.2.2.2.2.2.2.1 hbX, (by rw [← hX8]; exact BlockAt.new _ _ _), (by rw [← hX8]; exact (OwnI.alloc hown _).ints), later HN7.out.2.2.2.2.2.2.2.2.2.2.2.2.2.2 HN7.out.2.2.2.2.2.2.2.2.2.2.2.2.2.2.size hbX⟩
    clear hown hb1 hbX c0 c1 c2 c3 hX7 HN7
    have c0 : World.cell? _ _ = some (.int .i64 L1.a) := HN8.out.2.2.2.2.1.cell 0
    have c1 : World.cell? _ _ = some (.int .i64 L1.b) := HN8.out.2.2.2.2.1.cell 1
    have c2 : World.cell? _ _ = some (.int .i64 L1.c) := HN8.out.2.2.2.2.1.cell 2
    have c3 : World.cell? _ _ = some (.slice s3 K1.length t3) := HN8.out.2.2.2.2.1.cell 3
    go_wp2_with (rw [hX8])
    go_wp2_with fail
    refine (M3.out _ _ HN8.out.2.2.2.2.2.1).mono ?_
    rintro e q9 ⟨u9, rfl, hown, hb1⟩
    obtain ⟨s9, t9, rfl⟩ := hown.form
    obtain ⟨X9, hX9⟩ : ∃ X, q9.alloc (.cells #[.int .i64 La.a, .int .i64 La.b, .int .i64 La.c, .slice s9 Ka.length t9] 24) = X := ⟨_, rfl⟩
    have hbX : Below X8.heap.size X8 X9 := by rw [← hX9]; exact hb1.alloc hb1.size _
    have HN9 : Hid (BlockAt X9 w.heap.size #[.int .i64 A, .int .i64 B, .int .i64 C, .slice va cs.length vc] 24 ∧ Ints X9 (.slice va cs.length vc) cs ∧ BlockAt X9 q2.heap.size #[.int .i64 L0.a, .int .i64 L0.b, .int .i64 L0.c, .slice s2 K0.length t2] 24 ∧ Ints X9 (.slice s2 K0.length t2) K0 ∧ BlockAt X9 q3.heap.size #[.int .i64 L1.a, .int .i64 L1.b, .int .i64 L1.c, .slice s3 K1.length t3] 24 ∧ Ints X9 (.slice s3 K1.length t3) K1 ∧ BlockAt X9 q4.heap.size #[.int .i64 L2.a, .int .i64 L2.b, .int .i64 L2.c, .slice s4 K2.length t4] 24 ∧ Ints X9 (.slice s4 K2.length t4) K2 ∧ BlockAt X9 q5.heap.size #[.int .i64 L3.a, .int .i64 L3.b, .int .i64 L3.c, .slice s5 K3.length t5] 24 ∧ Ints X9 (.slice s5 K3.length t5) K3 ∧ BlockAt X9 q6.heap.size #[.int .i64 L0.a, .int .i64 L0.b, .int .i64 L0.c, .slice s6 K0.length t6] 24 ∧ Ints X9 (.slice s6 K0.length t6) K0 ∧ BlockAt X9 q7.heap.size #[.int .i64 Lm.a, .int .i64 Lm.b, .int .i64 Lm.c, .slice s7 Km.length t7] 24 ∧ Ints X9 (.slice s7 Km.length t7) Km ∧ BlockAt X9 q8.heap.size #[.int .i64 L0.a, .int .i64 L0.b, .int .i64 L0.c, .slice s8 K0.length t8] 24 ∧ Ints X9 (.slice s8 K0.length t8) K0 ∧ BlockAt X9 q9.heap.size #[.int .i64 La.a, .int .i64 La.b, .int .i64 La.c, .slice s9 Ka.length t9] 24 ∧ Ints X9 (.slice s9 Ka.length t9) Ka ∧ Below w.heap.size w X9) := Lib.hid ⟨HN8.out.1.below hbX HN8.out.1.lt, Ints.all HN8.out.2.1 hbX, HN8.out.2.2.1.below hbX HN8.out.2.2.1.lt, Ints.all HN8.out.2.2.2.1 hbX, HN8.out.2.2.2.2.1.below hbX HN8.out.2.2.2.2.1.lt, Ints.all HN8.out.2.2.2.2.2.1 hbX, HN8.out.2.2.2.2.2.2.1.below hbX HN8.out.2.2.2.2.2.2.1.lt, Ints.all HN8.out.2.2.2.2.2.2.2.1 hbX, HN8.out.2.2.2.2.2.2.2.2.1.below hbX HN8.out.2.2.2.2.2.2.2.2.1.lt, Ints.all HN8.out.2.2.2.2.2.2.2.2.2.1 hbX, HN8.out.2.2.2.2.2.2.2.2.2.2.1.below hbX HN8.out.2.2.2.2.2.2.2.2.2.2.1.lt, Ints.all HN8.out.2.2.2.2.2.2.2.2.2.2.2.1 hbX, HN8.out.2.2.2.2.2.2.2.2.2.2.2.2.1.below hbX HN8.out.2.2.2.2.2.2.2.2.2.2.2.2.1.lt, Ints.all HN8.out.2.2.2.2.2.2.2.2.2.2.2.2.2.1 hbX, HN8.out.2.2.2.2.2.2.2.2.2.2.2.2.2.2.1.below hbX HN8.out.2.2.2.2.2.2.2.2.2.2.2.2.2.2.1.lt, Ints.all HN8.out.2.2.2.2.2.2.2.2.2.2.2.2.2.2.2.1 hbX, (by rw [← hX9]; exact BlockAt.new _ _ _), (by rw [← hX9]; exact (OwnI.alloc hown _).ints), later HN8.out.2.2.2.2.2.2.2.2.2.2.2.2.2.2.2.2 HN8.out.2.2.2.2.2.2.2.2.2.2.2.2.2.2.2.2.size hbX⟩
    clear hown hb1 hbX c0 c1 c2 c3 hX8 HN8
    have c0 : World.cell? _ _ = some (.int .i64 L3.a) := HN9.out.2.2.2.2.2.2.2.2.1.cell 0
    have c1 : World.cell? _ _ = some (.int .i64 L3.b) := HN9.out.2.2.2.2.2.2.2.2.1.cell 1
    have c2 : World.cell? _ _ = some (.int .i64 L3.c) := HN9.out.2.2.2.2.2.2.2.2.1.cell 2
    have c3 : World.cell? _ _ = some (.slice s5 K3.length t5) := HN9.out.2.2.2.2.2.2.2.2.1.cell 3
    go_wp2_with (rw [hX9])
    go_wp2_with fail
    refine (M4.out _ _ HN9.out.2.2.2.2.2.2.2.2.2.1).mono ?_
    rintro e q10 ⟨u10, rfl, hown, hb1⟩
    obtain ⟨s10, t10, rfl⟩ := hown.form
    obtain ⟨X10, hX10⟩ : ∃ X, q10.alloc (.cells #[.int .i64 Lb.a, .int .i64 Lb.b, .int .i64 Lb.c, .slice s10 Kb'.length t10] 24) = X := ⟨_, rfl⟩
    have hbX : Below X9.heap.size X9 X10 := by rw [← hX10]; exact hb1.alloc hb1.size _
    have HN10 : Hid (BlockAt X10 w.heap.size #[.int .i64 A, .int .i64 B, .int .i64 C, .slice va cs.length vc] 24 ∧ Ints X10 (.slice va cs.length vc) cs ∧ BlockAt X10 q2.heap.size #[.int .i64 L0.a, .int .i64 L0.b, .int .i64 L0.c, .slice s2 K0.length t2] 24 ∧ Ints X10 (.slice s2 K0.length t2) K0 ∧ BlockAt X10 q3.heap.size #[.int .i64 L1.a, .int .i64 L1.b, .int .i64 L1.c, .slice s3 K1.length t3] 24 ∧ Ints X10 (.slice s3 K1.length t3) K1 ∧ BlockAt X10 q4.heap.size #[.int .i64 L2.a, .int .i64 L2.b, .int .i64 L2.c, .slice s4 K2.length t4] 24 ∧ Ints X10 (.slice s4 K2.length t4) K2 ∧ BlockAt X10 q5.heap.size #[.int .i64 L3.a, .int .i64 L3.b, .int .i64 L3.c, .slice s5 K3.length t5] 24 ∧ Ints X10 (.slice s5 K3.length t5) K3 ∧ BlockAt X10 q6.heap.size #[.int .i64 L0.a, .int .i64 L0.b, .int .i64 L0.c, .slice s6 K0.length t6] 24 ∧ Ints X10 (.slice s6 K0.length t6) K0 ∧ BlockAt X10 q7.heap.size #[.int .i64 Lm.a, .int .i64 Lm.b, .int .i64 Lm.c, .slice s7 Km.length t7] 24 ∧ Ints X10 (.slice s7 Km.length t7) Km ∧ BlockAt X10 q8.heap.size #[.int .i64 L0.a, .int .i64 L0.b, .int .i64 L0.c, .slice s8 K0.length t8] 24 ∧ Ints X10 (.slice s8 K0.length t8) K0 ∧ BlockAt X10 q9.heap.size #[.int .i64 La.a, .int .i64 La.b, .int .i64 La.c, .slice s9 Ka.length t9] 24 ∧ Ints X10 (.slice s9 Ka.length t9) Ka ∧ BlockAt X10 q10.heap.size #[.int .i64 Lb.a, .int .i64 Lb.b, .int .i64 Lb.c, .slice s10 Kb'.length t10] 24 ∧ Ints X10 (.slice s10 Kb'.length t10) Kb' ∧ Below w.heap.size w X10) := Lib.hid ⟨HN9.out.1.below hbX HN9.out.1.lt, Ints.all HN9.out.2.1 hbX, HN9.out.2.2.1.below hbX HN9.out.2.2.1.lt, Ints.all HN9.out.2.2.2.1 hbX, HN9.out.2.2.2.2.1.below hbX HN9.out.2.2.2.2.1.lt, Ints.all HN9.out.2.2.2.2.2.1 hbX, HN9.out.2.2.2.2.2.2.1.below hbX HN9.out.2.2.2.2.2.2.1.lt, Ints.all HN9.out.2.2.2.2.2.2.2.1 hbX, HN9.out.2.2.2.2.2.2.2.2.1.below hbX HN9.out.2.2.2.2.2.2.2.2.1.lt, Ints.all HN9.out.2.2.2.2.2.2.2.2.2.1 hbX, HN9.out.2.2.2.2.2.2.2.2.2.2.1.below hbX HN9.out.2.2.2.2.2.2.2.2.2.2.1.lt, Ints.all HN9.out.2.2.2.2.2.2.2.2.2.2.2.1 hbX, HN9.out.2.2.2.2.2.2.2.2.2.2.2.2.1.below hbX HN9.out.2.2.2.2.2.2.2.2.2.2.2.2.1.lt, Ints.all HN9.out.2.2.2.2.2.2.2.2.2.2.2.2.2.1 hbX, HN9.out.2.2.2.2.2.2.2.2.2.2.2.2.2.2.1.below hbX HN9.out.2.2.2.2.2.2.2.2.2.2.2.2.2.2.1.lt, Ints.all HN9.out.2.2.2.2.2.2.2.2.2.2.2.2.2.2.2.1 hbX, HN9.out.2.2.2.2.2.2.2.2.2.2.2.2.2.2.2.2.1.below hbX HN9.out.2.2.2.2.2.2.2.2.2.2.2.2.2.2.2.2.1.lt, Ints.all HN9.out.2.2.2.2.2.2.2.2.2.2.2.2.2.2.2.2.2.1 hbX, (by rw [← hX10]; exact BlockAt.new _ _ _), (by rw [← hX10]; exact (OwnI.alloc hown _).ints), later HN9.out.2.2.2.2.2.2.2.2.2.2.2.2.2.2.2.2.2.2 HN9.out.2.2.2.2.2.2.2.2.2.2.2.2.2.2.2.2.2.2.size hbX⟩
    clear hown hb1 hbX c0 c1 c2 c3 hX9 HN9
    have c0 : World.cell? _ _ = some (.int .i64 Lm.a) := HN10.out.2.2.2.2.2.2.2.2.2.2.2.2.1.cell 0
    have c1 : World.cell? _ _ = some (.int .i64 Lm.b) := HN10.out.2.2.2.2.2.2.2.2.2.2.2.2.1.cell 1
    have c2 : World.cell? _ _ = some (.int .i64 Lm.c) := HN10.out.2.2.2.2.2.2.2.2.2.2.2.2.1.cell 2
    have c3 : World.cell? _ _ = some (.slice s7 Km.length t7) := HN10.out.2.2.2.2.2.2.2.2.2.2.2.2.1.cell 3
    go_wp2_with (rw [hX10])
    go_wp2_with fail
    refine (T5.out _ _ HN10.out.2.2.2.2.2.2.2.2.2.2.2.2.2.1).mono ?_
    rintro e q11 ⟨u11, rfl, hown, hb1⟩
    obtain ⟨s11, t11, rfl⟩ := hown.form
    obtain ⟨X11, hX11⟩ : ∃ X, q11.alloc (.cells #[.int .i64 Lb.a, .int .i64 Lb.b, .int .i64 Lb.c, .slice s11 Kb'.length t11] 24) = X := ⟨_, rfl⟩
    have hbX : Below X10.heap.size X10 X11 := by rw [← hX11]; exact hb1.alloc hb1.size _
    have HN11 : Hid (BlockAt X11 w.heap.size #[.int .i64 A, .int .i64 B, .int .i64 C, .slice va cs.length vc] 24 ∧ Ints X11 (.slice va cs.length vc) cs ∧ BlockAt X11 q2.heap.size #[.int .i64 L0.a, .int .i64 L0.b, .int .i64 L0.c, .slice s2 K0.length t2] 24 ∧ Ints X11 (.slice s2 K0.length t2) K0 ∧ BlockAt X11 q3.heap.size #[.int .i64 L1.a, .int .i64 L1.b, .int .i64 L1.c, .slice s3 K1.length t3] 24 ∧ Ints X11 (.slice s3 K1.length t3) K1 ∧ BlockAt X11 q4.heap.size #[.int .i64 L2.a, .int .i64 L2.b, .int .i64 L2.c, .slice s4 K2.length t4] 24 ∧ Ints X11 (.slice s4 K2.length t4) K2 ∧ BlockAt X11 q5.heap.size #[.int .i64 L3.a, .int .i64 L3.b, .int .i64 L3.c, .slice s5 K3.length t5] 24 ∧ Ints X11 (.slice s5 K3.length t5) K3 ∧ BlockAt X11 q6.heap.size #[.int .i64 L0.a, .int .i64 L0.b, .int .i64 L0.c, .slice s6 K0.length t6] 24 ∧ Ints X11 (.slice s6 K0.length t6) K0 ∧ BlockAt X11 q7.heap.size #[.int .i64 Lm.a, .int .i64 Lm.b, .int .i64 Lm.c, .slice s7 Km.length t7] 24 ∧ Ints X11 (.slice s7 Km.length t7) Km ∧ BlockAt X11 q8.heap.size #[.int .i64 L0.a, .int .i64 L0.b, .int .i64 L0.c, .slice s8 K0.length t8] 24 ∧ Ints X11 (.slice s8 K0.length t8) K0 ∧ BlockAt X11 q9.heap.size #[.int .i64 La.a, .int .i64 La.b, .int .i64 La.c, .slice s9 Ka.length t9] 24 ∧ Ints X11 (.slice s9 Ka.length t9) Ka ∧ BlockAt X11 q10.heap.size #[.int .i64 Lb.a, .int .i64 Lb.b, .int .i64 Lb.c, .slice s10 Kb'.length t10] 24 ∧ Ints X11 (.slice s10 Kb'.length t10) Kb' ∧ BlockAt X11 q11.heap.size #[.int .i64 Lb.a, .int .i64 Lb.b, .int .i64 Lb.c, .slice s11 Kb'.length t11] 24 ∧ Ints X11 (.slice s11 Kb'.length t11) Kb' ∧ Below w.heap.size w X11) := Lib.hid ⟨HN10.out.1.below hbX HN10.out.1.lt, Ints.all HN10.out.2.1 hbX, HN10.out.2.2.1.below hbX HN10.out.2.2.1.lt, Ints.all HN10.out.2.2.2.1 hbX, HN10.out.2.2.2.2.1.below hbX HN10.out.2.2.2.2.1.lt, Ints.all HN10.out.2.2.2.2.2.1 hbX, HN10.out.2.2.2.2.2.2.1.below hbX HN10.out.2.2.2.2.2.2.1.lt, Ints.all HN10.out.2.2.2.2.2.2.2.1 hbX, HN10.out.2.2.2.2.2.2.2.2.1.below hbX HN10.out.2.2.2.2.2.2.2.2.1.lt, Ints.all HN10.out.2.2.2.2.2.2.2.2.2.1 hbX, HN10.out.2.2.2.2.2.2.2.2.2.2.1.below hbX HN10.out.2.2.2.2.2.2.2.2.2.2.1.lt, Ints.all HN10.out.2.2.2.2.2.2.2.2.2.2.2.1 hbX, HN10.out.2.2.2.2.2.2.2.2.2.2.2.2.1.below hbX HN10.out.2.2.2.2.2.2.2.2.2.2.2.2.1.lt, Ints.all HN10.out.2.2.2.2.2.2.2.2.2.2.2.2.2.1 hbX, HN10.out.2.2.2.2.2.2.2.2.2.2.2.2.2.2.1.below hbX HN10.out.2.2.2.2.2.2.2.2.2.2.2.2.2.2.1.lt, Ints.all HN10.out.2.2.2.2.2.2.2.2.2.2.2.2.2.2.2.1 hbX, HN10.out.2.2.2.2.2.2.2.2.2.2.2.2.2.2.2.2.1.below hbX HN10.out.2.2.2.2.2.2.2.2.2.2.2.2.2.2.2.2.1.lt, Ints.all HN10.out.2.2.2.2.2.2.2.2.2.2.2.2.2.2.2.2.2.1 hbX, HN10.out.2.2.2.2.2.2.2.2.2.2.2.2.2.2.2.2.2.2.1.below hbX HN10.out.2.2.2.2.2.2.2.2.2.2.2.2.2.2.2.2.2.2.1.lt, Ints.all HN10.out.2.2.2.2.2.2.2.2.2.2.2.2.2.2.2.2.2.2.2.1 hbX, (by rw [← hX11]; exact BlockAt.new _ _ _), (by rw [← hX11]; exact (OwnI.alloc hown _).ints), later HN10.out.2.2.2.2.2.2.2.2.2.2.2.2.2.2.2.2.2.2.2.2 HN10.out.2.2.2.2.2.2.2.2.2.2.2.2.2.2.2.2.2.2.2.2.size hbX⟩
    clear hown hb1 hbX c0 c1 c2 c3 hX10 HN10
    have c0 : World.cell? _ _ = some (.int .i64 L0.a) := HN11.out.2.2.2.2.2.2.2.2.2.2.1.cell 0
    have c1 : World.cell? _ _ = some (.int .i64 L0.b) := HN11.out.2.2.2.2.2.2.2.2.2.2.1.cell 1
    have c2 : World.cell? _ _ = some (.int .i64 L0.c) := HN11.out.2.2.2.2.2.2.2.2.2.2.1.cell 2
    have c3 : World.cell? _ _ = some (.slice s6 K0.length t6) := HN11.out.2.2.2.2.2.2.2.2.2.2.1.cell 3
    have d0 : World.cell? _ _ = some (.int .i64 L0.a) := HN11.out.2.2.1.cell 0
    have d1 : World.cell? _ _ = some (.int .i64 L0.b) := HN11.out.2.2.1.cell 1
    have d2 : World.cell? _ _ = some (.int .i64 L0.c) := HN11.out.2.2.1.cell 2
    have d3 : World.cell? _ _ = some (.slice s2 K0.length t2) := HN11.out.2.2.1.cell 3
    go_wp2_with (rw [hX11])
    go_wp2_with fail
    refine (EQ0.out _ _ _ HN11.out.2.2.2.2.2.2.2.2.2.2.2.1 HN11.out.2.2.2.1).mono ?_
    rintro e X12 ⟨rfl, hb1⟩
    have HN12 : Hid (BlockAt X12 w.heap.size #[.int .i64 A, .int .i64 B, .int .i64 C, .slice va cs.length vc] 24 ∧ Ints X12 (.slice va cs.length vc) cs ∧ BlockAt X12 q2.heap.size #[.int .i64 L0.a, .int .i64 L0.b, .int .i64 L0.c, .slice s2 K0.length t2] 24 ∧ Ints X12 (.slice s2 K0.length t2) K0 ∧ BlockAt X12 q3.heap.size #[.int .i64 L1.a, .int .i64 L1.b, .int .i64 L1.c, .slice s3 K1.length t3] 24 ∧ Ints X12 (.slice s3 K1.length t3) K1 ∧ BlockAt X12 q4.heap.size #[.int .i64 L2.a, .int .i64 L2.b, .int .i64 L2.c, .slice s4 K2.length t4] 24 ∧ Ints X12 (.slice s4 K2.length t4) K2 ∧ BlockAt X12 q5.heap.size #[.int .i64 L3.a, .int .i64 L3.b, .int .i64 L3.c, .slice s5 K3.length t5] 24 ∧ Ints X12 (.slice s5 K3.length t5) K3 ∧ BlockAt X12 q6.heap.size #[.int .i64 L0.a, .int .i64 L0.b, .int .i64 L0.c, .slice s6 K0.length t6] 24 ∧ Ints X12 (.slice s6 K0.length t6) K0 ∧ BlockAt X12 q7.heap.size #[.int .i64 Lm.a, .int .i64 Lm.b, .int .i64 Lm.c, .slice s7 Km.length t7] 24 ∧ Ints X12 (.slice s7 Km.length t7) Km ∧ BlockAt X12 q8.heap.size #[.int .i64 L0.a, .int .i64 L0.b, .int .i64 L0.c, .slice s8 K0.length t8] 24 ∧ Ints X12 (.slice s8 K0.length t8) K0 ∧ BlockAt X12 q9.heap.size #[.int .i64 La.a, .int .i64 La.b, .int .i64 La.c, .slice s9 Ka.length t9] 24 ∧ Ints X12 (.slice s9 Ka.length t9) Ka ∧ BlockAt X12 q10.heap.size #[.int .i64 Lb.a, .int .i64 Lb.b, .int .i64 Lb.c, .slice s10 Kb'.length t10] 24 ∧ Ints X12 (.slice s10 Kb'.length t10) Kb' ∧ BlockAt X12 q11.heap.size #[.int .i64 Lb.a, .int .i64 Lb.b, .int .i64 Lb.c, .slice s11 Kb'.length t11] 24 ∧ Ints X12 (.slice s11 Kb'.length t11) Kb' ∧ Below w.heap.size w X12) := Lib.hid ⟨HN11.out.1.below hb1 HN11.out.1.lt, Ints.all HN11.out.2.1 hb1, HN11.out.2.2.1.below hb1 HN11.out.2.2.1.lt, Ints.all HN11.out.2.2.2.1 hb1, HN11.out.2.2.2.2.1.below hb1 HN11.out.2.2.2.2.1.lt, Ints.all HN11.out.2.2.2.2.2.1 hb1, HN11.out.2.2.2.2.2.2.1.below hb1 HN11.out.2.2.2.2.2.2.1.lt, Ints.all HN11.out.2.2.2.2.2.2.2.1 hb1, HN11.out.2.2.2.2.2.2.2.2.1.below hb1 HN11.out.2.2.2.2.2.2.2.2.1.lt, Ints.all HN11.out.2.2.2.2.2.2.2.2.2.1 hb1, HN11.out.2.2.2.2.2.2.2.2.2.2.1.below hb1 HN11.out.2.2.2.2.2.2.2.2.2.2.1.lt, Ints.all HN11.out.2.2.2.2.2.2.2.2.2.2.2.1 hb1, HN11.out.2.2.2.2.2.2.2.2.2.2.2.2.1.below hb1 HN11.out.2.2.2.2.2.2.2.2.2.2.2.2.1.lt, Ints.all HN11.out.2.2.2.2.2.2.2.2.2.2.2.2.2.1 hb1, HN11.out.2.2.2.2.2.2.2.2.2.2.2.2.2.2.1.below hb1 HN11.out.2.2.2.2.2.2.2.2.2.2.2.2.2.2.1.lt, Ints.all HN11.out.2.2.2.2.2.2.2.2.2.2.2.2.2.2.2.1 hb1, HN11.out.2.2.2.2.2.2.2.2.2.2.2.2.2.2.2.2.1.below hb1 HN11.out.2.2.2.2.2.2.2.2.2.2.2.2.2.2.2.2.1.lt, Ints.all HN11.out.2.2.2.2.2.2.2.2.2.2.2.2.2.2.2.2.2.1 hb1, HN11.out.2.2.2.2.2.2.2.2.2.2.2.2.2.2.2.2.2.2.1.below hb1 HN11.out.2.2.2.2.2.2.2.2.2.2.2.2.2.2.2.2.2.2.1.lt, Ints.all HN11.out.2.2.2.2.2.2.2.2.2.2.2.2.2.2.2.2.2.2.2.1 hb1, HN11.out.2.2.2.2.2.2.2.2.2.2.2.2.2.2.2.2.2.2.2.2.1.below hb1 HN11.out.2.2.2.2.2.2.2.2.2.2.2.2.2.2.2.2.2.2.2.2.1.lt, Ints.all HN11.out.2.2.2.2.2.2.2.2.2.2.2.2.2.2.2.2.2.2.2.2.2.1 hb1, later HN11.out.2.2.2.2.2.2.2.2.2.2.2.2.2.2.2.2.2.2.2.2.2.2 HN11.out.2.2.2.2.2.2.2.2.2.2.2.2.2.2.2.2.2.2.2.2.2.2.size hb1⟩
    clear hb1 c0 c1 c2 c3 d0 d1 d2 d3 hX11 HN11
    have c0 : World.cell? _ _ = some (.int .i64 L0.a) := HN12.out.2.2.2.2.2.2.2.2.2.2.2.2.2.2.1.cell 0
    have c1 : World.cell? _ _ = some (.int .i64 L0.b) := HN12.out.2.2.2.2.2.2.2.2.2.2.2.2.2.2.1.cell 1
    have c2 : World.cell? _ _ = some (.int .i64 L0.c) := HN12.out.2.2.2.2.2.2.2.2.2.2.2.2.2.2.1.cell 2
    have c3 : World.cell? _ _ = some (.slice s8 K0.length t8) := HN12.out.2.2.2.2.2.2.2.2.2.2.2.2.2.2.1.cell 3
    have d0 : World.cell? _ _ = some (.int .i64 L0.a) := HN12.out.2.2.1.cell 0
    have d1 : World.cell? _ _ = some (.int .i64 L0.b) := HN12.out.2.2.1.cell 1
    have d2 : World.cell? _ _ = some (.int .i64 L0.c) := HN12.out.2.2.1.cell 2
    have d3 : World.cell? _ _ = some (.slice s2 K0.length t2) := HN12.out.2.2.1.cell 3
    go_wp2_with fail
    refine (EQ0.out _ _ _ HN12.out.2.2.2.2.2.2.2.2.2.2.2.2.2.2.2.1 HN12.out.2.2.2.1).mono ?_
    rintro e X13 ⟨rfl, hb1⟩
    have HN13 : Hid (BlockAt X13 w.heap.size #[.int .i64 A, .int .i64 B, .int .i64 C, .slice va cs.length vc] 24 ∧ Ints X13 (.slice va cs.length vc) cs ∧ BlockAt X13 q2.heap.size #[.int .i64 L0.a, .int .i64 L0.b, .int .i64 L0.c, .slice s2 K0.length t2] 24 ∧ Ints X13 (.slice s2 K0.length t2) K0 ∧ BlockAt X13 q3.heap.size #[.int .i64 L1.a, .int .i64 L1.b, .int .i64 L1.c, .slice s3 K1.length t3] 24 ∧ Ints X13 (.slice s3 K1.length t3) K1 ∧ BlockAt X13 q4.heap.size #[.int .i64 L2.a, .int .i64 L2.b, .int .i64 L2.c, .slice s4 K2.length t4] 24 ∧ Ints X13 (.slice s4 K2.length t4) K2 ∧ BlockAt X13 q5.heap.size #[.int .i64 L3.a, .int .i64 L3.b, .int .i64 L3.c, .slice s5 K3.length t5] 24 ∧ Ints X13 (.slice s5 K3.length t5) K3 ∧ BlockAt X13 q6.heap.size #[.int .i64 L0.a, .int .i64 L0.b, .int .i64 L0.c, .slice s6 K0.length t6] 24 ∧ Ints X13 (.slice s6 K0.length t6) K0 ∧ BlockAt X13 q7.heap.size #[.int .i64 Lm.a, .int .i64 Lm.b, .int .i64 Lm.c, .slice s7 Km.length t7] 24 ∧ Ints X13 (.slice s7 Km.length t7) Km ∧ BlockAt X13 q8.heap.size #[.int .i64 L0.a, .int .i64 L0.b, .int .i64 L0.c, .slice s8 K0.length t8] 24 ∧ Ints X13 (.slice s8 K0.length t8) K0 ∧ BlockAt X13 q9.heap.size #[.int .i64 La.a, .int .i64 La.b, .int .i64 La.c, .slice s9 Ka.length t9] 24 ∧ Ints X13 (.slice s9 Ka.length t9) Ka ∧ BlockAt X13 q10.heap.size #[.int .i64 Lb.a, .int .i64 Lb.b, .int .i64 Lb.c, .slice s10 Kb'.length t10] 24 ∧ Ints X13 (.slice s10 Kb'.length t10) Kb' ∧ BlockAt X13 q11.heap.size #[.int .i64 Lb.a, .int .i64 Lb.b, .int .i64 Lb.c, .slice s11 Kb'.length t11] 24 ∧ Ints X13 (.slice s11 Kb'.length t11) Kb' ∧ Below w.heap.size w X13) := Lib.hid ⟨HN12.out.1.below hb1 HN12.out.1.lt, Ints.all HN12.out.2.1 hb1, HN12.out.2.2.1.below hb1 HN12.out.2.2.1.lt, Ints.all HN12.out.2.2.2.1 hb1, HN12.out.2.2.2.2.1.below hb1 HN12.out.2.2.2.2.1.lt, Ints.all HN12.out.2.2.2.2.2.1 hb1, HN12.out.2.2.2.2.2.2.1.below hb1 HN12.out.2.2.2.2.2.2.1.lt, Ints.all HN12.out.2.2.2.2.2.2.2.1 hb1, HN12.out.2.2.2.2.2.2.2.2.1.below hb1 HN12.out.2.2.2.2.2.2.2.2.1.lt, Ints.all HN12.out.2.2.2.2.2.2.2.2.2.1 hb1, HN12.out.2.2.2.2.2.2.2.2.2.2.1.below hb1 HN12.out.2.2.2.2.2.2.2.2.2.2.1.lt, Ints.all HN12.out.2.2.2.2.2.2.2.2.2.2.2.1 hb1, HN12.out.2.2.2.2.2.2.2.2.2.2.2.2.1.below hb1 HN12.out.2.2.2.2.2.2.2.2.2.2.2.2.1.lt, Ints.all HN12.out.2.2.2.2.2.2.2.2.2.2.2.2.2.1 hb1, HN12.out.2.2.2.2.2.2.2.2.2.2.2.2.2.2.1.below hb1 HN12.out.2.2.2.2.2.2.2.2.2.2.2.2.2.2.1.lt, Ints.all HN12.out.2.2.2.2.2.2.2.2.2.2.2.2.2.2.2.1 hb1, HN12.out.2.2.2.2.2.2.2.2.2.2.2.2.2.2.2.2.1.below hb1 HN12.out.2.2.2.2.2.2.2.2.2.2.2.2.2.2.2.2.1.lt, Ints.all HN12.out.2.2.2.2.2.2.2.2.2.2.2.2.2.2.2.2.2.1 hb1, HN12.out.2.2.2.2.2.2.2.2.2.2.2.2.2.2.2.2.2.2.1.below hb1 HN12.out.2.2.2.2.2.2.2.2.2.2.2.2.2.2.2.2.2.2.1.lt, Ints.all HN12.out.2.2.2.2.2.2.2.2.2.2.2.2.2.2.2.2.2.2.2.1 hb1, HN12.out.2.2.2.2.2.2.2.2.2.2.2.2.2.2.2.2.2.2.2.2.1.below hb1 HN12.out.2.2.2.2.2.2.2.2.2.2.2.2.2.2.2.2.2.2.2.2.1.lt, Ints.all HN12.out.2.2.2.2.2.2.2.2.2.2.2.2.2.2.2.2.2.2.2.2.2.1 hb1, later HN12.out.2.2.2.2.2.2.2.2.2.2.2.2.2.2.2.2.2.2.2.2.2.2 HN12.out.2.2.2.2.2.2.2.2.2.2.2.2.2.2.2.2.2.2.2.2.2.2.size hb1⟩
    clear hb1 c0 c1 c2 c3 d0 d1 d2 d3 HN12
    have c0 : World.cell? _ _ = some (.int .i64 Lb.a) := HN13.out.2.2.2.2.2.2.2.2.2.2.2.2.2.2.2.2.2.2.2.2.1.cell 0
    have c1 : World.cell? _ _ = some (.int .i64 Lb.b) := HN13.out.2.2.2.2.2.2.2.2.2.2.2.2.2.2.2.2.2.2.2.2.1.cell 1
    have c2 : World.cell? _ _ = some (.int .i64 Lb.c) := HN13.out.2.2.2.2.2.2.2.2.2.2.2.2.2.2.2.2.2.2.2.2.1.cell 2
    have c3 : World.cell? _ _ = some (.slice s11 Kb'.length t11) := HN13.out.2.2.2.2.2.2.2.2.2.2.2.2.2.2.2.2.2.2.2.2.1.cell 3
    have d0 : World.cell? _ _ = some (.int .i64 Lb.a) := HN13.out.2.2.2.2.2.2.2.2.2.2.2.2.2.2.2.2.2.2.1.cell 0
    have d1 : World.cell? _ _ = some (.int .i64 Lb.b) := HN13.out.2.2.2.2.2.2.2.2.2.2.2.2.2.2.2.2.2.2.1.cell 1
    have d2 : World.cell? _ _ = some (.int .i64 Lb.c) := HN13.out.2.2.2.2.2.2.2.2.2.2.2.2.2.2.2.2.2.2.1.cell 2
    have d3 : World.cell? _ _ = some (.slice s10 Kb'.length t10) := HN13.out.2.2.2.2.2.2.2.2.2.2.2.2.2.2.2.2.2.2.1.cell 3
    go_wp2_with fail
    refine (EQb.out _ _ _ HN13.out.2.2.2.2.2.2.2.2.2.2.2.2.2.2.2.2.2.2.2.2.2.1 HN13.out.2.2.2.2.2.2.2.2.2.2.2.2.2.2.2.2.2.2.2.1).mono ?_
    rintro e X14 ⟨rfl, hb1⟩
    have HN14 : Hid (BlockAt X14 w.heap.size #[.int .i64 A, .int .i64 B, .int .i64 C, .slice va cs.length vc] 24 ∧ Ints X14 (.slice va cs.length vc) cs ∧ BlockAt X14 q2.heap.size #[.int .i64 L0.a, .int .i64 L0.b, .int .i64 L0.c, .slice s2 K0.length t2] 24 ∧ Ints X14 (.slice s2 K0.length t2) K0 ∧ BlockAt X14 q3.heap.size #[.int .i64 L1.a, .int .i64 L1.b, .int .i64 L1.c, .slice s3 K1.length t3] 24 ∧ Ints X14 (.slice s3 K1.length t3) K1 ∧ BlockAt X14 q4.heap.size #[.int .i64 L2.a, .int .i64 L2.b, .int .i64 L2.c, .slice s4 K2.length t4] 24 ∧ Ints X14 (.slice s4 K2.length t4) K2 ∧ BlockAt X14 q5.heap.size #[.int .i64 L3.a, .int .i64 L3.b, .int .i64 L3.c, .slice s5 K3.length t5] 24 ∧ Ints X14 (.slice s5 K3.length t5) K3 ∧ BlockAt X14 q6.heap.size #[.int .i64 L0.a, .int .i64 L0.b, .int .i64 L0.c, .slice s6 K0.length t6] 24 ∧ Ints X14 (.slice s6 K0.length t6) K0 ∧ BlockAt X14 q7.heap.size #[.int .i64 Lm.a, .int .i64 Lm.b, .int .i64 Lm.c, .slice s7 Km.length t7] 24 ∧ Ints X14 (.slice s7 Km.length t7) Km ∧ BlockAt X14 q8.heap.size #[.int .i64 L0.a, .int .i64 L0.b, .int .i64 L0.c, .slice s8 K0.length t8] 24 ∧ Ints X14 (.slice s8 K0.length t8) K0 ∧ BlockAt X14 q9.heap.size #[.int .i64 La.a, .int .i64 La.b, .int .i64 La.c, .slice s9 Ka.length t9] 24 ∧ Ints X14 (.slice s9 Ka.length t9) Ka ∧ BlockAt X14 q10.heap.size #[.int .i64 Lb.a, .int .i64 Lb.b, .int .i64 Lb.c, .slice s10 Kb'.length t10] 24 ∧ Ints X14 (.slice s10 Kb'.length t10) Kb' ∧ BlockAt X14 q11.heap.size #[.int .i64 Lb.a, .int .i64 Lb.b, .int .i64 Lb.c, .slice s11 Kb'.length t11] 24 ∧ Ints X14 (.slice s11 Kb'.length t11) Kb' ∧ Below w.heap.size w X14) := Lib.hid ⟨HN13.out.1.below hb1 HN13.out.1.lt, Ints.all HN13.out.2.1 hb1, HN13.out.2.2.1.below hb1 HN13.out.2.2.1.lt, Ints.all HN13.out.2.2.2.1 hb1, HN13.out.2.2.2.2.1.below hb1 HN13.out.2.2.2.2.1.lt, Ints.all HN13.out.2.2.2.2.2.1 hb1, HN13.out.2.2.2.2.2.2.1.below hb1 HN13.out.2.2.2.2.2.2.1.lt, Ints.all HN13.out.2.2.2.2.2.2.2.1 hb1, HN13.out.2.2.2.2.2.2.2.2.1.below hb1 HN13.out.2.2.2.2.2.2.2.2.1.lt, Ints.all HN13.out.2.2.2.2.2.2.2.2.2.1 hb1, HN13.out.2.2.2.2.2.2.2.2.2.2.1.below hb1 HN13.out.2.2.2.2.2.2.2.2.2.2.1.lt, Ints.all HN13.out.2.2.2.2.2.2.2.2.2.2.2.1 hb1, HN13.out.2.2.2.2.2.2.2.2.2.2.2.2.1.below hb1 HN13.out.2.2.2.2.2.2.2.2.2.2.2.2.1.lt, Ints.all HN13.out.2.2.2.2.2.2.2.2.2.2.2.2.2.1 hb1, HN13.out.2.2.2.2.2.2.2.2.2.2.2.2.2.2.1.below hb1 HN13.out.2.2.2.2.2.2.2.2.2.2.2.2.2.2.1.lt, Ints.all HN13.out.2.2.2.2.2.2.2.2.2.2.2.2.2.2.2.1 hb1, HN13.out.2.2.2.2.2.2.2.2.2.2.2.2.2.2.2.2.1.below hb1 HN13.out.2.2.2.2.2.2.2.2.2.2.2.2.2.2.2.2.1.lt, Ints.all HN13.out.2.2.2.2.2.2.2.2.2.2.2.2.2.2.2.2.2.1 hb1, HN13.out.2.2.2.2.2.2.2.2.2.2.2.2.2.2.2.2.2.2.1.below hb1 HN13.out.2.2.2.2.2.2.2.2.2.2.2.2.2.2.2.2.2.2.1.lt, Ints.all HN13.out.2.2.2.2.2.2.2.2.2.2.2.2.2.2.2.2.2.2.2.1 hb1, HN13.out.2.2.2.2.2.2.2.2.2.2.2.2.2.2.2.2.2.2.2.2.1.below hb1 HN13.out.2.2.2.2.2.2.2.2.2.2.2.2.2.2.2.2.2.2.2.2.1.lt, Ints.all HN13.out.2.2.2.2.2.2.2.2.2.2.2.2.2.2.2.2.2.2.2.2.2.1 hb1, later HN13.out.2.2.2.2.2.2.2.2.2.2.2.2.2.2.2.2.2.2.2.2.2.2 HN13.out.2.2.2.2.2.2.2.2.2.2.2.2.2.2.2.2.2.2.2.2.2.2.size hb1⟩
    clear hb1 c0 c1 c2 c3 d0 d1 d2 d3 HN13
    have c0 : World.cell? _ _ = some (.int .i64 L1.a) := HN14.out.2.2.2.2.1.cell 0
    have c1 : World.cell? _ _ = some (.int .i64 L1.b) := HN14.out.2.2.2.2.1.cell 1
    have c2 : World.cell? _ _ = some (.int .i64 L1.c) := HN14.out.2.2.2.2.1.cell 2
    have c3 : World.cell? _ _ = some (.slice s3 K1.length t3) := HN14.out.2.2.2.2.1.cell 3
    have d0 : World.cell? _ _ = some (.int .i64 L0.a) := HN14.out.2.2.1.cell 0
    have d1 : World.cell? _ _ = some (.int .i64 L0.b) := HN14.out.2.2.1.cell 1
    have d2 : World.cell? _ _ = some (.int .i64 L0.c) := HN14.out.2.2.1.cell 2
    have d3 : World.cell? _ _ = some (.slice s2 K0.length t2) := HN14.out.2.2.1.cell 3
    go_wp2_with fail
    refine (EQ1.out _ _ _ HN14.out.2.2.2.2.2.1 HN14.out.2.2.2.1).mono ?_
    rintro e X15 ⟨rfl, hb1⟩
    have HN15 : Hid (BlockAt X15 w.heap.size #[.int .i64 A, .int .i64 B, .int .i64 C, .slice va cs.length vc] 24 ∧ Ints X15 (.slice va cs.length vc) cs ∧ BlockAt X15 q2.heap.size #[.int .i64 L0.a, .int .i64 L0.b, .int .i64 L0.c, .slice s2 K0.length t2] 24 ∧ Ints X15 (.slice s2 K0.length t2) K0 ∧ BlockAt X15 q3.heap.size #[.int .i64 L1.a, .int .i64 L1.b, .int .i64 L1.c, .slice s3 K1.length t3] 24 ∧ Ints X15 (.slice s3 K1.length t3) K1 ∧ BlockAt X15 q4.heap.size #[.int .i64 L2.a, .int .i64 L2.b, .int .i64 L2.c, .slice s4 K2.length t4] 24 ∧ Ints X15 (.slice s4 K2.length t4) K2 ∧ BlockAt X15 q5.heap.size #[.int .i64 L3.a, .int .i64 L3.b, .int .i64 L3.c, .slice s5 K3.length t5] 24 ∧ Ints X15 (.slice s5 K3.length t5) K3 ∧ BlockAt X15 q6.heap.size #[.int .i64 L0.a, .int .i64 L0.b, .int .i64 L0.c, .slice s6 K0.length t6] 24 ∧ Ints X15 (.slice s6 K0.length t6) K0 ∧ BlockAt X15 q7.heap.size #[.int .i64 Lm.a, .int .i64 Lm.b, .int .i64 Lm.c, .slice s7 Km.length t7] 24 ∧ Ints X15 (.slice s7 Km.length t7) Km ∧ BlockAt X15 q8.heap.size #[.int .i64 L0.a, .int .i64 L0.b, .int .i64 L0.c, .slice s8 K0.length t8] 24 ∧ Ints X15 (.slice s8 K0.length t8) K0 ∧ BlockAt X15 q9.heap.size #[.int .i64 La.a, .int .i64 La.b, .int .i64 La.c, .slice s9 Ka.length t9] 24 ∧ Ints X15 (.slice s9 Ka.length t9) Ka ∧ BlockAt X15 q10.heap.size #[.int .i64 Lb.a, .int .i64 Lb.b, .int .i64 Lb.c, .slice s10 Kb'.length t10] 24 ∧ Ints X15 (.slice s10 Kb'.length t10) Kb' ∧ BlockAt X15 q11.heap.size #[.int .i64 Lb.a, .int .i64 Lb.b, .int .i64 Lb.c, .slice s11 Kb'.length t11] 24 ∧ Ints X15 (.slice s11 Kb'.length t11) Kb' ∧ Below w.heap.size w X15) := Lib.hid ⟨HN14.out.1.below hb1 HN14.out.1.lt, Ints.all HN14.out.2.1 hb1, HN14.out.2.2.1.below hb1 HN14.out.2.2.1.lt, Ints.all HN14.out.2.2.2.1 hb1, HN14.out.2.2.2.2.1.below hb1 HN14.out.2.2.2.2.1.lt, Ints.all HN14.out.2.2.2.2.2.1 hb1, HN14.out.2.2.2.2.2.2.1.below hb1 HN14.out.2.2.2.2.2.2.1.lt, Ints.all HN14.out.2.2.2.2.2.2.2.1 hb1, HN14.out.2.2.2.2.2.2.2.2.1.below hb1 HN14.out.2.2.2.2.2.2.2.2.1.lt, Ints.all HN14.out.2.2.2.2.2.2.2.2.2.1 hb1, HN14.out.2.2.2.2.2.2.2.2.2.2.1.below hb1 HN14.out.2.2.2.2.2.2.2.2.2.2.1.lt, Ints.all HN14.out.2.2.2.2.2.2.2.2.2.2.2.1 hb1, HN14.out.2.2.2.2.2.2.2.2.2.2.2.2.1.below hb1 HN14.out.2.2.2.2.2.2.2.2.2.2.2.2.1.lt, Ints.all HN14.out.2.2.2.2.2.2.2.2.2.2.2.2.2.1 hb1, HN14.out.2.2.2.2.2.2.2.2.2.2.2.2.2.2.1.below hb1 HN14.out.2.2.2.2.2.2.2.2.2.2.2.2.2.2.1.lt, Ints.all HN14.out.2.2.2.2.2.2.2.2.2.2.2.2.2.2.2.1 hb1, HN14.out.2.2.2.2.2.2.2.2.2.2.2.2.2.2.2.2.1.below hb1 HN14.out.2.2.2.2.2.2.2.2.2.2.2.2.2.2.2.2.1.lt, Ints.all HN14.out.2.2.2.2.2.2.2.2.2.2.2.2.2.2.2.2.2.1 hb1, HN14.out.2.2.2.2.2.2.2.2.2.2.2.2.2.2.2.2.2.2.1.below hb1 HN14.out.2.2.2.2.2.2.2.2.2.2.2.2.2.2.2.2.2.2.1.lt, Ints.all HN14.out.2.2.2.2.2.2.2.2.2.2.2.2.2.2.2.2.2.2.2.1 hb1, HN14.out.2.2.2.2.2.2.2.2.2.2.2.2.2.2.2.2.2.2.2.2.1.below hb1 HN14.out.2.2.2.2.2.2.2.2.2.2.2.2.2.2.2.2.2.2.2.2.1.lt, Ints.all HN14.out.2.2.2.2.2.2.2.2.2.2.2.2.2.2.2.2.2.2.2.2.2.1 hb1, later HN14.out.2.2.2.2.2.2.2.2.2.2.2.2.2.2.2.2.2.2.2.2.2.2 HN14.out.2.2.2.2.2.2.2.2.2.2.2.2.2.2.2.2.2.2.2.2.2.2.size hb1⟩
    clear hb1 c0 c1 c2 c3 d0 d1 d2 d3 HN14
    go_wp2_with fail
    refine (KN.out _ HN15.out.2.2.2.2.2.2.2.2.2.2.2.2.2.2.2.2.2.2.2.2.2.2).mono ?_
    rintro e X16 ⟨rfl, hb1⟩
    have HN16 : Hid (BlockAt X16 w.heap.size #[.int .i64 A, .int .i64 B, .int .i64 C, .slice va cs.length vc] 24 ∧ Ints X16 (.slice va cs.length vc) cs ∧ BlockAt X16 q2.heap.size #[.int .i64 L0.a, .int .i64 L0.b, .int .i64 L0.c, .slice s2 K0.length t2] 24 ∧ Ints X16 (.slice s2 K0.length t2) K0 ∧ BlockAt X16 q3.heap.size #[.int .i64 L1.a, .int .i64 L1.b, .int .i64 L1.c, .slice s3 K1.length t3] 24 ∧ Ints X16 (.slice s3 K1.length t3) K1 ∧ BlockAt X16 q4.heap.size #[.int .i64 L2.a, .int .i64 L2.b, .int .i64 L2.c, .slice s4 K2.length t4] 24 ∧ Ints X16 (.slice s4 K2.length t4) K2 ∧ BlockAt X16 q5.heap.size #[.int .i64 L3.a, .int .i64 L3.b, .int .i64 L3.c, .slice s5 K3.length t5] 24 ∧ Ints X16 (.slice s5 K3.length t5) K3 ∧ BlockAt X16 q6.heap.size #[.int .i64 L0.a, .int .i64 L0.b, .int .i64 L0.c, .slice s6 K0.length t6] 24 ∧ Ints X16 (.slice s6 K0.length t6) K0 ∧ BlockAt X16 q7.heap.size #[.int .i64 Lm.a, .int .i64 Lm.b, .int .i64 Lm.c, .slice s7 Km.length t7] 24 ∧ Ints X16 (.slice s7 Km.length t7) Km ∧ BlockAt X16 q8.heap.size #[.int .i64 L0.a, .int .i64 L0.b, .int .i64 L0.c, .slice s8 K0.length t8] 24 ∧ Ints X16 (.slice s8 K0.length t8) K0 ∧ BlockAt X16 q9.heap.size #[.int .i64 La.a, .int .i64 La.b, .int .i64 La.c, .slice s9 Ka.length t9] 24 ∧ Ints X16 (.slice s9 Ka.length t9) Ka ∧ BlockAt X16 q10.heap.size #[.int .i64 Lb.a, .int .i64 Lb.b, .int .i64 Lb.c, .slice s10 Kb'.length t10] 24 ∧ Ints X16 (.slice s10 Kb'.length t10) Kb' ∧ BlockAt X16 q11.heap.size #[.int .i64 Lb.a, .int .i64 Lb.b, .int .i64 Lb.c, .slice s11 Kb'.length t11] 24 ∧ Ints X16 (.slice s11 Kb'.length t11) Kb' ∧ Below w.heap.size w X16) := Lib.hid ⟨HN15.out.1.below hb1 HN15.out.1.lt, Ints.all HN15.out.2.1 hb1, HN15.out.2.2.1.below hb1 HN15.out.2.2.1.lt, Ints.all HN15.out.2.2.2.1 hb1, HN15.out.2.2.2.2.1.below hb1 HN15.out.2.2.2.2.1.lt, Ints.all HN15.out.2.2.2.2.2.1 hb1, HN15.out.2.2.2.2.2.2.1.below hb1 HN15.out.2.2.2.2.2.2.1.lt, Ints.all HN15.out.2.2.2.2.2.2.2.1 hb1, HN15.out.2.2.2.2.2.2.2.2.1.below hb1 HN15.out.2.2.2.2.2.2.2.2.1.lt, Ints.all HN15.out.2.2.2.2.2.2.2.2.2.1 hb1, HN15.out.2.2.2.2.2.2.2.2.2.2.1.below hb1 HN15.out.2.2.2.2.2.2.2.2.2.2.1.lt, Ints.all HN15.out.2.2.2.2.2.2.2.2.2.2.2.1 hb1, HN15.out.2.2.2.2.2.2.2.2.2.2.2.2.1.below hb1 HN15.out.2.2.2.2.2.2.2.2.2.2.2.2.1.lt, Ints.all HN15.out.2.2.2.2.2.2.2.2.2.2.2.2.2.1 hb1, HN15.out.2.2.2.2.2.2.2.2.2.2.2.2.2.2.1.below hb1 HN15.out.2.2.2.2.2.2.2.2.2.2.2.2.2.2.1.lt, Ints.all HN15.out.2.2.2.2.2.2.2.2.2.2.2.2.2.2.2.1 hb1, HN15.out.2.2.2.2.2.2.2.2.2.2.2.2.2.2.2.2.1.below hb1 HN15.out.2.2.2.2.2.2.2.2.2.2.2.2.2.2.2.2.1.lt, Ints.all HN15.out.2.2.2.2.2.2.2.2.2.2.2.2.2.2.2.2.2.1 hb1, HN15.out.2.2.2.2.2.2.2.2.2.2.2.2.2.2.2.2.2.2.1.below hb1 HN15.out.2.2.2.2.2.2.2.2.2.2.2.2.2.2.2.2.2.2.1.lt, Ints.all HN15.out.2.2.2.2.2.2.2.2.2.2.2.2.2.2.2.2.2.2.2.1 hb1, HN15.out.2.2.2.2.2.2.2.2.2.2.2.2.2.2.2.2.2.2.2.2.1.below hb1 HN15.out.2.2.2.2.2.2.2.2.2.2.2.2.2.2.2.2.2.2.2.2.1.lt, Ints.all HN15.out.2.2.2.2.2.2.2.2.2.2.2.2.2.2.2.2.2.2.2.2.2.1 hb1, later HN15.out.2.2.2.2.2.2.2.2.2.2.2.2.2.2.2.2.2.2.2.2.2.2 HN15.out.2.2.2.2.2.2.2.2.2.2.2.2.2.2.2.2.2.2.2.2.2.2.size hb1⟩
    clear hb1  HN15
    go_wp2
    go_ret
    exact ⟨rfl, HN16.out.2.2.2.2.2.2.2.2.2.2.2.2.2.2.2.2.2.2.2.2.2.2⟩
  · obtain rfl := HX.out rfl
    clear HX
    go_enter Tryz.func9, Tryz.ntmps9
    go_wp2_with fail
    refine (LO.out _ HB.out.2.2).mono ?_
    rintro e X1 ⟨rfl, hb1⟩
    have HN1 : Hid (BlockAt X1 w.heap.size #[.int .i64 A, .int .i64 B, .int .i64 C, .slice va cs.length vc] 24 ∧ Ints X1 (.slice va cs.length vc) cs ∧ Below w.heap.size w X1) := Lib.hid ⟨HB.out.1.below hb1 HB.out.1.lt, Ints.all HB.out.2.1 hb1, later HB.out.2.2 HB.out.2.2.size hb1⟩
    clear hb1  HB
    have c0 : World.cell? _ _ = some (.int .i64 A) := HN1.out.1.cell 0
    have c1 : World.cell? _ _ = some (.int .i64 B) := HN1.out.1.cell 1
    have c2 : World.cell? _ _ = some (.int .i64 C) := HN1.out.1.cell 2
    have c3 : World.cell? _ _ = some (.slice va cs.length vc) := HN1.out.1.cell 3
    go_wp2_with fail
    refine (LE.out _ _ HN1.out.2.1).mono ?_
    rintro e q2 ⟨u2, rfl, hown, hb1⟩
    obtain ⟨s2, t2, rfl⟩ := hown.form
    obtain ⟨X2, hX2⟩ : ∃ X, q2.alloc (.cells #[.int .i64 L0.a, .int .i64 L0.b, .int .i64 L0.c, .slice s2 K0.length t2] 24) = X := ⟨_, rfl⟩
    have hbX : Below X1.heap.size X1 X2 := by rw [← hX2]; exact hb1.alloc hb1.size _
    have HN2 : Hid (BlockAt X2 w.heap.size #[.int .i64 A, .int .i64 B, .int .i64 C, .slice va cs.length vc] 24 ∧ Ints X2 (.slice va cs.length vc) cs ∧ BlockAt X2 q2.heap.size #[.int .i64 L0.a, .int .i64 L0.b, .int .i64 L0.c, .slice s2 K0.length t2] 24 ∧ Ints X2 (.slice s2 K0.length t2) K0 ∧ Below w.heap.size w X2) := Lib.hid ⟨HN1.out.1.below hbX HN1.out.1.lt, Ints.all HN1.out.2.1 hbX, (by rw [← hX2]; exact BlockAt.new _ _ _), (by rw [← hX2]; exact (OwnI.alloc hown _).ints), later HN1.out.2.2 HN1.out.2.2.size hbX⟩
    clear hown hb1 hbX c0 c1 c2 c3 HN1
    have c0 : World.cell? _ _ = some (.int .i64 A) := HN2.out.1.cell 0
    have c1 : World.cell? _ _ = some (.int .i64 B) := HN2.out.1.cell 1
    have c2 : World.cell? _ _ = some (.int .i64 C) := HN2.out.1.cell 2
    have c3 : World.cell? _ _ = some (.slice va cs.length vc) := HN2.out.1.cell 3
    go_wp2_with (rw [hX2])
    go_wp2_with fail
    refine (T1.out _ _ HN2.out.2.1).mono ?_
    rintro e q3 ⟨u3, rfl, hown, hb1⟩
    obtain ⟨s3, t3, rfl⟩ := hown.form
    obtain ⟨X3, hX3⟩ : ∃ X, q3.alloc (.cells #[.int .i64 L1.a, .int .i64 L1.b, .int .i64 L1.c, .slice s3 K1.length t3] 24) = X := ⟨_, rfl⟩
    have hbX : Below X2.heap.size X2 X3 := by rw [← hX3]; exact hb1.alloc hb1.size _
    have HN3 : Hid (BlockAt X3 w.heap.size #[.int .i64 A, .int .i64 B, .int .i64 C, .slice va cs.length vc] 24 ∧ Ints X3 (.slice va cs.length vc) cs ∧ BlockAt X3 q2.heap.size #[.int .i64 L0.a, .int .i64 L0.b, .int .i64 L0.c, .slice s2 K0.length t2] 24 ∧ Ints X3 (.slice s2 K0.length t2) K0 ∧ BlockAt X3 q3.heap.size #[.int .i64 L1.a, .int .i64 L1.b, .int .i64 L1.c, .slice s3 K1.length t3] 24 ∧ Ints X3 (.slice s3 K1.length t3) K1 ∧ Below w.heap.size w X3) := Lib.hid ⟨HN2.out.1.below hbX HN2.out.1.lt, Ints.all HN2.out.2.1 hbX, HN2.out.2.2.1.below hbX HN2.out.2.2.1.lt, Ints.all HN2.out.2.2.2.1 hbX, (by rw [← hX3]; exact BlockAt.new _ _ _), (by rw [← hX3]; exact (OwnI.alloc hown _).ints), later HN2.out.2.2.2.2 HN2.out.2.2.2.2.size hbX⟩
    clear hown hb1 hbX c0 c1 c2 c3 hX2 HN2
    have c0 : World.cell? _ _ = some (.int .i64 L1.a) := HN3.out.2.2.2.2.1.cell 0
    have c1 : World.cell? _ _ = some (.int .i64 L1.b) := HN3.out.2.2.2.2.1.cell 1
    have c2 : World.cell? _ _ = some (.int .i64 L1.c) := HN3.out.2.2.2.2.1.cell 2
    have c3 : World.cell? _ _ = some (.slice s3 K1.length t3) := HN3.out.2.2.2.2.1.cell 3
    go_wp2_with (rw [hX3])
    go_wp2_with fail
    refine (T2.out _ _ HN3.out.2.2.2.2.2.1).mono ?_
    rintro e q4 ⟨u4, rfl, hown, hb1⟩
    obtain ⟨s4, t4, rfl⟩ := hown.form
    obtain ⟨X4, hX4⟩ : ∃ X, q4.alloc (.cells #[.int .i64 L2.a, .int .i64 L2.b, .int .i64 L2.c, .slice s4 K2.length t4] 24) = X := ⟨_, rfl⟩
    have hbX : Below X3.heap.size X3 X4 := by rw [← hX4]; exact hb1.alloc hb1.size _
    have HN4 : Hid (BlockAt X4 w.heap.size #[.int .i64 A, .int .i64 B, .int .i64 C, .slice va cs.length vc] 24 ∧ Ints X4 (.slice va cs.length vc) cs ∧ BlockAt X4 q2.heap.size #[.int .i64 L0.a, .int .i64 L0.b, .int .i64 L0.c, .slice s2 K0.length t2] 24 ∧ Ints X4 (.slice s2 K0.length t2) K0 ∧ BlockAt X4 q3.heap.size #[.int .i64 L1.a, .int .i64 L1.b, .int .i64 L1.c, .slice s3 K1.length t3] 24 ∧ Ints X4 (.slice s3 K1.length t3) K1 ∧ BlockAt X4 q4.heap.size #[.int .i64 L2.a, .int .i64 L2.b, .int .i64 L2.c, .slice s4 K2.length t4] 24 ∧ Ints X4 (.slice s4 K2.length t4) K2 ∧ Below w.heap.size w X4) := Lib.hid ⟨HN3.out.1.below hbX HN3.out.1.lt, Ints.all HN3.out.2.1 hbX, HN3.out.2.2.1.below hbX HN3.out.2.2.1.lt, Ints.all HN3.out.2.2.2.1 hbX, HN3.out.2.2.2.2.1.below hbX HN3.out.2.2.2.2.1.lt, Ints.all HN3.out.2.2.2.2.2.1 hbX, (by rw [← hX4]; exact BlockAt.new _ _ _), (by rw [← hX4]; exact (OwnI.alloc hown _).ints), later HN3.out.2.2.2.2.2.2 HN3.out.2.2.2.2.2.2.size hbX⟩
    clear hown hb1 hbX c0 c1 c2 c3 hX3 HN3
    have c0 : World.cell? _ _ = some (.int .i64 L2.a) := HN4.out.2.2.2.2.2.2.1.cell 0
    have c1 : World.cell? _ _ = some (.int .i64 L2.b) := HN4.out.2.2.2.2.2.2.1.cell 1
    have c2 : World.cell? _ _ = some (.int .i64 L2.c) := HN4.out.2.2.2.2.2.2.1.cell 2
    have c3 : World.cell? _ _ = some (.slice s4 K2.length t4) := HN4.out.2.2.2.2.2.2.1.cell 3
    go_wp2_with (rw [hX4])
    go_wp2_with fail
    refine (T3.out _ _ HN4.out.2.2.2.2.2.2.2.1).mono ?_
    rintro e q5 ⟨u5, rfl, hown, hb1⟩
    obtain ⟨s5, t5, rfl⟩ := hown.form
    obtain ⟨X5, hX5⟩ : ∃ X, q5.alloc (.cells #[.int .i64 L3.a, .int .i64 L3.b, .int .i64 L3.c, .slice s5 K3.length t5] 24) = X := ⟨_, rfl⟩
    have hbX : Below X4.heap.size X4 X5 := by rw [← hX5]; exact hb1.alloc hb1.size _
    have HN5 : Hid (BlockAt X5 w.heap.size #[.int .i64 A, .int .i64 B, .int .i64 C, .slice va cs.length vc] 24 ∧ Ints X5 (.slice va cs.length vc) cs ∧ BlockAt X5 q2.heap.size #[.int .i64 L0.a, .int .i64 L0.b, .int .i64 L0.c, .slice s2 K0.length t2] 24 ∧ Ints X5 (.slice s2 K0.length t2) K0 ∧ BlockAt X5 q3.heap.size #[.int .i64 L1.a, .int .i64 L1.b, .int .i64 L1.c, .slice s3 K1.length t3] 24 ∧ Ints X5 (.slice s3 K1.length t3) K1 ∧ BlockAt X5 q4.heap.size #[.int .i64 L2.a, .int .i64 L2.b, .int .i64 L2.c, .slice s4 K2.length t4] 24 ∧ Ints X5 (.slice s4 K2.length t4) K2 ∧ BlockAt X5 q5.heap.size #[.int .i64 L3.a, .int .i64 L3.b, .int .i64 L3.c, .slice s5 K3.length t5] 24 ∧ Ints X5 (.slice s5 K3.length t5) K3 ∧ Below w.heap.size w X5) := Lib.hid ⟨HN4.out.1.below hbX HN4.out.1.lt, Ints.all HN4.out.2.1 hbX, HN4.out.2.2.1.below hbX HN4.out.2.2.1.lt, Ints.all HN4.out.2.2.2.1 hbX, HN4.out.2.2.2.2.1.below hbX HN4.out.2.2.2.2.1.lt, Ints.all HN4.out.2.2.2.2.2.1 hbX, HN4.out.2.2.2.2.2.2.1.below hbX HN4.out.2.2.2.2.2.2.1.lt, Ints.all HN4.out.2.2.2.2.2.2.2.1 hbX, (by rw [← hX5]; exact BlockAt.new _ _ _), (by rw [← hX5]; exact (OwnI.alloc hown _).ints), later HN4.out.2.2.2.2.2.2.2.2 HN4.out.2.2.2.2.2.2.2.2.size hbX⟩
    clear hown hb1 hbX c0 c1 c2 c3 hX4 HN4
    have c0 : World.cell? _ _ = some (.int .i64 L3.a) := HN5.out.2.2.2.2.2.2.2.2.1.cell 0
    have c1 : World.cell? _ _ = some (.int .i64 L3.b) := HN5.out.2.2.2.2.2.2.2.2.1.cell 1
    have c2 : World.cell? _ _ = some (.int .i64 L3.c) := HN5.out.2.2.2.2.2.2.2.2.1.cell 2
    have c3 : World.cell? _ _ = some (.slice s5 K3.length t5) := HN5.out.2.2.2.2.2.2.2.2.1.cell 3
    go_wp2_with (rw [hX5])
    go_wp2_with fail
    refine (T4.out _ _ HN5.out.2.2.2.2.2.2.2.2.2.1).mono ?_
    rintro e q6 ⟨u6, rfl, hown, hb1⟩
    obtain ⟨s6, t6, rfl⟩ := hown.form
    obtain ⟨X6, hX6⟩ : ∃ X, q6.alloc (.cells #[.int .i64 L0.a, .int .i64 L0.b, .int .i64 L0.c, .slice s6 K0.length t6] 24) = X := ⟨_, rfl⟩
    have hbX : Below X5.heap.size X5 X6 := by rw [← hX6]; exact hb1.alloc hb1.size _
    have HN6 : Hid (BlockAt X6 w.heap.size #[.int .i64 A, .int .i64 B, .int .i64 C, .slice va cs.length vc] 24 ∧ Ints X6 (.slice va cs.length vc) cs ∧ BlockAt X6 q2.heap.size #[.int .i64 L0.a, .int .i64 L0.b, .int .i64 L0.c, .slice s2 K0.length t2] 24 ∧ Ints X6 (.slice s2 K0.length t2) K0 ∧ BlockAt X6 q3.heap.size #[.int .i64 L1.a, .int .i64 L1.b, .int .i64 L1.c, .slice s3 K1.length t3] 24 ∧ Ints X6 (.slice s3 K1.length t3) K1 ∧ BlockAt X6 q4.heap.size #[.int .i64 L2.a, .int .i64 L2.b, .int .i64 L2.c, .slice s4 K2.length t4] 24 ∧ Ints X6 (.slice s4 K2.length t4) K2 ∧ BlockAt X6 q5.heap.size #[.int .i64 L3.a, .int .i64 L3.b, .int .i64 L3.c, .slice s5 K3.length t5] 24 ∧ Ints X6 (.slice s5 K3.length t5) K3 ∧ BlockAt X6 q6.heap.size #[.int .i64 L0.a, .int .i64 L0.b, .int .i64 L0.c, .slice s6 K0.length t6] 24 ∧ Ints X6 (.slice s6 K0.length t6) K0 ∧ Below w.heap.size w X6) := Lib.hid ⟨HN5.out.1.below hbX HN5.out.1.lt, Ints.all HN5.out.2.1 hbX, HN5.out.2.2.1.below hbX HN5.out.2.2.1.lt, Ints.all HN5.out.2.2.2.1 hbX, HN5.out.2.2.2.2.1.below hbX HN5.out.2.2.2.2.1.lt, Ints.all HN5.out.2.2.2.2.2.1 hbX, HN5.out.2.2.2.2.2.2.1.below hbX HN5.out.2.2.2.2.2.2.1.lt, Ints.all HN5.out.2.2.2.2.2.2.2.1 hbX, HN5.out.2.2.2.2.2.2.2.2.1.below hbX HN5.out.2.2.2.2.2.2.2.2.1.lt, Ints.all HN5.out.2.2.2.2.2.2.2.2.2.1 hbX, (by rw [← hX6]; exact BlockAt.new _ _ _), (by rw [← hX6]; exact (OwnI.alloc hown _).ints), later HN5.out.2.2.2.2.2.2.2.2.2.2 HN5.out.2.2.2.2.2.2.2.2.2.2.size hbX⟩
    clear hown hb1 hbX c0 c1 c2 c3 hX5 HN5
    have c0 : World.cell? _ _ = some (.int .i64 A) := HN6.out.1.cell 0
    have c1 : World.cell? _ _ = some (.int .i64 B) := HN6.out.1.cell 1
    have c2 : World.cell? _ _ = some (.int .i64 C) := HN6.out.1.cell 2
    have c3 : World.cell? _ _ = some (.slice va cs.length vc) := HN6.out.1.cell 3
    go_wp2_with (rw [hX6])
    go_wp2_with fail
    refine (M1.out _ _ HN6.out.2.1).mono ?_
    rintro e q7 ⟨u7, rfl, hown, hb1⟩
    obtain ⟨s7, t7, rfl⟩ := hown.form
    obtain ⟨X7, hX7⟩ : ∃ X, q7.alloc (.cells #[.int .i64 Lm.a, .int .i64 Lm.b, .int .i64 Lm.c, .slice s7 Km.length t7] 24) = X := ⟨_, rfl⟩
    have hbX : Below X6.heap.size X6 X7 := by rw [← hX7]; exact hb1.alloc hb1.size _
    have HN7 : Hid (BlockAt X7 w.heap.size #[.int .i64 A, .int .i64 B, .int .i64 C, .slice va cs.length vc] 24 ∧ Ints X7 (.slice va cs.length vc) cs ∧ BlockAt X7 q2.heap.size #[.int .i64 L0.a, .int .i64 L0.b, .int .i64 L0.c, .slice s2 K0.length t2] 24 ∧ Ints X7 (.slice s2 K0.length t2) K0 ∧ BlockAt X7 q3.heap.size #[.int .i64 L1.a, .int .i64 L1.b, .int .i64 L1.c, .slice s3 K1.length t3] 24 ∧ Ints X7 (.slice s3 K1.length t3) K1 ∧ BlockAt X7 q4.heap.size #[.int .i64 L2.a, .int .i64 L2.b, .int .i64 L2.c, .slice s4 K2.length t4] 24 ∧ Ints X7 (.slice s4 K2.length t4) K2 ∧ BlockAt X7 q5.heap.size #[.int .i64 L3.a, .int .i64 L3.b, .int .i64 L3.c, .slice s5 K3.length t5] 24 ∧ Ints X7 (.slice s5 K3.length t5) K3 ∧ BlockAt X7 q6.heap.size #[.int .i64 L0.a, .int .i64 L0.b, .int .i64 L0.c, .slice s6 K0.length t6] 24 ∧ Ints X7 (.slice s6 K0.length t6) K0 ∧ BlockAt X7 q7.heap.size #[.int .i64 Lm.a, .int .i64 Lm.b, .int .i64 Lm.c, .slice s7 Km.length t7] 24 ∧ Ints X7 (.slice s7 Km.length t7) Km ∧ Below w.heap.size w X7) := Lib.hid ⟨HN6.out.1.below hbX HN6.out.1.lt, Ints.all HN6.out.2.1 hbX, HN6.out.2.2.1.below hbX HN6.out.2.2.1.lt, Ints.all HN6.out.2.2.2.1 hbX, HN6.out.2.2.2.2.1.below hbX HN6.out.2.2.2.2.1.lt, Ints.all HN6.out.2.2.2.2.2.1 hbX, HN6.out.2.2.2.2.2.2.1.below hbX HN6.out.2.2.2.2.2.2.1.lt, Ints.all HN6.out.2.2.2.2.2.2.2.1 hbX, HN6.out.2.2.2.2.2.2.2.2.1.below hbX HN6.out.2.2.2.2.2.2.2.2.1.lt, Ints.all HN6.out.2.2.2.2.2.2.2.2.2.1 hbX, HN6.out.2.2.2.2.2.2.2.2.2.2.1.below hbX HN6.out.2.2.2.2.2.2.2.2.2.2.1.lt, Ints.all HN6.out.2.2.2.2.2.2.2.2.2.2.2.1 hbX, (by rw [← hX7]; exact BlockAt.new _ _ _), (by rw [← hX7]; exact (OwnI.alloc hown _).ints), later HN6.out.2.2.2.2.2.2.2.2.2.2.2.2 HN6.out.2.2.2.2.2.2.2.2.2.2.2.2.size hbX⟩
    clear hown hb1 hbX c0 c1 c2 c3 hX6 HN6
    have c0 : World.cell? _ _ = some (.int .i64 Lm.a) := HN7.out.2.2.2.2.2.2.2.2.2.2.2.2.1.cell 0
    have c1 : World.cell? _ _ = some (.int .i64 Lm.b) := HN7.out.2.2.2.2.2.2.2.2.2.2.2.2.1.cell 1
    have c2 : World.cell? _ _ = some (.int .i64 Lm.c) := HN7.out.2.2.2.2.2.2.2.2.2.2.2.2.1.cell 2
    have c3 : World.cell? _ _ = some (.slice s7 Km.length t7) := HN7.out.2.2.2.2.2.2.2.2.2.2.2.2.1.cell 3
    go_wp2_with (rw [hX7])
    go_wp2_with fail
    refine (M2.out _ _ HN7.out.2.2.2.2.2.2.2.2.2.2.2.2.2.1).mono ?_
    rintro e q8 ⟨u8, rfl, hown, hb1⟩
    obtain ⟨s8, t8, rfl⟩ := hown.form
    obtain ⟨X8, hX8⟩ : ∃ X, q8.alloc (.cells #[.int .i64 L0.a, .int .i64 L0.b, .int .i64 L0.c, .slice s8 K0.length t8] 24) = X := ⟨_, rfl⟩
    have hbX : Below X7.heap.size X7 X8 := by rw [← hX8]; exact hb1.alloc hb1.size _
    have HN8 : Hid (BlockAt X8 w.heap.size #[.int .i64 A, .int .i64 B, .int .i64 C, .slice va cs.length vc] 24 ∧ Ints X8 (.slice va cs.length vc) cs ∧ BlockAt X8 q2.heap.size #[.int .i64 L0.a, .int .i64 L0.b, .int .i64 L0.c, .slice s2 K0.length t2] 24 ∧ Ints X8 (.slice s2 K0.length t2) K0 ∧ BlockAt X8 q3.heap.size #[.int .i64 L1.a, .int .i64 L1.b, .int .i64 L1.c, .slice s3 K1.length t3] 24 ∧ Ints X8 (.slice s3 K1.length t3) K1 ∧ BlockAt X8 q4.heap.size #[.int .i64 L2.a, .int .i64 L2.b, .int .i64 L2.c, .slice s4 K2.length t4] 24 ∧ Ints X8 (.slice s4 K2.length t4) K2 ∧ BlockAt X8 q5.heap.size #[.int .i64 L3.a, .int .i64 L3.b, .int .i64 L3.c, .slice s5 K3.length t5] 24 ∧ Ints X8 (.slice s5 K3.length t5) K3 ∧ BlockAt X8 q6.heap.size #[.int .i64 L0.a, .int .i64 L0.b, .int .i64 L0.c, .slice s6 K0.length t6] 24 ∧ Ints X8 (.slice s6 K0.length t6) K0 ∧ BlockAt X8 q7.heap.size #[.int .i64 Lm.a, .int .i64 Lm.b, .int .i64 Lm.c, .slice s7 Km.length t7] 24 ∧ Ints X8 (.slice s7 Km.length t7) Km ∧ BlockAt X8 q8.heap.size #[.int .i64 L0.a, .int .i64 L0.b, .int .i64 L0.c, .slice s8 K0.length t8] 24 ∧ Ints X8 (.slice s8 K0.length t8) K0 ∧ Below w.heap.size w X8) := Lib.hid ⟨HN7.out.1.below hbX HN7.out.1.lt, Ints.all HN7.out.2.1 hbX, HN7.out.2.2.1.below hbX HN7.out.2.2.1.lt, Ints.all HN7.out.2.2.2.1 hbX, HN7.out.2.2.2.2.1.below hbX HN7.out.2.2.2.2.1.lt, Ints.all HN7.out.2.2.2.2.2.1 hbX, HN7.out.2.2.2.2.2.2.1.below hbX HN7.out.2.2.2.2.2.2.1.lt, Ints.all HN7.out.2.2.2.2.2.2.2.1 hbX, HN7.out.2.2.2.2.2.2.2.2.1.below hbX HN7.out.2.2.2.2.2.2.2.2.1.lt, Ints.all HN7.out.2.2.2.2.2.2.2.2.2.1 hbX, HN7.out.2.2.2.2.2.2.2.2.2.2.1.below hbX HN7.out.2.2.2.2.2.2.2.2.2.2.1.lt, Ints.all HN7.out.2.2.2.2.2.2.2.2.2.2.2.1 hbX, HN7.out.2.2.2.2.2.2.2.2.2.2.2.2.1.below hbX HN7.out.2.2.2.2.2.2.2.2.2.2.2.2.1.lt, Ints.all HN7.out.2.2.2.2.2.2.2.2.2.2.2.2.2.1 hbX, (by rw [← hX8]; exact BlockAt.new _ _ _), (by rw [← hX8]; exact (OwnI.alloc hown _).ints), later HN7.out.2.2.2.2.2.2.2.2.2.2.2.2.2.2 HN7.out.2.2.2.2.2.2.2.2.2.2.2.2.2.2.size hbX⟩
    clear hown hb1 hbX c0 c1 c2 c3 hX7 HN7
    have c0 : World.cell? _ _ = some (.int .i64 L1.a) := HN8.out.2.2.2.2.1.cell 0
    have c1 : World.cell? _ _ = some (.int .i64 L1.b) := HN8.out.2.2.2.2.1.cell 1
    have c2 : World.cell? _ _ = some (.int .i64 L1.c) := HN8.out.2.2.2.2.1.cell 2
    have c3 : World.cell? _ _ = some (.slice s3 K1.length t3) := HN8.out.2.2.2.2.1.cell 3
    go_wp2_with (rw [hX8])
    go_wp2_with fail
    refine (M3.out _ _ HN8.out.2.2.2.2.2.1).mono ?_
    rintro e q9 ⟨u9, rfl, hown, hb1⟩
    obtain ⟨s9, t9, rfl⟩ := hown.form
    obtain ⟨X9, hX9⟩ : ∃ X, q9.alloc (.cells #[.int .i64 La.a, .int .i64 La.b, .int .i64 La.c, .slice s9 Ka.length t9] 24) = X := ⟨_, rfl⟩
    have hbX : Below X8.heap.size X8 X9 := by rw [← hX9]; exact hb1.alloc hb1.size _
    have HN9 : Hid (BlockAt X9 w.heap.size #[.int .i64 A, .int .i64 B, .int .i64 C, .slice va cs.length vc] 24 ∧ Ints X9 (.slice va cs.length vc) cs ∧ BlockAt X9 q2.heap.size #[.int .i64 L0.a, .int .i64 L0.b, .int .i64 L0.c, .slice s2 K0.length t2] 24 ∧ Ints X9 (.slice s2 K0.length t2) K0 ∧ BlockAt X9 q3.heap.size #[.int .i64 L1.a, .int .i64 L1.b, .int .i64 L1.c, .slice s3 K1.length t3] 24 ∧ Ints X9 (.slice s3 K1.length t3) K1 ∧ BlockAt X9 q4.heap.size #[.int .i64 L2.a, .int .i64 L2.b, .int .i64 L2.c, .slice s4 K2.length t4] 24 ∧ Ints X9 (.slice s4 K2.length t4) K2 ∧ BlockAt X9 q5.heap.size #[.int .i64 L3.a, .int .i64 L3.b, .int .i64 L3.c, .slice s5 K3.length t5] 24 ∧ Ints X9 (.slice s5 K3.length t5) K3 ∧ BlockAt X9 q6.heap.size #[.int .i64 L0.a, .int .i64 L0.b, .int .i64 L0.c, .slice s6 K0.length t6] 24 ∧ Ints X9 (.slice s6 K0.length t6) K0 ∧ BlockAt X9 q7.heap.size #[.int .i64 Lm.a, .int .i64 Lm.b, .int .i64 Lm.c, .slice s7 Km.length t7] 24 ∧ Ints X9 (.slice s7 Km.length t7) Km ∧ BlockAt X9 q8.heap.size #[.int .i64 L0.a, .int .i64 L0.b, .int .i64 L0.c, .slice s8 K0.length t8] 24 ∧ Ints X9 (.slice s8 K0.length t8) K0 ∧ BlockAt X9 q9.heap.size #[.int .i64 La.a, .int .i64 La.b, .int .i64 La.c, .slice s9 Ka.length t9] 24 ∧ Ints X9 (.slice s9 Ka.length t9) Ka ∧ Below w.heap.size w X9) := Lib.hid ⟨HN8.out.1.below hbX HN8.out.1.lt, Ints.all HN8.out.2.1 hbX, HN8.out.2.2.1.below hbX HN8.out.2.2.1.lt, Ints.all HN8.out.2.2.2.1 hbX, HN8.out.2.2.2.2.1.below hbX HN8.out.2.2.2.2.1.lt, Ints.all HN8.out.2.2.2.2.2.1 hbX, HN8.out.2.2.2.2.2.2.1.below hbX HN8.out.2.2.2.2.2.2.1.lt, Ints.all HN8.out.2.2.2.2.2.2.2.1 hbX, HN8.out.2.2.2.2.2.2.2.2.1.below hbX HN8.out.2.2.2.2.2.2.2.2.1.lt, Ints.all HN8.out.2.2.2.2.2.2.2.2.2.1 hbX, HN8.out.2.2.2.2.2.2.2.2.2.2.1.below hbX HN8.out.2.2.2.2.2.2.2.2.2.2.1.lt, Ints.all HN8.out.2.2.2.2.2.2.2.2.2.2.2.1 hbX, HN8.out.2.2.2.2.2.2.2.2.2.2.2.2.1.below hbX HN8.out.2.2.2.2.2.2.2.2.2.2.2.2.1.lt, Ints.all HN8.out.2.2.2.2.2.2.2.2.2.2.2.2.2.1 hbX, HN8.out.2.2.2.2.2.2.2.2.2.2.2.2.2.2.1.below hbX HN8.out.2.2.2.2.2.2.2.2.2.2.2.2.2.2.1.lt, Ints.all HN8.out.2.2.2.2.2.2.2.2.2.2.2.2.2.2.2.1 hbX, (by rw [← hX9]; exact BlockAt.new _ _ _), (by rw [← hX9]; exact (OwnI.alloc hown _).ints), later HN8.out.2.2.2.2.2.2.2.2.2.2.2.2.2.2.2.2 HN8.out.2.2.2.2.2.2.2.2.2.2.2.2.2.2.2.2.size hbX⟩
    clear hown hb1 hbX c0 c1 c2 c3 hX8 HN8
    have c0 : World.cell? _ _ = some (.int .i64 L3.a) := HN9.out.2.2.2.2.2.2.2.2.1.cell 0
    have c1 : World.cell? _ _ = some (.int .i64 L3.b) := HN9.out.2.2.2.2.2.2.2.2.1.cell 1
    have c2 : World.cell? _ _ = some (.int .i64 L3.c) := HN9.out.2.2.2.2.2.2.2.2.1.cell 2
    have c3 : World.cell? _ _ = some (.slice s5 K3.length t5) := HN9.out.2.2.2.2.2.2.2.2.1.cell 3
    go_wp2_with (rw [hX9])
    go_wp2_with fail
    refine (M4.out _ _ HN9.out.2.2.2.2.2.2.2.2.2.1).mono ?_
    rintro e q10 ⟨u10, rfl, hown, hb1⟩
    obtain ⟨s10, t10, rfl⟩ := hown.form
    obtain ⟨X10, hX10⟩ : ∃ X, q10.alloc (.cells #[.int .i64 Lb.a, .int .i64 Lb.b, .int .i64 Lb.c, .slice s10 Kb'.length t10] 24) = X := ⟨_, rfl⟩
    have hbX : Below X9.heap.size X9 X10 := by rw [← hX10]; exact hb1.alloc hb1.size _
    have HN10 : Hid (BlockAt X10 w.heap.size #[.int .i64 A, .int .i64 B, .int .i64 C, .slice va cs.length vc] 24 ∧ Ints X10 (.slice va cs.length vc) cs ∧ BlockAt X10 q2.heap.size #[.int .i64 L0.a, .int .i64 L0.b, .int .i64 L0.c, .slice s2 K0.length t2] 24 ∧ Ints X10 (.slice s2 K0.length t2) K0 ∧ BlockAt X10 q3.heap.size #[.int .i64 L1.a, .int .i64 L1.b, .int .i64 L1.c, .slice s3 K1.length t3] 24 ∧ Ints X10 (.slice s3 K1.length t3) K1 ∧ BlockAt X10 q4.heap.size #[.int .i64 L2.a, .int .i64 L2.b, .int .i64 L2.c, .slice s4 K2.length t4] 24 ∧ Ints X10 (.slice s4 K2.length t4) K2 ∧ BlockAt X10 q5.heap.size #[.int .i64 L3.a, .int .i64 L3.b, .int .i64 L3.c, .slice s5 K3.length t5] 24 ∧ Ints X10 (.slice s5 K3.length t5) K3 ∧ BlockAt X10 q6.heap.size #[.int .i64 L0.a, .int .i64 L0.b, .int .i64 L0.c, .slice s6 K0.length t6] 24 ∧ Ints X10 (.slice s6 K0.length t6) K0 ∧ BlockAt X10 q7.heap.size #[.int .i64 Lm.a, .int .i64 Lm.b, .int .i64 Lm.c, .slice s7 Km.length t7] 24 ∧ Ints X10 (.slice s7 Km.length t7) Km ∧ BlockAt X10 q8.heap.size #[.int .i64 L0.a, .int .i64 L0.b, .int .i64 L0.c, .slice s8 K0.length t8] 24 ∧ Ints X10 (.slice s8 K0.length t8) K0 ∧ BlockAt X10 q9.heap.size #[.int .i64 La.a, .int .i64 La.b, .int .i64 La.c, .slice s9 Ka.length t9] 24 ∧ Ints X10 (.slice s9 Ka.length t9) Ka ∧ BlockAt X10 q10.heap.size #[.int .i64 Lb.a, .int .i64 Lb.b, .int .i64 Lb.c, .slice s10 Kb'.length t10] 24 ∧ Ints X10 (.slice s10 Kb'.length t10) Kb' ∧ Below w.heap.size w X10) := Lib.hid ⟨HN9.out.1.below hbX HN9.out.1.lt, Ints.all HN9.out.2.1 hbX, HN9.out.2.2.1.below hbX HN9.out.2.2.1.lt, Ints.all HN9.out.2.2.2.1 hbX, HN9.out.2.2.2.2.1.below hbX HN9.out.2.2.2.2.1.lt, Ints.all HN9.out.2.2.2.2.2.1 hbX, HN9.out.2.2.2.2.2.2.1.below hbX HN9.out.2.2.2.2.2.2.1.lt, Ints.all HN9.out.2.2.2.2.2.2.2.1 hbX, HN9.out.2.2.2.2.2.2.2.2.1.below hbX HN9.out.2.2.2.2.2.2.2.2.1.lt, Ints.all HN9.out.2.2.2.2.2.2.2.2.2.1 hbX, HN9.out.2.2.2.2.2.2.2.2.2.2.1.below hbX HN9.out.2.2.2.2.2.2.2.2.2.2.1.lt, Ints.all HN9.out.2.2.2.2.2.2.2.2.2.2.2.1 hbX, HN9.out.2.2.2.2.2.2.2.2.2.2.2.2.1.below hbX HN9.out.2.2.2.2.2.2.2.2.2.2.2.2.1.lt, Ints.all HN9.out.2.2.2.2.2.2.2.2.2.2.2.2.2.1 hbX, HN9.out.2.2.2.2.2.2.2.2.2.2.2.2.2.2.1.below hbX HN9.out.2.2.2.2.2.2.2.2.2.2.2.2.2.2.1.lt, Ints.all HN9.out.2.2.2.2.2.2.2.2.2.2.2.2.2.2.2.1 hbX, HN9.out.2.2.2.2.2.2.2.2.2.2.2.2.2.2.2.2.1.below hbX HN9.out.2.2.2.2.2.2.2.2.2.2.2.2.2.2.2.2.1.lt, Ints.all HN9.out.2.2.2.2.2.2.2.2.2.2.2.2.2.2.2.2.2.1 hbX, (by rw [← hX10]; exact BlockAt.new _ _ _), (by rw [← hX10]; exact (OwnI.alloc hown _).ints), later HN9.out.2.2.2.2.2.2.2.2.2.2.2.2.2.2.2.2.2.2 HN9.out.2.2.2.2.2.2.2.2.2.2.2.2.2.2.2.2.2.2.size hbX⟩
    clear hown hb1 hbX c0 c1 c2 c3 hX9 HN9
    have c0 : World.cell? _ _ = some (.int .i64 Lm.a) := HN10.out.2.2.2.2.2.2.2.2.2.2.2.2.1.cell 0
    have c1 : World.cell? _ _ = some (.int .i64 Lm.b) := HN10.out.2.2.2.2.2.2.2.2.2.2.2.2.1.cell 1
    have c2 : World.cell? _ _ = some (.int .i64 Lm.c) := HN10.out.2.2.2.2.2.2.2.2.2.2.2.2.1.cell 2
    have c3 : World.cell? _ _ = some (.slice s7 Km.length t7) := HN10.out.2.2.2.2.2.2.2.2.2.2.2.2.1.cell 3
    go_wp2_with (rw [hX10])
    go_wp2_with fail
    refine (T5.out _ _ HN10.out.2.2.2.2.2.2.2.2.2.2.2.2.2.1).mono ?_
    rintro e q11 ⟨u11, rfl, hown, hb1⟩
    obtain ⟨s11, t11, rfl⟩ := hown.form
    obtain ⟨X11, hX11⟩ : ∃ X, q11.alloc (.cells #[.int .i64 Lb.a, .int .i64 Lb.b, .int .i64 Lb.c, .slice s11 Kb'.length t11] 24) = X := ⟨_, rfl⟩
    have hbX : Below X10.heap.size X10 X11 := by rw [← hX11]; exact hb1.alloc hb1.size _
    have HN11 : Hid (BlockAt X11 w.heap.size #[.int .i64 A, .int .i64 B, .int .i64 C, .slice va cs.length vc] 24 ∧ Ints X11 (.slice va cs.length vc) cs ∧ BlockAt X11 q2.heap.size #[.int .i64 L0.a, .int .i64 L0.b, .int .i64 L0.c, .slice s2 K0.length t2] 24 ∧ Ints X11 (.slice s2 K0.length t2) K0 ∧ BlockAt X11 q3.heap.size #[.int .i64 L1.a, .int .i64 L1.b, .int .i64 L1.c, .slice s3 K1.length t3] 24 ∧ Ints X11 (.slice s3 K1.length t3) K1 ∧ BlockAt X11 q4.heap.size #[.int .i64 L2.a, .int .i64 L2.b, .int .i64 L2.c, .slice s4 K2.length t4] 24 ∧ Ints X11 (.slice s4 K2.length t4) K2 ∧ BlockAt X11 q5.heap.size #[.int .i64 L3.a, .int .i64 L3.b, .int .i64 L3.c, .slice s5 K3.length t5] 24 ∧ Ints X11 (.slice s5 K3.length t5) K3 ∧ BlockAt X11 q6.heap.size #[.int .i64 L0.a, .int .i64 L0.b, .int .i64 L0.c, .slice s6 K0.length t6] 24 ∧ Ints X11 (.slice s6 K0.length t6) K0 ∧ BlockAt X11 q7.heap.size #[.int .i64 Lm.a, .int .i64 Lm.b, .int .i64 Lm.c, .slice s7 Km.length t7] 24 ∧ Ints X11 (.slice s7 Km.length t7) Km ∧ BlockAt X11 q8.heap.size #[.int .i64 L0.a, .int .i64 L0.b, .int .i64 L0.c, .slice s8 K0.length t8] 24 ∧ Ints X11 (.slice s8 K0.length t8) K0 ∧ BlockAt X11 q9.heap.size #[.int .i64 La.a, .int .i64 La.b, .int .i64 La.c, .slice s9 Ka.length t9] 24 ∧ Ints X11 (.slice s9 Ka.length t9) Ka ∧ BlockAt X11 q10.heap.size #[.int .i64 Lb.a, .int .i64 Lb.b, .int .i64 Lb.c, .slice s10 Kb'.length t10] 24 ∧ Ints X11 (.slice s10 Kb'.length t10) Kb' ∧ BlockAt X11 q11.heap.size #[.int .i64 Lb.a, .int .i64 Lb.b, .int .i64 Lb.c, .slice s11 Kb'.length t11] 24 ∧ Ints X11 (.slice s11 Kb'.length t11) Kb' ∧ Below w.heap.size w X11) := Lib.hid ⟨HN10.out.1.below hbX HN10.out.1.lt, Ints.all HN10.out.2.1 hbX, HN10.out.2.2.1.below hbX HN10.out.2.2.1.lt, Ints.all HN10.out.2.2.2.1 hbX, HN10.out.2.2.2.2.1.below hbX HN10.out.2.2.2.2.1.lt, Ints.all HN10.out.2.2.2.2.2.1 hbX, HN10.out.2.2.2.2.2.2.1.below hbX HN10.out.2.2.2.2.2.2.1.lt, Ints.all HN10.out.2.2.2.2.2.2.2.1 hbX, HN10.out.2.2.2.2.2.2.2.2.1.below hbX HN10.out.2.2.2.2.2.2.2.2.1.lt, Ints.all HN10.out.2.2.2.2.2.2.2.2.2.1 hbX, HN10.out.2.2.2.2.2.2.2.2.2.2.1.below hbX HN10.out.2.2.2.2.2.2.2.2.2.2.1.lt, Ints.all HN10.out.2.2.2.2.2.2.2.2.2.2.2.1 hbX, HN10.out.2.2.2.2.2.2.2.2.2.2.2.2.1.below hbX HN10.out.2.2.2.2.2.2.2.2.2.2.2.2.1.lt, Ints.all HN10.out.2.2.2.2.2.2.2.2.2.2.2.2.2.1 hbX, HN10.out.2.2.2.2.2.2.2.2.2.2.2.2.2.2.1.below hbX HN10.out.2.2.2.2.2.2.2.2.2.2.2.2.2.2.1.lt, Ints.all HN10.out.2.2.2.2.2.2.2.2.2.2.2.2.2.2.2.1 hbX, HN10.out.2.2.2.2.2.2.2.2.2.2.2.2.2.2.2.2.1.below hbX HN10.out.2.2.2.2.2.2.2.2.2.2.2.2.2.2.2.2.1.lt, Ints.all HN10.out.2.2.2.2.2.2.2.2.2.2.2.2.2.2.2.2.2.1 hbX, HN10.out.2.2.2.2.2.2.2.2.2.2.2.2.2.2.2.2.2.2.1.below hbX HN10.out.2.2.2.2.2.2.2.2.2.2.2.2.2.2.2.2.2.2.1.lt, Ints.all HN10.out.2.2.2.2.2.2.2.2.2.2.2.2.2.2.2.2.2.2.2.1 hbX, (by rw [← hX11]; exact BlockAt.new _ _ _), (by rw [← hX11]; exact (OwnI.alloc hown _).ints), later HN10.out.2.2.2.2.2.2.2.2.2.2.2.2.2.2.2.2.2.2.2.2 HN10.out.2.2.2.2.2.2.2.2.2.2.2.2.2.2.2.2.2.2.2.2.size hbX⟩
    clear hown hb1 hbX c0 c1 c2 c3 hX10 HN10
    have c0 : World.cell? _ _ = some (.int .i64 L0.a) := HN11.out.2.2.2.2.2.2.2.2.2.2.1.cell 0
    have c1 : World.cell? _ _ = some (.int .i64 L0.b) := HN11.out.2.2.2.2.2.2.2.2.2.2.1.cell 1
    have c2 : World.cell? _ _ = some (.int .i64 L0.c) := HN11.out.2.2.2.2.2.2.2.2.2.2.1.cell 2
    have c3 : World.cell? _ _ = some (.slice s6 K0.length t6) := HN11.out.2.2.2.2.2.2.2.2.2.2.1.cell 3
    have d0 : World.cell? _ _ = some (.int .i64 L0.a) := HN11.out.2.2.1.cell 0
    have d1 : World.cell? _ _ = some (.int .i64 L0.b) := HN11.out.2.2.1.cell 1
    have d2 : World.cell? _ _ = some (.int .i64 L0.c) := HN11.out.2.2.1.cell 2
    have d3 : World.cell? _ _ = some (.slice s2 K0.length t2) := HN11.out.2.2.1.cell 3
    go_wp2_with (rw [hX11])
    go_wp2_with fail
    refine (EQ0.out _ _ _ HN11.out.2.2.2.2.2.2.2.2.2.2.2.1 HN11.out.2.2.2.1).mono ?_
    rintro e X12 ⟨rfl, hb1⟩
    have HN12 : Hid (BlockAt X12 w.heap.size #[.int .i64 A, .int .i64 B, .int .i64 C, .slice va cs.length vc] 24 ∧ Ints X12 (.slice va cs.length vc) cs ∧ BlockAt X12 q2.heap.size #[.int .i64 L0.a, .int .i64 L0.b, .int .i64 L0.c, .slice s2 K0.length t2] 24 ∧ Ints X12 (.slice s2 K0.length t2) K0 ∧ BlockAt X12 q3.heap.size #[.int .i64 L1.a, .int .i64 L1.b, .int .i64 L1.c, .slice s3 K1.length t3] 24 ∧ Ints X12 (.slice s3 K1.length t3) K1 ∧ BlockAt X12 q4.heap.size #[.int .i64 L2.a, .int .i64 L2.b, .int .i64 L2.c, .slice s4 K2.length t4] 24 ∧ Ints X12 (.slice s4 K2.length t4) K2 ∧ BlockAt X12 q5.heap.size #[.int .i64 L3.a, .int .i64 L3.b, .int .i64 L3.c, .slice s5 K3.length t5] 24 ∧ Ints X12 (.slice s5 K3.length t5) K3 ∧ BlockAt X12 q6.heap.size #[.int .i64 L0.a, .int .i64 L0.b, .int .i64 L0.c, .slice s6 K0.length t6] 24 ∧ Ints X12 (.slice s6 K0.length t6) K0 ∧ BlockAt X12 q7.heap.size #[.int .i64 Lm.a, .int .i64 Lm.b, .int .i64 Lm.c, .slice s7 Km.length t7] 24 ∧ Ints X12 (.slice s7 Km.length t7) Km ∧ BlockAt X12 q8.heap.size #[.int .i64 L0.a, .int .i64 L0.b, .int .i64 L0.c, .slice s8 K0.length t8] 24 ∧ Ints X12 (.slice s8 K0.length t8) K0 ∧ BlockAt X12 q9.heap.size #[.int .i64 La.a, .int .i64 La.b, .int .i64 La.c, .slice s9 Ka.length t9] 24 ∧ Ints X12 (.slice s9 Ka.length t9) Ka ∧ BlockAt X12 q10.heap.size #[.int .i64 Lb.a, .int .i64 Lb.b, .int .i64 Lb.c, .slice s10 Kb'.length t10] 24 ∧ Ints X12 (.slice s10 Kb'.length t10) Kb' ∧ BlockAt X12 q11.heap.size #[.int .i64 Lb.a, .int .i64 Lb.b, .int .i64 Lb.c, .slice s11 Kb'.length t11] 24 ∧ Ints X12 (.slice s11 Kb'.length t11) Kb' ∧ Below w.heap.size w X12) := Lib.hid ⟨HN11.out.1.below hb1 HN11.out.1.lt, Ints.all HN11.out.2.1 hb1, HN11.out.2.2.1.below hb1 HN11.out.2.2.1.lt, Ints.all HN11.out.2.2.2.1 hb1, HN11.out.2.2.2.2.1.below hb1 HN11.out.2.2.2.2.1.lt, Ints.all HN11.out.2.2.2.2.2.1 hb1, HN11.out.2.2.2.2.2.2.1.below hb1 HN11.out.2.2.2.2.2.2.1.lt, Ints.all HN11.out.2.2.2.2.2.2.2.1 hb1, HN11.out.2.2.2.2.2.2.2.2.1.below hb1 HN11.out.2.2.2.2.2.2.2.2.1.lt, Ints.all HN11.out.2.2.2.2.2.2.2.2.2.1 hb1, HN11.out.2.2.2.2.2.2.2.2.2.2.1.below hb1 HN11.out.2.2.2.2.2.2.2.2.2.2.1.lt, Ints.all HN11.out.2.2.2.2.2.2.2.2.2.2.2.1 hb1, HN11.out.2.2.2.2.2.2.2.2.2.2.2.2.1.below hb1 HN11.out.2.2.2.2.2.2.2.2.2.2.2.2.1.lt, Ints.all HN11.out.2.2.2.2.2.2.2.2.2.2.2.2.2.1 hb1, HN11.out.2.2.2.2.2.2.2.2.2.2.2.2.2.2.1.below hb1 HN11.out.2.2.2.2.2.2.2.2.2.2.2.2.2.2.1.lt, Ints.all HN11.out.2.2.2.2.2.2.2.2.2.2.2.2.2.2.2.1 hb1, HN11.out.2.2.2.2.2.2.2.2.2.2.2.2.2.2.2.2.1.below hb1 HN11.out.2.2.2.2.2.2.2.2.2.2.2.2.2.2.2.2.1.lt, Ints.all HN11.out.2.2.2.2.2.2.2.2.2.2.2.2.2.2.2.2.2.1 hb1, HN11.out.2.2.2.2.2.2.2.2.2.2.2.2.2.2.2.2.2.2.1.below hb1 HN11.out.2.2.2.2.2.2.2.2.2.2.2.2.2.2.2.2.2.2.1.lt, Ints.all HN11.out.2.2.2.2.2.2.2.2.2.2.2.2.2.2.2.2.2.2.2.1 hb1, HN11.out.2.2.2.2.2.2.2.2.2.2.2.2.2.2.2.2.2.2.2.2.1.below hb1 HN11.out.2.2.2.2.2.2.2.2.2.2.2.2.2.2.2.2.2.2.2.2.1.lt, Ints.all HN11.out.2.2.2.2.2.2.2.2.2.2.2.2.2.2.2.2.2.2.2.2.2.1 hb1, later HN11.out.2.2.2.2.2.2.2.2.2.2.2.2.2.2.2.2.2.2.2.2.2.2 HN11.out.2.2.2.2.2.2.2.2.2.2.2.2.2.2.2.2.2.2.2.2.2.2.size hb1⟩
    clear hb1 c0 c1 c2 c3 d0 d1 d2 d3 hX11 HN11
    have c0 : World.cell? _ _ = some (.int .i64 L0.a) := HN12.out.2.2.2.2.2.2.2.2.2.2.2.2.2.2.1.cell 0
    have c1 : World.cell? _ _ = some (.int .i64 L0.b) := HN12.out.2.2.2.2.2.2.2.2.2.2.2.2.2.2.1.cell 1
    have c2 : World.cell? _ _ = some (.int .i64 L0.c) := HN12.out.2.2.2.2.2.2.2.2.2.2.2.2.2.2.1.cell 2
    have c3 : World.cell? _ _ = some (.slice s8 K0.length t8) := HN12.out.2.2.2.2.2.2.2.2.2.2.2.2.2.2.1.cell 3
    have d0 : World.cell? _ _ = some (.int .i64 L0.a) := HN12.out.2.2.1.cell 0
    have d1 : World.cell? _ _ = some (.int .i64 L0.b) := HN12.out.2.2.1.cell 1
    have d2 : World.cell? _ _ = some (.int .i64 L0.c) := HN12.out.2.2.1.cell 2
    have d3 : World.cell? _ _ = some (.slice s2 K0.length t2) := HN12.out.2.2.1.cell 3
    go_wp2_with fail
    refine (EQ0.out _ _ _ HN12.out.2.2.2.2.2.2.2.2.2.2.2.2.2.2.2.1 HN12.out.2.2.2.1).mono ?_
    rintro e X13 ⟨rfl, hb1⟩
    have HN13 : Hid (BlockAt X13 w.heap.size #[.int .i64 A, .int .i64 B, .int .i64 C, .slice va cs.length vc] 24 ∧ Ints X13 (.slice va cs.length vc) cs ∧ BlockAt X13 q2.heap.size #[.int .i64 L0.a, .int .i64 L0.b, .int .i64 L0.c, .slice s2 K0.length t2] 24 ∧ Ints X13 (.slice s2 K0.length t2) K0 ∧ BlockAt X13 q3.heap.size #[.int .i64 L1.a, .int .i64 L1.b, .int .i64 L1.c, .slice s3 K1.length t3] 24 ∧ Ints X13 (.slice s3 K1.length t3) K1 ∧ BlockAt X13 q4.heap.size #[.int .i64 L2.a, .int .i64 L2.b, .int .i64 L2.c, .slice s4 K2.length t4] 24 ∧ Ints X13 (.slice s4 K2.length t4) K2 ∧ BlockAt X13 q5.heap.size #[.int .i64 L3.a, .int .i64 L3.b, .int .i64 L3.c, .slice s5 K3.length t5] 24 ∧ Ints X13 (.slice s5 K3.length t5) K3 ∧ BlockAt X13 q6.heap.size #[.int .i64 L0.a, .int .i64 L0.b, .int .i64 L0.c, .slice s6 K0.length t6] 24 ∧ Ints X13 (.slice s6 K0.length t6) K0 ∧ BlockAt X13 q7.heap.size #[.int .i64 Lm.a, .int .i64 Lm.b, .int .i64 Lm.c, .slice s7 Km.length t7] 24 ∧ Ints X13 (.slice s7 Km.length t7) Km ∧ BlockAt X13 q8.heap.size #[.int .i64 L0.a, .int .i64 L0.b, .int .i64 L0.c, .slice s8 K0.length t8] 24 ∧ Ints X13 (.slice s8 K0.length t8) K0 ∧ BlockAt X13 q9.heap.size #[.int .i64 La.a, .int .i64 La.b, .int .i64 La.c, .slice s9 Ka.length t9] 24 ∧ Ints X13 (.slice s9 Ka.length t9) Ka ∧ BlockAt X13 q10.heap.size #[.int .i64 Lb.a, .int .i64 Lb.b, .int .i64 Lb.c, .slice s10 Kb'.length t10] 24 ∧ Ints X13 (.slice s10 Kb'.length t10) Kb' ∧ BlockAt X13 q11.heap.size #[.int .i64 Lb.a, .int .i64 Lb.b, .int .i64 Lb.c, .slice s11 Kb'.length t11] 24 ∧ Ints X13 (.slice s11 Kb'.length t11) Kb' ∧ Below w.heap.size w X13) := Lib.hid ⟨HN12.out.1.below hb1 HN12.out.1.lt, Ints.all HN12.out.2.1 hb1, HN12.out.2.2.1.below hb1 HN12.out.2.2.1.lt, Ints.all HN12.out.2.2.2.1 hb1, HN12.out.2.2.2.2.1.below hb1 HN12.out.2.2.2.2.1.lt, Ints.all HN12.out.2.2.2.2.2.1 hb1, HN12.out.2.2.2.2.2.2.1.below hb1 HN12.out.2.2.2.2.2.2.1.lt, Ints.all HN12.out.2.2.2.2.2.2.2.1 hb1, HN12.out.2.2.2.2.2.2.2.2.1.below hb1 HN12.out.2.2.2.2.2.2.2.2.1.lt, Ints.all HN12.out.2.2.2.2.2.2.2.2.2.1 hb1, HN12.out.2.2.2.2.2.2.2.2.2.2.1.below hb1 HN12.out.2.2.2.2.2.2.2.2.2.2.1.lt, Ints.all HN12.out.2.2.2.2.2.2.2.2.2.2.2.1 hb1, HN12.out.2.2.2.2.2.2.2.2.2.2.2.2.1.below hb1 HN12.out.2.2.2.2.2.2.2.2.2.2.2.2.1.lt, Ints.all HN12.out.2.2.2.2.2.2.2.2.2.2.2.2.2.1 hb1, HN12.out.2.2.2.2.2.2.2.2.2.2.2.2.2.2.1.below hb1 HN12.out.2.2.2.2.2.2.2.2.2.2.2.2.2.2.1.lt, Ints.all HN12.out.2.2.2.2.2.2.2.2.2.2.2.2.2.2.2.1 hb1, HN12.out.2.2.2.2.2.2.2.2.2.2.2.2.2.2.2.2.1.below hb1 HN12.out.2.2.2.2.2.2.2.2.2.2.2.2.2.2.2.2.1.lt, Ints.all HN12.out.2.2.2.2.2.2.2.2.2.2.2.2.2.2.2.2.2.1 hb1, HN12.out.2.2.2.2.2.2.2.2.2.2.2.2.2.2.2.2.2.2.1.below hb1 HN12.out.2.2.2.2.2.2.2.2.2.2.2.2.2.2.2.2.2.2.1.lt, Ints.all HN12.out.2.2.2.2.2.2.2.2.2.2.2.2.2.2.2.2.2.2.2.1 hb1, HN12.out.2.2.2.2.2.2.2.2.2.2.2.2.2.2.2.2.2.2.2.2.1.below hb1 HN12.out.2.2.2.2.2.2.2.2.2.2.2.2.2.2.2.2.2.2.2.2.1.lt, Ints.all HN12.out.2.2.2.2.2.2.2.2.2.2.2.2.2.2.2.2.2.2.2.2.2.1 hb1, later HN12.out.2.2.2.2.2.2.2.2.2.2.2.2.2.2.2.2.2.2.2.2.2.2 HN12.out.2.2.2.2.2.2.2.2.2.2.2.2.2.2.2.2.2.2.2.2.2.2.size hb1⟩
    clear hb1 c0 c1 c2 c3 d0 d1 d2 d3 HN12
    have c0 : World.cell? _ _ = some (.int .i64 Lb.a) := HN13.out.2.2.2.2.2.2.2.2.2.2.2.2.2.2.2.2.2.2.2.2.1.cell 0
    have c1 : World.cell? _ _ = some (.int .i64 Lb.b) := HN13.out.2.2.2.2.2.2.2.2.2.2.2.2.2.2.2.2.2.2.2.2.1.cell 1
    have c2 : World.cell? _ _ = some (.int .i64 Lb.c) := HN13.out.2.2.2.2.2.2.2.2.2.2.2.2.2.2.2.2.2.2.2.2.1.cell 2
    have c3 : World.cell? _ _ = some (.slice s11 Kb'.length t11) := HN13.out.2.2.2.2.2.2.2.2.2.2.2.2.2.2.2.2.2.2.2.2.1.cell 3
    have d0 : World.cell? _ _ = some (.int .i64 Lb.a) := HN13.out.2.2.2.2.2.2.2.2.2.2.2.2.2.2.2.2.2.2.1.cell 0
    have d1 : World.cell? _ _ = some (.int .i64 Lb.b) := HN13.out.2.2.2.2.2.2.2.2.2.2.2.2.2.2.2.2.2.2.1.cell 1
    have d2 : World.cell? _ _ = some (.int .i64 Lb.c) := HN13.out.2.2.2.2.2.2.2.2.2.2.2.2.2.2.2.2.2.2.1.cell 2
    have d3 : World.cell? _ _ = some (.slice s10 Kb'.length t10) := HN13.out.2.2.2.2.2.2.2.2.2.2.2.2.2.2.2.2.2.2.1.cell 3
    go_wp2_with fail
    refine (EQb.out _ _ _ HN13.out.2.2.2.2.2.2.2.2.2.2.2.2.2.2.2.2.2.2.2.2.2.1 HN13.out.2.2.2.2.2.2.2.2.2.2.2.2.2.2.2.2.2.2.2.1).mono ?_
    rintro e X14 ⟨rfl, hb1⟩
    have HN14 : Hid (BlockAt X14 w.heap.size #[.int .i64 A, .int .i64 B, .int .i64 C, .slice va cs.length vc] 24 ∧ Ints X14 (.slice va cs.length vc) cs ∧ BlockAt X14 q2.heap.size #[.int .i64 L0.a, .int .i64 L0.b, .int .i64 L0.c, .slice s2 K0.length t2] 24 ∧ Ints X14 (.slice s2 K0.length t2) K0 ∧ BlockAt X14 q3.heap.size #[.int .i64 L1.a, .int .i64 L1.b, .int .i64 L1.c, .slice s3 K1.length t3] 24 ∧ Ints X14 (.slice s3 K1.length t3) K1 ∧ BlockAt X14 q4.heap.size #[.int .i64 L2.a, .int .i64 L2.b, .int .i64 L2.c, .slice s4 K2.length t4] 24 ∧ Ints X14 (.slice s4 K2.length t4) K2 ∧ BlockAt X14 q5.heap.size #[.int .i64 L3.a, .int .i64 L3.b, .int .i64 L3.c, .slice s5 K3.length t5] 24 ∧ Ints X14 (.slice s5 K3.length t5) K3 ∧ BlockAt X14 q6.heap.size #[.int .i64 L0.a, .int .i64 L0.b, .int .i64 L0.c, .slice s6 K0.length t6] 24 ∧ Ints X14 (.slice s6 K0.length t6) K0 ∧ BlockAt X14 q7.heap.size #[.int .i64 Lm.a, .int .i64 Lm.b, .int .i64 Lm.c, .slice s7 Km.length t7] 24 ∧ Ints X14 (.slice s7 Km.length t7) Km ∧ BlockAt X14 q8.heap.size #[.int .i64 L0.a, .int .i64 L0.b, .int .i64 L0.c, .slice s8 K0.length t8] 24 ∧ Ints X14 (.slice s8 K0.length t8) K0 ∧ BlockAt X14 q9.heap.size #[.int .i64 La.a, .int .i64 La.b, .int .i64 La.c, .slice s9 Ka.length t9] 24 ∧ Ints X14 (.slice s9 Ka.length t9) Ka ∧ BlockAt X14 q10.heap.size #[.int .i64 Lb.a, .int .i64 Lb.b, .int .i64 Lb.c, .slice s10 Kb'.length t10] 24 ∧ Ints X14 (.slice s10 Kb'.length t10) Kb' ∧ BlockAt X14 q11.heap.size #[.int .i64 Lb.a, .int .i64 Lb.b, .int .i64 Lb.c, .slice s11 Kb'.length t11] 24 ∧ Ints X14 (.slice s11 Kb'.length t11) Kb' ∧ Below w.heap.size w X14) := Lib.hid ⟨HN13.out.1.below hb1 HN13.out.1.lt, Ints.all HN13.out.2.1 hb1, HN13.out.2.2.1.below hb1 HN13.out.2.2.1.lt, Ints.all HN13.out.2.2.2.1 hb1, HN13.out.2.2.2.2.1.below hb1 HN13.out.2.2.2.2.1.lt, Ints.all HN13.out.2.2.2.2.2.1 hb1, HN13.out.2.2.2.2.2.2.1.below hb1 HN13.out.2.2.2.2.2.2.1.lt, Ints.all HN13.out.2.2.2.2.2.2.2.1 hb1, HN13.out.2.2.2.2.2.2.2.2.1.below hb1 HN13.out.2.2.2.2.2.2.2.2.1.lt, Ints.all HN13.out.2.2.2.2.2.2.2.2.2.1 hb1, HN13.out.2.2.2.2.2.2.2.2.2.2.1.below hb1 HN13.out.2.2.2.2.2.2.2.2.2.2.1.lt, Ints.all HN13.out.2.2.2.2.2.2.2.2.2.2.2.1 hb1, HN13.out.2.2.2.2.2.2.2.2.2.2.2.2.1.below hb1 HN13.out.2.2.2.2.2.2.2.2.2.2.2.2.1.lt, Ints.all HN13.out.2.2.2.2.2.2.2.2.2.2.2.2.2.1 hb1, HN13.out.2.2.2.2.2.2.2.2.2.2.2.2.2.2.1.below hb1 HN13.out.2.2.2.2.2.2.2.2.2.2.2.2.2.2.1.lt, Ints.all HN13.out.2.2.2.2.2.2.2.2.2.2.2.2.2.2.2.1 hb1, HN13.out.2.2.2.2.2.2.2.2.2.2.2.2.2.2.2.2.1.below hb1 HN13.out.2.2.2.2.2.2.2.2.2.2.2.2.2.2.2.2.1.lt, Ints.all HN13.out.2.2.2.2.2.2.2.2.2.2.2.2.2.2.2.2.2.1 hb1, HN13.out.2.2.2.2.2.2.2.2.2.2.2.2.2.2.2.2.2.2.1.below hb1 HN13.out.2.2.2.2.2.2.2.2.2.2.2.2.2.2.2.2.2.2.1.lt, Ints.all HN13.out.2.2.2.2.2.2.2.2.2.2.2.2.2.2.2.2.2.2.2.1 hb1, HN13.out.2.2.2.2.2.2.2.2.2.2.2.2.2.2.2.2.2.2.2.2.1.below hb1 HN13.out.2.2.2.2.2.2.2.2.2.2.2.2.2.2.2.2.2.2.2.2.1.lt, Ints.all HN13.out.2.2.2.2.2.2.2.2.2.2.2.2.2.2.2.2.2.2.2.2.2.1 hb1, later HN13.out.2.2.2.2.2.2.2.2.2.2.2.2.2.2.2.2.2.2.2.2.2.2 HN13.out.2.2.2.2.2.2.2.2.2.2.2.2.2.2.2.2.2.2.2.2.2.2.size hb1⟩
    clear hb1 c0 c1 c2 c3 d0 d1 d2 d3 HN13
    have c0 : World.cell? _ _ = some (.int .i64 L1.a) := HN14.out.2.2.2.2.1.cell 0
    have c1 : World.cell? _ _ = some (.int .i64 L1.b) := HN14.out.2.2.2.2.1.cell 1
    have c2 : World.cell? _ _ = some (.int .i64 L1.c) := HN14.out.2.2.2.2.1.cell 2
    have c3 : World.cell? _ _ = some (.slice s3 K1.length t3) := HN14.out.2.2.2.2.1.cell 3
    have d0 : World.cell? _ _ = some (.int .i64 L0.a) := HN14.out.2.2.1.cell 0
    have d1 : World.cell? _ _ = some (.int .i64 L0.b) := HN14.out.2.2.1.cell 1
    have d2 : World.cell? _ _ = some (.int .i64 L0.c) := HN14.out.2.2.1.cell 2
    have d3 : World.cell? _ _ = some (.slice s2 K0.length t2) := HN14.out.2.2.1.cell 3
    go_wp2_with fail
    refine (EQ1.out _ _ _ HN14.out.2.2.2.2.2.1 HN14.out.2.2.2.1).mono ?_
    rintro e X15 ⟨rfl, hb1⟩
    have HN15 : Hid (BlockAt X15 w.heap.size #[.int .i64 A, .int .i64 B, .int .i64 C, .slice va cs.length vc] 24 ∧ Ints X15 (.slice va cs.length vc) cs ∧ BlockAt X15 q2.heap.size #[.int .i64 L0.a, .int .i64 L0.b, .int .i64 L0.c, .slice s2 K0.length t2] 24 ∧ Ints X15 (.slice s2 K0.length t2) K0 ∧ BlockAt X15 q3.heap.size #[.int .i64 L1.a, .int .i64 L1.b, .int .i64 L1.c, .slice s3 K1.length t3] 24 ∧ Ints X15 (.slice s3 K1.length t3) K1 ∧ BlockAt X15 q4.heap.size #[.int .i64 L2.a, .int .i64 L2.b, .int .i64 L2.c, .slice s4 K2.length t4] 24 ∧ Ints X15 (.slice s4 K2.length t4) K2 ∧ BlockAt X15 q5.heap.size #[.int .i64 L3.a, .int .i64 L3.b, .int .i64 L3.c, .slice s5 K3.length t5] 24 ∧ Ints X15 (.slice s5 K3.length t5) K3 ∧ BlockAt X15 q6.heap.size #[.int .i64 L0.a, .int .i64 L0.b, .int .i64 L0.c, .slice s6 K0.length t6] 24 ∧ Ints X15 (.slice s6 K0.length t6) K0 ∧ BlockAt X15 q7.heap.size #[.int .i64 Lm.a, .int .i64 Lm.b, .int .i64 Lm.c, .slice s7 Km.length t7] 24 ∧ Ints X15 (.slice s7 Km.length t7) Km ∧ BlockAt X15 q8.heap.size #[.int .i64 L0.a, .int .i64 L0.b, .int .i64 L0.c, .slice s8 K0.length t8] 24 ∧ Ints X15 (.slice s8 K0.length t8) K0 ∧ BlockAt X15 q9.heap.size #[.int .i64 La.a, .int .i64 La.b, .int .i64 La.c, .slice s9 Ka.length t9] 24 ∧ Ints X15 (.slice s9 Ka.length t9) Ka ∧ BlockAt X15 q10.heap.size #[.int .i64 Lb.a, .int .i64 Lb.b, .int .i64 Lb.c, .slice s10 Kb'.length t10] 24 ∧ Ints X15 (.slice s10 Kb'.length t10) Kb' ∧ BlockAt X15 q11.heap.size #[.int .i64 Lb.a, .int .i64 Lb.b, .int .i64 Lb.c, .slice s11 Kb'.length t11] 24 ∧ Ints X15 (.slice s11 Kb'.length t11) Kb' ∧ Below w.heap.size w X15) := Lib.hid ⟨HN14.out.1.below hb1 HN14.out.1.lt, Ints.all HN14.out.2.1 hb1, HN14.out.2.2.1.below hb1 HN14.out.2.2.1.lt, Ints.all HN14.out.2.2.2.1 hb1, HN14.out.2.2.2.2.1.below hb1 HN14.out.2.2.2.2.1.lt, Ints.all HN14.out.2.2.2.2.2.1 hb1, HN14.out.2.2.2.2.2.2.1.below hb1 HN14.out.2.2.2.2.2.2.1.lt, Ints.all HN14.out.2.2.2.2.2.2.2.1 hb1, HN14.out.2.2.2.2.2.2.2.2.1.below hb1 HN14.out.2.2.2.2.2.2.2.2.1.lt, Ints.all HN14.out.2.2.2.2.2.2.2.2.2.1 hb1, HN14.out.2.2.2.2.2.2.2.2.2.2.1.below hb1 HN14.out.2.2.2.2.2.2.2.2.2.2.1.lt, Ints.all HN14.out.2.2.2.2.2.2.2.2.2.2.2.1 hb1, HN14.out.2.2.2.2.2.2.2.2.2.2.2.2.1.below hb1 HN14.out.2.2.2.2.2.2.2.2.2.2.2.2.1.lt, Ints.all HN14.out.2.2.2.2.2.2.2.2.2.2.2.2.2.1 hb1, HN14.out.2.2.2.2.2.2.2.2.2.2.2.2.2.2.1.below hb1 HN14.out.2.2.2.2.2.2.2.2.2.2.2.2.2.2.1.lt, Ints.all HN14.out.2.2.2.2.2.2.2.2.2.2.2.2.2.2.2.1 hb1, HN14.out.2.2.2.2.2.2.2.2.2.2.2.2.2.2.2.2.1.below hb1 HN14.out.2.2.2.2.2.2.2.2.2.2.2.2.2.2.2.2.1.lt, Ints.all HN14.out.2.2.2.2.2.2.2.2.2.2.2.2.2.2.2.2.2.1 hb1, HN14.out.2.2.2.2.2.2.2.2.2.2.2.2.2.2.2.2.2.2.1.below hb1 HN14.out.2.2.2.2.2.2.2.2.2.2.2.2.2.2.2.2.2.2.1.lt, Ints.all HN14.out.2.2.2.2.2.2.2.2.2.2.2.2.2.2.2.2.2.2.2.1 hb1, HN14.out.2.2.2.2.2.2.2.2.2.2.2.2.2.2.2.2.2.2.2.2.1.below hb1 HN14.out.2.2.2.2.2.2.2.2.2.2.2.2.2.2.2.2.2.2.2.2.1.lt, Ints.all HN14.out.2.2.2.2.2.2.2.2.2.2.2.2.2.2.2.2.2.2.2.2.2.1 hb1, later HN14.out.2.2.2.2.2.2.2.2.2.2.2.2.2.2.2.2.2.2.2.2.2.2 HN14.out.2.2.2.2.2.2.2.2.2.2.2.2.2.2.2.2.2.2.2.2.2.2.size hb1⟩
    clear hb1 c0 c1 c2 c3 d0 d1 d2 d3 HN14
    have c0 : World.cell? _ _ = some (.int .i64 La.a) := HN15.out.2.2.2.2.2.2.2.2.2.2.2.2.2.2.2.2.1.cell 0
    have c1 : World.cell? _ _ = some (.int .i64 La.b) := HN15.out.2.2.2.2.2.2.2.2.2.2.2.2.2.2.2.2.1.cell 1
    have c2 : World.cell? _ _ = some (.int .i64 La.c) := HN15.out.2.2.2.2.2.2.2.2.2.2.2.2.2.2.2.2.1.cell 2
    have c3 : World.cell? _ _ = some (.slice s9 Ka.length t9) := HN15.out.2.2.2.2.2.2.2.2.2.2.2.2.2.2.2.2.1.cell 3
    have d0 : World.cell? _ _ = some (.int .i64 Lm.a) := HN15.out.2.2.2.2.2.2.2.2.2.2.2.2.1.cell 0
    have d1 : World.cell? _ _ = some (.int .i64 Lm.b) := HN15.out.2.2.2.2.2.2.2.2.2.2.2.2.1.cell 1
    have d2 : World.cell? _ _ = some (.int .i64 Lm.c) := HN15.out.2.2.2.2.2.2.2.2.2.2.2.2.1.cell 2
    have d3 : World.cell? _ _ = some (.slice s7 Km.length t7) := HN15.out.2.2.2.2.2.2.2.2.2.2.2.2.1.cell 3
    go_wp2_with fail
    refine (EQa.out _ _ _ HN15.out.2.2.2.2.2.2.2.2.2.2.2.2.2.2.2.2.2.1 HN15.out.2.2.2.2.2.2.2.2.2.2.2.2.2.1).mono ?_
    rintro e X16 ⟨rfl, hb1⟩
    have HN16 : Hid (BlockAt X16 w.heap.size #[.int .i64 A, .int .i64 B, .int .i64 C, .slice va cs.length vc] 24 ∧ Ints X16 (.slice va cs.length vc) cs ∧ BlockAt X16 q2.heap.size #[.int .i64 L0.a, .int .i64 L0.b, .int .i64 L0.c, .slice s2 K0.length t2] 24 ∧ Ints X16 (.slice s2 K0.length t2) K0 ∧ BlockAt X16 q3.heap.size #[.int .i64 L1.a, .int .i64 L1.b, .int .i64 L1.c, .slice s3 K1.length t3] 24 ∧ Ints X16 (.slice s3 K1.length t3) K1 ∧ BlockAt X16 q4.heap.size #[.int .i64 L2.a, .int .i64 L2.b, .int .i64 L2.c, .slice s4 K2.length t4] 24 ∧ Ints X16 (.slice s4 K2.length t4) K2 ∧ BlockAt X16 q5.heap.size #[.int .i64 L3.a, .int .i64 L3.b, .int .i64 L3.c, .slice s5 K3.length t5] 24 ∧ Ints X16 (.slice s5 K3.length t5) K3 ∧ BlockAt X16 q6.heap.size #[.int .i64 L0.a, .int .i64 L0.b, .int .i64 L0.c, .slice s6 K0.length t6] 24 ∧ Ints X16 (.slice s6 K0.length t6) K0 ∧ BlockAt X16 q7.heap.size #[.int .i64 Lm.a, .int .i64 Lm.b, .int .i64 Lm.c, .slice s7 Km.length t7] 24 ∧ Ints X16 (.slice s7 Km.length t7) Km ∧ BlockAt X16 q8.heap.size #[.int .i64 L0.a, .int .i64 L0.b, .int .i64 L0.c, .slice s8 K0.length t8] 24 ∧ Ints X16 (.slice s8 K0.length t8) K0 ∧ BlockAt X16 q9.heap.size #[.int .i64 La.a, .int .i64 La.b, .int .i64 La.c, .slice s9 Ka.length t9] 24 ∧ Ints X16 (.slice s9 Ka.length t9) Ka ∧ BlockAt X16 q10.heap.size #[.int .i64 Lb.a, .int .i64 Lb.b, .int .i64 Lb.c, .slice s10 Kb'.length t10] 24 ∧ Ints X16 (.slice s10 Kb'.length t10) Kb' ∧ BlockAt X16 q11.heap.size #[.int .i64 Lb.a, .int .i64 Lb.b, .int .i64 Lb.c, .slice s11 Kb'.length t11] 24 ∧ Ints X16 (.slice s11 Kb'.length t11) Kb' ∧ Below w.heap.size w X16) := Lib.hid ⟨HN15.out.1.below hb1 HN15.out.1.lt, Ints.all HN15.out.2.1 hb1, HN15.out.2.2.1.below hb1 HN15.out.2.2.1.lt, Ints.all HN15.out.2.2.2.1 hb1, HN15.out.2.2.2.2.1.below hb1 HN15.out.2.2.2.2.1.lt, Ints.all HN15.out.2.2.2.2.2.1 hb1, HN15.out.2.2.2.2.2.2.1.below hb1 HN15.out.2.2.2.2.2.2.1.lt, Ints.all HN15.out.2.2.2.2.2.2.2.1 hb1, HN15.out.2.2.2.2.2.2.2.2.1.below hb1 HN15.out.2.2.2.2.2.2.2.2.1.lt, Ints.all HN15.out.2.2.2.2.2.2.2.2.2.1 hb1, HN15.out.2.2.2.2.2.2.2.2.2.2.1.below hb1 HN15.out.2.2.2.2.2.2.2.2.2.2.1.lt, Ints.all HN15.out.2.2.2.2.2.2.2.2.2.2.2.1 hb1, HN15.out.2.2.2.2.2.2.2.2.2.2.2.2.1.below hb1 HN15.out.2.2.2.2.2.2.2.2.2.2.2.2.1.lt, Ints.all HN15.out.2.2.2.2.2.2.2.2.2.2.2.2.2.1 hb1, HN15.out.2.2.2.2.2.2.2.2.2.2.2.2.2.2.1.below hb1 HN15.out.2.2.2.2.2.2.2.2.2.2.2.2.2.2.1.lt, Ints.all HN15.out.2.2.2.2.2.2.2.2.2.2.2.2.2.2.2.1 hb1, HN15.out.2.2.2.2.2.2.2.2.2.2.2.2.2.2.2.2.1.below hb1 HN15.out.2.2.2.2.2.2.2.2.2.2.2.2.2.2.2.2.1.lt, Ints.all HN15.out.2.2.2.2.2.2.2.2.2.2.2.2.2.2.2.2.2.1 hb1, HN15.out.2.2.2.2.2.2.2.2.2.2.2.2.2.2.2.2.2.2.1.below hb1 HN15.out.2.2.2.2.2.2.2.2.2.2.2.2.2.2.2.2.2.2.1.lt, Ints.all HN15.out.2.2.2.2.2.2.2.2.2.2.2.2.2.2.2.2.2.2.2.1 hb1, HN15.out.2.2.2.2.2.2.2.2.2.2.2.2.2.2.2.2.2.2.2.2.1.below hb1 HN15.out.2.2.2.2.2.2.2.2.2.2.2.2.2.2.2.2.2.2.2.2.1.lt, Ints.all HN15.out.2.2.2.2.2.2.2.2.2.2.2.2.2.2.2.2.2.2.2.2.2.1 hb1, later HN15.out.2.2.2.2.2.2.2.2.2.2.2.2.2.2.2.2.2.2.2.2.2.2 HN15.out.2.2.2.2.2.2.2.2.2.2.2.2.2.2.2.2.2.2.2.2.2.2.size hb1⟩
    clear hb1 c0 c1 c2 c3 d0 d1 d2 d3 HN15
    go_wp2_with fail
    refine (KN.out _ HN16.out.2.2.2.2.2.2.2.2.2.2.2.2.2.2.2.2.2.2.2.2.2.2).mono ?_
    rintro e X17 ⟨rfl, hb1⟩
    have HN17 : Hid (BlockAt X17 w.heap.size #[.int .i64 A, .int .i64 B, .int .i64 C, .slice va cs.length vc] 24 ∧ Ints X17 (.slice va cs.length vc) cs ∧ BlockAt X17 q2.heap.size #[.int .i64 L0.a, .int .i64 L0.b, .int .i64 L0.c, .slice s2 K0.length t2] 24 ∧ Ints X17 (.slice s2 K0.length t2) K0 ∧ BlockAt X17 q3.heap.size #[.int .i64 L1.a, .int .i64 L1.b, .int .i64 L1.c, .slice s3 K1.length t3] 24 ∧ Ints X17 (.slice s3 K1.length t3) K1 ∧ BlockAt X17 q4.heap.size #[.int .i64 L2.a, .int .i64 L2.b, .int .i64 L2.c, .slice s4 K2.length t4] 24 ∧ Ints X17 (.slice s4 K2.length t4) K2 ∧ BlockAt X17 q5.heap.size #[.int .i64 L3.a, .int .i64 L3.b, .int .i64 L3.c, .slice s5 K3.length t5] 24 ∧ Ints X17 (.slice s5 K3.length t5) K3 ∧ BlockAt X17 q6.heap.size #[.int .i64 L0.a, .int .i64 L0.b, .int .i64 L0.c, .slice s6 K0.length t6] 24 ∧ Ints X17 (.slice s6 K0.length t6) K0 ∧ BlockAt X17 q7.heap.size #[.int .i64 Lm.a, .int .i64 Lm.b, .int .i64 Lm.c, .slice s7 Km.length t7] 24 ∧ Ints X17 (.slice s7 Km.length t7) Km ∧ BlockAt X17 q8.heap.size #[.int .i64 L0.a, .int .i64 L0.b, .int .i64 L0.c, .slice s8 K0.length t8] 24 ∧ Ints X17 (.slice s8 K0.length t8) K0 ∧ BlockAt X17 q9.heap.size #[.int .i64 La.a, .int .i64 La.b, .int .i64 La.c, .slice s9 Ka.length t9] 24 ∧ Ints X17 (.slice s9 Ka.length t9) Ka ∧ BlockAt X17 q10.heap.size #[.int .i64 Lb.a, .int .i64 Lb.b, .int .i64 Lb.c, .slice s10 Kb'.length t10] 24 ∧ Ints X17 (.slice s10 Kb'.length t10) Kb' ∧ BlockAt X17 q11.heap.size #[.int .i64 Lb.a, .int .i64 Lb.b, .int .i64 Lb.c, .slice s11 Kb'.length t11] 24 ∧ Ints X17 (.slice s11 Kb'.length t11) Kb' ∧ Below w.heap.size w X17) := Lib.hid ⟨HN16.out.1.below hb1 HN16.out.1.lt, Ints.all HN16.out.2.1 hb1, HN16.out.2.2.1.below hb1 HN16.out.2.2.1.lt, Ints.all HN16.out.2.2.2.1 hb1, HN16.out.2.2.2.2.1.below hb1 HN16.out.2.2.2.2.1.lt, Ints.all HN16.out.2.2.2.2.2.1 hb1, HN16.out.2.2.2.2.2.2.1.below hb1 HN16.out.2.2.2.2.2.2.1.lt, Ints.all HN16.out.2.2.2.2.2.2.2.1 hb1, HN16.out.2.2.2.2.2.2.2.2.1.below hb1 HN16.out.2.2.2.2.2.2.2.2.1.lt, Ints.all HN16.out.2.2.2.2.2.2.2.2.2.1 hb1, HN16.out.2.2.2.2.2.2.2.2.2.2.1.below hb1 HN16.out.2.2.2.2.2.2.2.2.2.2.1.lt, Ints.all HN16.out.2.2.2.2.2.2.2.2.2.2.2.1 hb1, HN16.out.2.2.2.2.2.2.2.2.2.2.2.2.1.below hb1 HN16.out.2.2.2.2.2.2.2.2.2.2.2.2.1.lt, Ints.all HN16.out.2.2.2.2.2.2.2.2.2.2.2.2.2.1 hb1, HN16.out.2.2.2.2.2.2.2.2.2.2.2.2.2.2.1.below hb1 HN16.out.2.2.2.2.2.2.2.2.2.2.2.2.2.2.1.lt, Ints.all HN16.out.2.2.2.2.2.2.2.2.2.2.2.2.2.2.2.1 hb1, HN16.out.2.2.2.2.2.2.2.2.2.2.2.2.2.2.2.2.1.below hb1 HN16.out.2.2.2.2.2.2.2.2.2.2.2.2.2.2.2.2.1.lt, Ints.all HN16.out.2.2.2.2.2.2.2.2.2.2.2.2.2.2.2.2.2.1 hb1, HN16.out.2.2.2.2.2.2.2.2.2.2.2.2.2.2.2.2.2.2.1.below hb1 HN16.out.2.2.2.2.2.2.2.2.2.2.2.2.2.2.2.2.2.2.1.lt, Ints.all HN16.out.2.2.2.2.2.2.2.2.2.2.2.2.2.2.2.2.2.2.2.1 hb1, HN16.out.2.2.2.2.2.2.2.2.2.2.2.2.2.2.2.2.2.2.2.2.1.below hb1 HN16.out.2.2.2.2.2.2.2.2.2.2.2.2.2.2.2.2.2.2.2.2.1.lt, Ints.all HN16.out.2.2.2.2.2.2.2.2.2.2.2.2.2.2.2.2.2.2.2.2.2.1 hb1, later HN16.out.2.2.2.2.2.2.2.2.2.2.2.2.2.2.2.2.2.2.2.2.2.2 HN16.out.2.2.2.2.2.2.2.2.2.2.2.2.2.2.2.2.2.2.2.2.2.2.size hb1⟩
    clear hb1  HN16
    go_wp2
    go_ret
    exact ⟨rfl, HN17.out.2.2.2.2.2.2.2.2.2.2.2.2.2.2.2.2.2.2.2.2.2.2⟩
end Go.Proofs.YtigigmjdockdeaaGreatDoor
