/- PatternShifts returns true, whatever the pattern and the vector. -/
import Derived.Test.YtigigmjdockdeaaGreatDoorPatL
import Derived.Test.YtigigmjdockdeaaGreatDoorPatI
namespace Go.Proofs.YtigigmjdockdeaaGreatDoor
open Go.RowKit Go.Sort

set_option maxRecDepth 20000 in
set_option maxHeartbeats 8000000 in
theorem shifts_walk (A B C dx dy : Int) (v : Value) (cs : List Int) (w : World) (hE : Env w) (hv : Ints w v cs) (hA1 : -9223372036854775808 ≤ A) (hA2 : A ≤ 9223372036854775807) :
    Calls Tryz.prog 7 #[.agg #[.int .i64 A, .int .i64 B, .int .i64 C, v], .int .i64 dx, .int .i64 dy] w fun e w' => e = .returned (.bool true) ∧ Below w.heap.size w w' := by
  have LO := Lib.hid (fun W (hW : Below w.heap.size w W) => long_any A B C v cs W (hv.all hW))
  have KN := Lib.hid (fun W (hW : Below w.heap.size w W) => known_any W (hE.all hW))
  obtain ⟨va, vc, rfl, _⟩ := hv.look'
  have b0 := BlockAt.new w #[.int .i64 A, .int .i64 B, .int .i64 C, .slice va cs.length vc] 24
  have hw := (Below.refl w.heap.size w).alloc (Nat.le_refl _) (.cells #[.int .i64 A, .int .i64 B, .int .i64 C, .slice va cs.length vc] 24)
  have HB := Lib.hid (And.intro b0 (And.intro (hv.all ((Below.refl _ _).alloc (Nat.le_refl _) (.cells #[.int .i64 A, .int .i64 B, .int .i64 C, .slice va cs.length vc] 24))) hw))
  clear b0 hw
  by_cases hL : 400 < cs.length
  · have h1 : decide (400 < cs.length) = true := decide_eq_true hL
    rw [h1] at LO
    clear hv hE hL h1
    go_enter Tryz.func7, Tryz.ntmps7
    go_wp2_with fail
    refine (LO.out _ HB.out.2.2).mono ?_
    rintro e w1 ⟨rfl, hb1⟩
    have HW := Lib.hid (below_step HB.out.2.2 hb1)
    clear hb1 HB LO
    go_wp2_with fail
    refine (KN.out _ HW.out).mono ?_
    rintro e w2 ⟨rfl, hb2⟩
    have HW2 := Lib.hid (below_step HW.out hb2)
    clear hb2 HW KN
    go_wp2
    go_ret
    exact ⟨rfl, HW2.out⟩
  have h1 : decide (400 < cs.length) = false := decide_eq_false hL
  rw [h1] at LO
  have hkl : cs.length ≤ 1000000000 := by omega
  have SH := Lib.hid (fun (u : Value) W (hu : Ints W u cs) => shift_any A B C u cs dx dy W hu hkl hA1 hA2)
  have RS := Lib.hid (fun (u : Value) W (hu : Ints W u cs) => refShift_any A B C u cs dx dy W hu hkl hA1 hA2)
  unfold PatRes at SH RS
  have q1 : (placeE A B C cs dx dy == placeE A B C cs dx dy) = true := beq_self_eq_true _
  have q2 : (placeE A B C cs dx dy != placeE A B C cs dx dy) = false := by rw [bne, q1]; rfl
  by_cases hz : placeE A B C cs dx dy = 0
  case neg =>
    have hK : (ansC (placeE A B C cs dx dy) (latF (Pt.shiF dx dy (Pt.col ⟨A, B, C⟩ (csF cs)))) (Pt.shiF dx dy (Pt.col ⟨A, B, C⟩ (csF cs)))).length ≤ 0 := by
      rw [show ansC (placeE A B C cs dx dy) (latF (Pt.shiF dx dy (Pt.col ⟨A, B, C⟩ (csF cs)))) (Pt.shiF dx dy (Pt.col ⟨A, B, C⟩ (csF cs))) = [] from if_neg hz]
      simp
    generalize placeE A B C cs dx dy = q at *
    generalize ansC q (latF (Pt.shiF dx dy (Pt.col ⟨A, B, C⟩ (csF cs)))) (Pt.shiF dx dy (Pt.col ⟨A, B, C⟩ (csF cs))) = K at *
    generalize ansL q (latF (Pt.shiF dx dy (Pt.col ⟨A, B, C⟩ (csF cs)))) = L at *
    have EQ := Lib.hid (fun (u u' : Value) W hu hu' => refEqual_any L.a L.b L.c L.a L.b L.c u u' K K W hu hu' (by omega) (by omega))
    rw [eqP_same] at EQ
    have hd : (q == 0) = false := beq_eq_false_iff_ne.2 hz
    have hd2 : (q != 0) = true := by rw [bne, hd]; rfl
    clear hv hE h1 hL hz hK hkl
    go_enter Tryz.func7, Tryz.ntmps7
    go_wp2_with fail
    refine (LO.out _ HB.out.2.2).mono ?_
    rintro e X1 ⟨rfl, hb1⟩
    have HN1 : Hid (BlockAt X1 w.heap.size #[.int .i64 A, .int .i64 B, .int .i64 C, .slice va cs.length vc] 24 ∧ Ints X1 (.slice va cs.length vc) cs ∧ Below w.heap.size w X1) := Lib.hid ⟨HB.out.1.below hb1 HB.out.1.lt, Ints.all HB.out.2.1 hb1, later HB.out.2.2 HB.out.2.2.size hb1⟩
    clear hb1  HB
    have c0 : World.cell? _ _ = some (.int .i64 A) := HN1.out.1.cell 0
    have c1 : World.cell? _ _ = some (.int .i64 B) := HN1.out.1.cell 1
    have c2 : World.cell? _ _ = some (.int .i64 C) := HN1.out.1.cell 2
    have c3 : World.cell? _ _ = some (.slice va cs.length vc) := HN1.out.1.cell 3
    go_wp2_with fail
    refine (SH.out _ _ HN1.out.2.1).mono ?_
    rintro e q2 ⟨u2, rfl, hown, hb1⟩
    obtain ⟨s2, t2, rfl⟩ := hown.form
    obtain ⟨X2, hX2⟩ : ∃ X, q2.alloc (.cells #[.int .i64 L.a, .int .i64 L.b, .int .i64 L.c, .slice s2 K.length t2] 24) = X := ⟨_, rfl⟩
    have hbX : Below X1.heap.size X1 X2 := by rw [← hX2]; exact hb1.alloc hb1.size _
    have HN2 : Hid (BlockAt X2 w.heap.size #[.int .i64 A, .int .i64 B, .int .i64 C, .slice va cs.length vc] 24 ∧ Ints X2 (.slice va cs.length vc) cs ∧ BlockAt X2 q2.heap.size #[.int .i64 L.a, .int .i64 L.b, .int .i64 L.c, .slice s2 K.length t2] 24 ∧ Ints X2 (.slice s2 K.length t2) K ∧ Below w.heap.size w X2) := Lib.hid ⟨HN1.out.1.below hbX HN1.out.1.lt, Ints.all HN1.out.2.1 hbX, (by rw [← hX2]; exact BlockAt.new _ _ _), (by rw [← hX2]; exact (OwnI.alloc hown _).ints), later HN1.out.2.2 HN1.out.2.2.size hbX⟩
    clear hown hb1 hbX c0 c1 c2 c3 HN1
    have c0 : World.cell? _ _ = some (.int .i64 A) := HN2.out.1.cell 0
    have c1 : World.cell? _ _ = some (.int .i64 B) := HN2.out.1.cell 1
    have c2 : World.cell? _ _ = some (.int .i64 C) := HN2.out.1.cell 2
    have c3 : World.cell? _ _ = some (.slice va cs.length vc) := HN2.out.1.cell 3
    go_wp2_with (rw [hX2])
    go_wp2_with fail
    refine (RS.out _ _ HN2.out.2.1).mono ?_
    rintro e q3 ⟨u3, rfl, hown, hb1⟩
    obtain ⟨s3, t3, rfl⟩ := hown.form
    obtain ⟨X3, hX3⟩ : ∃ X, q3.alloc (.cells #[.int .i64 L.a, .int .i64 L.b, .int .i64 L.c, .slice s3 K.length t3] 24) = X := ⟨_, rfl⟩
    have hbX : Below X2.heap.size X2 X3 := by rw [← hX3]; exact hb1.alloc hb1.size _
    have HN3 : Hid (BlockAt X3 w.heap.size #[.int .i64 A, .int .i64 B, .int .i64 C, .slice va cs.length vc] 24 ∧ Ints X3 (.slice va cs.length vc) cs ∧ BlockAt X3 q2.heap.size #[.int .i64 L.a, .int .i64 L.b, .int .i64 L.c, .slice s2 K.length t2] 24 ∧ Ints X3 (.slice s2 K.length t2) K ∧ BlockAt X3 q3.heap.size #[.int .i64 L.a, .int .i64 L.b, .int .i64 L.c, .slice s3 K.length t3] 24 ∧ Ints X3 (.slice s3 K.length t3) K ∧ Below w.heap.size w X3) := Lib.hid ⟨HN2.out.1.below hbX HN2.out.1.lt, Ints.all HN2.out.2.1 hbX, HN2.out.2.2.1.below hbX HN2.out.2.2.1.lt, Ints.all HN2.out.2.2.2.1 hbX, (by rw [← hX3]; exact BlockAt.new _ _ _), (by rw [← hX3]; exact (OwnI.alloc hown _).ints), later HN2.out.2.2.2.2 HN2.out.2.2.2.2.size hbX⟩
    clear hown hb1 hbX c0 c1 c2 c3 hX2 HN2
    have c0 : World.cell? _ _ = some (.int .i64 L.a) := HN3.out.2.2.1.cell 0
    have c1 : World.cell? _ _ = some (.int .i64 L.b) := HN3.out.2.2.1.cell 1
    have c2 : World.cell? _ _ = some (.int .i64 L.c) := HN3.out.2.2.1.cell 2
    have c3 : World.cell? _ _ = some (.slice s2 K.length t2) := HN3.out.2.2.1.cell 3
    have d0 : World.cell? _ _ = some (.int .i64 L.a) := HN3.out.2.2.2.2.1.cell 0
    have d1 : World.cell? _ _ = some (.int .i64 L.b) := HN3.out.2.2.2.2.1.cell 1
    have d2 : World.cell? _ _ = some (.int .i64 L.c) := HN3.out.2.2.2.2.1.cell 2
    have d3 : World.cell? _ _ = some (.slice s3 K.length t3) := HN3.out.2.2.2.2.1.cell 3
    go_wp2_with (rw [hX3])
    go_wp2_with fail
    refine (EQ.out _ _ _ HN3.out.2.2.2.1 HN3.out.2.2.2.2.2.1).mono ?_
    rintro e X4 ⟨rfl, hb1⟩
    have HN4 : Hid (BlockAt X4 w.heap.size #[.int .i64 A, .int .i64 B, .int .i64 C, .slice va cs.length vc] 24 ∧ Ints X4 (.slice va cs.length vc) cs ∧ BlockAt X4 q2.heap.size #[.int .i64 L.a, .int .i64 L.b, .int .i64 L.c, .slice s2 K.length t2] 24 ∧ Ints X4 (.slice s2 K.length t2) K ∧ BlockAt X4 q3.heap.size #[.int .i64 L.a, .int .i64 L.b, .int .i64 L.c, .slice s3 K.length t3] 24 ∧ Ints X4 (.slice s3 K.length t3) K ∧ Below w.heap.size w X4) := Lib.hid ⟨HN3.out.1.below hb1 HN3.out.1.lt, Ints.all HN3.out.2.1 hb1, HN3.out.2.2.1.below hb1 HN3.out.2.2.1.lt, Ints.all HN3.out.2.2.2.1 hb1, HN3.out.2.2.2.2.1.below hb1 HN3.out.2.2.2.2.1.lt, Ints.all HN3.out.2.2.2.2.2.1 hb1, later HN3.out.2.2.2.2.2.2 HN3.out.2.2.2.2.2.2.size hb1⟩
    clear hb1 c0 c1 c2 c3 d0 d1 d2 d3 hX3 HN3
    go_wp2_with fail
    refine (KN.out _ HN4.out.2.2.2.2.2.2).mono ?_
    rintro e X5 ⟨rfl, hb1⟩
    have HN5 : Hid (BlockAt X5 w.heap.size #[.int .i64 A, .int .i64 B, .int .i64 C, .slice va cs.length vc] 24 ∧ Ints X5 (.slice va cs.length vc) cs ∧ BlockAt X5 q2.heap.size #[.int .i64 L.a, .int .i64 L.b, .int .i64 L.c, .slice s2 K.length t2] 24 ∧ Ints X5 (.slice s2 K.length t2) K ∧ BlockAt X5 q3.heap.size #[.int .i64 L.a, .int .i64 L.b, .int .i64 L.c, .slice s3 K.length t3] 24 ∧ Ints X5 (.slice s3 K.length t3) K ∧ Below w.heap.size w X5) := Lib.hid ⟨HN4.out.1.below hb1 HN4.out.1.lt, Ints.all HN4.out.2.1 hb1, HN4.out.2.2.1.below hb1 HN4.out.2.2.1.lt, Ints.all HN4.out.2.2.2.1 hb1, HN4.out.2.2.2.2.1.below hb1 HN4.out.2.2.2.2.1.lt, Ints.all HN4.out.2.2.2.2.2.1 hb1, later HN4.out.2.2.2.2.2.2 HN4.out.2.2.2.2.2.2.size hb1⟩
    clear hb1  HN4
    go_wp2
    go_ret
    exact ⟨rfl, HN5.out.2.2.2.2.2.2⟩
  obtain ⟨hzv, ⟨x1, x2⟩, ⟨y1, y2⟩⟩ := place_ok hz
  have p0 := pl_of hzv
  have LE := Lib.hid (fun (u : Value) W (hu : Ints W u cs) => (Least_any A B C u cs (lat A B C cs) W hu hkl hA1 hA2 lat_is).mono fun e w' h => h.res)
  unfold PatRes at LE
  rw [hz, ansL_ok, ansC_ok] at SH RS
  rw [hzv, ansL_ok, show lat A B C cs = latF (Pt.col ⟨A, B, C⟩ (csF cs)) from rfl, ansC_ok] at LE
  generalize Pt.col ⟨A, B, C⟩ (csF cs) = F at *
  have p1 := p0.shi dx dy
  have SB := Lib.hid (fun (u : Value) W hu => (shift_pl p1 u W (-dx) (-dy) hu (by omega) (by omega) (by omega) (by omega)).mono fun e w' h => makes_unf (L := latF F) (K := cellsF F) (by rw [shi_back]) (by rw [shi_back]) h)
  have n0 := p0.len.2
  have n1 := p1.len.2
  generalize latF (Pt.shiF dx dy F) = L1 at *
  generalize cellsF (Pt.shiF dx dy F) = K1 at *
  generalize latF F = L0 at *
  generalize cellsF F = K0 at *
  have EQ0 := Lib.hid (fun (u u' : Value) W hu hu' => refEqual_any L0.a L0.b L0.c L0.a L0.b L0.c u u' K0 K0 W hu hu' (by omega) (by omega))
  have EQ1 := Lib.hid (fun (u u' : Value) W hu hu' => refEqual_any L1.a L1.b L1.c L1.a L1.b L1.c u u' K1 K1 W hu hu' (by omega) (by omega))
  rw [eqP_same] at EQ0 EQ1
  have g1 : IntKind.i64.wrap (-dx) = -dx := IntWalk.i64_in _ ⟨by omega, by omega⟩
  have g2 : IntKind.i64.wrap (-dy) = -dy := IntWalk.i64_in _ ⟨by omega, by omega⟩
  clear hv hE h1 hL hz hzv p0 p1 n0 n1 hkl q1 q2
  go_enter Tryz.func7, Tryz.ntmps7
  go_wp2_with fail
  refine (LO.out _ HB.out.2.2).mono ?_
  rintro e X1 ⟨rfl, hb1⟩
  have HN1 : Hid (BlockAt X1 w.heap.size #[.int .i64 A, .int .i64 B, .int .i64 C, .slice va cs.length vc] 24 ∧ Ints X1 (.slice va cs.length vc) cs ∧ Below w.heap.size w X1) := Lib.hid ⟨HB.out.1.below hb1 HB.out.1.lt, Ints.all HB.out.2.1 hb1, later HB.out.2.2 HB.out.2.2.size hb1⟩
  clear hb1  HB
  have c0 : World.cell? _ _ = some (.int .i64 A) := HN1.out.1.cell 0
  have c1 : World.cell? _ _ = some (.int .i64 B) := HN1.out.1.cell 1
  have c2 : World.cell? _ _ = some (.int .i64 C) := HN1.out.1.cell 2
  have c3 : World.cell? _ _ = some (.slice va cs.length vc) := HN1.out.1.cell 3
  go_wp2_with fail
  refine (SH.out _ _ HN1.out.2.1).mono ?_
  rintro e q2 ⟨u2, rfl, hown, hb1⟩
  obtain ⟨s2, t2, rfl⟩ := hown.form
  obtain ⟨X2, hX2⟩ : ∃ X, q2.alloc (.cells #[.int .i64 L1.a, .int .i64 L1.b, .int .i64 L1.c, .slice s2 K1.length t2] 24) = X := ⟨_, rfl⟩
  have hbX : Below X1.heap.size X1 X2 := by rw [← hX2]; exact hb1.alloc hb1.size _
  have HN2 : Hid (BlockAt X2 w.heap.size #[.int .i64 A, .int .i64 B, .int .i64 C, .slice va cs.length vc] 24 ∧ Ints X2 (.slice va cs.length vc) cs ∧ BlockAt X2 q2.heap.size #[.int .i64 L1.a, .int .i64 L1.b, .int .i64 L1.c, .slice s2 K1.length t2] 24 ∧ Ints X2 (.slice s2 K1.length t2) K1 ∧ Below w.heap.size w X2) := Lib.hid ⟨HN1.out.1.below hbX HN1.out.1.lt, Ints.all HN1.out.2.1 hbX, (by rw [← hX2]; exact BlockAt.new _ _ _), (by rw [← hX2]; exact (OwnI.alloc hown _).ints), later HN1.out.2.2 HN1.out.2.2.size hbX⟩
  clear hown hb1 hbX c0 c1 c2 c3 HN1
  have c0 : World.cell? _ _ = some (.int .i64 A) := HN2.out.1.cell 0
  have c1 : World.cell? _ _ = some (.int .i64 B) := HN2.out.1.cell 1
  have c2 : World.cell? _ _ = some (.int .i64 C) := HN2.out.1.cell 2
  have c3 : World.cell? _ _ = some (.slice va cs.length vc) := HN2.out.1.cell 3
  go_wp2_with (rw [hX2])
  go_wp2_with fail
  refine (RS.out _ _ HN2.out.2.1).mono ?_
  rintro e q3 ⟨u3, rfl, hown, hb1⟩
  obtain ⟨s3, t3, rfl⟩ := hown.form
  obtain ⟨X3, hX3⟩ : ∃ X, q3.alloc (.cells #[.int .i64 L1.a, .int .i64 L1.b, .int .i64 L1.c, .slice s3 K1.length t3] 24) = X := ⟨_, rfl⟩
  have hbX : Below X2.heap.size X2 X3 := by rw [← hX3]; exact hb1.alloc hb1.size _
  have HN3 : Hid (BlockAt X3 w.heap.size #[.int .i64 A, .int .i64 B, .int .i64 C, .slice va cs.length vc] 24 ∧ Ints X3 (.slice va cs.length vc) cs ∧ BlockAt X3 q2.heap.size #[.int .i64 L1.a, .int .i64 L1.b, .int .i64 L1.c, .slice s2 K1.length t2] 24 ∧ Ints X3 (.slice s2 K1.length t2) K1 ∧ BlockAt X3 q3.heap.size #[.int .i64 L1.a, .int .i64 L1.b, .int .i64 L1.c, .slice s3 K1.length t3] 24 ∧ Ints X3 (.slice s3 K1.length t3) K1 ∧ Below w.heap.size w X3) := Lib.hid ⟨HN2.out.1.below hbX HN2.out.1.lt, Ints.all HN2.out.2.1 hbX, HN2.out.2.2.1.below hbX HN2.out.2.2.1.lt, Ints.all HN2.out.2.2.2.1 hbX, (by rw [← hX3]; exact BlockAt.new _ _ _), (by rw [← hX3]; exact (OwnI.alloc hown _).ints), later HN2.out.2.2.2.2 HN2.out.2.2.2.2.size hbX⟩
  clear hown hb1 hbX c0 c1 c2 c3 hX2 HN2
  have c0 : World.cell? _ _ = some (.int .i64 L1.a) := HN3.out.2.2.1.cell 0
  have c1 : World.cell? _ _ = some (.int .i64 L1.b) := HN3.out.2.2.1.cell 1
  have c2 : World.cell? _ _ = some (.int .i64 L1.c) := HN3.out.2.2.1.cell 2
  have c3 : World.cell? _ _ = some (.slice s2 K1.length t2) := HN3.out.2.2.1.cell 3
  have d0 : World.cell? _ _ = some (.int .i64 L1.a) := HN3.out.2.2.2.2.1.cell 0
  have d1 : World.cell? _ _ = some (.int .i64 L1.b) := HN3.out.2.2.2.2.1.cell 1
  have d2 : World.cell? _ _ = some (.int .i64 L1.c) := HN3.out.2.2.2.2.1.cell 2
  have d3 : World.cell? _ _ = some (.slice s3 K1.length t3) := HN3.out.2.2.2.2.1.cell 3
  go_wp2_with (rw [hX3])
  go_wp2_with fail
  refine (EQ1.out _ _ _ HN3.out.2.2.2.1 HN3.out.2.2.2.2.2.1).mono ?_
  rintro e X4 ⟨rfl, hb1⟩
  have HN4 : Hid (BlockAt X4 w.heap.size #[.int .i64 A, .int .i64 B, .int .i64 C, .slice va cs.length vc] 24 ∧ Ints X4 (.slice va cs.length vc) cs ∧ BlockAt X4 q2.heap.size #[.int .i64 L1.a, .int .i64 L1.b, .int .i64 L1.c, .slice s2 K1.length t2] 24 ∧ Ints X4 (.slice s2 K1.length t2) K1 ∧ BlockAt X4 q3.heap.size #[.int .i64 L1.a, .int .i64 L1.b, .int .i64 L1.c, .slice s3 K1.length t3] 24 ∧ Ints X4 (.slice s3 K1.length t3) K1 ∧ Below w.heap.size w X4) := Lib.hid ⟨HN3.out.1.below hb1 HN3.out.1.lt, Ints.all HN3.out.2.1 hb1, HN3.out.2.2.1.below hb1 HN3.out.2.2.1.lt, Ints.all HN3.out.2.2.2.1 hb1, HN3.out.2.2.2.2.1.below hb1 HN3.out.2.2.2.2.1.lt, Ints.all HN3.out.2.2.2.2.2.1 hb1, later HN3.out.2.2.2.2.2.2 HN3.out.2.2.2.2.2.2.size hb1⟩
  clear hb1 c0 c1 c2 c3 d0 d1 d2 d3 hX3 HN3
  have c0 : World.cell? _ _ = some (.int .i64 L1.a) := HN4.out.2.2.1.cell 0
  have c1 : World.cell? _ _ = some (.int .i64 L1.b) := HN4.out.2.2.1.cell 1
  have c2 : World.cell? _ _ = some (.int .i64 L1.c) := HN4.out.2.2.1.cell 2
  have c3 : World.cell? _ _ = some (.slice s2 K1.length t2) := HN4.out.2.2.1.cell 3
  go_wp2_with fail
  refine (SB.out _ _ HN4.out.2.2.2.1).mono ?_
  rintro e q5 ⟨u5, rfl, hown, hb1⟩
  obtain ⟨s5, t5, rfl⟩ := hown.form
  obtain ⟨X5, hX5⟩ : ∃ X, q5.alloc (.cells #[.int .i64 L0.a, .int .i64 L0.b, .int .i64 L0.c, .slice s5 K0.length t5] 24) = X := ⟨_, rfl⟩
  have hbX : Below X4.heap.size X4 X5 := by rw [← hX5]; exact hb1.alloc hb1.size _
  have HN5 : Hid (BlockAt X5 w.heap.size #[.int .i64 A, .int .i64 B, .int .i64 C, .slice va cs.length vc] 24 ∧ Ints X5 (.slice va cs.length vc) cs ∧ BlockAt X5 q2.heap.size #[.int .i64 L1.a, .int .i64 L1.b, .int .i64 L1.c, .slice s2 K1.length t2] 24 ∧ Ints X5 (.slice s2 K1.length t2) K1 ∧ BlockAt X5 q3.heap.size #[.int .i64 L1.a, .int .i64 L1.b, .int .i64 L1.c, .slice s3 K1.length t3] 24 ∧ Ints X5 (.slice s3 K1.length t3) K1 ∧ BlockAt X5 q5.heap.size #[.int .i64 L0.a, .int .i64 L0.b, .int .i64 L0.c, .slice s5 K0.length t5] 24 ∧ Ints X5 (.slice s5 K0.length t5) K0 ∧ Below w.heap.size w X5) := Lib.hid ⟨HN4.out.1.below hbX HN4.out.1.lt, Ints.all HN4.out.2.1 hbX, HN4.out.2.2.1.below hbX HN4.out.2.2.1.lt, Ints.all HN4.out.2.2.2.1 hbX, HN4.out.2.2.2.2.1.below hbX HN4.out.2.2.2.2.1.lt, Ints.all HN4.out.2.2.2.2.2.1 hbX, (by rw [← hX5]; exact BlockAt.new _ _ _), (by rw [← hX5]; exact (OwnI.alloc hown _).ints), later HN4.out.2.2.2.2.2.2 HN4.out.2.2.2.2.2.2.size hbX⟩
  clear hown hb1 hbX c0 c1 c2 c3 HN4
  have c0 : World.cell? _ _ = some (.int .i64 A) := HN5.out.1.cell 0
  have c1 : World.cell? _ _ = some (.int .i64 B) := HN5.out.1.cell 1
  have c2 : World.cell? _ _ = some (.int .i64 C) := HN5.out.1.cell 2
  have c3 : World.cell? _ _ = some (.slice va cs.length vc) := HN5.out.1.cell 3
  go_wp2_with (rw [hX5])
  go_wp2_with fail
  refine (LE.out _ _ HN5.out.2.1).mono ?_
  rintro e q6 ⟨u6, rfl, hown, hb1⟩
  obtain ⟨s6, t6, rfl⟩ := hown.form
  obtain ⟨X6, hX6⟩ : ∃ X, q6.alloc (.cells #[.int .i64 L0.a, .int .i64 L0.b, .int .i64 L0.c, .slice s6 K0.length t6] 24) = X := ⟨_, rfl⟩
  have hbX : Below X5.heap.size X5 X6 := by rw [← hX6]; exact hb1.alloc hb1.size _
  have HN6 : Hid (BlockAt X6 w.heap.size #[.int .i64 A, .int .i64 B, .int .i64 C, .slice va cs.length vc] 24 ∧ Ints X6 (.slice va cs.length vc) cs ∧ BlockAt X6 q2.heap.size #[.int .i64 L1.a, .int .i64 L1.b, .int .i64 L1.c, .slice s2 K1.length t2] 24 ∧ Ints X6 (.slice s2 K1.length t2) K1 ∧ BlockAt X6 q3.heap.size #[.int .i64 L1.a, .int .i64 L1.b, .int .i64 L1.c, .slice s3 K1.length t3] 24 ∧ Ints X6 (.slice s3 K1.length t3) K1 ∧ BlockAt X6 q5.heap.size #[.int .i64 L0.a, .int .i64 L0.b, .int .i64 L0.c, .slice s5 K0.length t5] 24 ∧ Ints X6 (.slice s5 K0.length t5) K0 ∧ BlockAt X6 q6.heap.size #[.int .i64 L0.a, .int .i64 L0.b, .int .i64 L0.c, .slice s6 K0.length t6] 24 ∧ Ints X6 (.slice s6 K0.length t6) K0 ∧ Below w.heap.size w X6) := Lib.hid ⟨HN5.out.1.below hbX HN5.out.1.lt, Ints.all HN5.out.2.1 hbX, HN5.out.2.2.1.below hbX HN5.out.2.2.1.lt, Ints.all HN5.out.2.2.2.1 hbX, HN5.out.2.2.2.2.1.below hbX HN5.out.2.2.2.2.1.lt, Ints.all HN5.out.2.2.2.2.2.1 hbX, HN5.out.2.2.2.2.2.2.1.below hbX HN5.out.2.2.2.2.2.2.1.lt, Ints.all HN5.out.2.2.2.2.2.2.2.1 hbX, (by rw [← hX6]; exact BlockAt.new _ _ _), (by rw [← hX6]; exact (OwnI.alloc hown _).ints), later HN5.out.2.2.2.2.2.2.2.2 HN5.out.2.2.2.2.2.2.2.2.size hbX⟩
  clear hown hb1 hbX c0 c1 c2 c3 hX5 HN5
  have c0 : World.cell? _ _ = some (.int .i64 L0.a) := HN6.out.2.2.2.2.2.2.1.cell 0
  have c1 : World.cell? _ _ = some (.int .i64 L0.b) := HN6.out.2.2.2.2.2.2.1.cell 1
  have c2 : World.cell? _ _ = some (.int .i64 L0.c) := HN6.out.2.2.2.2.2.2.1.cell 2
  have c3 : World.cell? _ _ = some (.slice s5 K0.length t5) := HN6.out.2.2.2.2.2.2.1.cell 3
  have d0 : World.cell? _ _ = some (.int .i64 L0.a) := HN6.out.2.2.2.2.2.2.2.2.1.cell 0
  have d1 : World.cell? _ _ = some (.int .i64 L0.b) := HN6.out.2.2.2.2.2.2.2.2.1.cell 1
  have d2 : World.cell? _ _ = some (.int .i64 L0.c) := HN6.out.2.2.2.2.2.2.2.2.1.cell 2
  have d3 : World.cell? _ _ = some (.slice s6 K0.length t6) := HN6.out.2.2.2.2.2.2.2.2.1.cell 3
  go_wp2_with (rw [hX6])
  go_wp2_with fail
  refine (EQ0.out _ _ _ HN6.out.2.2.2.2.2.2.2.1 HN6.out.2.2.2.2.2.2.2.2.2.1).mono ?_
  rintro e X7 ⟨rfl, hb1⟩
  have HN7 : Hid (BlockAt X7 w.heap.size #[.int .i64 A, .int .i64 B, .int .i64 C, .slice va cs.length vc] 24 ∧ Ints X7 (.slice va cs.length vc) cs ∧ BlockAt X7 q2.heap.size #[.int .i64 L1.a, .int .i64 L1.b, .int .i64 L1.c, .slice s2 K1.length t2] 24 ∧ Ints X7 (.slice s2 K1.length t2) K1 ∧ BlockAt X7 q3.heap.size #[.int .i64 L1.a, .int .i64 L1.b, .int .i64 L1.c, .slice s3 K1.length t3] 24 ∧ Ints X7 (.slice s3 K1.length t3) K1 ∧ BlockAt X7 q5.heap.size #[.int .i64 L0.a, .int .i64 L0.b, .int .i64 L0.c, .slice s5 K0.length t5] 24 ∧ Ints X7 (.slice s5 K0.length t5) K0 ∧ BlockAt X7 q6.heap.size #[.int .i64 L0.a, .int .i64 L0.b, .int .i64 L0.c, .slice s6 K0.length t6] 24 ∧ Ints X7 (.slice s6 K0.length t6) K0 ∧ Below w.heap.size w X7) := Lib.hid ⟨HN6.out.1.below hb1 HN6.out.1.lt, Ints.all HN6.out.2.1 hb1, HN6.out.2.2.1.below hb1 HN6.out.2.2.1.lt, Ints.all HN6.out.2.2.2.1 hb1, HN6.out.2.2.2.2.1.below hb1 HN6.out.2.2.2.2.1.lt, Ints.all HN6.out.2.2.2.2.2.1 hb1, HN6.out.2.2.2.2.2.2.1.below hb1 HN6.out.2.2.2.2.2.2.1.lt, Ints.all HN6.out.2.2.2.2.2.2.2.1 hb1, HN6.out.2.2.2.2.2.2.2.2.1.below hb1 HN6.out.2.2.2.2.2.2.2.2.1.lt, Ints.all HN6.out.2.2.2.2.2.2.2.2.2.1 hb1, later HN6.out.2.2.2.2.2.2.2.2.2.2 HN6.out.2.2.2.2.2.2.2.2.2.2.size hb1⟩
  clear hb1 c0 c1 c2 c3 d0 d1 d2 d3 hX6 HN6
  go_wp2_with fail
  refine (KN.out _ HN7.out.2.2.2.2.2.2.2.2.2.2).mono ?_
  rintro e X8 ⟨rfl, hb1⟩
  have HN8 : Hid (BlockAt X8 w.heap.size #[.int .i64 A, .int .i64 B, .int .i64 C, .slice va cs.length vc] 24 ∧ Ints X8 (.slice va cs.length vc) cs ∧ BlockAt X8 q2.heap.size #[.int .i64 L1.a, .int .i64 L1.b, .int .i64 L1.c, .slice s2 K1.length t2] 24 ∧ Ints X8 (.slice s2 K1.length t2) K1 ∧ BlockAt X8 q3.heap.size #[.int .i64 L1.a, .int .i64 L1.b, .int .i64 L1.c, .slice s3 K1.length t3] 24 ∧ Ints X8 (.slice s3 K1.length t3) K1 ∧ BlockAt X8 q5.heap.size #[.int .i64 L0.a, .int .i64 L0.b, .int .i64 L0.c, .slice s5 K0.length t5] 24 ∧ Ints X8 (.slice s5 K0.length t5) K0 ∧ BlockAt X8 q6.heap.size #[.int .i64 L0.a, .int .i64 L0.b, .int .i64 L0.c, .slice s6 K0.length t6] 24 ∧ Ints X8 (.slice s6 K0.length t6) K0 ∧ Below w.heap.size w X8) := Lib.hid ⟨HN7.out.1.below hb1 HN7.out.1.lt, Ints.all HN7.out.2.1 hb1, HN7.out.2.2.1.below hb1 HN7.out.2.2.1.lt, Ints.all HN7.out.2.2.2.1 hb1, HN7.out.2.2.2.2.1.below hb1 HN7.out.2.2.2.2.1.lt, Ints.all HN7.out.2.2.2.2.2.1 hb1, HN7.out.2.2.2.2.2.2.1.below hb1 HN7.out.2.2.2.2.2.2.1.lt, Ints.all HN7.out.2.2.2.2.2.2.2.1 hb1, HN7.out.2.2.2.2.2.2.2.2.1.below hb1 HN7.out.2.2.2.2.2.2.2.2.1.lt, Ints.all HN7.out.2.2.2.2.2.2.2.2.2.1 hb1, later HN7.out.2.2.2.2.2.2.2.2.2.2 HN7.out.2.2.2.2.2.2.2.2.2.2.size hb1⟩
  clear hb1  HN7
  go_wp2
  go_ret
  exact ⟨rfl, HN8.out.2.2.2.2.2.2.2.2.2.2⟩
end Go.Proofs.YtigigmjdockdeaaGreatDoor
