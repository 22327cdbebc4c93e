/- PatternPeriods returns true, whatever the pattern and the vector. -/
import Derived.Test.YtigigmjdockdeaaGreatDoorPat42
import Derived.Test.YtigigmjdockdeaaGreatDoorPatI
namespace Go.Proofs.YtigigmjdockdeaaGreatDoor
open Go.RowKit Go.Sort

theorem per_shift (f : Int → Int → Int) (dx dy : Int) : Pt.Per f dx dy ↔ Pt.shiF dx dy f = f := by
  constructor
  · intro h
    funext x y
    have := h (x - dx) (y - dy)
    rw [show x - dx + dx = x by omega, show y - dy + dy = y by omega] at this
    exact this.symm
  · intro h x y
    have := congrFun (congrFun h (x + dx)) (y + dy)
    unfold Pt.shiF at this
    rw [show x + dx - dx = x by omega, show y + dy - dy = y by omega] at this
    exact this.symm
theorem home_per {f : Int → Int → Int} (h : Pl f) (dx dy : Int) : (Pt.hx (latF f) dx dy = 0 ∧ Pt.hy (latF f) dy = 0) ↔ Pt.Per f dx dy := by
  rw [← Pt.inL_iff h.isB.ok, ← h.isB.iff (Pt.per_grp f)]
theorem same_per {f : Int → Int → Int} (h : Pl f) (dx dy : Int) : eqP (latF f).a (latF f).b (latF f).c (cellsF f) (latF (Pt.shiF dx dy f)).a (latF (Pt.shiF dx dy f)).b (latF (Pt.shiF dx dy f)).c (cellsF (Pt.shiF dx dy f)) = true ↔ Pt.Per f dx dy := by
  rw [per_shift]
  constructor
  · intro he
    obtain ⟨e1, e2, e3, e4⟩ := of_decide_eq_true he
    have el : latF f = latF (Pt.shiF dx dy f) := by
      generalize latF f = L at *
      generalize latF (Pt.shiF dx dy f) = L' at *
      cases L; cases L'; simp only at e1 e2 e3; rw [e1, e2, e3]
    exact (h.inj (h.shi dx dy) el e4).symm
  · intro he
    rw [he]
    exact eqP_same _ _ _ _

set_option maxRecDepth 20000 in
set_option maxHeartbeats 8000000 in
theorem periods_walk (A B C dx dy : Int) (v : Value) (cs : List Int) (w : World) (hE : Env w) (hv : Ints w v cs) (hA1 : -9223372036854775808 ≤ A) (hA2 : A ≤ 9223372036854775807) :
    Calls Tryz.prog 6 #[.agg #[.int .i64 A, .int .i64 B, .int .i64 C, v], .int .i64 dx, .int .i64 dy] w fun e w' => e = .returned (.bool true) ∧ Below w.heap.size w w' := by
  have LO := Lib.hid (fun W (hW : Below w.heap.size w W) => long_any A B C v cs W (hv.all hW))
  have KN := Lib.hid (fun W (hW : Below w.heap.size w W) => known_any W (hE.all hW))
  obtain ⟨va, vc, rfl, _⟩ := hv.look'
  have b0 := BlockAt.new w #[.int .i64 A, .int .i64 B, .int .i64 C, .slice va cs.length vc] 24
  have hw := (Below.refl w.heap.size w).alloc (Nat.le_refl _) (.cells #[.int .i64 A, .int .i64 B, .int .i64 C, .slice va cs.length vc] 24)
  have HB := Lib.hid (And.intro b0 (And.intro (hv.all ((Below.refl _ _).alloc (Nat.le_refl _) (.cells #[.int .i64 A, .int .i64 B, .int .i64 C, .slice va cs.length vc] 24))) hw))
  clear b0 hw
  by_cases hL : 400 < cs.length
  · have h1 : decide (400 < cs.length) = true := decide_eq_true hL
    rw [h1] at LO
    clear hv hE hL h1
    go_enter Tryz.func6, Tryz.ntmps6
    go_wp2_with fail
    refine (LO.out _ HB.out.2.2).mono ?_
    rintro e w1 ⟨rfl, hb1⟩
    have HW := Lib.hid (below_step HB.out.2.2 hb1)
    clear hb1 HB LO
    go_wp2_with fail
    refine (KN.out _ HW.out).mono ?_
    rintro e w2 ⟨rfl, hb2⟩
    have HW2 := Lib.hid (below_step HW.out hb2)
    clear hb2 HW KN
    go_wp2
    go_ret
    exact ⟨rfl, HW2.out⟩
  have h1 : decide (400 < cs.length) = false := decide_eq_false hL
  rw [h1] at LO
  have hkl : cs.length ≤ 1000000000 := by omega
  have IP := Lib.hid (fun (u : Value) W (hu : Ints W u cs) => IsPeriod_any A B C u cs dx dy W hu hkl hA1 hA2)
  have RP := Lib.hid (fun (u : Value) W (hu : Ints W u cs) => refIsPeriod_any A B C u cs dx dy W hu hkl hA1 hA2)
  by_cases hz : placeE A B C cs dx dy = 0
  case neg =>
    simp only [if_neg hz] at IP RP
    generalize placeE A B C cs dx dy = q at *
    have q1 : (q == q) = true := beq_self_eq_true _
    have q2 : (q != q) = false := by rw [bne, q1]; rfl
    have hd : (q == 0) = false := beq_eq_false_iff_ne.2 hz
    have hd2 : (q != 0) = true := by rw [bne, hd]; rfl
    clear hv hE h1 hL hz hkl
    go_enter Tryz.func6, Tryz.ntmps6
    go_wp2_with fail
    refine (LO.out _ HB.out.2.2).mono ?_
    rintro e X1 ⟨rfl, hb1⟩
    have HN1 : Hid (BlockAt X1 w.heap.size #[.int .i64 A, .int .i64 B, .int .i64 C, .slice va cs.length vc] 24 ∧ Ints X1 (.slice va cs.length vc) cs ∧ Below w.heap.size w X1) := Lib.hid ⟨HB.out.1.below hb1 HB.out.1.lt, Ints.all HB.out.2.1 hb1, later HB.out.2.2 HB.out.2.2.size hb1⟩
    clear hb1  HB
    have c0 : World.cell? _ _ = some (.int .i64 A) := HN1.out.1.cell 0
    have c1 : World.cell? _ _ = some (.int .i64 B) := HN1.out.1.cell 1
    have c2 : World.cell? _ _ = some (.int .i64 C) := HN1.out.1.cell 2
    have c3 : World.cell? _ _ = some (.slice va cs.length vc) := HN1.out.1.cell 3
    go_wp2_with fail
    refine (IP.out _ _ HN1.out.2.1).mono ?_
    rintro e X2 ⟨rfl, hb1⟩
    have HN2 : Hid (BlockAt X2 w.heap.size #[.int .i64 A, .int .i64 B, .int .i64 C, .slice va cs.length vc] 24 ∧ Ints X2 (.slice va cs.length vc) cs ∧ Below w.heap.size w X2) := Lib.hid ⟨HN1.out.1.below hb1 HN1.out.1.lt, Ints.all HN1.out.2.1 hb1, later HN1.out.2.2 HN1.out.2.2.size hb1⟩
    clear hb1 c0 c1 c2 c3 HN1
    have c0 : World.cell? _ _ = some (.int .i64 A) := HN2.out.1.cell 0
    have c1 : World.cell? _ _ = some (.int .i64 B) := HN2.out.1.cell 1
    have c2 : World.cell? _ _ = some (.int .i64 C) := HN2.out.1.cell 2
    have c3 : World.cell? _ _ = some (.slice va cs.length vc) := HN2.out.1.cell 3
    go_wp2_with fail
    refine (RP.out _ _ HN2.out.2.1).mono ?_
    rintro e X3 ⟨rfl, hb1⟩
    have HN3 : Hid (BlockAt X3 w.heap.size #[.int .i64 A, .int .i64 B, .int .i64 C, .slice va cs.length vc] 24 ∧ Ints X3 (.slice va cs.length vc) cs ∧ Below w.heap.size w X3) := Lib.hid ⟨HN2.out.1.below hb1 HN2.out.1.lt, Ints.all HN2.out.2.1 hb1, later HN2.out.2.2 HN2.out.2.2.size hb1⟩
    clear hb1 c0 c1 c2 c3 HN2
    go_wp2_with fail
    refine (KN.out _ HN3.out.2.2).mono ?_
    rintro e X4 ⟨rfl, hb1⟩
    have HN4 : Hid (BlockAt X4 w.heap.size #[.int .i64 A, .int .i64 B, .int .i64 C, .slice va cs.length vc] 24 ∧ Ints X4 (.slice va cs.length vc) cs ∧ Below w.heap.size w X4) := Lib.hid ⟨HN3.out.1.below hb1 HN3.out.1.lt, Ints.all HN3.out.2.1 hb1, later HN3.out.2.2 HN3.out.2.2.size hb1⟩
    clear hb1  HN3
    go_wp2
    go_ret
    exact ⟨rfl, HN4.out.2.2⟩
  obtain ⟨hzv, ⟨x1, x2⟩, ⟨y1, y2⟩⟩ := place_ok hz
  have p0 := pl_of hzv
  simp only [if_pos hz] at IP RP
  have HO := Lib.hid (fun (u : Value) W (hu : Ints W u cs) => Home_any A B C u cs dx dy (lat A B C cs) W hu hkl hA1 hA2 lat_is)
  simp only [if_pos hz] at HO
  rw [show lat A B C cs = latF (Pt.col ⟨A, B, C⟩ (csF cs)) from rfl] at HO
  have SH := Lib.hid (fun (u : Value) W (hu : Ints W u cs) => shift_any A B C u cs dx dy W hu hkl hA1 hA2)
  unfold PatRes at SH
  rw [hz, ansL_ok, ansC_ok] at SH
  have hcol := p0
  have p1 := p0.shi dx dy
  have hmv : movedB ⟨A, B, C⟩ (Pt.col ⟨A, B, C⟩ (csF cs)) (Pt.col ⟨A, B, C⟩ (csF cs)) dx dy = true ↔ Pt.Per (Pt.col ⟨A, B, C⟩ (csF cs)) dx dy :=
    moved_per (plane_of hzv).1 (fun x y h => Pt.col_per (plane_of hzv).1 _ h) dx dy
  have SA := Lib.hid (fun (u u' : Value) W (hu : Ints W u cs) hu' => same_ok A B C (latF (Pt.shiF dx dy (Pt.col ⟨A, B, C⟩ (csF cs)))).a (latF (Pt.shiF dx dy (Pt.col ⟨A, B, C⟩ (csF cs)))).b (latF (Pt.shiF dx dy (Pt.col ⟨A, B, C⟩ (csF cs)))).c u u' cs (cellsF (Pt.shiF dx dy (Pt.col ⟨A, B, C⟩ (csF cs)))) W hzv p1.valid hu hu' hkl (by have := p1.len.2; omega) hA1 hA2 (by have := p1.isB.ok.1; omega) (by have := p1.size; omega) (Pt.col ⟨A, B, C⟩ (csF cs)) (Pt.shiF dx dy (Pt.col ⟨A, B, C⟩ (csF cs))) rfl p1.col.symm)
  generalize Pt.col ⟨A, B, C⟩ (csF cs) = F at *
  have e1 := same_per p0 dx dy
  have e2 := home_per p0 dx dy
  have HS : Hid (eqP (latF F).a (latF F).b (latF F).c (cellsF F) (latF (Pt.shiF dx dy F)).a (latF (Pt.shiF dx dy F)).b (latF (Pt.shiF dx dy F)).c (cellsF (Pt.shiF dx dy F)) = movedB ⟨A, B, C⟩ F F dx dy) := Lib.hid (by
    rw [Bool.eq_iff_iff, e1, hmv])
  have HH : Hid ((Pt.hx (latF F) dx dy = 0 ∧ Pt.hy (latF F) dy = 0) ↔ movedB ⟨A, B, C⟩ F F dx dy = true) := Lib.hid (e2.trans hmv.symm)
  rw [HS.out] at SA
  clear e1 e2 hmv HS p0 p1 hcol
  generalize movedB ⟨A, B, C⟩ F F dx dy = m at *
  generalize Pt.hx (latF F) dx dy = ra at *
  generalize Pt.hy (latF F) dy = rb at *
  generalize latF (Pt.shiF dx dy F) = L1 at *
  generalize cellsF (Pt.shiF dx dy F) = K1 at *
  clear hv hE h1 hL hz hzv hkl
  cases m
  · by_cases hra : ra = 0
    · have hrb : ¬ rb = 0 := fun h => by have := HH.out.1 ⟨hra, h⟩; cases this
      subst hra
      have w2' : (rb == 0) = false := beq_eq_false_iff_ne.2 hrb
      clear HH hrb
      go_enter Tryz.func6, Tryz.ntmps6
      go_wp2_with fail
      refine (LO.out _ HB.out.2.2).mono ?_
      rintro e X1 ⟨rfl, hb1⟩
      have HN1 : Hid (BlockAt X1 w.heap.size #[.int .i64 A, .int .i64 B, .int .i64 C, .slice va cs.length vc] 24 ∧ Ints X1 (.slice va cs.length vc) cs ∧ Below w.heap.size w X1) := Lib.hid ⟨HB.out.1.below hb1 HB.out.1.lt, Ints.all HB.out.2.1 hb1, later HB.out.2.2 HB.out.2.2.size hb1⟩
      clear hb1  HB
      have c0 : World.cell? _ _ = some (.int .i64 A) := HN1.out.1.cell 0
      have c1 : World.cell? _ _ = some (.int .i64 B) := HN1.out.1.cell 1
      have c2 : World.cell? _ _ = some (.int .i64 C) := HN1.out.1.cell 2
      have c3 : World.cell? _ _ = some (.slice va cs.length vc) := HN1.out.1.cell 3
      go_wp2_with fail
      refine (IP.out _ _ HN1.out.2.1).mono ?_
      rintro e X2 ⟨rfl, hb1⟩
      have HN2 : Hid (BlockAt X2 w.heap.size #[.int .i64 A, .int .i64 B, .int .i64 C, .slice va cs.length vc] 24 ∧ Ints X2 (.slice va cs.length vc) cs ∧ Below w.heap.size w X2) := Lib.hid ⟨HN1.out.1.below hb1 HN1.out.1.lt, Ints.all HN1.out.2.1 hb1, later HN1.out.2.2 HN1.out.2.2.size hb1⟩
      clear hb1 c0 c1 c2 c3 HN1
      have c0 : World.cell? _ _ = some (.int .i64 A) := HN2.out.1.cell 0
      have c1 : World.cell? _ _ = some (.int .i64 B) := HN2.out.1.cell 1
      have c2 : World.cell? _ _ = some (.int .i64 C) := HN2.out.1.cell 2
      have c3 : World.cell? _ _ = some (.slice va cs.length vc) := HN2.out.1.cell 3
      go_wp2_with fail
      refine (RP.out _ _ HN2.out.2.1).mono ?_
      rintro e X3 ⟨rfl, hb1⟩
      have HN3 : Hid (BlockAt X3 w.heap.size #[.int .i64 A, .int .i64 B, .int .i64 C, .slice va cs.length vc] 24 ∧ Ints X3 (.slice va cs.length vc) cs ∧ Below w.heap.size w X3) := Lib.hid ⟨HN2.out.1.below hb1 HN2.out.1.lt, Ints.all HN2.out.2.1 hb1, later HN2.out.2.2 HN2.out.2.2.size hb1⟩
      clear hb1 c0 c1 c2 c3 HN2
      have c0 : World.cell? _ _ = some (.int .i64 A) := HN3.out.1.cell 0
      have c1 : World.cell? _ _ = some (.int .i64 B) := HN3.out.1.cell 1
      have c2 : World.cell? _ _ = some (.int .i64 C) := HN3.out.1.cell 2
      have c3 : World.cell? _ _ = some (.slice va cs.length vc) := HN3.out.1.cell 3
      go_wp2_with fail
      refine (SH.out _ _ HN3.out.2.1).mono ?_
      rintro e q4 ⟨u4, rfl, hown, hb1⟩
      obtain ⟨s4, t4, rfl⟩ := hown.form
      obtain ⟨X4, hX4⟩ : ∃ X, q4.alloc (.cells #[.int .i64 L1.a, .int .i64 L1.b, .int .i64 L1.c, .slice s4 K1.length t4] 24) = X := ⟨_, rfl⟩
      have hbX : Below X3.heap.size X3 X4 := by rw [← hX4]; exact hb1.alloc hb1.size _
      have HN4 : Hid (BlockAt X4 w.heap.size #[.int .i64 A, .int .i64 B, .int .i64 C, .slice va cs.length vc] 24 ∧ Ints X4 (.slice va cs.length vc) cs ∧ BlockAt X4 q4.heap.size #[.int .i64 L1.a, .int .i64 L1.b, .int .i64 L1.c, .slice s4 K1.length t4] 24 ∧ Ints X4 (.slice s4 K1.length t4) K1 ∧ Below w.heap.size w X4) := Lib.hid ⟨HN3.out.1.below hbX HN3.out.1.lt, Ints.all HN3.out.2.1 hbX, (by rw [← hX4]; exact BlockAt.new _ _ _), (by rw [← hX4]; exact (OwnI.alloc hown _).ints), later HN3.out.2.2 HN3.out.2.2.size hbX⟩
      clear hown hb1 hbX c0 c1 c2 c3 HN3
      have c0 : World.cell? _ _ = some (.int .i64 A) := HN4.out.1.cell 0
      have c1 : World.cell? _ _ = some (.int .i64 B) := HN4.out.1.cell 1
      have c2 : World.cell? _ _ = some (.int .i64 C) := HN4.out.1.cell 2
      have c3 : World.cell? _ _ = some (.slice va cs.length vc) := HN4.out.1.cell 3
      have d0 : World.cell? _ _ = some (.int .i64 L1.a) := HN4.out.2.2.1.cell 0
      have d1 : World.cell? _ _ = some (.int .i64 L1.b) := HN4.out.2.2.1.cell 1
      have d2 : World.cell? _ _ = some (.int .i64 L1.c) := HN4.out.2.2.1.cell 2
      have d3 : World.cell? _ _ = some (.slice s4 K1.length t4) := HN4.out.2.2.1.cell 3
      go_wp2_with (rw [hX4])
      go_wp2_with fail
      refine (SA.out _ _ _ HN4.out.2.1 HN4.out.2.2.2.1).mono ?_
      rintro e X5 ⟨rfl, hb1⟩
      have HN5 : Hid (BlockAt X5 w.heap.size #[.int .i64 A, .int .i64 B, .int .i64 C, .slice va cs.length vc] 24 ∧ Ints X5 (.slice va cs.length vc) cs ∧ BlockAt X5 q4.heap.size #[.int .i64 L1.a, .int .i64 L1.b, .int .i64 L1.c, .slice s4 K1.length t4] 24 ∧ Ints X5 (.slice s4 K1.length t4) K1 ∧ Below w.heap.size w X5) := Lib.hid ⟨HN4.out.1.below hb1 HN4.out.1.lt, Ints.all HN4.out.2.1 hb1, HN4.out.2.2.1.below hb1 HN4.out.2.2.1.lt, Ints.all HN4.out.2.2.2.1 hb1, later HN4.out.2.2.2.2 HN4.out.2.2.2.2.size hb1⟩
      clear hb1 c0 c1 c2 c3 d0 d1 d2 d3 hX4 HN4
      have c0 : World.cell? _ _ = some (.int .i64 A) := HN5.out.1.cell 0
      have c1 : World.cell? _ _ = some (.int .i64 B) := HN5.out.1.cell 1
      have c2 : World.cell? _ _ = some (.int .i64 C) := HN5.out.1.cell 2
      have c3 : World.cell? _ _ = some (.slice va cs.length vc) := HN5.out.1.cell 3
      go_wp2_with fail
      refine (HO.out _ _ HN5.out.2.1).mono ?_
      rintro e X6 ⟨rfl, hb1⟩
      have HN6 : Hid (BlockAt X6 w.heap.size #[.int .i64 A, .int .i64 B, .int .i64 C, .slice va cs.length vc] 24 ∧ Ints X6 (.slice va cs.length vc) cs ∧ BlockAt X6 q4.heap.size #[.int .i64 L1.a, .int .i64 L1.b, .int .i64 L1.c, .slice s4 K1.length t4] 24 ∧ Ints X6 (.slice s4 K1.length t4) K1 ∧ Below w.heap.size w X6) := Lib.hid ⟨HN5.out.1.below hb1 HN5.out.1.lt, Ints.all HN5.out.2.1 hb1, HN5.out.2.2.1.below hb1 HN5.out.2.2.1.lt, Ints.all HN5.out.2.2.2.1 hb1, later HN5.out.2.2.2.2 HN5.out.2.2.2.2.size hb1⟩
      clear hb1 c0 c1 c2 c3 HN5
      go_wp2_with fail
      refine (KN.out _ HN6.out.2.2.2.2).mono ?_
      rintro e X7 ⟨rfl, hb1⟩
      have HN7 : Hid (BlockAt X7 w.heap.size #[.int .i64 A, .int .i64 B, .int .i64 C, .slice va cs.length vc] 24 ∧ Ints X7 (.slice va cs.length vc) cs ∧ BlockAt X7 q4.heap.size #[.int .i64 L1.a, .int .i64 L1.b, .int .i64 L1.c, .slice s4 K1.length t4] 24 ∧ Ints X7 (.slice s4 K1.length t4) K1 ∧ Below w.heap.size w X7) := Lib.hid ⟨HN6.out.1.below hb1 HN6.out.1.lt, Ints.all HN6.out.2.1 hb1, HN6.out.2.2.1.below hb1 HN6.out.2.2.1.lt, Ints.all HN6.out.2.2.2.1 hb1, later HN6.out.2.2.2.2 HN6.out.2.2.2.2.size hb1⟩
      clear hb1  HN6
      go_wp2
      go_ret
      exact ⟨rfl, HN7.out.2.2.2.2⟩
    · have w1' : (ra == 0) = false := beq_eq_false_iff_ne.2 hra
      clear HH hra
      go_enter Tryz.func6, Tryz.ntmps6
      go_wp2_with fail
      refine (LO.out _ HB.out.2.2).mono ?_
      rintro e X1 ⟨rfl, hb1⟩
      have HN1 : Hid (BlockAt X1 w.heap.size #[.int .i64 A, .int .i64 B, .int .i64 C, .slice va cs.length vc] 24 ∧ Ints X1 (.slice va cs.length vc) cs ∧ Below w.heap.size w X1) := Lib.hid ⟨HB.out.1.below hb1 HB.out.1.lt, Ints.all HB.out.2.1 hb1, later HB.out.2.2 HB.out.2.2.size hb1⟩
      clear hb1  HB
      have c0 : World.cell? _ _ = some (.int .i64 A) := HN1.out.1.cell 0
      have c1 : World.cell? _ _ = some (.int .i64 B) := HN1.out.1.cell 1
      have c2 : World.cell? _ _ = some (.int .i64 C) := HN1.out.1.cell 2
      have c3 : World.cell? _ _ = some (.slice va cs.length vc) := HN1.out.1.cell 3
      go_wp2_with fail
      refine (IP.out _ _ HN1.out.2.1).mono ?_
      rintro e X2 ⟨rfl, hb1⟩
      have HN2 : Hid (BlockAt X2 w.heap.size #[.int .i64 A, .int .i64 B, .int .i64 C, .slice va cs.length vc] 24 ∧ Ints X2 (.slice va cs.length vc) cs ∧ Below w.heap.size w X2) := Lib.hid ⟨HN1.out.1.below hb1 HN1.out.1.lt, Ints.all HN1.out.2.1 hb1, later HN1.out.2.2 HN1.out.2.2.size hb1⟩
      clear hb1 c0 c1 c2 c3 HN1
      have c0 : World.cell? _ _ = some (.int .i64 A) := HN2.out.1.cell 0
      have c1 : World.cell? _ _ = some (.int .i64 B) := HN2.out.1.cell 1
      have c2 : World.cell? _ _ = some (.int .i64 C) := HN2.out.1.cell 2
      have c3 : World.cell? _ _ = some (.slice va cs.length vc) := HN2.out.1.cell 3
      go_wp2_with fail
      refine (RP.out _ _ HN2.out.2.1).mono ?_
      rintro e X3 ⟨rfl, hb1⟩
      have HN3 : Hid (BlockAt X3 w.heap.size #[.int .i64 A, .int .i64 B, .int .i64 C, .slice va cs.length vc] 24 ∧ Ints X3 (.slice va cs.length vc) cs ∧ Below w.heap.size w X3) := Lib.hid ⟨HN2.out.1.below hb1 HN2.out.1.lt, Ints.all HN2.out.2.1 hb1, later HN2.out.2.2 HN2.out.2.2.size hb1⟩
      clear hb1 c0 c1 c2 c3 HN2
      have c0 : World.cell? _ _ = some (.int .i64 A) := HN3.out.1.cell 0
      have c1 : World.cell? _ _ = some (.int .i64 B) := HN3.out.1.cell 1
      have c2 : World.cell? _ _ = some (.int .i64 C) := HN3.out.1.cell 2
      have c3 : World.cell? _ _ = some (.slice va cs.length vc) := HN3.out.1.cell 3
      go_wp2_with fail
      refine (SH.out _ _ HN3.out.2.1).mono ?_
      rintro e q4 ⟨u4, rfl, hown, hb1⟩
      obtain ⟨s4, t4, rfl⟩ := hown.form
      obtain ⟨X4, hX4⟩ : ∃ X, q4.alloc (.cells #[.int .i64 L1.a, .int .i64 L1.b, .int .i64 L1.c, .slice s4 K1.length t4] 24) = X := ⟨_, rfl⟩
      have hbX : Below X3.heap.size X3 X4 := by rw [← hX4]; exact hb1.alloc hb1.size _
      have HN4 : Hid (BlockAt X4 w.heap.size #[.int .i64 A, .int .i64 B, .int .i64 C, .slice va cs.length vc] 24 ∧ Ints X4 (.slice va cs.length vc) cs ∧ BlockAt X4 q4.heap.size #[.int .i64 L1.a, .int .i64 L1.b, .int .i64 L1.c, .slice s4 K1.length t4] 24 ∧ Ints X4 (.slice s4 K1.length t4) K1 ∧ Below w.heap.size w X4) := Lib.hid ⟨HN3.out.1.below hbX HN3.out.1.lt, Ints.all HN3.out.2.1 hbX, (by rw [← hX4]; exact BlockAt.new _ _ _), (by rw [← hX4]; exact (OwnI.alloc hown _).ints), later HN3.out.2.2 HN3.out.2.2.size hbX⟩
      clear hown hb1 hbX c0 c1 c2 c3 HN3
      have c0 : World.cell? _ _ = some (.int .i64 A) := HN4.out.1.cell 0
      have c1 : World.cell? _ _ = some (.int .i64 B) := HN4.out.1.cell 1
      have c2 : World.cell? _ _ = some (.int .i64 C) := HN4.out.1.cell 2
      have c3 : World.cell? _ _ = some (.slice va cs.length vc) := HN4.out.1.cell 3
      have d0 : World.cell? _ _ = some (.int .i64 L1.a) := HN4.out.2.2.1.cell 0
      have d1 : World.cell? _ _ = some (.int .i64 L1.b) := HN4.out.2.2.1.cell 1
      have d2 : World.cell? _ _ = some (.int .i64 L1.c) := HN4.out.2.2.1.cell 2
      have d3 : World.cell? _ _ = some (.slice s4 K1.length t4) := HN4.out.2.2.1.cell 3
      go_wp2_with (rw [hX4])
      go_wp2_with fail
      refine (SA.out _ _ _ HN4.out.2.1 HN4.out.2.2.2.1).mono ?_
      rintro e X5 ⟨rfl, hb1⟩
      have HN5 : Hid (BlockAt X5 w.heap.size #[.int .i64 A, .int .i64 B, .int .i64 C, .slice va cs.length vc] 24 ∧ Ints X5 (.slice va cs.length vc) cs ∧ BlockAt X5 q4.heap.size #[.int .i64 L1.a, .int .i64 L1.b, .int .i64 L1.c, .slice s4 K1.length t4] 24 ∧ Ints X5 (.slice s4 K1.length t4) K1 ∧ Below w.heap.size w X5) := Lib.hid ⟨HN4.out.1.below hb1 HN4.out.1.lt, Ints.all HN4.out.2.1 hb1, HN4.out.2.2.1.below hb1 HN4.out.2.2.1.lt, Ints.all HN4.out.2.2.2.1 hb1, later HN4.out.2.2.2.2 HN4.out.2.2.2.2.size hb1⟩
      clear hb1 c0 c1 c2 c3 d0 d1 d2 d3 hX4 HN4
      have c0 : World.cell? _ _ = some (.int .i64 A) := HN5.out.1.cell 0
      have c1 : World.cell? _ _ = some (.int .i64 B) := HN5.out.1.cell 1
      have c2 : World.cell? _ _ = some (.int .i64 C) := HN5.out.1.cell 2
      have c3 : World.cell? _ _ = some (.slice va cs.length vc) := HN5.out.1.cell 3
      go_wp2_with fail
      refine (HO.out _ _ HN5.out.2.1).mono ?_
      rintro e X6 ⟨rfl, hb1⟩
      have HN6 : Hid (BlockAt X6 w.heap.size #[.int .i64 A, .int .i64 B, .int .i64 C, .slice va cs.length vc] 24 ∧ Ints X6 (.slice va cs.length vc) cs ∧ BlockAt X6 q4.heap.size #[.int .i64 L1.a, .int .i64 L1.b, .int .i64 L1.c, .slice s4 K1.length t4] 24 ∧ Ints X6 (.slice s4 K1.length t4) K1 ∧ Below w.heap.size w X6) := Lib.hid ⟨HN5.out.1.below hb1 HN5.out.1.lt, Ints.all HN5.out.2.1 hb1, HN5.out.2.2.1.below hb1 HN5.out.2.2.1.lt, Ints.all HN5.out.2.2.2.1 hb1, later HN5.out.2.2.2.2 HN5.out.2.2.2.2.size hb1⟩
      clear hb1 c0 c1 c2 c3 HN5
      go_wp2_with fail
      refine (KN.out _ HN6.out.2.2.2.2).mono ?_
      rintro e X7 ⟨rfl, hb1⟩
      have HN7 : Hid (BlockAt X7 w.heap.size #[.int .i64 A, .int .i64 B, .int .i64 C, .slice va cs.length vc] 24 ∧ Ints X7 (.slice va cs.length vc) cs ∧ BlockAt X7 q4.heap.size #[.int .i64 L1.a, .int .i64 L1.b, .int .i64 L1.c, .slice s4 K1.length t4] 24 ∧ Ints X7 (.slice s4 K1.length t4) K1 ∧ Below w.heap.size w X7) := Lib.hid ⟨HN6.out.1.below hb1 HN6.out.1.lt, Ints.all HN6.out.2.1 hb1, HN6.out.2.2.1.below hb1 HN6.out.2.2.1.lt, Ints.all HN6.out.2.2.2.1 hb1, later HN6.out.2.2.2.2 HN6.out.2.2.2.2.size hb1⟩
      clear hb1  HN6
      go_wp2
      go_ret
      exact ⟨rfl, HN7.out.2.2.2.2⟩
  · obtain ⟨rfl, rfl⟩ := HH.out.2 rfl
    clear HH
    go_enter Tryz.func6, Tryz.ntmps6
    go_wp2_with fail
    refine (LO.out _ HB.out.2.2).mono ?_
    rintro e X1 ⟨rfl, hb1⟩
    have HN1 : Hid (BlockAt X1 w.heap.size #[.int .i64 A, .int .i64 B, .int .i64 C, .slice va cs.length vc] 24 ∧ Ints X1 (.slice va cs.length vc) cs ∧ Below w.heap.size w X1) := Lib.hid ⟨HB.out.1.below hb1 HB.out.1.lt, Ints.all HB.out.2.1 hb1, later HB.out.2.2 HB.out.2.2.size hb1⟩
    clear hb1  HB
    have c0 : World.cell? _ _ = some (.int .i64 A) := HN1.out.1.cell 0
    have c1 : World.cell? _ _ = some (.int .i64 B) := HN1.out.1.cell 1
    have c2 : World.cell? _ _ = some (.int .i64 C) := HN1.out.1.cell 2
    have c3 : World.cell? _ _ = some (.slice va cs.length vc) := HN1.out.1.cell 3
    go_wp2_with fail
    refine (IP.out _ _ HN1.out.2.1).mono ?_
    rintro e X2 ⟨rfl, hb1⟩
    have HN2 : Hid (BlockAt X2 w.heap.size #[.int .i64 A, .int .i64 B, .int .i64 C, .slice va cs.length vc] 24 ∧ Ints X2 (.slice va cs.length vc) cs ∧ Below w.heap.size w X2) := Lib.hid ⟨HN1.out.1.below hb1 HN1.out.1.lt, Ints.all HN1.out.2.1 hb1, later HN1.out.2.2 HN1.out.2.2.size hb1⟩
    clear hb1 c0 c1 c2 c3 HN1
    have c0 : World.cell? _ _ = some (.int .i64 A) := HN2.out.1.cell 0
    have c1 : World.cell? _ _ = some (.int .i64 B) := HN2.out.1.cell 1
    have c2 : World.cell? _ _ = some (.int .i64 C) := HN2.out.1.cell 2
    have c3 : World.cell? _ _ = some (.slice va cs.length vc) := HN2.out.1.cell 3
    go_wp2_with fail
    refine (RP.out _ _ HN2.out.2.1).mono ?_
    rintro e X3 ⟨rfl, hb1⟩
    have HN3 : Hid (BlockAt X3 w.heap.size #[.int .i64 A, .int .i64 B, .int .i64 C, .slice va cs.length vc] 24 ∧ Ints X3 (.slice va cs.length vc) cs ∧ Below w.heap.size w X3) := Lib.hid ⟨HN2.out.1.below hb1 HN2.out.1.lt, Ints.all HN2.out.2.1 hb1, later HN2.out.2.2 HN2.out.2.2.size hb1⟩
    clear hb1 c0 c1 c2 c3 HN2
    have c0 : World.cell? _ _ = some (.int .i64 A) := HN3.out.1.cell 0
    have c1 : World.cell? _ _ = some (.int .i64 B) := HN3.out.1.cell 1
    have c2 : World.cell? _ _ = some (.int .i64 C) := HN3.out.1.cell 2
    have c3 : World.cell? _ _ = some (.slice va cs.length vc) := HN3.out.1.cell 3
    go_wp2_with fail
    refine (SH.out _ _ HN3.out.2.1).mono ?_
    rintro e q4 ⟨u4, rfl, hown, hb1⟩
    obtain ⟨s4, t4, rfl⟩ := hown.form
    obtain ⟨X4, hX4⟩ : ∃ X, q4.alloc (.cells #[.int .i64 L1.a, .int .i64 L1.b, .int .i64 L1.c, .slice s4 K1.length t4] 24) = X := ⟨_, rfl⟩
    have hbX : Below X3.heap.size X3 X4 := by rw [← hX4]; exact hb1.alloc hb1.size _
    have HN4 : Hid (BlockAt X4 w.heap.size #[.int .i64 A, .int .i64 B, .int .i64 C, .slice va cs.length vc] 24 ∧ Ints X4 (.slice va cs.length vc) cs ∧ BlockAt X4 q4.heap.size #[.int .i64 L1.a, .int .i64 L1.b, .int .i64 L1.c, .slice s4 K1.length t4] 24 ∧ Ints X4 (.slice s4 K1.length t4) K1 ∧ Below w.heap.size w X4) := Lib.hid ⟨HN3.out.1.below hbX HN3.out.1.lt, Ints.all HN3.out.2.1 hbX, (by rw [← hX4]; exact BlockAt.new _ _ _), (by rw [← hX4]; exact (OwnI.alloc hown _).ints), later HN3.out.2.2 HN3.out.2.2.size hbX⟩
    clear hown hb1 hbX c0 c1 c2 c3 HN3
    have c0 : World.cell? _ _ = some (.int .i64 A) := HN4.out.1.cell 0
    have c1 : World.cell? _ _ = some (.int .i64 B) := HN4.out.1.cell 1
    have c2 : World.cell? _ _ = some (.int .i64 C) := HN4.out.1.cell 2
    have c3 : World.cell? _ _ = some (.slice va cs.length vc) := HN4.out.1.cell 3
    have d0 : World.cell? _ _ = some (.int .i64 L1.a) := HN4.out.2.2.1.cell 0
    have d1 : World.cell? _ _ = some (.int .i64 L1.b) := HN4.out.2.2.1.cell 1
    have d2 : World.cell? _ _ = some (.int .i64 L1.c) := HN4.out.2.2.1.cell 2
    have d3 : World.cell? _ _ = some (.slice s4 K1.length t4) := HN4.out.2.2.1.cell 3
    go_wp2_with (rw [hX4])
    go_wp2_with fail
    refine (SA.out _ _ _ HN4.out.2.1 HN4.out.2.2.2.1).mono ?_
    rintro e X5 ⟨rfl, hb1⟩
    have HN5 : Hid (BlockAt X5 w.heap.size #[.int .i64 A, .int .i64 B, .int .i64 C, .slice va cs.length vc] 24 ∧ Ints X5 (.slice va cs.length vc) cs ∧ BlockAt X5 q4.heap.size #[.int .i64 L1.a, .int .i64 L1.b, .int .i64 L1.c, .slice s4 K1.length t4] 24 ∧ Ints X5 (.slice s4 K1.length t4) K1 ∧ Below w.heap.size w X5) := Lib.hid ⟨HN4.out.1.below hb1 HN4.out.1.lt, Ints.all HN4.out.2.1 hb1, HN4.out.2.2.1.below hb1 HN4.out.2.2.1.lt, Ints.all HN4.out.2.2.2.1 hb1, later HN4.out.2.2.2.2 HN4.out.2.2.2.2.size hb1⟩
    clear hb1 c0 c1 c2 c3 d0 d1 d2 d3 hX4 HN4
    have c0 : World.cell? _ _ = some (.int .i64 A) := HN5.out.1.cell 0
    have c1 : World.cell? _ _ = some (.int .i64 B) := HN5.out.1.cell 1
    have c2 : World.cell? _ _ = some (.int .i64 C) := HN5.out.1.cell 2
    have c3 : World.cell? _ _ = some (.slice va cs.length vc) := HN5.out.1.cell 3
    go_wp2_with fail
    refine (HO.out _ _ HN5.out.2.1).mono ?_
    rintro e X6 ⟨rfl, hb1⟩
    have HN6 : Hid (BlockAt X6 w.heap.size #[.int .i64 A, .int .i64 B, .int .i64 C, .slice va cs.length vc] 24 ∧ Ints X6 (.slice va cs.length vc) cs ∧ BlockAt X6 q4.heap.size #[.int .i64 L1.a, .int .i64 L1.b, .int .i64 L1.c, .slice s4 K1.length t4] 24 ∧ Ints X6 (.slice s4 K1.length t4) K1 ∧ Below w.heap.size w X6) := Lib.hid ⟨HN5.out.1.below hb1 HN5.out.1.lt, Ints.all HN5.out.2.1 hb1, HN5.out.2.2.1.below hb1 HN5.out.2.2.1.lt, Ints.all HN5.out.2.2.2.1 hb1, later HN5.out.2.2.2.2 HN5.out.2.2.2.2.size hb1⟩
    clear hb1 c0 c1 c2 c3 HN5
    go_wp2_with fail
    refine (KN.out _ HN6.out.2.2.2.2).mono ?_
    rintro e X7 ⟨rfl, hb1⟩
    have HN7 : Hid (BlockAt X7 w.heap.size #[.int .i64 A, .int .i64 B, .int .i64 C, .slice va cs.length vc] 24 ∧ Ints X7 (.slice va cs.length vc) cs ∧ BlockAt X7 q4.heap.size #[.int .i64 L1.a, .int .i64 L1.b, .int .i64 L1.c, .slice s4 K1.length t4] 24 ∧ Ints X7 (.slice s4 K1.length t4) K1 ∧ Below w.heap.size w X7) := Lib.hid ⟨HN6.out.1.below hb1 HN6.out.1.lt, Ints.all HN6.out.2.1 hb1, HN6.out.2.2.1.below hb1 HN6.out.2.2.1.lt, Ints.all HN6.out.2.2.2.1 hb1, later HN6.out.2.2.2.2 HN6.out.2.2.2.2.size hb1⟩
    clear hb1  HN6
    go_wp2
    go_ret
    exact ⟨rfl, HN7.out.2.2.2.2⟩
end Go.Proofs.YtigigmjdockdeaaGreatDoor
