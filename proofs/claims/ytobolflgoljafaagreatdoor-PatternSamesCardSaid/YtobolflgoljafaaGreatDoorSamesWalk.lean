/- PatternSames returns true, whatever the two patterns. -/
import Derived.Test.YtobolflgoljafaaGreatDoorPat44
import Derived.Test.YtobolflgoljafaaGreatDoorPatI
namespace Go.Proofs.YtobolflgoljafaaGreatDoor
open Go.RowKit Go.Sort

theorem same_iff {f g : Int → Int → Int} (hf : Pl f) (hg : Pl g) : eqP (latF f).a (latF f).b (latF f).c (cellsF f) (latF g).a (latF g).b (latF g).c (cellsF g) = true ↔ f = g := by
  constructor
  · intro he
    obtain ⟨e1, e2, e3, e4⟩ := of_decide_eq_true he
    have el : latF f = latF g := by
      generalize latF f = L at *
      generalize latF g = L' at *
      cases L; cases L'; simp only at e1 e2 e3; rw [e1, e2, e3]
    exact hf.inj hg el e4
  · intro he
    subst he
    exact eqP_same _ _ _ _

set_option maxRecDepth 20000 in
set_option maxHeartbeats 8000000 in
theorem sames_walk (A B C A' B' C' : Int) (v v' : Value) (cs ds : List Int) (w : World) (hE : Env w) (hv : Ints w v cs) (hv' : Ints w v' ds) (hA1 : -9223372036854775808 ≤ A) (hA2 : A ≤ 9223372036854775807) (hA1' : -9223372036854775808 ≤ A') (hA2' : A' ≤ 9223372036854775807) :
    Calls Tryz.prog 3 #[.agg #[.int .i64 A, .int .i64 B, .int .i64 C, v], .agg #[.int .i64 A', .int .i64 B', .int .i64 C', v']] w fun e w' => e = .returned (.bool true) ∧ Below w.heap.size w w' := by
  have LO := Lib.hid (fun (u : Value) W (hu : Ints W u cs) => long_any A B C u cs W hu)
  have LP := Lib.hid (fun (u : Value) W (hu : Ints W u ds) => long_any A' B' C' u ds W hu)
  have KN := Lib.hid (fun W (hW : Below w.heap.size w W) => known_any W (hE.all hW))
  obtain ⟨va, vc, rfl, _⟩ := hv.look'
  obtain ⟨va', vc', rfl, _⟩ := hv'.look'
  have b0 := (BlockAt.new w #[.int .i64 A, .int .i64 B, .int .i64 C, .slice va cs.length vc] 24).alloc (.cells #[.int .i64 A', .int .i64 B', .int .i64 C', .slice va' ds.length vc'] 24)
  have b1 := BlockAt.new (w.alloc (.cells #[.int .i64 A, .int .i64 B, .int .i64 C, .slice va cs.length vc] 24)) #[.int .i64 A', .int .i64 B', .int .i64 C', .slice va' ds.length vc'] 24
  simp only [World.size_alloc] at b1
  have hw := below_alloc (below_alloc (Below.refl w.heap.size w) (.cells #[.int .i64 A, .int .i64 B, .int .i64 C, .slice va cs.length vc] 24)) (.cells #[.int .i64 A', .int .i64 B', .int .i64 C', .slice va' ds.length vc'] 24)
  have hq : Below w.heap.size w ((w.alloc (.cells #[.int .i64 A, .int .i64 B, .int .i64 C, .slice va cs.length vc] 24)).alloc (.cells #[.int .i64 A', .int .i64 B', .int .i64 C', .slice va' ds.length vc'] 24)) := hw
  have HB := Lib.hid (And.intro b0 (And.intro (hv.all hq) (And.intro b1 (And.intro (hv'.all hq) hw))))
  clear b0 b1 hw hq
  by_cases hL : 400 < cs.length
  · have h1 : decide (400 < cs.length) = true := decide_eq_true hL
    rw [h1] at LO
    clear hv hv' hE hL h1 LP
    go_enter Tryz.func3, Tryz.ntmps3
    have c0 : World.cell? _ _ = some (.int .i64 A) := HB.out.1.cell 0
    have c1 : World.cell? _ _ = some (.int .i64 B) := HB.out.1.cell 1
    have c2 : World.cell? _ _ = some (.int .i64 C) := HB.out.1.cell 2
    have c3 : World.cell? _ _ = some (.slice va cs.length vc) := HB.out.1.cell 3
    go_wp2_with fail
    refine (LO.out _ _ HB.out.2.1).mono ?_
    rintro e X1 ⟨rfl, hb1⟩
    have HN1 : Hid (BlockAt X1 w.heap.size #[.int .i64 A, .int .i64 B, .int .i64 C, .slice va cs.length vc] 24 ∧ Ints X1 (.slice va cs.length vc) cs ∧ BlockAt X1 (w.heap.size + 1) #[.int .i64 A', .int .i64 B', .int .i64 C', .slice va' ds.length vc'] 24 ∧ Ints X1 (.slice va' ds.length vc') ds ∧ Below w.heap.size w X1) := Lib.hid ⟨HB.out.1.below hb1 HB.out.1.lt, Ints.all HB.out.2.1 hb1, HB.out.2.2.1.below hb1 HB.out.2.2.1.lt, Ints.all HB.out.2.2.2.1 hb1, later HB.out.2.2.2.2 HB.out.2.2.2.2.size hb1⟩
    clear hb1 c0 c1 c2 c3 HB
    go_wp2_with fail
    refine (KN.out _ HN1.out.2.2.2.2).mono ?_
    rintro e X2 ⟨rfl, hb1⟩
    have HN2 : Hid (BlockAt X2 w.heap.size #[.int .i64 A, .int .i64 B, .int .i64 C, .slice va cs.length vc] 24 ∧ Ints X2 (.slice va cs.length vc) cs ∧ BlockAt X2 (w.heap.size + 1) #[.int .i64 A', .int .i64 B', .int .i64 C', .slice va' ds.length vc'] 24 ∧ Ints X2 (.slice va' ds.length vc') ds ∧ Below w.heap.size w X2) := Lib.hid ⟨HN1.out.1.below hb1 HN1.out.1.lt, Ints.all HN1.out.2.1 hb1, HN1.out.2.2.1.below hb1 HN1.out.2.2.1.lt, Ints.all HN1.out.2.2.2.1 hb1, later HN1.out.2.2.2.2 HN1.out.2.2.2.2.size hb1⟩
    clear hb1  HN1
    go_wp2
    go_ret
    exact ⟨rfl, HN2.out.2.2.2.2⟩
  have h1 : decide (400 < cs.length) = false := decide_eq_false hL
  rw [h1] at LO
  by_cases hL' : 400 < ds.length
  · have h2 : decide (400 < ds.length) = true := decide_eq_true hL'
    rw [h2] at LP
    clear hv hv' hE hL hL' h1 h2
    go_enter Tryz.func3, Tryz.ntmps3
    have c0 : World.cell? _ _ = some (.int .i64 A) := HB.out.1.cell 0
    have c1 : World.cell? _ _ = some (.int .i64 B) := HB.out.1.cell 1
    have c2 : World.cell? _ _ = some (.int .i64 C) := HB.out.1.cell 2
    have c3 : World.cell? _ _ = some (.slice va cs.length vc) := HB.out.1.cell 3
    go_wp2_with fail
    refine (LO.out _ _ HB.out.2.1).mono ?_
    rintro e X1 ⟨rfl, hb1⟩
    have HN1 : Hid (BlockAt X1 w.heap.size #[.int .i64 A, .int .i64 B, .int .i64 C, .slice va cs.length vc] 24 ∧ Ints X1 (.slice va cs.length vc) cs ∧ BlockAt X1 (w.heap.size + 1) #[.int .i64 A', .int .i64 B', .int .i64 C', .slice va' ds.length vc'] 24 ∧ Ints X1 (.slice va' ds.length vc') ds ∧ Below w.heap.size w X1) := Lib.hid ⟨HB.out.1.below hb1 HB.out.1.lt, Ints.all HB.out.2.1 hb1, HB.out.2.2.1.below hb1 HB.out.2.2.1.lt, Ints.all HB.out.2.2.2.1 hb1, later HB.out.2.2.2.2 HB.out.2.2.2.2.size hb1⟩
    clear hb1 c0 c1 c2 c3 HB
    have c0 : World.cell? _ _ = some (.int .i64 A') := HN1.out.2.2.1.cell 0
    have c1 : World.cell? _ _ = some (.int .i64 B') := HN1.out.2.2.1.cell 1
    have c2 : World.cell? _ _ = some (.int .i64 C') := HN1.out.2.2.1.cell 2
    have c3 : World.cell? _ _ = some (.slice va' ds.length vc') := HN1.out.2.2.1.cell 3
    go_wp2_with fail
    refine (LP.out _ _ HN1.out.2.2.2.1).mono ?_
    rintro e X2 ⟨rfl, hb1⟩
    have HN2 : Hid (BlockAt X2 w.heap.size #[.int .i64 A, .int .i64 B, .int .i64 C, .slice va cs.length vc] 24 ∧ Ints X2 (.slice va cs.length vc) cs ∧ BlockAt X2 (w.heap.size + 1) #[.int .i64 A', .int .i64 B', .int .i64 C', .slice va' ds.length vc'] 24 ∧ Ints X2 (.slice va' ds.length vc') ds ∧ Below w.heap.size w X2) := Lib.hid ⟨HN1.out.1.below hb1 HN1.out.1.lt, Ints.all HN1.out.2.1 hb1, HN1.out.2.2.1.below hb1 HN1.out.2.2.1.lt, Ints.all HN1.out.2.2.2.1 hb1, later HN1.out.2.2.2.2 HN1.out.2.2.2.2.size hb1⟩
    clear hb1 c0 c1 c2 c3 HN1
    go_wp2_with fail
    refine (KN.out _ HN2.out.2.2.2.2).mono ?_
    rintro e X3 ⟨rfl, hb1⟩
    have HN3 : Hid (BlockAt X3 w.heap.size #[.int .i64 A, .int .i64 B, .int .i64 C, .slice va cs.length vc] 24 ∧ Ints X3 (.slice va cs.length vc) cs ∧ BlockAt X3 (w.heap.size + 1) #[.int .i64 A', .int .i64 B', .int .i64 C', .slice va' ds.length vc'] 24 ∧ Ints X3 (.slice va' ds.length vc') ds ∧ Below w.heap.size w X3) := Lib.hid ⟨HN2.out.1.below hb1 HN2.out.1.lt, Ints.all HN2.out.2.1 hb1, HN2.out.2.2.1.below hb1 HN2.out.2.2.1.lt, Ints.all HN2.out.2.2.2.1 hb1, later HN2.out.2.2.2.2 HN2.out.2.2.2.2.size hb1⟩
    clear hb1  HN2
    go_wp2
    go_ret
    exact ⟨rfl, HN3.out.2.2.2.2⟩
  have h2 : decide (400 < ds.length) = false := decide_eq_false hL'
  rw [h2] at LP
  have hkl : cs.length ≤ 1000000000 := by omega
  have hkl' : ds.length ≤ 1000000000 := by omega
  have LA := Lib.hid (fun (u : Value) W (hu : Ints W u cs) => (Least_any A B C u cs (lat A B C cs) W hu hkl hA1 hA2 lat_is).mono fun e w' h => h.res)
  have LB := Lib.hid (fun (u : Value) W (hu : Ints W u ds) => (Least_any A' B' C' u ds (lat A' B' C' ds) W hu hkl' hA1' hA2' lat_is).mono fun e w' h => h.res)
  unfold PatRes at LA LB
  by_cases hz : bothE (validE A B C cs) (validE A' B' C' ds) = 0
  case neg =>
    have SA := Lib.hid (fun (u u' : Value) W (hu : Ints W u cs) (hu' : Ints W u' ds) => same_bad A B C A' B' C' u u' cs ds W hz hu hu' hkl hkl' hA1 hA2 hA1' hA2')
    have SR := Lib.hid (fun (u u' : Value) W (hu : Ints W u cs) (hu' : Ints W u' ds) => refSame_bad A B C A' B' C' u u' cs ds W hz hu hu' hkl hkl' hA1 hA2 hA1' hA2')
    generalize bothE (validE A B C cs) (validE A' B' C' ds) = q at *
    generalize validE A B C cs = q5 at *
    generalize validE A' B' C' ds = q6 at *
    generalize ansC q5 (lat A B C cs) (Pt.col ⟨A, B, C⟩ (csF cs)) = K1 at *
    generalize ansL q5 (lat A B C cs) = L1 at *
    generalize ansC q6 (lat A' B' C' ds) (Pt.col ⟨A', B', C'⟩ (csF ds)) = K2 at *
    generalize ansL q6 (lat A' B' C' ds) = L2 at *
    have q1 : (q == q) = true := beq_self_eq_true _
    have q2 : (q != q) = false := by rw [bne, q1]; rfl
    have hd : (q == 0) = false := beq_eq_false_iff_ne.2 hz
    have hd2 : (q != 0) = true := by rw [bne, hd]; rfl
    clear hv hv' hE h1 h2 hL hL' hz hkl hkl'
    go_enter Tryz.func3, Tryz.ntmps3
    have c0 : World.cell? _ _ = some (.int .i64 A) := HB.out.1.cell 0
    have c1 : World.cell? _ _ = some (.int .i64 B) := HB.out.1.cell 1
    have c2 : World.cell? _ _ = some (.int .i64 C) := HB.out.1.cell 2
    have c3 : World.cell? _ _ = some (.slice va cs.length vc) := HB.out.1.cell 3
    go_wp2_with fail
    refine (LO.out _ _ HB.out.2.1).mono ?_
    rintro e X1 ⟨rfl, hb1⟩
    have HN1 : Hid (BlockAt X1 w.heap.size #[.int .i64 A, .int .i64 B, .int .i64 C, .slice va cs.length vc] 24 ∧ Ints X1 (.slice va cs.length vc) cs ∧ BlockAt X1 (w.heap.size + 1) #[.int .i64 A', .int .i64 B', .int .i64 C', .slice va' ds.length vc'] 24 ∧ Ints X1 (.slice va' ds.length vc') ds ∧ Below w.heap.size w X1) := Lib.hid ⟨HB.out.1.below hb1 HB.out.1.lt, Ints.all HB.out.2.1 hb1, HB.out.2.2.1.below hb1 HB.out.2.2.1.lt, Ints.all HB.out.2.2.2.1 hb1, later HB.out.2.2.2.2 HB.out.2.2.2.2.size hb1⟩
    clear hb1 c0 c1 c2 c3 HB
    have c0 : World.cell? _ _ = some (.int .i64 A') := HN1.out.2.2.1.cell 0
    have c1 : World.cell? _ _ = some (.int .i64 B') := HN1.out.2.2.1.cell 1
    have c2 : World.cell? _ _ = some (.int .i64 C') := HN1.out.2.2.1.cell 2
    have c3 : World.cell? _ _ = some (.slice va' ds.length vc') := HN1.out.2.2.1.cell 3
    go_wp2_with fail
    refine (LP.out _ _ HN1.out.2.2.2.1).mono ?_
    rintro e X2 ⟨rfl, hb1⟩
    have HN2 : Hid (BlockAt X2 w.heap.size #[.int .i64 A, .int .i64 B, .int .i64 C, .slice va cs.length vc] 24 ∧ Ints X2 (.slice va cs.length vc) cs ∧ BlockAt X2 (w.heap.size + 1) #[.int .i64 A', .int .i64 B', .int .i64 C', .slice va' ds.length vc'] 24 ∧ Ints X2 (.slice va' ds.length vc') ds ∧ Below w.heap.size w X2) := Lib.hid ⟨HN1.out.1.below hb1 HN1.out.1.lt, Ints.all HN1.out.2.1 hb1, HN1.out.2.2.1.below hb1 HN1.out.2.2.1.lt, Ints.all HN1.out.2.2.2.1 hb1, later HN1.out.2.2.2.2 HN1.out.2.2.2.2.size hb1⟩
    clear hb1 c0 c1 c2 c3 HN1
    have c0 : World.cell? _ _ = some (.int .i64 A) := HN2.out.1.cell 0
    have c1 : World.cell? _ _ = some (.int .i64 B) := HN2.out.1.cell 1
    have c2 : World.cell? _ _ = some (.int .i64 C) := HN2.out.1.cell 2
    have c3 : World.cell? _ _ = some (.slice va cs.length vc) := HN2.out.1.cell 3
    have d0 : World.cell? _ _ = some (.int .i64 A') := HN2.out.2.2.1.cell 0
    have d1 : World.cell? _ _ = some (.int .i64 B') := HN2.out.2.2.1.cell 1
    have d2 : World.cell? _ _ = some (.int .i64 C') := HN2.out.2.2.1.cell 2
    have d3 : World.cell? _ _ = some (.slice va' ds.length vc') := HN2.out.2.2.1.cell 3
    go_wp2_with fail
    refine (SA.out _ _ _ HN2.out.2.1 HN2.out.2.2.2.1).mono ?_
    rintro e X3 ⟨rfl, hb1⟩
    have HN3 : Hid (BlockAt X3 w.heap.size #[.int .i64 A, .int .i64 B, .int .i64 C, .slice va cs.length vc] 24 ∧ Ints X3 (.slice va cs.length vc) cs ∧ BlockAt X3 (w.heap.size + 1) #[.int .i64 A', .int .i64 B', .int .i64 C', .slice va' ds.length vc'] 24 ∧ Ints X3 (.slice va' ds.length vc') ds ∧ Below w.heap.size w X3) := Lib.hid ⟨HN2.out.1.below hb1 HN2.out.1.lt, Ints.all HN2.out.2.1 hb1, HN2.out.2.2.1.below hb1 HN2.out.2.2.1.lt, Ints.all HN2.out.2.2.2.1 hb1, later HN2.out.2.2.2.2 HN2.out.2.2.2.2.size hb1⟩
    clear hb1 c0 c1 c2 c3 d0 d1 d2 d3 HN2
    have c0 : World.cell? _ _ = some (.int .i64 A) := HN3.out.1.cell 0
    have c1 : World.cell? _ _ = some (.int .i64 B) := HN3.out.1.cell 1
    have c2 : World.cell? _ _ = some (.int .i64 C) := HN3.out.1.cell 2
    have c3 : World.cell? _ _ = some (.slice va cs.length vc) := HN3.out.1.cell 3
    have d0 : World.cell? _ _ = some (.int .i64 A') := HN3.out.2.2.1.cell 0
    have d1 : World.cell? _ _ = some (.int .i64 B') := HN3.out.2.2.1.cell 1
    have d2 : World.cell? _ _ = some (.int .i64 C') := HN3.out.2.2.1.cell 2
    have d3 : World.cell? _ _ = some (.slice va' ds.length vc') := HN3.out.2.2.1.cell 3
    go_wp2_with fail
    refine (SR.out _ _ _ HN3.out.2.1 HN3.out.2.2.2.1).mono ?_
    rintro e X4 ⟨rfl, hb1⟩
    have HN4 : Hid (BlockAt X4 w.heap.size #[.int .i64 A, .int .i64 B, .int .i64 C, .slice va cs.length vc] 24 ∧ Ints X4 (.slice va cs.length vc) cs ∧ BlockAt X4 (w.heap.size + 1) #[.int .i64 A', .int .i64 B', .int .i64 C', .slice va' ds.length vc'] 24 ∧ Ints X4 (.slice va' ds.length vc') ds ∧ Below w.heap.size w X4) := Lib.hid ⟨HN3.out.1.below hb1 HN3.out.1.lt, Ints.all HN3.out.2.1 hb1, HN3.out.2.2.1.below hb1 HN3.out.2.2.1.lt, Ints.all HN3.out.2.2.2.1 hb1, later HN3.out.2.2.2.2 HN3.out.2.2.2.2.size hb1⟩
    clear hb1 c0 c1 c2 c3 d0 d1 d2 d3 HN3
    have c0 : World.cell? _ _ = some (.int .i64 A) := HN4.out.1.cell 0
    have c1 : World.cell? _ _ = some (.int .i64 B) := HN4.out.1.cell 1
    have c2 : World.cell? _ _ = some (.int .i64 C) := HN4.out.1.cell 2
    have c3 : World.cell? _ _ = some (.slice va cs.length vc) := HN4.out.1.cell 3
    go_wp2_with fail
    refine (LA.out _ _ HN4.out.2.1).mono ?_
    rintro e q5 ⟨u5, rfl, hown, hb1⟩
    obtain ⟨s5, t5, rfl⟩ := hown.form
    obtain ⟨X5, hX5⟩ : ∃ X, q5.alloc (.cells #[.int .i64 L1.a, .int .i64 L1.b, .int .i64 L1.c, .slice s5 K1.length t5] 24) = X := ⟨_, rfl⟩
    have hbX : Below X4.heap.size X4 X5 := by rw [← hX5]; exact hb1.alloc hb1.size _
    have HN5 : Hid (BlockAt X5 w.heap.size #[.int .i64 A, .int .i64 B, .int .i64 C, .slice va cs.length vc] 24 ∧ Ints X5 (.slice va cs.length vc) cs ∧ BlockAt X5 (w.heap.size + 1) #[.int .i64 A', .int .i64 B', .int .i64 C', .slice va' ds.length vc'] 24 ∧ Ints X5 (.slice va' ds.length vc') ds ∧ BlockAt X5 q5.heap.size #[.int .i64 L1.a, .int .i64 L1.b, .int .i64 L1.c, .slice s5 K1.length t5] 24 ∧ Ints X5 (.slice s5 K1.length t5) K1 ∧ Below w.heap.size w X5) := Lib.hid ⟨HN4.out.1.below hbX HN4.out.1.lt, Ints.all HN4.out.2.1 hbX, HN4.out.2.2.1.below hbX HN4.out.2.2.1.lt, Ints.all HN4.out.2.2.2.1 hbX, (by rw [← hX5]; exact BlockAt.new _ _ _), (by rw [← hX5]; exact (OwnI.alloc hown _).ints), later HN4.out.2.2.2.2 HN4.out.2.2.2.2.size hbX⟩
    clear hown hb1 hbX c0 c1 c2 c3 HN4
    have c0 : World.cell? _ _ = some (.int .i64 A') := HN5.out.2.2.1.cell 0
    have c1 : World.cell? _ _ = some (.int .i64 B') := HN5.out.2.2.1.cell 1
    have c2 : World.cell? _ _ = some (.int .i64 C') := HN5.out.2.2.1.cell 2
    have c3 : World.cell? _ _ = some (.slice va' ds.length vc') := HN5.out.2.2.1.cell 3
    go_wp2_with (rw [hX5])
    go_wp2_with fail
    refine (LB.out _ _ HN5.out.2.2.2.1).mono ?_
    rintro e q6 ⟨u6, rfl, hown, hb1⟩
    obtain ⟨s6, t6, rfl⟩ := hown.form
    obtain ⟨X6, hX6⟩ : ∃ X, q6.alloc (.cells #[.int .i64 L2.a, .int .i64 L2.b, .int .i64 L2.c, .slice s6 K2.length t6] 24) = X := ⟨_, rfl⟩
    have hbX : Below X5.heap.size X5 X6 := by rw [← hX6]; exact hb1.alloc hb1.size _
    have HN6 : Hid (BlockAt X6 w.heap.size #[.int .i64 A, .int .i64 B, .int .i64 C, .slice va cs.length vc] 24 ∧ Ints X6 (.slice va cs.length vc) cs ∧ BlockAt X6 (w.heap.size + 1) #[.int .i64 A', .int .i64 B', .int .i64 C', .slice va' ds.length vc'] 24 ∧ Ints X6 (.slice va' ds.length vc') ds ∧ BlockAt X6 q5.heap.size #[.int .i64 L1.a, .int .i64 L1.b, .int .i64 L1.c, .slice s5 K1.length t5] 24 ∧ Ints X6 (.slice s5 K1.length t5) K1 ∧ BlockAt X6 q6.heap.size #[.int .i64 L2.a, .int .i64 L2.b, .int .i64 L2.c, .slice s6 K2.length t6] 24 ∧ Ints X6 (.slice s6 K2.length t6) K2 ∧ Below w.heap.size w X6) := Lib.hid ⟨HN5.out.1.below hbX HN5.out.1.lt, Ints.all HN5.out.2.1 hbX, HN5.out.2.2.1.below hbX HN5.out.2.2.1.lt, Ints.all HN5.out.2.2.2.1 hbX, HN5.out.2.2.2.2.1.below hbX HN5.out.2.2.2.2.1.lt, Ints.all HN5.out.2.2.2.2.2.1 hbX, (by rw [← hX6]; exact BlockAt.new _ _ _), (by rw [← hX6]; exact (OwnI.alloc hown _).ints), later HN5.out.2.2.2.2.2.2 HN5.out.2.2.2.2.2.2.size hbX⟩
    clear hown hb1 hbX c0 c1 c2 c3 hX5 HN5
    go_wp2_with (rw [hX6])
    go_wp2_with fail
    refine (KN.out _ HN6.out.2.2.2.2.2.2.2.2).mono ?_
    rintro e X7 ⟨rfl, hb1⟩
    have HN7 : Hid (BlockAt X7 w.heap.size #[.int .i64 A, .int .i64 B, .int .i64 C, .slice va cs.length vc] 24 ∧ Ints X7 (.slice va cs.length vc) cs ∧ BlockAt X7 (w.heap.size + 1) #[.int .i64 A', .int .i64 B', .int .i64 C', .slice va' ds.length vc'] 24 ∧ Ints X7 (.slice va' ds.length vc') ds ∧ BlockAt X7 q5.heap.size #[.int .i64 L1.a, .int .i64 L1.b, .int .i64 L1.c, .slice s5 K1.length t5] 24 ∧ Ints X7 (.slice s5 K1.length t5) K1 ∧ BlockAt X7 q6.heap.size #[.int .i64 L2.a, .int .i64 L2.b, .int .i64 L2.c, .slice s6 K2.length t6] 24 ∧ Ints X7 (.slice s6 K2.length t6) K2 ∧ Below w.heap.size w X7) := Lib.hid ⟨HN6.out.1.below hb1 HN6.out.1.lt, Ints.all HN6.out.2.1 hb1, HN6.out.2.2.1.below hb1 HN6.out.2.2.1.lt, Ints.all HN6.out.2.2.2.1 hb1, HN6.out.2.2.2.2.1.below hb1 HN6.out.2.2.2.2.1.lt, Ints.all HN6.out.2.2.2.2.2.1 hb1, HN6.out.2.2.2.2.2.2.1.below hb1 HN6.out.2.2.2.2.2.2.1.lt, Ints.all HN6.out.2.2.2.2.2.2.2.1 hb1, later HN6.out.2.2.2.2.2.2.2.2 HN6.out.2.2.2.2.2.2.2.2.size hb1⟩
    clear hb1  HN6
    go_wp2
    go_ret
    exact ⟨rfl, HN7.out.2.2.2.2.2.2.2.2⟩
  have hz1 : validE A B C cs = 0 := by
    apply Decidable.byContradiction
    intro h
    rw [show bothE (validE A B C cs) (validE A' B' C' ds) = validE A B C cs from if_neg h] at hz
    exact h hz
  have hz2 : validE A' B' C' ds = 0 := by
    rw [show bothE (validE A B C cs) (validE A' B' C' ds) = validE A' B' C' ds from if_pos hz1] at hz
    exact hz
  have p1 := pl_of hz1
  have p2 := pl_of hz2
  rw [hz1, show lat A B C cs = latF (Pt.col ⟨A, B, C⟩ (csF cs)) from rfl, ansL_ok, ansC_ok] at LA
  rw [hz2, show lat A' B' C' ds = latF (Pt.col ⟨A', B', C'⟩ (csF ds)) from rfl, ansL_ok, ansC_ok] at LB
  have SA := Lib.hid (fun (u u' : Value) W (hu : Ints W u cs) (hu' : Ints W u' ds) => same_ok A B C A' B' C' u u' cs ds W hz1 hz2 hu hu' hkl hkl' hA1 hA2 hA1' hA2' _ _ rfl rfl)
  have SR := Lib.hid (fun (u u' : Value) W (hu : Ints W u cs) (hu' : Ints W u' ds) => refSame_ok A B C A' B' C' u u' cs ds W hz1 hz2 hu hu' hkl hkl' hA1 hA2 hA1' hA2' _ _ rfl rfl _ (same_iff p1 p2))
  have n1 := p1.len.2
  have n2 := p2.len.2
  generalize Pt.col ⟨A, B, C⟩ (csF cs) = F at *
  generalize Pt.col ⟨A', B', C'⟩ (csF ds) = F' at *
  generalize cellsF F = K1 at *
  generalize cellsF F' = K2 at *
  generalize latF F = L1 at *
  generalize latF F' = L2 at *
  have EQ := Lib.hid (fun (u u' : Value) W hu hu' => refEqual_any L1.a L1.b L1.c L2.a L2.b L2.c u u' K1 K2 W hu hu' (by omega) (by omega))
  clear hv hv' hE h1 h2 hL hL' hz hz1 hz2 hkl hkl' p1 p2 n1 n2
  generalize eqP L1.a L1.b L1.c K1 L2.a L2.b L2.c K2 = R at *
  cases R
  all_goals
    go_enter Tryz.func3, Tryz.ntmps3
    have c0 : World.cell? _ _ = some (.int .i64 A) := HB.out.1.cell 0
    have c1 : World.cell? _ _ = some (.int .i64 B) := HB.out.1.cell 1
    have c2 : World.cell? _ _ = some (.int .i64 C) := HB.out.1.cell 2
    have c3 : World.cell? _ _ = some (.slice va cs.length vc) := HB.out.1.cell 3
    go_wp2_with fail
    refine (LO.out _ _ HB.out.2.1).mono ?_
    rintro e X1 ⟨rfl, hb1⟩
    have HN1 : Hid (BlockAt X1 w.heap.size #[.int .i64 A, .int .i64 B, .int .i64 C, .slice va cs.length vc] 24 ∧ Ints X1 (.slice va cs.length vc) cs ∧ BlockAt X1 (w.heap.size + 1) #[.int .i64 A', .int .i64 B', .int .i64 C', .slice va' ds.length vc'] 24 ∧ Ints X1 (.slice va' ds.length vc') ds ∧ Below w.heap.size w X1) := Lib.hid ⟨HB.out.1.below hb1 HB.out.1.lt, Ints.all HB.out.2.1 hb1, HB.out.2.2.1.below hb1 HB.out.2.2.1.lt, Ints.all HB.out.2.2.2.1 hb1, later HB.out.2.2.2.2 HB.out.2.2.2.2.size hb1⟩
    clear hb1 c0 c1 c2 c3 HB
    have c0 : World.cell? _ _ = some (.int .i64 A') := HN1.out.2.2.1.cell 0
    have c1 : World.cell? _ _ = some (.int .i64 B') := HN1.out.2.2.1.cell 1
    have c2 : World.cell? _ _ = some (.int .i64 C') := HN1.out.2.2.1.cell 2
    have c3 : World.cell? _ _ = some (.slice va' ds.length vc') := HN1.out.2.2.1.cell 3
    go_wp2_with fail
    refine (LP.out _ _ HN1.out.2.2.2.1).mono ?_
    rintro e X2 ⟨rfl, hb1⟩
    have HN2 : Hid (BlockAt X2 w.heap.size #[.int .i64 A, .int .i64 B, .int .i64 C, .slice va cs.length vc] 24 ∧ Ints X2 (.slice va cs.length vc) cs ∧ BlockAt X2 (w.heap.size + 1) #[.int .i64 A', .int .i64 B', .int .i64 C', .slice va' ds.length vc'] 24 ∧ Ints X2 (.slice va' ds.length vc') ds ∧ Below w.heap.size w X2) := Lib.hid ⟨HN1.out.1.below hb1 HN1.out.1.lt, Ints.all HN1.out.2.1 hb1, HN1.out.2.2.1.below hb1 HN1.out.2.2.1.lt, Ints.all HN1.out.2.2.2.1 hb1, later HN1.out.2.2.2.2 HN1.out.2.2.2.2.size hb1⟩
    clear hb1 c0 c1 c2 c3 HN1
    have c0 : World.cell? _ _ = some (.int .i64 A) := HN2.out.1.cell 0
    have c1 : World.cell? _ _ = some (.int .i64 B) := HN2.out.1.cell 1
    have c2 : World.cell? _ _ = some (.int .i64 C) := HN2.out.1.cell 2
    have c3 : World.cell? _ _ = some (.slice va cs.length vc) := HN2.out.1.cell 3
    have d0 : World.cell? _ _ = some (.int .i64 A') := HN2.out.2.2.1.cell 0
    have d1 : World.cell? _ _ = some (.int .i64 B') := HN2.out.2.2.1.cell 1
    have d2 : World.cell? _ _ = some (.int .i64 C') := HN2.out.2.2.1.cell 2
    have d3 : World.cell? _ _ = some (.slice va' ds.length vc') := HN2.out.2.2.1.cell 3
    go_wp2_with fail
    refine (SA.out _ _ _ HN2.out.2.1 HN2.out.2.2.2.1).mono ?_
    rintro e X3 ⟨rfl, hb1⟩
    have HN3 : Hid (BlockAt X3 w.heap.size #[.int .i64 A, .int .i64 B, .int .i64 C, .slice va cs.length vc] 24 ∧ Ints X3 (.slice va cs.length vc) cs ∧ BlockAt X3 (w.heap.size + 1) #[.int .i64 A', .int .i64 B', .int .i64 C', .slice va' ds.length vc'] 24 ∧ Ints X3 (.slice va' ds.length vc') ds ∧ Below w.heap.size w X3) := Lib.hid ⟨HN2.out.1.below hb1 HN2.out.1.lt, Ints.all HN2.out.2.1 hb1, HN2.out.2.2.1.below hb1 HN2.out.2.2.1.lt, Ints.all HN2.out.2.2.2.1 hb1, later HN2.out.2.2.2.2 HN2.out.2.2.2.2.size hb1⟩
    clear hb1 c0 c1 c2 c3 d0 d1 d2 d3 HN2
    have c0 : World.cell? _ _ = some (.int .i64 A) := HN3.out.1.cell 0
    have c1 : World.cell? _ _ = some (.int .i64 B) := HN3.out.1.cell 1
    have c2 : World.cell? _ _ = some (.int .i64 C) := HN3.out.1.cell 2
    have c3 : World.cell? _ _ = some (.slice va cs.length vc) := HN3.out.1.cell 3
    have d0 : World.cell? _ _ = some (.int .i64 A') := HN3.out.2.2.1.cell 0
    have d1 : World.cell? _ _ = some (.int .i64 B') := HN3.out.2.2.1.cell 1
    have d2 : World.cell? _ _ = some (.int .i64 C') := HN3.out.2.2.1.cell 2
    have d3 : World.cell? _ _ = some (.slice va' ds.length vc') := HN3.out.2.2.1.cell 3
    go_wp2_with fail
    refine (SR.out _ _ _ HN3.out.2.1 HN3.out.2.2.2.1).mono ?_
    rintro e X4 ⟨rfl, hb1⟩
    have HN4 : Hid (BlockAt X4 w.heap.size #[.int .i64 A, .int .i64 B, .int .i64 C, .slice va cs.length vc] 24 ∧ Ints X4 (.slice va cs.length vc) cs ∧ BlockAt X4 (w.heap.size + 1) #[.int .i64 A', .int .i64 B', .int .i64 C', .slice va' ds.length vc'] 24 ∧ Ints X4 (.slice va' ds.length vc') ds ∧ Below w.heap.size w X4) := Lib.hid ⟨HN3.out.1.below hb1 HN3.out.1.lt, Ints.all HN3.out.2.1 hb1, HN3.out.2.2.1.below hb1 HN3.out.2.2.1.lt, Ints.all HN3.out.2.2.2.1 hb1, later HN3.out.2.2.2.2 HN3.out.2.2.2.2.size hb1⟩
    clear hb1 c0 c1 c2 c3 d0 d1 d2 d3 HN3
    have c0 : World.cell? _ _ = some (.int .i64 A) := HN4.out.1.cell 0
    have c1 : World.cell? _ _ = some (.int .i64 B) := HN4.out.1.cell 1
    have c2 : World.cell? _ _ = some (.int .i64 C) := HN4.out.1.cell 2
    have c3 : World.cell? _ _ = some (.slice va cs.length vc) := HN4.out.1.cell 3
    go_wp2_with fail
    refine (LA.out _ _ HN4.out.2.1).mono ?_
    rintro e q5 ⟨u5, rfl, hown, hb1⟩
    obtain ⟨s5, t5, rfl⟩ := hown.form
    obtain ⟨X5, hX5⟩ : ∃ X, q5.alloc (.cells #[.int .i64 L1.a, .int .i64 L1.b, .int .i64 L1.c, .slice s5 K1.length t5] 24) = X := ⟨_, rfl⟩
    have hbX : Below X4.heap.size X4 X5 := by rw [← hX5]; exact hb1.alloc hb1.size _
    have HN5 : Hid (BlockAt X5 w.heap.size #[.int .i64 A, .int .i64 B, .int .i64 C, .slice va cs.length vc] 24 ∧ Ints X5 (.slice va cs.length vc) cs ∧ BlockAt X5 (w.heap.size + 1) #[.int .i64 A', .int .i64 B', .int .i64 C', .slice va' ds.length vc'] 24 ∧ Ints X5 (.slice va' ds.length vc') ds ∧ BlockAt X5 q5.heap.size #[.int .i64 L1.a, .int .i64 L1.b, .int .i64 L1.c, .slice s5 K1.length t5] 24 ∧ Ints X5 (.slice s5 K1.length t5) K1 ∧ Below w.heap.size w X5) := Lib.hid ⟨HN4.out.1.below hbX HN4.out.1.lt, Ints.all HN4.out.2.1 hbX, HN4.out.2.2.1.below hbX HN4.out.2.2.1.lt, Ints.all HN4.out.2.2.2.1 hbX, (by rw [← hX5]; exact BlockAt.new _ _ _), (by rw [← hX5]; exact (OwnI.alloc hown _).ints), later HN4.out.2.2.2.2 HN4.out.2.2.2.2.size hbX⟩
    clear hown hb1 hbX c0 c1 c2 c3 HN4
    have c0 : World.cell? _ _ = some (.int .i64 A') := HN5.out.2.2.1.cell 0
    have c1 : World.cell? _ _ = some (.int .i64 B') := HN5.out.2.2.1.cell 1
    have c2 : World.cell? _ _ = some (.int .i64 C') := HN5.out.2.2.1.cell 2
    have c3 : World.cell? _ _ = some (.slice va' ds.length vc') := HN5.out.2.2.1.cell 3
    go_wp2_with (rw [hX5])
    go_wp2_with fail
    refine (LB.out _ _ HN5.out.2.2.2.1).mono ?_
    rintro e q6 ⟨u6, rfl, hown, hb1⟩
    obtain ⟨s6, t6, rfl⟩ := hown.form
    obtain ⟨X6, hX6⟩ : ∃ X, q6.alloc (.cells #[.int .i64 L2.a, .int .i64 L2.b, .int .i64 L2.c, .slice s6 K2.length t6] 24) = X := ⟨_, rfl⟩
    have hbX : Below X5.heap.size X5 X6 := by rw [← hX6]; exact hb1.alloc hb1.size _
    have HN6 : Hid (BlockAt X6 w.heap.size #[.int .i64 A, .int .i64 B, .int .i64 C, .slice va cs.length vc] 24 ∧ Ints X6 (.slice va cs.length vc) cs ∧ BlockAt X6 (w.heap.size + 1) #[.int .i64 A', .int .i64 B', .int .i64 C', .slice va' ds.length vc'] 24 ∧ Ints X6 (.slice va' ds.length vc') ds ∧ BlockAt X6 q5.heap.size #[.int .i64 L1.a, .int .i64 L1.b, .int .i64 L1.c, .slice s5 K1.length t5] 24 ∧ Ints X6 (.slice s5 K1.length t5) K1 ∧ BlockAt X6 q6.heap.size #[.int .i64 L2.a, .int .i64 L2.b, .int .i64 L2.c, .slice s6 K2.length t6] 24 ∧ Ints X6 (.slice s6 K2.length t6) K2 ∧ Below w.heap.size w X6) := Lib.hid ⟨HN5.out.1.below hbX HN5.out.1.lt, Ints.all HN5.out.2.1 hbX, HN5.out.2.2.1.below hbX HN5.out.2.2.1.lt, Ints.all HN5.out.2.2.2.1 hbX, HN5.out.2.2.2.2.1.below hbX HN5.out.2.2.2.2.1.lt, Ints.all HN5.out.2.2.2.2.2.1 hbX, (by rw [← hX6]; exact BlockAt.new _ _ _), (by rw [← hX6]; exact (OwnI.alloc hown _).ints), later HN5.out.2.2.2.2.2.2 HN5.out.2.2.2.2.2.2.size hbX⟩
    clear hown hb1 hbX c0 c1 c2 c3 hX5 HN5
    have c0 : World.cell? _ _ = some (.int .i64 L1.a) := HN6.out.2.2.2.2.1.cell 0
    have c1 : World.cell? _ _ = some (.int .i64 L1.b) := HN6.out.2.2.2.2.1.cell 1
    have c2 : World.cell? _ _ = some (.int .i64 L1.c) := HN6.out.2.2.2.2.1.cell 2
    have c3 : World.cell? _ _ = some (.slice s5 K1.length t5) := HN6.out.2.2.2.2.1.cell 3
    have d0 : World.cell? _ _ = some (.int .i64 L2.a) := HN6.out.2.2.2.2.2.2.1.cell 0
    have d1 : World.cell? _ _ = some (.int .i64 L2.b) := HN6.out.2.2.2.2.2.2.1.cell 1
    have d2 : World.cell? _ _ = some (.int .i64 L2.c) := HN6.out.2.2.2.2.2.2.1.cell 2
    have d3 : World.cell? _ _ = some (.slice s6 K2.length t6) := HN6.out.2.2.2.2.2.2.1.cell 3
    go_wp2_with (rw [hX6])
    go_wp2_with fail
    refine (EQ.out _ _ _ HN6.out.2.2.2.2.2.1 HN6.out.2.2.2.2.2.2.2.1).mono ?_
    rintro e X7 ⟨rfl, hb1⟩
    have HN7 : Hid (BlockAt X7 w.heap.size #[.int .i64 A, .int .i64 B, .int .i64 C, .slice va cs.length vc] 24 ∧ Ints X7 (.slice va cs.length vc) cs ∧ BlockAt X7 (w.heap.size + 1) #[.int .i64 A', .int .i64 B', .int .i64 C', .slice va' ds.length vc'] 24 ∧ Ints X7 (.slice va' ds.length vc') ds ∧ BlockAt X7 q5.heap.size #[.int .i64 L1.a, .int .i64 L1.b, .int .i64 L1.c, .slice s5 K1.length t5] 24 ∧ Ints X7 (.slice s5 K1.length t5) K1 ∧ BlockAt X7 q6.heap.size #[.int .i64 L2.a, .int .i64 L2.b, .int .i64 L2.c, .slice s6 K2.length t6] 24 ∧ Ints X7 (.slice s6 K2.length t6) K2 ∧ Below w.heap.size w X7) := Lib.hid ⟨HN6.out.1.below hb1 HN6.out.1.lt, Ints.all HN6.out.2.1 hb1, HN6.out.2.2.1.below hb1 HN6.out.2.2.1.lt, Ints.all HN6.out.2.2.2.1 hb1, HN6.out.2.2.2.2.1.below hb1 HN6.out.2.2.2.2.1.lt, Ints.all HN6.out.2.2.2.2.2.1 hb1, HN6.out.2.2.2.2.2.2.1.below hb1 HN6.out.2.2.2.2.2.2.1.lt, Ints.all HN6.out.2.2.2.2.2.2.2.1 hb1, later HN6.out.2.2.2.2.2.2.2.2 HN6.out.2.2.2.2.2.2.2.2.size hb1⟩
    clear hb1 c0 c1 c2 c3 d0 d1 d2 d3 hX6 HN6
    go_wp2_with fail
    refine (KN.out _ HN7.out.2.2.2.2.2.2.2.2).mono ?_
    rintro e X8 ⟨rfl, hb1⟩
    have HN8 : Hid (BlockAt X8 w.heap.size #[.int .i64 A, .int .i64 B, .int .i64 C, .slice va cs.length vc] 24 ∧ Ints X8 (.slice va cs.length vc) cs ∧ BlockAt X8 (w.heap.size + 1) #[.int .i64 A', .int .i64 B', .int .i64 C', .slice va' ds.length vc'] 24 ∧ Ints X8 (.slice va' ds.length vc') ds ∧ BlockAt X8 q5.heap.size #[.int .i64 L1.a, .int .i64 L1.b, .int .i64 L1.c, .slice s5 K1.length t5] 24 ∧ Ints X8 (.slice s5 K1.length t5) K1 ∧ BlockAt X8 q6.heap.size #[.int .i64 L2.a, .int .i64 L2.b, .int .i64 L2.c, .slice s6 K2.length t6] 24 ∧ Ints X8 (.slice s6 K2.length t6) K2 ∧ Below w.heap.size w X8) := Lib.hid ⟨HN7.out.1.below hb1 HN7.out.1.lt, Ints.all HN7.out.2.1 hb1, HN7.out.2.2.1.below hb1 HN7.out.2.2.1.lt, Ints.all HN7.out.2.2.2.1 hb1, HN7.out.2.2.2.2.1.below hb1 HN7.out.2.2.2.2.1.lt, Ints.all HN7.out.2.2.2.2.2.1 hb1, HN7.out.2.2.2.2.2.2.1.below hb1 HN7.out.2.2.2.2.2.2.1.lt, Ints.all HN7.out.2.2.2.2.2.2.2.1 hb1, later HN7.out.2.2.2.2.2.2.2.2 HN7.out.2.2.2.2.2.2.2.2.size hb1⟩
    clear hb1  HN7
    go_wp2
    go_ret
    exact ⟨rfl, HN8.out.2.2.2.2.2.2.2.2⟩
end Go.Proofs.YtobolflgoljafaaGreatDoor
