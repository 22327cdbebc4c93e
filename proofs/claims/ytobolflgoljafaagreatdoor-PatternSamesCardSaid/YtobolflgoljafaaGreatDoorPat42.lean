/- The program's Same. -/
import Derived.Test.YtobolflgoljafaaGreatDoorPatL
import Derived.Test.YtobolflgoljafaaGreatDoorPatI
import Derived.Test.YtobolflgoljafaaGreatDoorSeq3
import Derived.Deep.CutRange
import Derived.Deep.RegionWith
namespace Go.Proofs.YtobolflgoljafaaGreatDoor
open Go.RowKit

def bothE (e f : Int) : Int := if e = 0 then f else e
set_option maxRecDepth 20000 in
set_option maxHeartbeats 1000000 in
theorem validateBoth_any (A B C A' B' C' : Int) (v v' : Value) (cs ds : List Int) (w : World) (hv : Ints w v cs) (hv' : Ints w v' ds) (hkl : cs.length ≤ 1000000000) (hkl' : ds.length ≤ 1000000000) (hA1 : -9223372036854775808 ≤ A) (hA2 : A ≤ 9223372036854775807) (hA1' : -9223372036854775808 ≤ A') (hA2' : A' ≤ 9223372036854775807) :
    Calls Tryz.prog 45 #[.agg #[.int .i64 A, .int .i64 B, .int .i64 C, v], .agg #[.int .i64 A', .int .i64 B', .int .i64 C', v']] w fun e w' => e = .returned (.int .i64 (bothE (validE A B C cs) (validE A' B' C' ds))) ∧ Below w.heap.size w w' := by
  have VA := Lib.hid (fun W (hW : Below w.heap.size w W) => validate_any A B C v cs W (hv.all hW) hkl hA1 hA2)
  have VB := Lib.hid (fun W (hW : Below w.heap.size w W) => validate_any A' B' C' v' ds W (hv'.all hW) hkl' hA1' hA2')
  obtain ⟨va, vc, rfl, _⟩ := hv.look'
  obtain ⟨va', vc', rfl, _⟩ := hv'.look'
  have b0 := (BlockAt.new w #[.int .i64 A, .int .i64 B, .int .i64 C, .slice va cs.length vc] 24).alloc (.cells #[.int .i64 A', .int .i64 B', .int .i64 C', .slice va' ds.length vc'] 24)
  have b1 := BlockAt.new (w.alloc (.cells #[.int .i64 A, .int .i64 B, .int .i64 C, .slice va cs.length vc] 24)) #[.int .i64 A', .int .i64 B', .int .i64 C', .slice va' ds.length vc'] 24
  simp only [World.size_alloc] at b1
  have hw := below_alloc (below_alloc (Below.refl w.heap.size w) (.cells #[.int .i64 A, .int .i64 B, .int .i64 C, .slice va cs.length vc] 24)) (.cells #[.int .i64 A', .int .i64 B', .int .i64 C', .slice va' ds.length vc'] 24)
  have HB := Lib.hid (And.intro b0 (And.intro b1 hw))
  clear b0 b1 hw hv hv'
  have HE0 : Hid (validE A B C cs = 0 → bothE (validE A B C cs) (validE A' B' C' ds) = validE A' B' C' ds) := Lib.hid fun h => if_pos h
  have HE1 : Hid (validE A B C cs ≠ 0 → bothE (validE A B C cs) (validE A' B' C' ds) = validE A B C cs) := Lib.hid fun h => if_neg h
  generalize bothE (validE A B C cs) (validE A' B' C' ds) = R at *
  generalize validE A B C cs = q at *
  generalize validE A' B' C' ds = q' at *
  by_cases hz : q = 0
  · have hR := HE0.out hz
    subst hz
    subst hR
    clear HE0 HE1
    go_enter Tryz.func45, Tryz.ntmps45
    go_wp2_with fail
    refine (VA.out _ HB.out.2.2).mono ?_
    rintro e w1 ⟨rfl, hb1⟩
    have H1 := Lib.hid (And.intro (HB.out.2.1.below hb1 HB.out.2.1.lt) (below_step HB.out.2.2 hb1))
    clear hb1 HB VA
    have c0 : World.cell? _ _ = some (.int .i64 A') := H1.out.1.cell 0
    have c1 : World.cell? _ _ = some (.int .i64 B') := H1.out.1.cell 1
    have c2 : World.cell? _ _ = some (.int .i64 C') := H1.out.1.cell 2
    have c3 : World.cell? _ _ = some (.slice va' ds.length vc') := H1.out.1.cell 3
    go_wp2_with fail
    refine (VB.out _ H1.out.2).mono ?_
    rintro e w2 ⟨rfl, hb1⟩
    have HW := Lib.hid (below_step H1.out.2 hb1)
    clear hb1
    go_wp2
    go_ret
    exact ⟨rfl, HW.out⟩
  · have hR := HE1.out hz
    subst hR
    have hd : (R == 0) = false := beq_eq_false_iff_ne.2 hz
    have hd2 : (R != 0) = true := by rw [bne, hd]; rfl
    clear HE0 HE1 hz VB
    go_enter Tryz.func45, Tryz.ntmps45
    go_wp2_with fail
    refine (VA.out _ HB.out.2.2).mono ?_
    rintro e w1 ⟨rfl, hb1⟩
    have HW := Lib.hid (below_step HB.out.2.2 hb1)
    clear hb1
    go_wp2
    go_ret
    exact ⟨rfl, HW.out⟩

theorem own_ne_new {base : Nat} {w : World} {v : Value} {ks : List Int} (h : OwnI base w v ks) : ∀ g n c, v = .slice (some ⟨g, 0, none⟩) n c → g ≠ w.heap.size := by
  intro g n c e
  rcases h.shape with ⟨e2, _⟩ | ⟨g2, cap, e2, _, h2⟩
  · rw [e] at e2; cases e2
  · rw [e] at e2; simp only [Value.slice.injEq, Option.some.injEq, Addr.mk.injEq] at e2; omega
theorem own_ne_old {base b : Nat} {w : World} {v : Value} {ks : List Int} (h : OwnI base w v ks) (hb : b < base) : ∀ g n c, v = .slice (some ⟨g, 0, none⟩) n c → g ≠ b := by
  intro g n c e
  rcases h.shape with ⟨e2, _⟩ | ⟨g2, cap, e2, h1, _⟩
  · rw [e] at e2; cases e2
  · rw [e] at e2; simp only [Value.slice.injEq, Option.some.injEq, Addr.mk.injEq] at e2; omega
theorem OwnI.setNe {base b i : Nat} {w : World} {v : Value} {ks : List Int} (h : OwnI base w v ks) (hn : ∀ g n c, v = .slice (some ⟨g, 0, none⟩) n c → g ≠ b) (u : Value) : OwnI base (w.setCell ⟨b, i, none⟩ u) v ks := by
  obtain ⟨h0, h1 | ⟨g, cap, cur, h1, h2, h3, h4⟩⟩ := h
  · exact ⟨by simpa [World.setCell] using h0, .inl h1⟩
  · exact ⟨by simpa [World.setCell] using h0, .inr ⟨g, cap, cur, h1, h2, (Below.heap_setCell _ _ _ _ (hn _ _ _ h1)).trans h3, h4⟩⟩
theorem OwnI.set4 {base b : Nat} {w : World} {v : Value} {ks : List Int} (h : OwnI base w v ks) (hn : ∀ g n c, v = .slice (some ⟨g, 0, none⟩) n c → g ≠ b) (a0 a1 a2 a3 : Value) : OwnI base ((((w.setCell ⟨b, 0, none⟩ a0).setCell ⟨b, 1, none⟩ a1).setCell ⟨b, 2, none⟩ a2).setCell ⟨b, 3, none⟩ a3) v ks :=
  (((h.setNe hn a0).setNe hn a1).setNe hn a2).setNe hn a3

theorem sliceEq_any (u v : Value) (xs ys : List Int) (W : World) (hu : Ints W u xs) (hv : Ints W v ys) (h1 : 0 < xs.length) (h2 : 0 < ys.length) (h3 : xs.length ≤ 1000000) (h4 : ys.length ≤ 1000000) :
    Calls Tryz.prog 48 #[u, v] W fun e w' => e = .returned (.bool (decide (xs = ys))) ∧ Below W.heap.size W w' := by
  rcases hu with ⟨_, _, _, h⟩ | ⟨b, off, cap, rfl, _, _, hc⟩
  · rw [h] at h1; simp at h1
  rcases hv with ⟨_, _, _, h⟩ | ⟨b', off', cap', rfl, _, _, hc'⟩
  · rw [h] at h2; simp at h2
  refine (Tryz.slices_Equal_int b off xs.length cap b' off' ys.length cap' xs ys W (Nat.le_refl _) (Nat.le_refl _) (by omega) (by omega) hc hc').mono ?_
  rintro e w' ⟨he, q, rfl⟩
  rw [List.take_length, List.take_length] at he
  refine ⟨?_, below_drewN (Below.refl _ _) _⟩
  rw [he]
  by_cases h : xs = ys
  · subst h; simp
  · rw [decide_eq_false h, beq_eq_false_iff_ne.2 h]

set_option maxRecDepth 20000 in
set_option maxHeartbeats 8000000 in
theorem same_ok (A B C A' B' C' : Int) (v v' : Value) (cs ds : List Int) (w : World) (hz : validE A B C cs = 0) (hz' : validE A' B' C' ds = 0) (hv : Ints w v cs) (hv' : Ints w v' ds) (hkl : cs.length ≤ 1000000000) (hkl' : ds.length ≤ 1000000000) (hA1 : -9223372036854775808 ≤ A) (hA2 : A ≤ 9223372036854775807) (hA1' : -9223372036854775808 ≤ A') (hA2' : A' ≤ 9223372036854775807) (F F' : Int → Int → Int) (hF : F = Pt.col ⟨A, B, C⟩ (csF cs)) (hF' : F' = Pt.col ⟨A', B', C'⟩ (csF ds)) :
    Calls Tryz.prog 14 #[.agg #[.int .i64 A, .int .i64 B, .int .i64 C, v], .agg #[.int .i64 A', .int .i64 B', .int .i64 C', v']] w fun e w' => e = .returned (.tuple #[.bool (eqP (latF F).a (latF F).b (latF F).c (cellsF F) (latF F').a (latF F').b (latF F').c (cellsF F')), .int .i64 0]) ∧ Below w.heap.size w w' := by
  obtain ⟨R, hR⟩ : ∃ R, eqP (latF F).a (latF F).b (latF F).c (cellsF F) (latF F').a (latF F').b (latF F').c (cellsF F') = R := ⟨_, rfl⟩
  rw [hR]
  have HRR := Lib.hid hR
  clear hR
  have VB := Lib.hid (fun W (hW : Below w.heap.size w W) => validateBoth_any A B C A' B' C' v v' cs ds W (hv.all hW) (hv'.all hW) hkl hkl' hA1 hA2 hA1' hA2')
  rw [hz, hz', show bothE 0 0 = 0 from rfl] at VB
  have pf : Pl F := by rw [hF]; exact pl_of hz
  have pf' : Pl F' := by rw [hF']; exact pl_of hz'
  have LA := Lib.hid (fun W (hW : Below w.heap.size w W) => least_any ⟨A, B, C⟩ (latF F) v cs W ((valid_in hz hv).1.all hW) (valid_in hz hv).2 (by rw [← hF]; exact pf.isB))
  have LB := Lib.hid (fun W (hW : Below w.heap.size w W) => least_any ⟨A', B', C'⟩ (latF F') v' ds W ((valid_in hz' hv').1.all hW) (valid_in hz' hv').2 (by rw [← hF']; exact pf'.isB))
  rw [← hF] at LA
  rw [← hF'] at LB
  obtain ⟨va, vc, rfl, _⟩ := hv.look'
  obtain ⟨va', vc', rfl, _⟩ := hv'.look'
  have b0 := (BlockAt.new w #[.int .i64 A, .int .i64 B, .int .i64 C, .slice va cs.length vc] 24).alloc (.cells #[.int .i64 A', .int .i64 B', .int .i64 C', .slice va' ds.length vc'] 24)
  have b1 := BlockAt.new (w.alloc (.cells #[.int .i64 A, .int .i64 B, .int .i64 C, .slice va cs.length vc] 24)) #[.int .i64 A', .int .i64 B', .int .i64 C', .slice va' ds.length vc'] 24
  simp only [World.size_alloc] at b1
  have hw := below_alloc (below_alloc (Below.refl w.heap.size w) (.cells #[.int .i64 A, .int .i64 B, .int .i64 C, .slice va cs.length vc] 24)) (.cells #[.int .i64 A', .int .i64 B', .int .i64 C', .slice va' ds.length vc'] 24)
  have HB := Lib.hid (And.intro b0 (And.intro b1 hw))
  have EQ := Lib.hid (And.intro (show 0 < (cellsF F).length by have := pf.len.1; have := pf.size.2.2.2; omega) (And.intro (show 0 < (cellsF F').length by have := pf'.len.1; have := pf'.size.2.2.2; omega) (And.intro pf.len.2 pf'.len.2)))
  clear b0 b1 hw hv hv' hz hz' hF hF' pf pf'
  go_enter Tryz.func14, Tryz.ntmps14
  have a0 : World.cell? _ _ = some (.int .i64 A) := HB.out.1.cell 0
  have a1 : World.cell? _ _ = some (.int .i64 B) := HB.out.1.cell 1
  have a2 : World.cell? _ _ = some (.int .i64 C) := HB.out.1.cell 2
  have a3 : World.cell? _ _ = some (.slice va cs.length vc) := HB.out.1.cell 3
  go_wp2_with fail
  refine (VB.out _ HB.out.2.2).mono ?_
  rintro e w1 ⟨rfl, hb1⟩
  have H1 := Lib.hid (And.intro (HB.out.1.below hb1 HB.out.1.lt) (And.intro (HB.out.2.1.below hb1 HB.out.2.1.lt) (below_step HB.out.2.2 hb1)))
  clear hb1 HB VB a0 a1 a2 a3
  have a0 : World.cell? _ _ = some (.int .i64 A) := H1.out.1.cell 0
  have a1 : World.cell? _ _ = some (.int .i64 B) := H1.out.1.cell 1
  have a2 : World.cell? _ _ = some (.int .i64 C) := H1.out.1.cell 2
  have a3 : World.cell? _ _ = some (.slice va cs.length vc) := H1.out.1.cell 3
  have c0 : World.cell? _ _ = some (.int .i64 A') := H1.out.2.1.cell 0
  have c1 : World.cell? _ _ = some (.int .i64 B') := H1.out.2.1.cell 1
  have c2 : World.cell? _ _ = some (.int .i64 C') := H1.out.2.1.cell 2
  have c3 : World.cell? _ _ = some (.slice va' ds.length vc') := H1.out.2.1.cell 3
  have h0 := H1.out.1.lt
  have h1 := H1.out.2.1.lt
  go_upto_region 4 with fail
  refine wp_region_meet (β := Nat × Nat × Value × Value) (.take 0 (.take 2 (.three 1 (.three 3 (.two 4 (.one 5 (.one 6 (.one 7 .done))) 5 (.one 4 (.one 6 (.one 7 .done)))) 4 (.two 3 (.one 5 (.one 6 (.one 7 .done))) 5 (.one 3 (.one 6 (.one 7 .done)))) 5 (.two 3 (.one 4 (.one 6 (.one 7 .done))) 4 (.one 3 (.one 6 (.one 7 .done))))) 4 (.two 1 (.two 3 (.one 5 (.one 6 (.one 7 .done))) 5 (.one 3 (.one 6 (.one 7 .done)))) 5 (.one 1 (.one 3 (.one 6 (.one 7 .done))))) 5 (.two 1 (.two 3 (.one 4 (.one 6 (.one 7 .done))) 4 (.one 3 (.one 6 (.one 7 .done)))) 4 (.one 1 (.one 3 (.one 6 (.one 7 .done)))))))) (fun W => BlockAt W w.heap.size #[.int .i64 A, .int .i64 B, .int .i64 C, .slice va cs.length vc] 24 ∧ BlockAt W (w.heap.size + 1) #[.int .i64 A', .int .i64 B', .int .i64 C', .slice va' ds.length vc'] 24)
    (fun x => [(15, .agg #[.int .i64 A, .int .i64 B, .int .i64 C, .slice va cs.length vc]), (17, .agg #[.int .i64 A', .int .i64 B', .int .i64 C', .slice va' ds.length vc']), (16, patV (latF F) x.2.2.1), (18, patV (latF F') x.2.2.2), (7, .pointer (some ⟨x.1, 0, none⟩)), (8, .pointer (some ⟨x.2.1, 0, none⟩))])
    (fun x X => BlockAt X x.1 #[.int .i64 (latF F).a, .int .i64 (latF F).b, .int .i64 (latF F).c, x.2.2.1] 24 ∧ Ints X x.2.2.1 (cellsF F) ∧ BlockAt X x.2.1 #[.int .i64 (latF F').a, .int .i64 (latF F').b, .int .i64 (latF F').c, x.2.2.2] 24 ∧ Ints X x.2.2.2 (cellsF F') ∧ Below w.heap.size w X)
    (by kernel_rfl) (by kernel_rfl) (by kernel_rfl) (by kernel_rfl) ⟨H1.out.1.drew, H1.out.2.1.drew⟩ (fun hS => ?_) ?_
  · have HM := Lib.hid (And.intro H1.out.1.drew (And.intro H1.out.2.1.drew H1.out.2.2.drew))
    clear H1 hS a0 a1 a2 a3 c0 c1 c2 c3 EQ
    generalize w1.drew = X0 at *
    repeat (refine SeqT.ld (v := ?_) rfl (by rfl) ?_ ?_; rotate_left; (· intro w hSw; (try dsimp only at hSw); have c0 := hSw.1.cell 0; have c1 := hSw.1.cell 1; have c2 := hSw.1.cell 2; have c3 := hSw.1.cell 3; have d0 := hSw.2.cell 0; have d1 := hSw.2.cell 1; have d2 := hSw.2.cell 2; have d3 := hSw.2.cell 3; go_simp; (try with_reducible rfl)); simp only [Act.put, List.setIfInBounds_toArray, List.set_cons_zero, List.set_cons_succ])
    refine ⟨wpOp_stepS rfl (by rfl) (fun K hK => ?_), wpOp_stepS rfl (by rfl) (fun K hK => ?_), wpOp_stepS rfl (by rfl) (fun K hK => ?_)⟩
    · go_simp
      go_at_call 46
      refine (LA.out _ HM.out.2.2).mono ?_
      rintro e X1 ⟨u1, rfl, hown, hbY⟩
      have hown : OwnI X0.heap.size X1 u1 (cellsF F) := hown.ownI
      obtain ⟨s1, t1, rfl⟩ := hown.form
      have HM := Lib.hid (And.intro (HM.out.1.below hbY HM.out.1.lt) (And.intro (HM.out.2.1.below hbY HM.out.2.1.lt) (below_step HM.out.2.2 hbY)))
      have U1 := Lib.hid hown
      clear hown hbY
      try dsimp only
      refine hK.out _ _ ⟨HM.out.1, HM.out.2.1⟩ (fun _ => ?_)
      clear hK K
      try simp only [Act.put, List.setIfInBounds_toArray, List.set_cons_zero, List.set_cons_succ]
      refine ⟨wpOp_stepS rfl (by rfl) (fun K hK => ?_), wpOp_stepS rfl (by rfl) (fun K hK => ?_), wpOp_stepS rfl (by rfl) (fun K hK => ?_)⟩
      · go_simp
        go_at_call 46
        refine (LB.out _ HM.out.2.2).mono ?_
        rintro e X2 ⟨u3, rfl, hown, hbY⟩
        have hown : OwnI X1.heap.size X2 u3 (cellsF F') := hown.ownI
        obtain ⟨s3, t3, rfl⟩ := hown.form
        have HM := Lib.hid (And.intro (HM.out.1.below hbY HM.out.1.lt) (And.intro (HM.out.2.1.below hbY HM.out.2.1.lt) (below_step HM.out.2.2 hbY)))
        have U1 := Lib.hid (OwnI.all U1.out hbY)
        have U3 := Lib.hid hown
        clear hown hbY
        try dsimp only
        refine hK.out _ _ ⟨HM.out.1, HM.out.2.1⟩ (fun _ => ?_)
        clear hK K
        try simp only [Act.put, List.setIfInBounds_toArray, List.set_cons_zero, List.set_cons_succ]
        refine ⟨wpOp_stepS rfl (by rfl) (fun K hK => ?_), wpOp_stepS rfl (by rfl) (fun K hK => ?_)⟩
        · go_simp
          obtain ⟨X3, hY⟩ : ∃ Y, X2.alloc (.cells #[.int .i64 0, .int .i64 0, .int .i64 0, .slice none 0 0] 24) = Y := ⟨_, rfl⟩
          have hbY : Below X2.heap.size X2 X3 := by rw [← hY]; exact below_alloc (Below.refl _ _) _
          have hN : BlockAt X3 X2.heap.size #[.int .i64 0, .int .i64 0, .int .i64 0, .slice none 0 0] 24 := by rw [← hY]; exact BlockAt.new _ _ _
          rw [hY]
          have l4 : w.heap.size + 1 < X2.heap.size := HM.out.2.1.lt
          have n14 := own_ne_new U1.out
          have n34 := own_ne_new U3.out
          have HM := Lib.hid (And.intro (HM.out.1.below hbY HM.out.1.lt) (And.intro (HM.out.2.1.below hbY HM.out.2.1.lt) (below_step HM.out.2.2 hbY)))
          have U1 := Lib.hid (OwnI.all U1.out hbY)
          have U3 := Lib.hid (OwnI.all U3.out hbY)
          have H4 := Lib.hid hN
          clear hY hbY hN
          try dsimp only
          refine hK.out _ _ ⟨HM.out.1, HM.out.2.1⟩ (fun _ => ?_)
          clear hK K
          try simp only [Act.put, List.setIfInBounds_toArray, List.set_cons_zero, List.set_cons_succ]
          refine SeqT.step rfl (by rfl) (fun K hK => ?_)
          go_simp
          obtain ⟨X4, hY⟩ : ∃ Y, X3.alloc (.cells #[.int .i64 0, .int .i64 0, .int .i64 0, .slice none 0 0] 24) = Y := ⟨_, rfl⟩
          have hbY : Below X3.heap.size X3 X4 := by rw [← hY]; exact below_alloc (Below.refl _ _) _
          have hN : BlockAt X4 X3.heap.size #[.int .i64 0, .int .i64 0, .int .i64 0, .slice none 0 0] 24 := by rw [← hY]; exact BlockAt.new _ _ _
          rw [hY]
          have l5 : w.heap.size + 1 < X3.heap.size := HM.out.2.1.lt
          have ne45 : X2.heap.size ≠ X3.heap.size := by have := H4.out.lt; omega
          have n15 := own_ne_new U1.out
          have n35 := own_ne_new U3.out
          have HM := Lib.hid (And.intro (HM.out.1.below hbY HM.out.1.lt) (And.intro (HM.out.2.1.below hbY HM.out.2.1.lt) (below_step HM.out.2.2 hbY)))
          have H4 := Lib.hid (H4.out.below hbY H4.out.lt)
          have U1 := Lib.hid (OwnI.all U1.out hbY)
          have U3 := Lib.hid (OwnI.all U3.out hbY)
          have H5 := Lib.hid hN
          clear hY hbY hN
          try dsimp only
          refine hK.out _ _ ⟨HM.out.1, HM.out.2.1⟩ (fun _ => ?_)
          clear hK K
          try simp only [Act.put, List.setIfInBounds_toArray, List.set_cons_zero, List.set_cons_succ]
          refine SeqT.step rfl (by rfl) (fun K hK => ?_)
          have z0 := H4.out.cell 0
          have f0 := H4.out.frozen 0
          have z1 := H4.out.cell 1
          have f1 := H4.out.frozen 1
          have z2 := H4.out.cell 2
          have f2 := H4.out.frozen 2
          have z3 := H4.out.cell 3
          have f3 := H4.out.frozen 3
          go_simp
          obtain ⟨X5, hY⟩ : ∃ Y, ((((X4.setCell ⟨X2.heap.size, 0, none⟩ (.int .i64 (latF F).a)).setCell ⟨X2.heap.size, 1, none⟩ (.int .i64 (latF F).b)).setCell ⟨X2.heap.size, 2, none⟩ (.int .i64 (latF F).c)).setCell ⟨X2.heap.size, 3, none⟩ (.slice s1 (cellsF F).length t1)) = Y := ⟨_, rfl⟩
          have q0 : BlockAt X5 X2.heap.size #[.int .i64 (latF F).a, .int .i64 (latF F).b, .int .i64 (latF F).c, .slice s1 (cellsF F).length t1] 24 := by rw [← hY]; exact (((H4.out.set 0 _).set 1 _).set 2 _).set 3 _
          have q1 := (((H5.out.other (i := 0) (show X3.heap.size ≠ X2.heap.size by omega) (.int .i64 (latF F).a)).other (i := 1) (show X3.heap.size ≠ X2.heap.size by omega) (.int .i64 (latF F).b)).other (i := 2) (show X3.heap.size ≠ X2.heap.size by omega) (.int .i64 (latF F).c)).other (i := 3) (show X3.heap.size ≠ X2.heap.size by omega) (.slice s1 (cellsF F).length t1)
          have q2 := (((HM.out.1.other (i := 0) (show w.heap.size ≠ X2.heap.size by omega) (.int .i64 (latF F).a)).other (i := 1) (show w.heap.size ≠ X2.heap.size by omega) (.int .i64 (latF F).b)).other (i := 2) (show w.heap.size ≠ X2.heap.size by omega) (.int .i64 (latF F).c)).other (i := 3) (show w.heap.size ≠ X2.heap.size by omega) (.slice s1 (cellsF F).length t1)
          have q3 := (((HM.out.2.1.other (i := 0) (show w.heap.size + 1 ≠ X2.heap.size by omega) (.int .i64 (latF F).a)).other (i := 1) (show w.heap.size + 1 ≠ X2.heap.size by omega) (.int .i64 (latF F).b)).other (i := 2) (show w.heap.size + 1 ≠ X2.heap.size by omega) (.int .i64 (latF F).c)).other (i := 3) (show w.heap.size + 1 ≠ X2.heap.size by omega) (.slice s1 (cellsF F).length t1)
          have q4 := (((HM.out.2.2.setCell (p := ⟨X2.heap.size, 0, none⟩) (by dsimp only; omega) (.int .i64 (latF F).a)).setCell (p := ⟨X2.heap.size, 1, none⟩) (by dsimp only; omega) (.int .i64 (latF F).b)).setCell (p := ⟨X2.heap.size, 2, none⟩) (by dsimp only; omega) (.int .i64 (latF F).c)).setCell (p := ⟨X2.heap.size, 3, none⟩) (by dsimp only; omega) (.slice s1 (cellsF F).length t1)
          have q5 := OwnI.set4 U1.out n14 (.int .i64 (latF F).a) (.int .i64 (latF F).b) (.int .i64 (latF F).c) (.slice s1 (cellsF F).length t1)
          have q6 := OwnI.set4 U3.out n34 (.int .i64 (latF F).a) (.int .i64 (latF F).b) (.int .i64 (latF F).c) (.slice s1 (cellsF F).length t1)
          rw [hY] at q1 q2 q3 q4 q5 q6 ⊢
          have HM := Lib.hid (And.intro q2 (And.intro q3 q4))
          have H4 := Lib.hid q0
          have H5 := Lib.hid q1
          have U1 := Lib.hid q5
          have U3 := Lib.hid q6
          clear z0 z1 z2 z3 f0 f1 f2 f3 hY q0 q1 q2 q3 q4 q5 q6
          try dsimp only
          refine hK.out _ _ ⟨HM.out.1, HM.out.2.1⟩ (fun _ => ?_)
          clear hK K
          try simp only [Act.put, List.setIfInBounds_toArray, List.set_cons_zero, List.set_cons_succ]
          refine SeqT.step rfl (by rfl) (fun K hK => ?_)
          have z0 := H5.out.cell 0
          have f0 := H5.out.frozen 0
          have z1 := H5.out.cell 1
          have f1 := H5.out.frozen 1
          have z2 := H5.out.cell 2
          have f2 := H5.out.frozen 2
          have z3 := H5.out.cell 3
          have f3 := H5.out.frozen 3
          go_simp
          obtain ⟨X6, hY⟩ : ∃ Y, ((((X5.setCell ⟨X3.heap.size, 0, none⟩ (.int .i64 (latF F').a)).setCell ⟨X3.heap.size, 1, none⟩ (.int .i64 (latF F').b)).setCell ⟨X3.heap.size, 2, none⟩ (.int .i64 (latF F').c)).setCell ⟨X3.heap.size, 3, none⟩ (.slice s3 (cellsF F').length t3)) = Y := ⟨_, rfl⟩
          have q0 : BlockAt X6 X3.heap.size #[.int .i64 (latF F').a, .int .i64 (latF F').b, .int .i64 (latF F').c, .slice s3 (cellsF F').length t3] 24 := by rw [← hY]; exact (((H5.out.set 0 _).set 1 _).set 2 _).set 3 _
          have q1 := (((H4.out.other (i := 0) (show X2.heap.size ≠ X3.heap.size by omega) (.int .i64 (latF F').a)).other (i := 1) (show X2.heap.size ≠ X3.heap.size by omega) (.int .i64 (latF F').b)).other (i := 2) (show X2.heap.size ≠ X3.heap.size by omega) (.int .i64 (latF F').c)).other (i := 3) (show X2.heap.size ≠ X3.heap.size by omega) (.slice s3 (cellsF F').length t3)
          have q2 := (((HM.out.1.other (i := 0) (show w.heap.size ≠ X3.heap.size by omega) (.int .i64 (latF F').a)).other (i := 1) (show w.heap.size ≠ X3.heap.size by omega) (.int .i64 (latF F').b)).other (i := 2) (show w.heap.size ≠ X3.heap.size by omega) (.int .i64 (latF F').c)).other (i := 3) (show w.heap.size ≠ X3.heap.size by omega) (.slice s3 (cellsF F').length t3)
          have q3 := (((HM.out.2.1.other (i := 0) (show w.heap.size + 1 ≠ X3.heap.size by omega) (.int .i64 (latF F').a)).other (i := 1) (show w.heap.size + 1 ≠ X3.heap.size by omega) (.int .i64 (latF F').b)).other (i := 2) (show w.heap.size + 1 ≠ X3.heap.size by omega) (.int .i64 (latF F').c)).other (i := 3) (show w.heap.size + 1 ≠ X3.heap.size by omega) (.slice s3 (cellsF F').length t3)
          have q4 := (((HM.out.2.2.setCell (p := ⟨X3.heap.size, 0, none⟩) (by dsimp only; omega) (.int .i64 (latF F').a)).setCell (p := ⟨X3.heap.size, 1, none⟩) (by dsimp only; omega) (.int .i64 (latF F').b)).setCell (p := ⟨X3.heap.size, 2, none⟩) (by dsimp only; omega) (.int .i64 (latF F').c)).setCell (p := ⟨X3.heap.size, 3, none⟩) (by dsimp only; omega) (.slice s3 (cellsF F').length t3)
          have q5 := OwnI.set4 U1.out n15 (.int .i64 (latF F').a) (.int .i64 (latF F').b) (.int .i64 (latF F').c) (.slice s3 (cellsF F').length t3)
          have q6 := OwnI.set4 U3.out n35 (.int .i64 (latF F').a) (.int .i64 (latF F').b) (.int .i64 (latF F').c) (.slice s3 (cellsF F').length t3)
          rw [hY] at q1 q2 q3 q4 q5 q6 ⊢
          have HM := Lib.hid (And.intro q2 (And.intro q3 q4))
          have H5 := Lib.hid q0
          have H4 := Lib.hid q1
          have U1 := Lib.hid q5
          have U3 := Lib.hid q6
          clear z0 z1 z2 z3 f0 f1 f2 f3 hY q0 q1 q2 q3 q4 q5 q6
          try dsimp only
          refine hK.out _ _ ⟨HM.out.1, HM.out.2.1⟩ (fun _ => ?_)
          clear hK K
          try simp only [Act.put, List.setIfInBounds_toArray, List.set_cons_zero, List.set_cons_succ]
          exact SeqT.fin ⟨rfl, (X2.heap.size, X3.heap.size, .slice s1 (cellsF F).length t1, .slice s3 (cellsF F').length t3), by simp only [putAll, Act.put, List.setIfInBounds_toArray, List.set_cons_zero, List.set_cons_succ], H4.out, U1.out.ints, H5.out, U3.out.ints, HM.out.2.2⟩
        · go_simp
          obtain ⟨X3, hY⟩ : ∃ Y, X2.alloc (.cells #[.int .i64 0, .int .i64 0, .int .i64 0, .slice none 0 0] 24) = Y := ⟨_, rfl⟩
          have hbY : Below X2.heap.size X2 X3 := by rw [← hY]; exact below_alloc (Below.refl _ _) _
          have hN : BlockAt X3 X2.heap.size #[.int .i64 0, .int .i64 0, .int .i64 0, .slice none 0 0] 24 := by rw [← hY]; exact BlockAt.new _ _ _
          rw [hY]
          have l5 : w.heap.size + 1 < X2.heap.size := HM.out.2.1.lt
          have n15 := own_ne_new U1.out
          have n35 := own_ne_new U3.out
          have HM := Lib.hid (And.intro (HM.out.1.below hbY HM.out.1.lt) (And.intro (HM.out.2.1.below hbY HM.out.2.1.lt) (below_step HM.out.2.2 hbY)))
          have U1 := Lib.hid (OwnI.all U1.out hbY)
          have U3 := Lib.hid (OwnI.all U3.out hbY)
          have H5 := Lib.hid hN
          clear hY hbY hN
          try dsimp only
          refine hK.out _ _ ⟨HM.out.1, HM.out.2.1⟩ (fun _ => ?_)
          clear hK K
          try simp only [Act.put, List.setIfInBounds_toArray, List.set_cons_zero, List.set_cons_succ]
          refine SeqT.step rfl (by rfl) (fun K hK => ?_)
          go_simp
          obtain ⟨X4, hY⟩ : ∃ Y, X3.alloc (.cells #[.int .i64 0, .int .i64 0, .int .i64 0, .slice none 0 0] 24) = Y := ⟨_, rfl⟩
          have hbY : Below X3.heap.size X3 X4 := by rw [← hY]; exact below_alloc (Below.refl _ _) _
          have hN : BlockAt X4 X3.heap.size #[.int .i64 0, .int .i64 0, .int .i64 0, .slice none 0 0] 24 := by rw [← hY]; exact BlockAt.new _ _ _
          rw [hY]
          have l4 : w.heap.size + 1 < X3.heap.size := HM.out.2.1.lt
          have ne45 : X2.heap.size ≠ X3.heap.size := by have := H5.out.lt; omega
          have n14 := own_ne_new U1.out
          have n34 := own_ne_new U3.out
          have HM := Lib.hid (And.intro (HM.out.1.below hbY HM.out.1.lt) (And.intro (HM.out.2.1.below hbY HM.out.2.1.lt) (below_step HM.out.2.2 hbY)))
          have H5 := Lib.hid (H5.out.below hbY H5.out.lt)
          have U1 := Lib.hid (OwnI.all U1.out hbY)
          have U3 := Lib.hid (OwnI.all U3.out hbY)
          have H4 := Lib.hid hN
          clear hY hbY hN
          try dsimp only
          refine hK.out _ _ ⟨HM.out.1, HM.out.2.1⟩ (fun _ => ?_)
          clear hK K
          try simp only [Act.put, List.setIfInBounds_toArray, List.set_cons_zero, List.set_cons_succ]
          refine SeqT.step rfl (by rfl) (fun K hK => ?_)
          have z0 := H4.out.cell 0
          have f0 := H4.out.frozen 0
          have z1 := H4.out.cell 1
          have f1 := H4.out.frozen 1
          have z2 := H4.out.cell 2
          have f2 := H4.out.frozen 2
          have z3 := H4.out.cell 3
          have f3 := H4.out.frozen 3
          go_simp
          obtain ⟨X5, hY⟩ : ∃ Y, ((((X4.setCell ⟨X3.heap.size, 0, none⟩ (.int .i64 (latF F).a)).setCell ⟨X3.heap.size, 1, none⟩ (.int .i64 (latF F).b)).setCell ⟨X3.heap.size, 2, none⟩ (.int .i64 (latF F).c)).setCell ⟨X3.heap.size, 3, none⟩ (.slice s1 (cellsF F).length t1)) = Y := ⟨_, rfl⟩
          have q0 : BlockAt X5 X3.heap.size #[.int .i64 (latF F).a, .int .i64 (latF F).b, .int .i64 (latF F).c, .slice s1 (cellsF F).length t1] 24 := by rw [← hY]; exact (((H4.out.set 0 _).set 1 _).set 2 _).set 3 _
          have q1 := (((H5.out.other (i := 0) (show X2.heap.size ≠ X3.heap.size by omega) (.int .i64 (latF F).a)).other (i := 1) (show X2.heap.size ≠ X3.heap.size by omega) (.int .i64 (latF F).b)).other (i := 2) (show X2.heap.size ≠ X3.heap.size by omega) (.int .i64 (latF F).c)).other (i := 3) (show X2.heap.size ≠ X3.heap.size by omega) (.slice s1 (cellsF F).length t1)
          have q2 := (((HM.out.1.other (i := 0) (show w.heap.size ≠ X3.heap.size by omega) (.int .i64 (latF F).a)).other (i := 1) (show w.heap.size ≠ X3.heap.size by omega) (.int .i64 (latF F).b)).other (i := 2) (show w.heap.size ≠ X3.heap.size by omega) (.int .i64 (latF F).c)).other (i := 3) (show w.heap.size ≠ X3.heap.size by omega) (.slice s1 (cellsF F).length t1)
          have q3 := (((HM.out.2.1.other (i := 0) (show w.heap.size + 1 ≠ X3.heap.size by omega) (.int .i64 (latF F).a)).other (i := 1) (show w.heap.size + 1 ≠ X3.heap.size by omega) (.int .i64 (latF F).b)).other (i := 2) (show w.heap.size + 1 ≠ X3.heap.size by omega) (.int .i64 (latF F).c)).other (i := 3) (show w.heap.size + 1 ≠ X3.heap.size by omega) (.slice s1 (cellsF F).length t1)
          have q4 := (((HM.out.2.2.setCell (p := ⟨X3.heap.size, 0, none⟩) (by dsimp only; omega) (.int .i64 (latF F).a)).setCell (p := ⟨X3.heap.size, 1, none⟩) (by dsimp only; omega) (.int .i64 (latF F).b)).setCell (p := ⟨X3.heap.size, 2, none⟩) (by dsimp only; omega) (.int .i64 (latF F).c)).setCell (p := ⟨X3.heap.size, 3, none⟩) (by dsimp only; omega) (.slice s1 (cellsF F).length t1)
          have q5 := OwnI.set4 U1.out n14 (.int .i64 (latF F).a) (.int .i64 (latF F).b) (.int .i64 (latF F).c) (.slice s1 (cellsF F).length t1)
          have q6 := OwnI.set4 U3.out n34 (.int .i64 (latF F).a) (.int .i64 (latF F).b) (.int .i64 (latF F).c) (.slice s1 (cellsF F).length t1)
          rw [hY] at q1 q2 q3 q4 q5 q6 ⊢
          have HM := Lib.hid (And.intro q2 (And.intro q3 q4))
          have H4 := Lib.hid q0
          have H5 := Lib.hid q1
          have U1 := Lib.hid q5
          have U3 := Lib.hid q6
          clear z0 z1 z2 z3 f0 f1 f2 f3 hY q0 q1 q2 q3 q4 q5 q6
          try dsimp only
          refine hK.out _ _ ⟨HM.out.1, HM.out.2.1⟩ (fun _ => ?_)
          clear hK K
          try simp only [Act.put, List.setIfInBounds_toArray, List.set_cons_zero, List.set_cons_succ]
          refine SeqT.step rfl (by rfl) (fun K hK => ?_)
          have z0 := H5.out.cell 0
          have f0 := H5.out.frozen 0
          have z1 := H5.out.cell 1
          have f1 := H5.out.frozen 1
          have z2 := H5.out.cell 2
          have f2 := H5.out.frozen 2
          have z3 := H5.out.cell 3
          have f3 := H5.out.frozen 3
          go_simp
          obtain ⟨X6, hY⟩ : ∃ Y, ((((X5.setCell ⟨X2.heap.size, 0, none⟩ (.int .i64 (latF F').a)).setCell ⟨X2.heap.size, 1, none⟩ (.int .i64 (latF F').b)).setCell ⟨X2.heap.size, 2, none⟩ (.int .i64 (latF F').c)).setCell ⟨X2.heap.size, 3, none⟩ (.slice s3 (cellsF F').length t3)) = Y := ⟨_, rfl⟩
          have q0 : BlockAt X6 X2.heap.size #[.int .i64 (latF F').a, .int .i64 (latF F').b, .int .i64 (latF F').c, .slice s3 (cellsF F').length t3] 24 := by rw [← hY]; exact (((H5.out.set 0 _).set 1 _).set 2 _).set 3 _
          have q1 := (((H4.out.other (i := 0) (show X3.heap.size ≠ X2.heap.size by omega) (.int .i64 (latF F').a)).other (i := 1) (show X3.heap.size ≠ X2.heap.size by omega) (.int .i64 (latF F').b)).other (i := 2) (show X3.heap.size ≠ X2.heap.size by omega) (.int .i64 (latF F').c)).other (i := 3) (show X3.heap.size ≠ X2.heap.size by omega) (.slice s3 (cellsF F').length t3)
          have q2 := (((HM.out.1.other (i := 0) (show w.heap.size ≠ X2.heap.size by omega) (.int .i64 (latF F').a)).other (i := 1) (show w.heap.size ≠ X2.heap.size by omega) (.int .i64 (latF F').b)).other (i := 2) (show w.heap.size ≠ X2.heap.size by omega) (.int .i64 (latF F').c)).other (i := 3) (show w.heap.size ≠ X2.heap.size by omega) (.slice s3 (cellsF F').length t3)
          have q3 := (((HM.out.2.1.other (i := 0) (show w.heap.size + 1 ≠ X2.heap.size by omega) (.int .i64 (latF F').a)).other (i := 1) (show w.heap.size + 1 ≠ X2.heap.size by omega) (.int .i64 (latF F').b)).other (i := 2) (show w.heap.size + 1 ≠ X2.heap.size by omega) (.int .i64 (latF F').c)).other (i := 3) (show w.heap.size + 1 ≠ X2.heap.size by omega) (.slice s3 (cellsF F').length t3)
          have q4 := (((HM.out.2.2.setCell (p := ⟨X2.heap.size, 0, none⟩) (by dsimp only; omega) (.int .i64 (latF F').a)).setCell (p := ⟨X2.heap.size, 1, none⟩) (by dsimp only; omega) (.int .i64 (latF F').b)).setCell (p := ⟨X2.heap.size, 2, none⟩) (by dsimp only; omega) (.int .i64 (latF F').c)).setCell (p := ⟨X2.heap.size, 3, none⟩) (by dsimp only; omega) (.slice s3 (cellsF F').length t3)
          have q5 := OwnI.set4 U1.out n15 (.int .i64 (latF F').a) (.int .i64 (latF F').b) (.int .i64 (latF F').c) (.slice s3 (cellsF F').length t3)
          have q6 := OwnI.set4 U3.out n35 (.int .i64 (latF F').a) (.int .i64 (latF F').b) (.int .i64 (latF F').c) (.slice s3 (cellsF F').length t3)
          rw [hY] at q1 q2 q3 q4 q5 q6 ⊢
          have HM := Lib.hid (And.intro q2 (And.intro q3 q4))
          have H5 := Lib.hid q0
          have H4 := Lib.hid q1
          have U1 := Lib.hid q5
          have U3 := Lib.hid q6
          clear z0 z1 z2 z3 f0 f1 f2 f3 hY q0 q1 q2 q3 q4 q5 q6
          try dsimp only
          refine hK.out _ _ ⟨HM.out.1, HM.out.2.1⟩ (fun _ => ?_)
          clear hK K
          try simp only [Act.put, List.setIfInBounds_toArray, List.set_cons_zero, List.set_cons_succ]
          exact SeqT.fin ⟨rfl, (X3.heap.size, X2.heap.size, .slice s1 (cellsF F).length t1, .slice s3 (cellsF F').length t3), by simp only [putAll, Act.put, List.setIfInBounds_toArray, List.set_cons_zero, List.set_cons_succ], H4.out, U1.out.ints, H5.out, U3.out.ints, HM.out.2.2⟩
      · go_simp
        obtain ⟨X2, hY⟩ : ∃ Y, X1.alloc (.cells #[.int .i64 0, .int .i64 0, .int .i64 0, .slice none 0 0] 24) = Y := ⟨_, rfl⟩
        have hbY : Below X1.heap.size X1 X2 := by rw [← hY]; exact below_alloc (Below.refl _ _) _
        have hN : BlockAt X2 X1.heap.size #[.int .i64 0, .int .i64 0, .int .i64 0, .slice none 0 0] 24 := by rw [← hY]; exact BlockAt.new _ _ _
        rw [hY]
        have l4 : w.heap.size + 1 < X1.heap.size := HM.out.2.1.lt
        have n14 := own_ne_new U1.out
        have HM := Lib.hid (And.intro (HM.out.1.below hbY HM.out.1.lt) (And.intro (HM.out.2.1.below hbY HM.out.2.1.lt) (below_step HM.out.2.2 hbY)))
        have U1 := Lib.hid (OwnI.all U1.out hbY)
        have H4 := Lib.hid hN
        clear hY hbY hN
        try dsimp only
        refine hK.out _ _ ⟨HM.out.1, HM.out.2.1⟩ (fun _ => ?_)
        clear hK K
        try simp only [Act.put, List.setIfInBounds_toArray, List.set_cons_zero, List.set_cons_succ]
        refine ⟨wpOp_stepS rfl (by rfl) (fun K hK => ?_), wpOp_stepS rfl (by rfl) (fun K hK => ?_)⟩
        · go_simp
          go_at_call 46
          refine (LB.out _ HM.out.2.2).mono ?_
          rintro e X3 ⟨u3, rfl, hown, hbY⟩
          have hown : OwnI X2.heap.size X3 u3 (cellsF F') := hown.ownI
          obtain ⟨s3, t3, rfl⟩ := hown.form
          have n34 := own_ne_old hown (H4.out.lt)
          have HM := Lib.hid (And.intro (HM.out.1.below hbY HM.out.1.lt) (And.intro (HM.out.2.1.below hbY HM.out.2.1.lt) (below_step HM.out.2.2 hbY)))
          have H4 := Lib.hid (H4.out.below hbY H4.out.lt)
          have U1 := Lib.hid (OwnI.all U1.out hbY)
          have U3 := Lib.hid hown
          clear hown hbY
          try dsimp only
          refine hK.out _ _ ⟨HM.out.1, HM.out.2.1⟩ (fun _ => ?_)
          clear hK K
          try simp only [Act.put, List.setIfInBounds_toArray, List.set_cons_zero, List.set_cons_succ]
          refine SeqT.step rfl (by rfl) (fun K hK => ?_)
          go_simp
          obtain ⟨X4, hY⟩ : ∃ Y, X3.alloc (.cells #[.int .i64 0, .int .i64 0, .int .i64 0, .slice none 0 0] 24) = Y := ⟨_, rfl⟩
          have hbY : Below X3.heap.size X3 X4 := by rw [← hY]; exact below_alloc (Below.refl _ _) _
          have hN : BlockAt X4 X3.heap.size #[.int .i64 0, .int .i64 0, .int .i64 0, .slice none 0 0] 24 := by rw [← hY]; exact BlockAt.new _ _ _
          rw [hY]
          have l5 : w.heap.size + 1 < X3.heap.size := HM.out.2.1.lt
          have ne45 : X1.heap.size ≠ X3.heap.size := by have := H4.out.lt; omega
          have n15 := own_ne_new U1.out
          have n35 := own_ne_new U3.out
          have HM := Lib.hid (And.intro (HM.out.1.below hbY HM.out.1.lt) (And.intro (HM.out.2.1.below hbY HM.out.2.1.lt) (below_step HM.out.2.2 hbY)))
          have H4 := Lib.hid (H4.out.below hbY H4.out.lt)
          have U1 := Lib.hid (OwnI.all U1.out hbY)
          have U3 := Lib.hid (OwnI.all U3.out hbY)
          have H5 := Lib.hid hN
          clear hY hbY hN
          try dsimp only
          refine hK.out _ _ ⟨HM.out.1, HM.out.2.1⟩ (fun _ => ?_)
          clear hK K
          try simp only [Act.put, List.setIfInBounds_toArray, List.set_cons_zero, List.set_cons_succ]
          refine SeqT.step rfl (by rfl) (fun K hK => ?_)
          have z0 := H4.out.cell 0
          have f0 := H4.out.frozen 0
          have z1 := H4.out.cell 1
          have f1 := H4.out.frozen 1
          have z2 := H4.out.cell 2
          have f2 := H4.out.frozen 2
          have z3 := H4.out.cell 3
          have f3 := H4.out.frozen 3
          go_simp
          obtain ⟨X5, hY⟩ : ∃ Y, ((((X4.setCell ⟨X1.heap.size, 0, none⟩ (.int .i64 (latF F).a)).setCell ⟨X1.heap.size, 1, none⟩ (.int .i64 (latF F).b)).setCell ⟨X1.heap.size, 2, none⟩ (.int .i64 (latF F).c)).setCell ⟨X1.heap.size, 3, none⟩ (.slice s1 (cellsF F).length t1)) = Y := ⟨_, rfl⟩
          have q0 : BlockAt X5 X1.heap.size #[.int .i64 (latF F).a, .int .i64 (latF F).b, .int .i64 (latF F).c, .slice s1 (cellsF F).length t1] 24 := by rw [← hY]; exact (((H4.out.set 0 _).set 1 _).set 2 _).set 3 _
          have q1 := (((H5.out.other (i := 0) (show X3.heap.size ≠ X1.heap.size by omega) (.int .i64 (latF F).a)).other (i := 1) (show X3.heap.size ≠ X1.heap.size by omega) (.int .i64 (latF F).b)).other (i := 2) (show X3.heap.size ≠ X1.heap.size by omega) (.int .i64 (latF F).c)).other (i := 3) (show X3.heap.size ≠ X1.heap.size by omega) (.slice s1 (cellsF F).length t1)
          have q2 := (((HM.out.1.other (i := 0) (show w.heap.size ≠ X1.heap.size by omega) (.int .i64 (latF F).a)).other (i := 1) (show w.heap.size ≠ X1.heap.size by omega) (.int .i64 (latF F).b)).other (i := 2) (show w.heap.size ≠ X1.heap.size by omega) (.int .i64 (latF F).c)).other (i := 3) (show w.heap.size ≠ X1.heap.size by omega) (.slice s1 (cellsF F).length t1)
          have q3 := (((HM.out.2.1.other (i := 0) (show w.heap.size + 1 ≠ X1.heap.size by omega) (.int .i64 (latF F).a)).other (i := 1) (show w.heap.size + 1 ≠ X1.heap.size by omega) (.int .i64 (latF F).b)).other (i := 2) (show w.heap.size + 1 ≠ X1.heap.size by omega) (.int .i64 (latF F).c)).other (i := 3) (show w.heap.size + 1 ≠ X1.heap.size by omega) (.slice s1 (cellsF F).length t1)
          have q4 := (((HM.out.2.2.setCell (p := ⟨X1.heap.size, 0, none⟩) (by dsimp only; omega) (.int .i64 (latF F).a)).setCell (p := ⟨X1.heap.size, 1, none⟩) (by dsimp only; omega) (.int .i64 (latF F).b)).setCell (p := ⟨X1.heap.size, 2, none⟩) (by dsimp only; omega) (.int .i64 (latF F).c)).setCell (p := ⟨X1.heap.size, 3, none⟩) (by dsimp only; omega) (.slice s1 (cellsF F).length t1)
          have q5 := OwnI.set4 U1.out n14 (.int .i64 (latF F).a) (.int .i64 (latF F).b) (.int .i64 (latF F).c) (.slice s1 (cellsF F).length t1)
          have q6 := OwnI.set4 U3.out n34 (.int .i64 (latF F).a) (.int .i64 (latF F).b) (.int .i64 (latF F).c) (.slice s1 (cellsF F).length t1)
          rw [hY] at q1 q2 q3 q4 q5 q6 ⊢
          have HM := Lib.hid (And.intro q2 (And.intro q3 q4))
          have H4 := Lib.hid q0
          have H5 := Lib.hid q1
          have U1 := Lib.hid q5
          have U3 := Lib.hid q6
          clear z0 z1 z2 z3 f0 f1 f2 f3 hY q0 q1 q2 q3 q4 q5 q6
          try dsimp only
          refine hK.out _ _ ⟨HM.out.1, HM.out.2.1⟩ (fun _ => ?_)
          clear hK K
          try simp only [Act.put, List.setIfInBounds_toArray, List.set_cons_zero, List.set_cons_succ]
          refine SeqT.step rfl (by rfl) (fun K hK => ?_)
          have z0 := H5.out.cell 0
          have f0 := H5.out.frozen 0
          have z1 := H5.out.cell 1
          have f1 := H5.out.frozen 1
          have z2 := H5.out.cell 2
          have f2 := H5.out.frozen 2
          have z3 := H5.out.cell 3
          have f3 := H5.out.frozen 3
          go_simp
          obtain ⟨X6, hY⟩ : ∃ Y, ((((X5.setCell ⟨X3.heap.size, 0, none⟩ (.int .i64 (latF F').a)).setCell ⟨X3.heap.size, 1, none⟩ (.int .i64 (latF F').b)).setCell ⟨X3.heap.size, 2, none⟩ (.int .i64 (latF F').c)).setCell ⟨X3.heap.size, 3, none⟩ (.slice s3 (cellsF F').length t3)) = Y := ⟨_, rfl⟩
          have q0 : BlockAt X6 X3.heap.size #[.int .i64 (latF F').a, .int .i64 (latF F').b, .int .i64 (latF F').c, .slice s3 (cellsF F').length t3] 24 := by rw [← hY]; exact (((H5.out.set 0 _).set 1 _).set 2 _).set 3 _
          have q1 := (((H4.out.other (i := 0) (show X1.heap.size ≠ X3.heap.size by omega) (.int .i64 (latF F').a)).other (i := 1) (show X1.heap.size ≠ X3.heap.size by omega) (.int .i64 (latF F').b)).other (i := 2) (show X1.heap.size ≠ X3.heap.size by omega) (.int .i64 (latF F').c)).other (i := 3) (show X1.heap.size ≠ X3.heap.size by omega) (.slice s3 (cellsF F').length t3)
          have q2 := (((HM.out.1.other (i := 0) (show w.heap.size ≠ X3.heap.size by omega) (.int .i64 (latF F').a)).other (i := 1) (show w.heap.size ≠ X3.heap.size by omega) (.int .i64 (latF F').b)).other (i := 2) (show w.heap.size ≠ X3.heap.size by omega) (.int .i64 (latF F').c)).other (i := 3) (show w.heap.size ≠ X3.heap.size by omega) (.slice s3 (cellsF F').length t3)
          have q3 := (((HM.out.2.1.other (i := 0) (show w.heap.size + 1 ≠ X3.heap.size by omega) (.int .i64 (latF F').a)).other (i := 1) (show w.heap.size + 1 ≠ X3.heap.size by omega) (.int .i64 (latF F').b)).other (i := 2) (show w.heap.size + 1 ≠ X3.heap.size by omega) (.int .i64 (latF F').c)).other (i := 3) (show w.heap.size + 1 ≠ X3.heap.size by omega) (.slice s3 (cellsF F').length t3)
          have q4 := (((HM.out.2.2.setCell (p := ⟨X3.heap.size, 0, none⟩) (by dsimp only; omega) (.int .i64 (latF F').a)).setCell (p := ⟨X3.heap.size, 1, none⟩) (by dsimp only; omega) (.int .i64 (latF F').b)).setCell (p := ⟨X3.heap.size, 2, none⟩) (by dsimp only; omega) (.int .i64 (latF F').c)).setCell (p := ⟨X3.heap.size, 3, none⟩) (by dsimp only; omega) (.slice s3 (cellsF F').length t3)
          have q5 := OwnI.set4 U1.out n15 (.int .i64 (latF F').a) (.int .i64 (latF F').b) (.int .i64 (latF F').c) (.slice s3 (cellsF F').length t3)
          have q6 := OwnI.set4 U3.out n35 (.int .i64 (latF F').a) (.int .i64 (latF F').b) (.int .i64 (latF F').c) (.slice s3 (cellsF F').length t3)
          rw [hY] at q1 q2 q3 q4 q5 q6 ⊢
          have HM := Lib.hid (And.intro q2 (And.intro q3 q4))
          have H5 := Lib.hid q0
          have H4 := Lib.hid q1
          have U1 := Lib.hid q5
          have U3 := Lib.hid q6
          clear z0 z1 z2 z3 f0 f1 f2 f3 hY q0 q1 q2 q3 q4 q5 q6
          try dsimp only
          refine hK.out _ _ ⟨HM.out.1, HM.out.2.1⟩ (fun _ => ?_)
          clear hK K
          try simp only [Act.put, List.setIfInBounds_toArray, List.set_cons_zero, List.set_cons_succ]
          exact SeqT.fin ⟨rfl, (X1.heap.size, X3.heap.size, .slice s1 (cellsF F).length t1, .slice s3 (cellsF F').length t3), by simp only [putAll, Act.put, List.setIfInBounds_toArray, List.set_cons_zero, List.set_cons_succ], H4.out, U1.out.ints, H5.out, U3.out.ints, HM.out.2.2⟩
        · go_simp
          obtain ⟨X3, hY⟩ : ∃ Y, X2.alloc (.cells #[.int .i64 0, .int .i64 0, .int .i64 0, .slice none 0 0] 24) = Y := ⟨_, rfl⟩
          have hbY : Below X2.heap.size X2 X3 := by rw [← hY]; exact below_alloc (Below.refl _ _) _
          have hN : BlockAt X3 X2.heap.size #[.int .i64 0, .int .i64 0, .int .i64 0, .slice none 0 0] 24 := by rw [← hY]; exact BlockAt.new _ _ _
          rw [hY]
          have l5 : w.heap.size + 1 < X2.heap.size := HM.out.2.1.lt
          have ne45 : X1.heap.size ≠ X2.heap.size := by have := H4.out.lt; omega
          have n15 := own_ne_new U1.out
          have HM := Lib.hid (And.intro (HM.out.1.below hbY HM.out.1.lt) (And.intro (HM.out.2.1.below hbY HM.out.2.1.lt) (below_step HM.out.2.2 hbY)))
          have H4 := Lib.hid (H4.out.below hbY H4.out.lt)
          have U1 := Lib.hid (OwnI.all U1.out hbY)
          have H5 := Lib.hid hN
          clear hY hbY hN
          try dsimp only
          refine hK.out _ _ ⟨HM.out.1, HM.out.2.1⟩ (fun _ => ?_)
          clear hK K
          try simp only [Act.put, List.setIfInBounds_toArray, List.set_cons_zero, List.set_cons_succ]
          refine SeqT.step rfl (by rfl) (fun K hK => ?_)
          go_simp
          go_at_call 46
          refine (LB.out _ HM.out.2.2).mono ?_
          rintro e X4 ⟨u3, rfl, hown, hbY⟩
          have hown : OwnI X3.heap.size X4 u3 (cellsF F') := hown.ownI
          obtain ⟨s3, t3, rfl⟩ := hown.form
          have n34 := own_ne_old hown (H4.out.lt)
          have n35 := own_ne_old hown (H5.out.lt)
          have HM := Lib.hid (And.intro (HM.out.1.below hbY HM.out.1.lt) (And.intro (HM.out.2.1.below hbY HM.out.2.1.lt) (below_step HM.out.2.2 hbY)))
          have H4 := Lib.hid (H4.out.below hbY H4.out.lt)
          have H5 := Lib.hid (H5.out.below hbY H5.out.lt)
          have U1 := Lib.hid (OwnI.all U1.out hbY)
          have U3 := Lib.hid hown
          clear hown hbY
          try dsimp only
          refine hK.out _ _ ⟨HM.out.1, HM.out.2.1⟩ (fun _ => ?_)
          clear hK K
          try simp only [Act.put, List.setIfInBounds_toArray, List.set_cons_zero, List.set_cons_succ]
          refine SeqT.step rfl (by rfl) (fun K hK => ?_)
          have z0 := H4.out.cell 0
          have f0 := H4.out.frozen 0
          have z1 := H4.out.cell 1
          have f1 := H4.out.frozen 1
          have z2 := H4.out.cell 2
          have f2 := H4.out.frozen 2
          have z3 := H4.out.cell 3
          have f3 := H4.out.frozen 3
          go_simp
          obtain ⟨X5, hY⟩ : ∃ Y, ((((X4.setCell ⟨X1.heap.size, 0, none⟩ (.int .i64 (latF F).a)).setCell ⟨X1.heap.size, 1, none⟩ (.int .i64 (latF F).b)).setCell ⟨X1.heap.size, 2, none⟩ (.int .i64 (latF F).c)).setCell ⟨X1.heap.size, 3, none⟩ (.slice s1 (cellsF F).length t1)) = Y := ⟨_, rfl⟩
          have q0 : BlockAt X5 X1.heap.size #[.int .i64 (latF F).a, .int .i64 (latF F).b, .int .i64 (latF F).c, .slice s1 (cellsF F).length t1] 24 := by rw [← hY]; exact (((H4.out.set 0 _).set 1 _).set 2 _).set 3 _
          have q1 := (((H5.out.other (i := 0) (show X2.heap.size ≠ X1.heap.size by omega) (.int .i64 (latF F).a)).other (i := 1) (show X2.heap.size ≠ X1.heap.size by omega) (.int .i64 (latF F).b)).other (i := 2) (show X2.heap.size ≠ X1.heap.size by omega) (.int .i64 (latF F).c)).other (i := 3) (show X2.heap.size ≠ X1.heap.size by omega) (.slice s1 (cellsF F).length t1)
          have q2 := (((HM.out.1.other (i := 0) (show w.heap.size ≠ X1.heap.size by omega) (.int .i64 (latF F).a)).other (i := 1) (show w.heap.size ≠ X1.heap.size by omega) (.int .i64 (latF F).b)).other (i := 2) (show w.heap.size ≠ X1.heap.size by omega) (.int .i64 (latF F).c)).other (i := 3) (show w.heap.size ≠ X1.heap.size by omega) (.slice s1 (cellsF F).length t1)
          have q3 := (((HM.out.2.1.other (i := 0) (show w.heap.size + 1 ≠ X1.heap.size by omega) (.int .i64 (latF F).a)).other (i := 1) (show w.heap.size + 1 ≠ X1.heap.size by omega) (.int .i64 (latF F).b)).other (i := 2) (show w.heap.size + 1 ≠ X1.heap.size by omega) (.int .i64 (latF F).c)).other (i := 3) (show w.heap.size + 1 ≠ X1.heap.size by omega) (.slice s1 (cellsF F).length t1)
          have q4 := (((HM.out.2.2.setCell (p := ⟨X1.heap.size, 0, none⟩) (by dsimp only; omega) (.int .i64 (latF F).a)).setCell (p := ⟨X1.heap.size, 1, none⟩) (by dsimp only; omega) (.int .i64 (latF F).b)).setCell (p := ⟨X1.heap.size, 2, none⟩) (by dsimp only; omega) (.int .i64 (latF F).c)).setCell (p := ⟨X1.heap.size, 3, none⟩) (by dsimp only; omega) (.slice s1 (cellsF F).length t1)
          have q5 := OwnI.set4 U1.out n14 (.int .i64 (latF F).a) (.int .i64 (latF F).b) (.int .i64 (latF F).c) (.slice s1 (cellsF F).length t1)
          have q6 := OwnI.set4 U3.out n34 (.int .i64 (latF F).a) (.int .i64 (latF F).b) (.int .i64 (latF F).c) (.slice s1 (cellsF F).length t1)
          rw [hY] at q1 q2 q3 q4 q5 q6 ⊢
          have HM := Lib.hid (And.intro q2 (And.intro q3 q4))
          have H4 := Lib.hid q0
          have H5 := Lib.hid q1
          have U1 := Lib.hid q5
          have U3 := Lib.hid q6
          clear z0 z1 z2 z3 f0 f1 f2 f3 hY q0 q1 q2 q3 q4 q5 q6
          try dsimp only
          refine hK.out _ _ ⟨HM.out.1, HM.out.2.1⟩ (fun _ => ?_)
          clear hK K
          try simp only [Act.put, List.setIfInBounds_toArray, List.set_cons_zero, List.set_cons_succ]
          refine SeqT.step rfl (by rfl) (fun K hK => ?_)
          have z0 := H5.out.cell 0
          have f0 := H5.out.frozen 0
          have z1 := H5.out.cell 1
          have f1 := H5.out.frozen 1
          have z2 := H5.out.cell 2
          have f2 := H5.out.frozen 2
          have z3 := H5.out.cell 3
          have f3 := H5.out.frozen 3
          go_simp
          obtain ⟨X6, hY⟩ : ∃ Y, ((((X5.setCell ⟨X2.heap.size, 0, none⟩ (.int .i64 (latF F').a)).setCell ⟨X2.heap.size, 1, none⟩ (.int .i64 (latF F').b)).setCell ⟨X2.heap.size, 2, none⟩ (.int .i64 (latF F').c)).setCell ⟨X2.heap.size, 3, none⟩ (.slice s3 (cellsF F').length t3)) = Y := ⟨_, rfl⟩
          have q0 : BlockAt X6 X2.heap.size #[.int .i64 (latF F').a, .int .i64 (latF F').b, .int .i64 (latF F').c, .slice s3 (cellsF F').length t3] 24 := by rw [← hY]; exact (((H5.out.set 0 _).set 1 _).set 2 _).set 3 _
          have q1 := (((H4.out.other (i := 0) (show X1.heap.size ≠ X2.heap.size by omega) (.int .i64 (latF F').a)).other (i := 1) (show X1.heap.size ≠ X2.heap.size by omega) (.int .i64 (latF F').b)).other (i := 2) (show X1.heap.size ≠ X2.heap.size by omega) (.int .i64 (latF F').c)).other (i := 3) (show X1.heap.size ≠ X2.heap.size by omega) (.slice s3 (cellsF F').length t3)
          have q2 := (((HM.out.1.other (i := 0) (show w.heap.size ≠ X2.heap.size by omega) (.int .i64 (latF F').a)).other (i := 1) (show w.heap.size ≠ X2.heap.size by omega) (.int .i64 (latF F').b)).other (i := 2) (show w.heap.size ≠ X2.heap.size by omega) (.int .i64 (latF F').c)).other (i := 3) (show w.heap.size ≠ X2.heap.size by omega) (.slice s3 (cellsF F').length t3)
          have q3 := (((HM.out.2.1.other (i := 0) (show w.heap.size + 1 ≠ X2.heap.size by omega) (.int .i64 (latF F').a)).other (i := 1) (show w.heap.size + 1 ≠ X2.heap.size by omega) (.int .i64 (latF F').b)).other (i := 2) (show w.heap.size + 1 ≠ X2.heap.size by omega) (.int .i64 (latF F').c)).other (i := 3) (show w.heap.size + 1 ≠ X2.heap.size by omega) (.slice s3 (cellsF F').length t3)
          have q4 := (((HM.out.2.2.setCell (p := ⟨X2.heap.size, 0, none⟩) (by dsimp only; omega) (.int .i64 (latF F').a)).setCell (p := ⟨X2.heap.size, 1, none⟩) (by dsimp only; omega) (.int .i64 (latF F').b)).setCell (p := ⟨X2.heap.size, 2, none⟩) (by dsimp only; omega) (.int .i64 (latF F').c)).setCell (p := ⟨X2.heap.size, 3, none⟩) (by dsimp only; omega) (.slice s3 (cellsF F').length t3)
          have q5 := OwnI.set4 U1.out n15 (.int .i64 (latF F').a) (.int .i64 (latF F').b) (.int .i64 (latF F').c) (.slice s3 (cellsF F').length t3)
          have q6 := OwnI.set4 U3.out n35 (.int .i64 (latF F').a) (.int .i64 (latF F').b) (.int .i64 (latF F').c) (.slice s3 (cellsF F').length t3)
          rw [hY] at q1 q2 q3 q4 q5 q6 ⊢
          have HM := Lib.hid (And.intro q2 (And.intro q3 q4))
          have H5 := Lib.hid q0
          have H4 := Lib.hid q1
          have U1 := Lib.hid q5
          have U3 := Lib.hid q6
          clear z0 z1 z2 z3 f0 f1 f2 f3 hY q0 q1 q2 q3 q4 q5 q6
          try dsimp only
          refine hK.out _ _ ⟨HM.out.1, HM.out.2.1⟩ (fun _ => ?_)
          clear hK K
          try simp only [Act.put, List.setIfInBounds_toArray, List.set_cons_zero, List.set_cons_succ]
          exact SeqT.fin ⟨rfl, (X1.heap.size, X2.heap.size, .slice s1 (cellsF F).length t1, .slice s3 (cellsF F').length t3), by simp only [putAll, Act.put, List.setIfInBounds_toArray, List.set_cons_zero, List.set_cons_succ], H4.out, U1.out.ints, H5.out, U3.out.ints, HM.out.2.2⟩
      · go_simp
        obtain ⟨X2, hY⟩ : ∃ Y, X1.alloc (.cells #[.int .i64 0, .int .i64 0, .int .i64 0, .slice none 0 0] 24) = Y := ⟨_, rfl⟩
        have hbY : Below X1.heap.size X1 X2 := by rw [← hY]; exact below_alloc (Below.refl _ _) _
        have hN : BlockAt X2 X1.heap.size #[.int .i64 0, .int .i64 0, .int .i64 0, .slice none 0 0] 24 := by rw [← hY]; exact BlockAt.new _ _ _
        rw [hY]
        have l5 : w.heap.size + 1 < X1.heap.size := HM.out.2.1.lt
        have n15 := own_ne_new U1.out
        have HM := Lib.hid (And.intro (HM.out.1.below hbY HM.out.1.lt) (And.intro (HM.out.2.1.below hbY HM.out.2.1.lt) (below_step HM.out.2.2 hbY)))
        have U1 := Lib.hid (OwnI.all U1.out hbY)
        have H5 := Lib.hid hN
        clear hY hbY hN
        try dsimp only
        refine hK.out _ _ ⟨HM.out.1, HM.out.2.1⟩ (fun _ => ?_)
        clear hK K
        try simp only [Act.put, List.setIfInBounds_toArray, List.set_cons_zero, List.set_cons_succ]
        refine ⟨wpOp_stepS rfl (by rfl) (fun K hK => ?_), wpOp_stepS rfl (by rfl) (fun K hK => ?_)⟩
        · go_simp
          go_at_call 46
          refine (LB.out _ HM.out.2.2).mono ?_
          rintro e X3 ⟨u3, rfl, hown, hbY⟩
          have hown : OwnI X2.heap.size X3 u3 (cellsF F') := hown.ownI
          obtain ⟨s3, t3, rfl⟩ := hown.form
          have n35 := own_ne_old hown (H5.out.lt)
          have HM := Lib.hid (And.intro (HM.out.1.below hbY HM.out.1.lt) (And.intro (HM.out.2.1.below hbY HM.out.2.1.lt) (below_step HM.out.2.2 hbY)))
          have H5 := Lib.hid (H5.out.below hbY H5.out.lt)
          have U1 := Lib.hid (OwnI.all U1.out hbY)
          have U3 := Lib.hid hown
          clear hown hbY
          try dsimp only
          refine hK.out _ _ ⟨HM.out.1, HM.out.2.1⟩ (fun _ => ?_)
          clear hK K
          try simp only [Act.put, List.setIfInBounds_toArray, List.set_cons_zero, List.set_cons_succ]
          refine SeqT.step rfl (by rfl) (fun K hK => ?_)
          go_simp
          obtain ⟨X4, hY⟩ : ∃ Y, X3.alloc (.cells #[.int .i64 0, .int .i64 0, .int .i64 0, .slice none 0 0] 24) = Y := ⟨_, rfl⟩
          have hbY : Below X3.heap.size X3 X4 := by rw [← hY]; exact below_alloc (Below.refl _ _) _
          have hN : BlockAt X4 X3.heap.size #[.int .i64 0, .int .i64 0, .int .i64 0, .slice none 0 0] 24 := by rw [← hY]; exact BlockAt.new _ _ _
          rw [hY]
          have l4 : w.heap.size + 1 < X3.heap.size := HM.out.2.1.lt
          have ne45 : X1.heap.size ≠ X3.heap.size := by have := H5.out.lt; omega
          have n14 := own_ne_new U1.out
          have n34 := own_ne_new U3.out
          have HM := Lib.hid (And.intro (HM.out.1.below hbY HM.out.1.lt) (And.intro (HM.out.2.1.below hbY HM.out.2.1.lt) (below_step HM.out.2.2 hbY)))
          have H5 := Lib.hid (H5.out.below hbY H5.out.lt)
          have U1 := Lib.hid (OwnI.all U1.out hbY)
          have U3 := Lib.hid (OwnI.all U3.out hbY)
          have H4 := Lib.hid hN
          clear hY hbY hN
          try dsimp only
          refine hK.out _ _ ⟨HM.out.1, HM.out.2.1⟩ (fun _ => ?_)
          clear hK K
          try simp only [Act.put, List.setIfInBounds_toArray, List.set_cons_zero, List.set_cons_succ]
          refine SeqT.step rfl (by rfl) (fun K hK => ?_)
          have z0 := H4.out.cell 0
          have f0 := H4.out.frozen 0
          have z1 := H4.out.cell 1
          have f1 := H4.out.frozen 1
          have z2 := H4.out.cell 2
          have f2 := H4.out.frozen 2
          have z3 := H4.out.cell 3
          have f3 := H4.out.frozen 3
          go_simp
          obtain ⟨X5, hY⟩ : ∃ Y, ((((X4.setCell ⟨X3.heap.size, 0, none⟩ (.int .i64 (latF F).a)).setCell ⟨X3.heap.size, 1, none⟩ (.int .i64 (latF F).b)).setCell ⟨X3.heap.size, 2, none⟩ (.int .i64 (latF F).c)).setCell ⟨X3.heap.size, 3, none⟩ (.slice s1 (cellsF F).length t1)) = Y := ⟨_, rfl⟩
          have q0 : BlockAt X5 X3.heap.size #[.int .i64 (latF F).a, .int .i64 (latF F).b, .int .i64 (latF F).c, .slice s1 (cellsF F).length t1] 24 := by rw [← hY]; exact (((H4.out.set 0 _).set 1 _).set 2 _).set 3 _
          have q1 := (((H5.out.other (i := 0) (show X1.heap.size ≠ X3.heap.size by omega) (.int .i64 (latF F).a)).other (i := 1) (show X1.heap.size ≠ X3.heap.size by omega) (.int .i64 (latF F).b)).other (i := 2) (show X1.heap.size ≠ X3.heap.size by omega) (.int .i64 (latF F).c)).other (i := 3) (show X1.heap.size ≠ X3.heap.size by omega) (.slice s1 (cellsF F).length t1)
          have q2 := (((HM.out.1.other (i := 0) (show w.heap.size ≠ X3.heap.size by omega) (.int .i64 (latF F).a)).other (i := 1) (show w.heap.size ≠ X3.heap.size by omega) (.int .i64 (latF F).b)).other (i := 2) (show w.heap.size ≠ X3.heap.size by omega) (.int .i64 (latF F).c)).other (i := 3) (show w.heap.size ≠ X3.heap.size by omega) (.slice s1 (cellsF F).length t1)
          have q3 := (((HM.out.2.1.other (i := 0) (show w.heap.size + 1 ≠ X3.heap.size by omega) (.int .i64 (latF F).a)).other (i := 1) (show w.heap.size + 1 ≠ X3.heap.size by omega) (.int .i64 (latF F).b)).other (i := 2) (show w.heap.size + 1 ≠ X3.heap.size by omega) (.int .i64 (latF F).c)).other (i := 3) (show w.heap.size + 1 ≠ X3.heap.size by omega) (.slice s1 (cellsF F).length t1)
          have q4 := (((HM.out.2.2.setCell (p := ⟨X3.heap.size, 0, none⟩) (by dsimp only; omega) (.int .i64 (latF F).a)).setCell (p := ⟨X3.heap.size, 1, none⟩) (by dsimp only; omega) (.int .i64 (latF F).b)).setCell (p := ⟨X3.heap.size, 2, none⟩) (by dsimp only; omega) (.int .i64 (latF F).c)).setCell (p := ⟨X3.heap.size, 3, none⟩) (by dsimp only; omega) (.slice s1 (cellsF F).length t1)
          have q5 := OwnI.set4 U1.out n14 (.int .i64 (latF F).a) (.int .i64 (latF F).b) (.int .i64 (latF F).c) (.slice s1 (cellsF F).length t1)
          have q6 := OwnI.set4 U3.out n34 (.int .i64 (latF F).a) (.int .i64 (latF F).b) (.int .i64 (latF F).c) (.slice s1 (cellsF F).length t1)
          rw [hY] at q1 q2 q3 q4 q5 q6 ⊢
          have HM := Lib.hid (And.intro q2 (And.intro q3 q4))
          have H4 := Lib.hid q0
          have H5 := Lib.hid q1
          have U1 := Lib.hid q5
          have U3 := Lib.hid q6
          clear z0 z1 z2 z3 f0 f1 f2 f3 hY q0 q1 q2 q3 q4 q5 q6
          try dsimp only
          refine hK.out _ _ ⟨HM.out.1, HM.out.2.1⟩ (fun _ => ?_)
          clear hK K
          try simp only [Act.put, List.setIfInBounds_toArray, List.set_cons_zero, List.set_cons_succ]
          refine SeqT.step rfl (by rfl) (fun K hK => ?_)
          have z0 := H5.out.cell 0
          have f0 := H5.out.frozen 0
          have z1 := H5.out.cell 1
          have f1 := H5.out.frozen 1
          have z2 := H5.out.cell 2
          have f2 := H5.out.frozen 2
          have z3 := H5.out.cell 3
          have f3 := H5.out.frozen 3
          go_simp
          obtain ⟨X6, hY⟩ : ∃ Y, ((((X5.setCell ⟨X1.heap.size, 0, none⟩ (.int .i64 (latF F').a)).setCell ⟨X1.heap.size, 1, none⟩ (.int .i64 (latF F').b)).setCell ⟨X1.heap.size, 2, none⟩ (.int .i64 (latF F').c)).setCell ⟨X1.heap.size, 3, none⟩ (.slice s3 (cellsF F').length t3)) = Y := ⟨_, rfl⟩
          have q0 : BlockAt X6 X1.heap.size #[.int .i64 (latF F').a, .int .i64 (latF F').b, .int .i64 (latF F').c, .slice s3 (cellsF F').length t3] 24 := by rw [← hY]; exact (((H5.out.set 0 _).set 1 _).set 2 _).set 3 _
          have q1 := (((H4.out.other (i := 0) (show X3.heap.size ≠ X1.heap.size by omega) (.int .i64 (latF F').a)).other (i := 1) (show X3.heap.size ≠ X1.heap.size by omega) (.int .i64 (latF F').b)).other (i := 2) (show X3.heap.size ≠ X1.heap.size by omega) (.int .i64 (latF F').c)).other (i := 3) (show X3.heap.size ≠ X1.heap.size by omega) (.slice s3 (cellsF F').length t3)
          have q2 := (((HM.out.1.other (i := 0) (show w.heap.size ≠ X1.heap.size by omega) (.int .i64 (latF F').a)).other (i := 1) (show w.heap.size ≠ X1.heap.size by omega) (.int .i64 (latF F').b)).other (i := 2) (show w.heap.size ≠ X1.heap.size by omega) (.int .i64 (latF F').c)).other (i := 3) (show w.heap.size ≠ X1.heap.size by omega) (.slice s3 (cellsF F').length t3)
          have q3 := (((HM.out.2.1.other (i := 0) (show w.heap.size + 1 ≠ X1.heap.size by omega) (.int .i64 (latF F').a)).other (i := 1) (show w.heap.size + 1 ≠ X1.heap.size by omega) (.int .i64 (latF F').b)).other (i := 2) (show w.heap.size + 1 ≠ X1.heap.size by omega) (.int .i64 (latF F').c)).other (i := 3) (show w.heap.size + 1 ≠ X1.heap.size by omega) (.slice s3 (cellsF F').length t3)
          have q4 := (((HM.out.2.2.setCell (p := ⟨X1.heap.size, 0, none⟩) (by dsimp only; omega) (.int .i64 (latF F').a)).setCell (p := ⟨X1.heap.size, 1, none⟩) (by dsimp only; omega) (.int .i64 (latF F').b)).setCell (p := ⟨X1.heap.size, 2, none⟩) (by dsimp only; omega) (.int .i64 (latF F').c)).setCell (p := ⟨X1.heap.size, 3, none⟩) (by dsimp only; omega) (.slice s3 (cellsF F').length t3)
          have q5 := OwnI.set4 U1.out n15 (.int .i64 (latF F').a) (.int .i64 (latF F').b) (.int .i64 (latF F').c) (.slice s3 (cellsF F').length t3)
          have q6 := OwnI.set4 U3.out n35 (.int .i64 (latF F').a) (.int .i64 (latF F').b) (.int .i64 (latF F').c) (.slice s3 (cellsF F').length t3)
          rw [hY] at q1 q2 q3 q4 q5 q6 ⊢
          have HM := Lib.hid (And.intro q2 (And.intro q3 q4))
          have H5 := Lib.hid q0
          have H4 := Lib.hid q1
          have U1 := Lib.hid q5
          have U3 := Lib.hid q6
          clear z0 z1 z2 z3 f0 f1 f2 f3 hY q0 q1 q2 q3 q4 q5 q6
          try dsimp only
          refine hK.out _ _ ⟨HM.out.1, HM.out.2.1⟩ (fun _ => ?_)
          clear hK K
          try simp only [Act.put, List.setIfInBounds_toArray, List.set_cons_zero, List.set_cons_succ]
          exact SeqT.fin ⟨rfl, (X3.heap.size, X1.heap.size, .slice s1 (cellsF F).length t1, .slice s3 (cellsF F').length t3), by simp only [putAll, Act.put, List.setIfInBounds_toArray, List.set_cons_zero, List.set_cons_succ], H4.out, U1.out.ints, H5.out, U3.out.ints, HM.out.2.2⟩
        · go_simp
          obtain ⟨X3, hY⟩ : ∃ Y, X2.alloc (.cells #[.int .i64 0, .int .i64 0, .int .i64 0, .slice none 0 0] 24) = Y := ⟨_, rfl⟩
          have hbY : Below X2.heap.size X2 X3 := by rw [← hY]; exact below_alloc (Below.refl _ _) _
          have hN : BlockAt X3 X2.heap.size #[.int .i64 0, .int .i64 0, .int .i64 0, .slice none 0 0] 24 := by rw [← hY]; exact BlockAt.new _ _ _
          rw [hY]
          have l4 : w.heap.size + 1 < X2.heap.size := HM.out.2.1.lt
          have ne45 : X1.heap.size ≠ X2.heap.size := by have := H5.out.lt; omega
          have n14 := own_ne_new U1.out
          have HM := Lib.hid (And.intro (HM.out.1.below hbY HM.out.1.lt) (And.intro (HM.out.2.1.below hbY HM.out.2.1.lt) (below_step HM.out.2.2 hbY)))
          have H5 := Lib.hid (H5.out.below hbY H5.out.lt)
          have U1 := Lib.hid (OwnI.all U1.out hbY)
          have H4 := Lib.hid hN
          clear hY hbY hN
          try dsimp only
          refine hK.out _ _ ⟨HM.out.1, HM.out.2.1⟩ (fun _ => ?_)
          clear hK K
          try simp only [Act.put, List.setIfInBounds_toArray, List.set_cons_zero, List.set_cons_succ]
          refine SeqT.step rfl (by rfl) (fun K hK => ?_)
          go_simp
          go_at_call 46
          refine (LB.out _ HM.out.2.2).mono ?_
          rintro e X4 ⟨u3, rfl, hown, hbY⟩
          have hown : OwnI X3.heap.size X4 u3 (cellsF F') := hown.ownI
          obtain ⟨s3, t3, rfl⟩ := hown.form
          have n35 := own_ne_old hown (H5.out.lt)
          have n34 := own_ne_old hown (H4.out.lt)
          have HM := Lib.hid (And.intro (HM.out.1.below hbY HM.out.1.lt) (And.intro (HM.out.2.1.below hbY HM.out.2.1.lt) (below_step HM.out.2.2 hbY)))
          have H5 := Lib.hid (H5.out.below hbY H5.out.lt)
          have H4 := Lib.hid (H4.out.below hbY H4.out.lt)
          have U1 := Lib.hid (OwnI.all U1.out hbY)
          have U3 := Lib.hid hown
          clear hown hbY
          try dsimp only
          refine hK.out _ _ ⟨HM.out.1, HM.out.2.1⟩ (fun _ => ?_)
          clear hK K
          try simp only [Act.put, List.setIfInBounds_toArray, List.set_cons_zero, List.set_cons_succ]
          refine SeqT.step rfl (by rfl) (fun K hK => ?_)
          have z0 := H4.out.cell 0
          have f0 := H4.out.frozen 0
          have z1 := H4.out.cell 1
          have f1 := H4.out.frozen 1
          have z2 := H4.out.cell 2
          have f2 := H4.out.frozen 2
          have z3 := H4.out.cell 3
          have f3 := H4.out.frozen 3
          go_simp
          obtain ⟨X5, hY⟩ : ∃ Y, ((((X4.setCell ⟨X2.heap.size, 0, none⟩ (.int .i64 (latF F).a)).setCell ⟨X2.heap.size, 1, none⟩ (.int .i64 (latF F).b)).setCell ⟨X2.heap.size, 2, none⟩ (.int .i64 (latF F).c)).setCell ⟨X2.heap.size, 3, none⟩ (.slice s1 (cellsF F).length t1)) = Y := ⟨_, rfl⟩
          have q0 : BlockAt X5 X2.heap.size #[.int .i64 (latF F).a, .int .i64 (latF F).b, .int .i64 (latF F).c, .slice s1 (cellsF F).length t1] 24 := by rw [← hY]; exact (((H4.out.set 0 _).set 1 _).set 2 _).set 3 _
          have q1 := (((H5.out.other (i := 0) (show X1.heap.size ≠ X2.heap.size by omega) (.int .i64 (latF F).a)).other (i := 1) (show X1.heap.size ≠ X2.heap.size by omega) (.int .i64 (latF F).b)).other (i := 2) (show X1.heap.size ≠ X2.heap.size by omega) (.int .i64 (latF F).c)).other (i := 3) (show X1.heap.size ≠ X2.heap.size by omega) (.slice s1 (cellsF F).length t1)
          have q2 := (((HM.out.1.other (i := 0) (show w.heap.size ≠ X2.heap.size by omega) (.int .i64 (latF F).a)).other (i := 1) (show w.heap.size ≠ X2.heap.size by omega) (.int .i64 (latF F).b)).other (i := 2) (show w.heap.size ≠ X2.heap.size by omega) (.int .i64 (latF F).c)).other (i := 3) (show w.heap.size ≠ X2.heap.size by omega) (.slice s1 (cellsF F).length t1)
          have q3 := (((HM.out.2.1.other (i := 0) (show w.heap.size + 1 ≠ X2.heap.size by omega) (.int .i64 (latF F).a)).other (i := 1) (show w.heap.size + 1 ≠ X2.heap.size by omega) (.int .i64 (latF F).b)).other (i := 2) (show w.heap.size + 1 ≠ X2.heap.size by omega) (.int .i64 (latF F).c)).other (i := 3) (show w.heap.size + 1 ≠ X2.heap.size by omega) (.slice s1 (cellsF F).length t1)
          have q4 := (((HM.out.2.2.setCell (p := ⟨X2.heap.size, 0, none⟩) (by dsimp only; omega) (.int .i64 (latF F).a)).setCell (p := ⟨X2.heap.size, 1, none⟩) (by dsimp only; omega) (.int .i64 (latF F).b)).setCell (p := ⟨X2.heap.size, 2, none⟩) (by dsimp only; omega) (.int .i64 (latF F).c)).setCell (p := ⟨X2.heap.size, 3, none⟩) (by dsimp only; omega) (.slice s1 (cellsF F).length t1)
          have q5 := OwnI.set4 U1.out n14 (.int .i64 (latF F).a) (.int .i64 (latF F).b) (.int .i64 (latF F).c) (.slice s1 (cellsF F).length t1)
          have q6 := OwnI.set4 U3.out n34 (.int .i64 (latF F).a) (.int .i64 (latF F).b) (.int .i64 (latF F).c) (.slice s1 (cellsF F).length t1)
          rw [hY] at q1 q2 q3 q4 q5 q6 ⊢
          have HM := Lib.hid (And.intro q2 (And.intro q3 q4))
          have H4 := Lib.hid q0
          have H5 := Lib.hid q1
          have U1 := Lib.hid q5
          have U3 := Lib.hid q6
          clear z0 z1 z2 z3 f0 f1 f2 f3 hY q0 q1 q2 q3 q4 q5 q6
          try dsimp only
          refine hK.out _ _ ⟨HM.out.1, HM.out.2.1⟩ (fun _ => ?_)
          clear hK K
          try simp only [Act.put, List.setIfInBounds_toArray, List.set_cons_zero, List.set_cons_succ]
          refine SeqT.step rfl (by rfl) (fun K hK => ?_)
          have z0 := H5.out.cell 0
          have f0 := H5.out.frozen 0
          have z1 := H5.out.cell 1
          have f1 := H5.out.frozen 1
          have z2 := H5.out.cell 2
          have f2 := H5.out.frozen 2
          have z3 := H5.out.cell 3
          have f3 := H5.out.frozen 3
          go_simp
          obtain ⟨X6, hY⟩ : ∃ Y, ((((X5.setCell ⟨X1.heap.size, 0, none⟩ (.int .i64 (latF F').a)).setCell ⟨X1.heap.size, 1, none⟩ (.int .i64 (latF F').b)).setCell ⟨X1.heap.size, 2, none⟩ (.int .i64 (latF F').c)).setCell ⟨X1.heap.size, 3, none⟩ (.slice s3 (cellsF F').length t3)) = Y := ⟨_, rfl⟩
          have q0 : BlockAt X6 X1.heap.size #[.int .i64 (latF F').a, .int .i64 (latF F').b, .int .i64 (latF F').c, .slice s3 (cellsF F').length t3] 24 := by rw [← hY]; exact (((H5.out.set 0 _).set 1 _).set 2 _).set 3 _
          have q1 := (((H4.out.other (i := 0) (show X2.heap.size ≠ X1.heap.size by omega) (.int .i64 (latF F').a)).other (i := 1) (show X2.heap.size ≠ X1.heap.size by omega) (.int .i64 (latF F').b)).other (i := 2) (show X2.heap.size ≠ X1.heap.size by omega) (.int .i64 (latF F').c)).other (i := 3) (show X2.heap.size ≠ X1.heap.size by omega) (.slice s3 (cellsF F').length t3)
          have q2 := (((HM.out.1.other (i := 0) (show w.heap.size ≠ X1.heap.size by omega) (.int .i64 (latF F').a)).other (i := 1) (show w.heap.size ≠ X1.heap.size by omega) (.int .i64 (latF F').b)).other (i := 2) (show w.heap.size ≠ X1.heap.size by omega) (.int .i64 (latF F').c)).other (i := 3) (show w.heap.size ≠ X1.heap.size by omega) (.slice s3 (cellsF F').length t3)
          have q3 := (((HM.out.2.1.other (i := 0) (show w.heap.size + 1 ≠ X1.heap.size by omega) (.int .i64 (latF F').a)).other (i := 1) (show w.heap.size + 1 ≠ X1.heap.size by omega) (.int .i64 (latF F').b)).other (i := 2) (show w.heap.size + 1 ≠ X1.heap.size by omega) (.int .i64 (latF F').c)).other (i := 3) (show w.heap.size + 1 ≠ X1.heap.size by omega) (.slice s3 (cellsF F').length t3)
          have q4 := (((HM.out.2.2.setCell (p := ⟨X1.heap.size, 0, none⟩) (by dsimp only; omega) (.int .i64 (latF F').a)).setCell (p := ⟨X1.heap.size, 1, none⟩) (by dsimp only; omega) (.int .i64 (latF F').b)).setCell (p := ⟨X1.heap.size, 2, none⟩) (by dsimp only; omega) (.int .i64 (latF F').c)).setCell (p := ⟨X1.heap.size, 3, none⟩) (by dsimp only; omega) (.slice s3 (cellsF F').length t3)
          have q5 := OwnI.set4 U1.out n15 (.int .i64 (latF F').a) (.int .i64 (latF F').b) (.int .i64 (latF F').c) (.slice s3 (cellsF F').length t3)
          have q6 := OwnI.set4 U3.out n35 (.int .i64 (latF F').a) (.int .i64 (latF F').b) (.int .i64 (latF F').c) (.slice s3 (cellsF F').length t3)
          rw [hY] at q1 q2 q3 q4 q5 q6 ⊢
          have HM := Lib.hid (And.intro q2 (And.intro q3 q4))
          have H5 := Lib.hid q0
          have H4 := Lib.hid q1
          have U1 := Lib.hid q5
          have U3 := Lib.hid q6
          clear z0 z1 z2 z3 f0 f1 f2 f3 hY q0 q1 q2 q3 q4 q5 q6
          try dsimp only
          refine hK.out _ _ ⟨HM.out.1, HM.out.2.1⟩ (fun _ => ?_)
          clear hK K
          try simp only [Act.put, List.setIfInBounds_toArray, List.set_cons_zero, List.set_cons_succ]
          exact SeqT.fin ⟨rfl, (X2.heap.size, X1.heap.size, .slice s1 (cellsF F).length t1, .slice s3 (cellsF F').length t3), by simp only [putAll, Act.put, List.setIfInBounds_toArray, List.set_cons_zero, List.set_cons_succ], H4.out, U1.out.ints, H5.out, U3.out.ints, HM.out.2.2⟩
    · go_simp
      obtain ⟨X1, hY⟩ : ∃ Y, X0.alloc (.cells #[.int .i64 0, .int .i64 0, .int .i64 0, .slice none 0 0] 24) = Y := ⟨_, rfl⟩
      have hbY : Below X0.heap.size X0 X1 := by rw [← hY]; exact below_alloc (Below.refl _ _) _
      have hN : BlockAt X1 X0.heap.size #[.int .i64 0, .int .i64 0, .int .i64 0, .slice none 0 0] 24 := by rw [← hY]; exact BlockAt.new _ _ _
      rw [hY]
      have l4 : w.heap.size + 1 < X0.heap.size := HM.out.2.1.lt
      have HM := Lib.hid (And.intro (HM.out.1.below hbY HM.out.1.lt) (And.intro (HM.out.2.1.below hbY HM.out.2.1.lt) (below_step HM.out.2.2 hbY)))
      have H4 := Lib.hid hN
      clear hY hbY hN
      try dsimp only
      refine hK.out _ _ ⟨HM.out.1, HM.out.2.1⟩ (fun _ => ?_)
      clear hK K
      try simp only [Act.put, List.setIfInBounds_toArray, List.set_cons_zero, List.set_cons_succ]
      refine ⟨wpOp_stepS rfl (by rfl) (fun K hK => ?_), wpOp_stepS rfl (by rfl) (fun K hK => ?_)⟩
      · go_simp
        go_at_call 46
        refine (LA.out _ HM.out.2.2).mono ?_
        rintro e X2 ⟨u1, rfl, hown, hbY⟩
        have hown : OwnI X1.heap.size X2 u1 (cellsF F) := hown.ownI
        obtain ⟨s1, t1, rfl⟩ := hown.form
        have n14 := own_ne_old hown (H4.out.lt)
        have HM := Lib.hid (And.intro (HM.out.1.below hbY HM.out.1.lt) (And.intro (HM.out.2.1.below hbY HM.out.2.1.lt) (below_step HM.out.2.2 hbY)))
        have H4 := Lib.hid (H4.out.below hbY H4.out.lt)
        have U1 := Lib.hid hown
        clear hown hbY
        try dsimp only
        refine hK.out _ _ ⟨HM.out.1, HM.out.2.1⟩ (fun _ => ?_)
        clear hK K
        try simp only [Act.put, List.setIfInBounds_toArray, List.set_cons_zero, List.set_cons_succ]
        refine ⟨wpOp_stepS rfl (by rfl) (fun K hK => ?_), wpOp_stepS rfl (by rfl) (fun K hK => ?_)⟩
        · go_simp
          go_at_call 46
          refine (LB.out _ HM.out.2.2).mono ?_
          rintro e X3 ⟨u3, rfl, hown, hbY⟩
          have hown : OwnI X2.heap.size X3 u3 (cellsF F') := hown.ownI
          obtain ⟨s3, t3, rfl⟩ := hown.form
          have n34 := own_ne_old hown (H4.out.lt)
          have HM := Lib.hid (And.intro (HM.out.1.below hbY HM.out.1.lt) (And.intro (HM.out.2.1.below hbY HM.out.2.1.lt) (below_step HM.out.2.2 hbY)))
          have H4 := Lib.hid (H4.out.below hbY H4.out.lt)
          have U1 := Lib.hid (OwnI.all U1.out hbY)
          have U3 := Lib.hid hown
          clear hown hbY
          try dsimp only
          refine hK.out _ _ ⟨HM.out.1, HM.out.2.1⟩ (fun _ => ?_)
          clear hK K
          try simp only [Act.put, List.setIfInBounds_toArray, List.set_cons_zero, List.set_cons_succ]
          refine SeqT.step rfl (by rfl) (fun K hK => ?_)
          go_simp
          obtain ⟨X4, hY⟩ : ∃ Y, X3.alloc (.cells #[.int .i64 0, .int .i64 0, .int .i64 0, .slice none 0 0] 24) = Y := ⟨_, rfl⟩
          have hbY : Below X3.heap.size X3 X4 := by rw [← hY]; exact below_alloc (Below.refl _ _) _
          have hN : BlockAt X4 X3.heap.size #[.int .i64 0, .int .i64 0, .int .i64 0, .slice none 0 0] 24 := by rw [← hY]; exact BlockAt.new _ _ _
          rw [hY]
          have l5 : w.heap.size + 1 < X3.heap.size := HM.out.2.1.lt
          have ne45 : X0.heap.size ≠ X3.heap.size := by have := H4.out.lt; omega
          have n15 := own_ne_new U1.out
          have n35 := own_ne_new U3.out
          have HM := Lib.hid (And.intro (HM.out.1.below hbY HM.out.1.lt) (And.intro (HM.out.2.1.below hbY HM.out.2.1.lt) (below_step HM.out.2.2 hbY)))
          have H4 := Lib.hid (H4.out.below hbY H4.out.lt)
          have U1 := Lib.hid (OwnI.all U1.out hbY)
          have U3 := Lib.hid (OwnI.all U3.out hbY)
          have H5 := Lib.hid hN
          clear hY hbY hN
          try dsimp only
          refine hK.out _ _ ⟨HM.out.1, HM.out.2.1⟩ (fun _ => ?_)
          clear hK K
          try simp only [Act.put, List.setIfInBounds_toArray, List.set_cons_zero, List.set_cons_succ]
          refine SeqT.step rfl (by rfl) (fun K hK => ?_)
          have z0 := H4.out.cell 0
          have f0 := H4.out.frozen 0
          have z1 := H4.out.cell 1
          have f1 := H4.out.frozen 1
          have z2 := H4.out.cell 2
          have f2 := H4.out.frozen 2
          have z3 := H4.out.cell 3
          have f3 := H4.out.frozen 3
          go_simp
          obtain ⟨X5, hY⟩ : ∃ Y, ((((X4.setCell ⟨X0.heap.size, 0, none⟩ (.int .i64 (latF F).a)).setCell ⟨X0.heap.size, 1, none⟩ (.int .i64 (latF F).b)).setCell ⟨X0.heap.size, 2, none⟩ (.int .i64 (latF F).c)).setCell ⟨X0.heap.size, 3, none⟩ (.slice s1 (cellsF F).length t1)) = Y := ⟨_, rfl⟩
          have q0 : BlockAt X5 X0.heap.size #[.int .i64 (latF F).a, .int .i64 (latF F).b, .int .i64 (latF F).c, .slice s1 (cellsF F).length t1] 24 := by rw [← hY]; exact (((H4.out.set 0 _).set 1 _).set 2 _).set 3 _
          have q1 := (((H5.out.other (i := 0) (show X3.heap.size ≠ X0.heap.size by omega) (.int .i64 (latF F).a)).other (i := 1) (show X3.heap.size ≠ X0.heap.size by omega) (.int .i64 (latF F).b)).other (i := 2) (show X3.heap.size ≠ X0.heap.size by omega) (.int .i64 (latF F).c)).other (i := 3) (show X3.heap.size ≠ X0.heap.size by omega) (.slice s1 (cellsF F).length t1)
          have q2 := (((HM.out.1.other (i := 0) (show w.heap.size ≠ X0.heap.size by omega) (.int .i64 (latF F).a)).other (i := 1) (show w.heap.size ≠ X0.heap.size by omega) (.int .i64 (latF F).b)).other (i := 2) (show w.heap.size ≠ X0.heap.size by omega) (.int .i64 (latF F).c)).other (i := 3) (show w.heap.size ≠ X0.heap.size by omega) (.slice s1 (cellsF F).length t1)
          have q3 := (((HM.out.2.1.other (i := 0) (show w.heap.size + 1 ≠ X0.heap.size by omega) (.int .i64 (latF F).a)).other (i := 1) (show w.heap.size + 1 ≠ X0.heap.size by omega) (.int .i64 (latF F).b)).other (i := 2) (show w.heap.size + 1 ≠ X0.heap.size by omega) (.int .i64 (latF F).c)).other (i := 3) (show w.heap.size + 1 ≠ X0.heap.size by omega) (.slice s1 (cellsF F).length t1)
          have q4 := (((HM.out.2.2.setCell (p := ⟨X0.heap.size, 0, none⟩) (by dsimp only; omega) (.int .i64 (latF F).a)).setCell (p := ⟨X0.heap.size, 1, none⟩) (by dsimp only; omega) (.int .i64 (latF F).b)).setCell (p := ⟨X0.heap.size, 2, none⟩) (by dsimp only; omega) (.int .i64 (latF F).c)).setCell (p := ⟨X0.heap.size, 3, none⟩) (by dsimp only; omega) (.slice s1 (cellsF F).length t1)
          have q5 := OwnI.set4 U1.out n14 (.int .i64 (latF F).a) (.int .i64 (latF F).b) (.int .i64 (latF F).c) (.slice s1 (cellsF F).length t1)
          have q6 := OwnI.set4 U3.out n34 (.int .i64 (latF F).a) (.int .i64 (latF F).b) (.int .i64 (latF F).c) (.slice s1 (cellsF F).length t1)
          rw [hY] at q1 q2 q3 q4 q5 q6 ⊢
          have HM := Lib.hid (And.intro q2 (And.intro q3 q4))
          have H4 := Lib.hid q0
          have H5 := Lib.hid q1
          have U1 := Lib.hid q5
          have U3 := Lib.hid q6
          clear z0 z1 z2 z3 f0 f1 f2 f3 hY q0 q1 q2 q3 q4 q5 q6
          try dsimp only
          refine hK.out _ _ ⟨HM.out.1, HM.out.2.1⟩ (fun _ => ?_)
          clear hK K
          try simp only [Act.put, List.setIfInBounds_toArray, List.set_cons_zero, List.set_cons_succ]
          refine SeqT.step rfl (by rfl) (fun K hK => ?_)
          have z0 := H5.out.cell 0
          have f0 := H5.out.frozen 0
          have z1 := H5.out.cell 1
          have f1 := H5.out.frozen 1
          have z2 := H5.out.cell 2
          have f2 := H5.out.frozen 2
          have z3 := H5.out.cell 3
          have f3 := H5.out.frozen 3
          go_simp
          obtain ⟨X6, hY⟩ : ∃ Y, ((((X5.setCell ⟨X3.heap.size, 0, none⟩ (.int .i64 (latF F').a)).setCell ⟨X3.heap.size, 1, none⟩ (.int .i64 (latF F').b)).setCell ⟨X3.heap.size, 2, none⟩ (.int .i64 (latF F').c)).setCell ⟨X3.heap.size, 3, none⟩ (.slice s3 (cellsF F').length t3)) = Y := ⟨_, rfl⟩
          have q0 : BlockAt X6 X3.heap.size #[.int .i64 (latF F').a, .int .i64 (latF F').b, .int .i64 (latF F').c, .slice s3 (cellsF F').length t3] 24 := by rw [← hY]; exact (((H5.out.set 0 _).set 1 _).set 2 _).set 3 _
          have q1 := (((H4.out.other (i := 0) (show X0.heap.size ≠ X3.heap.size by omega) (.int .i64 (latF F').a)).other (i := 1) (show X0.heap.size ≠ X3.heap.size by omega) (.int .i64 (latF F').b)).other (i := 2) (show X0.heap.size ≠ X3.heap.size by omega) (.int .i64 (latF F').c)).other (i := 3) (show X0.heap.size ≠ X3.heap.size by omega) (.slice s3 (cellsF F').length t3)
          have q2 := (((HM.out.1.other (i := 0) (show w.heap.size ≠ X3.heap.size by omega) (.int .i64 (latF F').a)).other (i := 1) (show w.heap.size ≠ X3.heap.size by omega) (.int .i64 (latF F').b)).other (i := 2) (show w.heap.size ≠ X3.heap.size by omega) (.int .i64 (latF F').c)).other (i := 3) (show w.heap.size ≠ X3.heap.size by omega) (.slice s3 (cellsF F').length t3)
          have q3 := (((HM.out.2.1.other (i := 0) (show w.heap.size + 1 ≠ X3.heap.size by omega) (.int .i64 (latF F').a)).other (i := 1) (show w.heap.size + 1 ≠ X3.heap.size by omega) (.int .i64 (latF F').b)).other (i := 2) (show w.heap.size + 1 ≠ X3.heap.size by omega) (.int .i64 (latF F').c)).other (i := 3) (show w.heap.size + 1 ≠ X3.heap.size by omega) (.slice s3 (cellsF F').length t3)
          have q4 := (((HM.out.2.2.setCell (p := ⟨X3.heap.size, 0, none⟩) (by dsimp only; omega) (.int .i64 (latF F').a)).setCell (p := ⟨X3.heap.size, 1, none⟩) (by dsimp only; omega) (.int .i64 (latF F').b)).setCell (p := ⟨X3.heap.size, 2, none⟩) (by dsimp only; omega) (.int .i64 (latF F').c)).setCell (p := ⟨X3.heap.size, 3, none⟩) (by dsimp only; omega) (.slice s3 (cellsF F').length t3)
          have q5 := OwnI.set4 U1.out n15 (.int .i64 (latF F').a) (.int .i64 (latF F').b) (.int .i64 (latF F').c) (.slice s3 (cellsF F').length t3)
          have q6 := OwnI.set4 U3.out n35 (.int .i64 (latF F').a) (.int .i64 (latF F').b) (.int .i64 (latF F').c) (.slice s3 (cellsF F').length t3)
          rw [hY] at q1 q2 q3 q4 q5 q6 ⊢
          have HM := Lib.hid (And.intro q2 (And.intro q3 q4))
          have H5 := Lib.hid q0
          have H4 := Lib.hid q1
          have U1 := Lib.hid q5
          have U3 := Lib.hid q6
          clear z0 z1 z2 z3 f0 f1 f2 f3 hY q0 q1 q2 q3 q4 q5 q6
          try dsimp only
          refine hK.out _ _ ⟨HM.out.1, HM.out.2.1⟩ (fun _ => ?_)
          clear hK K
          try simp only [Act.put, List.setIfInBounds_toArray, List.set_cons_zero, List.set_cons_succ]
          exact SeqT.fin ⟨rfl, (X0.heap.size, X3.heap.size, .slice s1 (cellsF F).length t1, .slice s3 (cellsF F').length t3), by simp only [putAll, Act.put, List.setIfInBounds_toArray, List.set_cons_zero, List.set_cons_succ], H4.out, U1.out.ints, H5.out, U3.out.ints, HM.out.2.2⟩
        · go_simp
          obtain ⟨X3, hY⟩ : ∃ Y, X2.alloc (.cells #[.int .i64 0, .int .i64 0, .int .i64 0, .slice none 0 0] 24) = Y := ⟨_, rfl⟩
          have hbY : Below X2.heap.size X2 X3 := by rw [← hY]; exact below_alloc (Below.refl _ _) _
          have hN : BlockAt X3 X2.heap.size #[.int .i64 0, .int .i64 0, .int .i64 0, .slice none 0 0] 24 := by rw [← hY]; exact BlockAt.new _ _ _
          rw [hY]
          have l5 : w.heap.size + 1 < X2.heap.size := HM.out.2.1.lt
          have ne45 : X0.heap.size ≠ X2.heap.size := by have := H4.out.lt; omega
          have n15 := own_ne_new U1.out
          have HM := Lib.hid (And.intro (HM.out.1.below hbY HM.out.1.lt) (And.intro (HM.out.2.1.below hbY HM.out.2.1.lt) (below_step HM.out.2.2 hbY)))
          have H4 := Lib.hid (H4.out.below hbY H4.out.lt)
          have U1 := Lib.hid (OwnI.all U1.out hbY)
          have H5 := Lib.hid hN
          clear hY hbY hN
          try dsimp only
          refine hK.out _ _ ⟨HM.out.1, HM.out.2.1⟩ (fun _ => ?_)
          clear hK K
          try simp only [Act.put, List.setIfInBounds_toArray, List.set_cons_zero, List.set_cons_succ]
          refine SeqT.step rfl (by rfl) (fun K hK => ?_)
          go_simp
          go_at_call 46
          refine (LB.out _ HM.out.2.2).mono ?_
          rintro e X4 ⟨u3, rfl, hown, hbY⟩
          have hown : OwnI X3.heap.size X4 u3 (cellsF F') := hown.ownI
          obtain ⟨s3, t3, rfl⟩ := hown.form
          have n34 := own_ne_old hown (H4.out.lt)
          have n35 := own_ne_old hown (H5.out.lt)
          have HM := Lib.hid (And.intro (HM.out.1.below hbY HM.out.1.lt) (And.intro (HM.out.2.1.below hbY HM.out.2.1.lt) (below_step HM.out.2.2 hbY)))
          have H4 := Lib.hid (H4.out.below hbY H4.out.lt)
          have H5 := Lib.hid (H5.out.below hbY H5.out.lt)
          have U1 := Lib.hid (OwnI.all U1.out hbY)
          have U3 := Lib.hid hown
          clear hown hbY
          try dsimp only
          refine hK.out _ _ ⟨HM.out.1, HM.out.2.1⟩ (fun _ => ?_)
          clear hK K
          try simp only [Act.put, List.setIfInBounds_toArray, List.set_cons_zero, List.set_cons_succ]
          refine SeqT.step rfl (by rfl) (fun K hK => ?_)
          have z0 := H4.out.cell 0
          have f0 := H4.out.frozen 0
          have z1 := H4.out.cell 1
          have f1 := H4.out.frozen 1
          have z2 := H4.out.cell 2
          have f2 := H4.out.frozen 2
          have z3 := H4.out.cell 3
          have f3 := H4.out.frozen 3
          go_simp
          obtain ⟨X5, hY⟩ : ∃ Y, ((((X4.setCell ⟨X0.heap.size, 0, none⟩ (.int .i64 (latF F).a)).setCell ⟨X0.heap.size, 1, none⟩ (.int .i64 (latF F).b)).setCell ⟨X0.heap.size, 2, none⟩ (.int .i64 (latF F).c)).setCell ⟨X0.heap.size, 3, none⟩ (.slice s1 (cellsF F).length t1)) = Y := ⟨_, rfl⟩
          have q0 : BlockAt X5 X0.heap.size #[.int .i64 (latF F).a, .int .i64 (latF F).b, .int .i64 (latF F).c, .slice s1 (cellsF F).length t1] 24 := by rw [← hY]; exact (((H4.out.set 0 _).set 1 _).set 2 _).set 3 _
          have q1 := (((H5.out.other (i := 0) (show X2.heap.size ≠ X0.heap.size by omega) (.int .i64 (latF F).a)).other (i := 1) (show X2.heap.size ≠ X0.heap.size by omega) (.int .i64 (latF F).b)).other (i := 2) (show X2.heap.size ≠ X0.heap.size by omega) (.int .i64 (latF F).c)).other (i := 3) (show X2.heap.size ≠ X0.heap.size by omega) (.slice s1 (cellsF F).length t1)
          have q2 := (((HM.out.1.other (i := 0) (show w.heap.size ≠ X0.heap.size by omega) (.int .i64 (latF F).a)).other (i := 1) (show w.heap.size ≠ X0.heap.size by omega) (.int .i64 (latF F).b)).other (i := 2) (show w.heap.size ≠ X0.heap.size by omega) (.int .i64 (latF F).c)).other (i := 3) (show w.heap.size ≠ X0.heap.size by omega) (.slice s1 (cellsF F).length t1)
          have q3 := (((HM.out.2.1.other (i := 0) (show w.heap.size + 1 ≠ X0.heap.size by omega) (.int .i64 (latF F).a)).other (i := 1) (show w.heap.size + 1 ≠ X0.heap.size by omega) (.int .i64 (latF F).b)).other (i := 2) (show w.heap.size + 1 ≠ X0.heap.size by omega) (.int .i64 (latF F).c)).other (i := 3) (show w.heap.size + 1 ≠ X0.heap.size by omega) (.slice s1 (cellsF F).length t1)
          have q4 := (((HM.out.2.2.setCell (p := ⟨X0.heap.size, 0, none⟩) (by dsimp only; omega) (.int .i64 (latF F).a)).setCell (p := ⟨X0.heap.size, 1, none⟩) (by dsimp only; omega) (.int .i64 (latF F).b)).setCell (p := ⟨X0.heap.size, 2, none⟩) (by dsimp only; omega) (.int .i64 (latF F).c)).setCell (p := ⟨X0.heap.size, 3, none⟩) (by dsimp only; omega) (.slice s1 (cellsF F).length t1)
          have q5 := OwnI.set4 U1.out n14 (.int .i64 (latF F).a) (.int .i64 (latF F).b) (.int .i64 (latF F).c) (.slice s1 (cellsF F).length t1)
          have q6 := OwnI.set4 U3.out n34 (.int .i64 (latF F).a) (.int .i64 (latF F).b) (.int .i64 (latF F).c) (.slice s1 (cellsF F).length t1)
          rw [hY] at q1 q2 q3 q4 q5 q6 ⊢
          have HM := Lib.hid (And.intro q2 (And.intro q3 q4))
          have H4 := Lib.hid q0
          have H5 := Lib.hid q1
          have U1 := Lib.hid q5
          have U3 := Lib.hid q6
          clear z0 z1 z2 z3 f0 f1 f2 f3 hY q0 q1 q2 q3 q4 q5 q6
          try dsimp only
          refine hK.out _ _ ⟨HM.out.1, HM.out.2.1⟩ (fun _ => ?_)
          clear hK K
          try simp only [Act.put, List.setIfInBounds_toArray, List.set_cons_zero, List.set_cons_succ]
          refine SeqT.step rfl (by rfl) (fun K hK => ?_)
          have z0 := H5.out.cell 0
          have f0 := H5.out.frozen 0
          have z1 := H5.out.cell 1
          have f1 := H5.out.frozen 1
          have z2 := H5.out.cell 2
          have f2 := H5.out.frozen 2
          have z3 := H5.out.cell 3
          have f3 := H5.out.frozen 3
          go_simp
          obtain ⟨X6, hY⟩ : ∃ Y, ((((X5.setCell ⟨X2.heap.size, 0, none⟩ (.int .i64 (latF F').a)).setCell ⟨X2.heap.size, 1, none⟩ (.int .i64 (latF F').b)).setCell ⟨X2.heap.size, 2, none⟩ (.int .i64 (latF F').c)).setCell ⟨X2.heap.size, 3, none⟩ (.slice s3 (cellsF F').length t3)) = Y := ⟨_, rfl⟩
          have q0 : BlockAt X6 X2.heap.size #[.int .i64 (latF F').a, .int .i64 (latF F').b, .int .i64 (latF F').c, .slice s3 (cellsF F').length t3] 24 := by rw [← hY]; exact (((H5.out.set 0 _).set 1 _).set 2 _).set 3 _
          have q1 := (((H4.out.other (i := 0) (show X0.heap.size ≠ X2.heap.size by omega) (.int .i64 (latF F').a)).other (i := 1) (show X0.heap.size ≠ X2.heap.size by omega) (.int .i64 (latF F').b)).other (i := 2) (show X0.heap.size ≠ X2.heap.size by omega) (.int .i64 (latF F').c)).other (i := 3) (show X0.heap.size ≠ X2.heap.size by omega) (.slice s3 (cellsF F').length t3)
          have q2 := (((HM.out.1.other (i := 0) (show w.heap.size ≠ X2.heap.size by omega) (.int .i64 (latF F').a)).other (i := 1) (show w.heap.size ≠ X2.heap.size by omega) (.int .i64 (latF F').b)).other (i := 2) (show w.heap.size ≠ X2.heap.size by omega) (.int .i64 (latF F').c)).other (i := 3) (show w.heap.size ≠ X2.heap.size by omega) (.slice s3 (cellsF F').length t3)
          have q3 := (((HM.out.2.1.other (i := 0) (show w.heap.size + 1 ≠ X2.heap.size by omega) (.int .i64 (latF F').a)).other (i := 1) (show w.heap.size + 1 ≠ X2.heap.size by omega) (.int .i64 (latF F').b)).other (i := 2) (show w.heap.size + 1 ≠ X2.heap.size by omega) (.int .i64 (latF F').c)).other (i := 3) (show w.heap.size + 1 ≠ X2.heap.size by omega) (.slice s3 (cellsF F').length t3)
          have q4 := (((HM.out.2.2.setCell (p := ⟨X2.heap.size, 0, none⟩) (by dsimp only; omega) (.int .i64 (latF F').a)).setCell (p := ⟨X2.heap.size, 1, none⟩) (by dsimp only; omega) (.int .i64 (latF F').b)).setCell (p := ⟨X2.heap.size, 2, none⟩) (by dsimp only; omega) (.int .i64 (latF F').c)).setCell (p := ⟨X2.heap.size, 3, none⟩) (by dsimp only; omega) (.slice s3 (cellsF F').length t3)
          have q5 := OwnI.set4 U1.out n15 (.int .i64 (latF F').a) (.int .i64 (latF F').b) (.int .i64 (latF F').c) (.slice s3 (cellsF F').length t3)
          have q6 := OwnI.set4 U3.out n35 (.int .i64 (latF F').a) (.int .i64 (latF F').b) (.int .i64 (latF F').c) (.slice s3 (cellsF F').length t3)
          rw [hY] at q1 q2 q3 q4 q5 q6 ⊢
          have HM := Lib.hid (And.intro q2 (And.intro q3 q4))
          have H5 := Lib.hid q0
          have H4 := Lib.hid q1
          have U1 := Lib.hid q5
          have U3 := Lib.hid q6
          clear z0 z1 z2 z3 f0 f1 f2 f3 hY q0 q1 q2 q3 q4 q5 q6
          try dsimp only
          refine hK.out _ _ ⟨HM.out.1, HM.out.2.1⟩ (fun _ => ?_)
          clear hK K
          try simp only [Act.put, List.setIfInBounds_toArray, List.set_cons_zero, List.set_cons_succ]
          exact SeqT.fin ⟨rfl, (X0.heap.size, X2.heap.size, .slice s1 (cellsF F).length t1, .slice s3 (cellsF F').length t3), by simp only [putAll, Act.put, List.setIfInBounds_toArray, List.set_cons_zero, List.set_cons_succ], H4.out, U1.out.ints, H5.out, U3.out.ints, HM.out.2.2⟩
      · go_simp
        obtain ⟨X2, hY⟩ : ∃ Y, X1.alloc (.cells #[.int .i64 0, .int .i64 0, .int .i64 0, .slice none 0 0] 24) = Y := ⟨_, rfl⟩
        have hbY : Below X1.heap.size X1 X2 := by rw [← hY]; exact below_alloc (Below.refl _ _) _
        have hN : BlockAt X2 X1.heap.size #[.int .i64 0, .int .i64 0, .int .i64 0, .slice none 0 0] 24 := by rw [← hY]; exact BlockAt.new _ _ _
        rw [hY]
        have l5 : w.heap.size + 1 < X1.heap.size := HM.out.2.1.lt
        have ne45 : X0.heap.size ≠ X1.heap.size := by have := H4.out.lt; omega
        have HM := Lib.hid (And.intro (HM.out.1.below hbY HM.out.1.lt) (And.intro (HM.out.2.1.below hbY HM.out.2.1.lt) (below_step HM.out.2.2 hbY)))
        have H4 := Lib.hid (H4.out.below hbY H4.out.lt)
        have H5 := Lib.hid hN
        clear hY hbY hN
        try dsimp only
        refine hK.out _ _ ⟨HM.out.1, HM.out.2.1⟩ (fun _ => ?_)
        clear hK K
        try simp only [Act.put, List.setIfInBounds_toArray, List.set_cons_zero, List.set_cons_succ]
        refine SeqT.step rfl (by rfl) (fun K hK => ?_)
        go_simp
        go_at_call 46
        refine (LA.out _ HM.out.2.2).mono ?_
        rintro e X3 ⟨u1, rfl, hown, hbY⟩
        have hown : OwnI X2.heap.size X3 u1 (cellsF F) := hown.ownI
        obtain ⟨s1, t1, rfl⟩ := hown.form
        have n14 := own_ne_old hown (H4.out.lt)
        have n15 := own_ne_old hown (H5.out.lt)
        have HM := Lib.hid (And.intro (HM.out.1.below hbY HM.out.1.lt) (And.intro (HM.out.2.1.below hbY HM.out.2.1.lt) (below_step HM.out.2.2 hbY)))
        have H4 := Lib.hid (H4.out.below hbY H4.out.lt)
        have H5 := Lib.hid (H5.out.below hbY H5.out.lt)
        have U1 := Lib.hid hown
        clear hown hbY
        try dsimp only
        refine hK.out _ _ ⟨HM.out.1, HM.out.2.1⟩ (fun _ => ?_)
        clear hK K
        try simp only [Act.put, List.setIfInBounds_toArray, List.set_cons_zero, List.set_cons_succ]
        refine SeqT.step rfl (by rfl) (fun K hK => ?_)
        go_simp
        go_at_call 46
        refine (LB.out _ HM.out.2.2).mono ?_
        rintro e X4 ⟨u3, rfl, hown, hbY⟩
        have hown : OwnI X3.heap.size X4 u3 (cellsF F') := hown.ownI
        obtain ⟨s3, t3, rfl⟩ := hown.form
        have n34 := own_ne_old hown (H4.out.lt)
        have n35 := own_ne_old hown (H5.out.lt)
        have HM := Lib.hid (And.intro (HM.out.1.below hbY HM.out.1.lt) (And.intro (HM.out.2.1.below hbY HM.out.2.1.lt) (below_step HM.out.2.2 hbY)))
        have H4 := Lib.hid (H4.out.below hbY H4.out.lt)
        have H5 := Lib.hid (H5.out.below hbY H5.out.lt)
        have U1 := Lib.hid (OwnI.all U1.out hbY)
        have U3 := Lib.hid hown
        clear hown hbY
        try dsimp only
        refine hK.out _ _ ⟨HM.out.1, HM.out.2.1⟩ (fun _ => ?_)
        clear hK K
        try simp only [Act.put, List.setIfInBounds_toArray, List.set_cons_zero, List.set_cons_succ]
        refine SeqT.step rfl (by rfl) (fun K hK => ?_)
        have z0 := H4.out.cell 0
        have f0 := H4.out.frozen 0
        have z1 := H4.out.cell 1
        have f1 := H4.out.frozen 1
        have z2 := H4.out.cell 2
        have f2 := H4.out.frozen 2
        have z3 := H4.out.cell 3
        have f3 := H4.out.frozen 3
        go_simp
        obtain ⟨X5, hY⟩ : ∃ Y, ((((X4.setCell ⟨X0.heap.size, 0, none⟩ (.int .i64 (latF F).a)).setCell ⟨X0.heap.size, 1, none⟩ (.int .i64 (latF F).b)).setCell ⟨X0.heap.size, 2, none⟩ (.int .i64 (latF F).c)).setCell ⟨X0.heap.size, 3, none⟩ (.slice s1 (cellsF F).length t1)) = Y := ⟨_, rfl⟩
        have q0 : BlockAt X5 X0.heap.size #[.int .i64 (latF F).a, .int .i64 (latF F).b, .int .i64 (latF F).c, .slice s1 (cellsF F).length t1] 24 := by rw [← hY]; exact (((H4.out.set 0 _).set 1 _).set 2 _).set 3 _
        have q1 := (((H5.out.other (i := 0) (show X1.heap.size ≠ X0.heap.size by omega) (.int .i64 (latF F).a)).other (i := 1) (show X1.heap.size ≠ X0.heap.size by omega) (.int .i64 (latF F).b)).other (i := 2) (show X1.heap.size ≠ X0.heap.size by omega) (.int .i64 (latF F).c)).other (i := 3) (show X1.heap.size ≠ X0.heap.size by omega) (.slice s1 (cellsF F).length t1)
        have q2 := (((HM.out.1.other (i := 0) (show w.heap.size ≠ X0.heap.size by omega) (.int .i64 (latF F).a)).other (i := 1) (show w.heap.size ≠ X0.heap.size by omega) (.int .i64 (latF F).b)).other (i := 2) (show w.heap.size ≠ X0.heap.size by omega) (.int .i64 (latF F).c)).other (i := 3) (show w.heap.size ≠ X0.heap.size by omega) (.slice s1 (cellsF F).length t1)
        have q3 := (((HM.out.2.1.other (i := 0) (show w.heap.size + 1 ≠ X0.heap.size by omega) (.int .i64 (latF F).a)).other (i := 1) (show w.heap.size + 1 ≠ X0.heap.size by omega) (.int .i64 (latF F).b)).other (i := 2) (show w.heap.size + 1 ≠ X0.heap.size by omega) (.int .i64 (latF F).c)).other (i := 3) (show w.heap.size + 1 ≠ X0.heap.size by omega) (.slice s1 (cellsF F).length t1)
        have q4 := (((HM.out.2.2.setCell (p := ⟨X0.heap.size, 0, none⟩) (by dsimp only; omega) (.int .i64 (latF F).a)).setCell (p := ⟨X0.heap.size, 1, none⟩) (by dsimp only; omega) (.int .i64 (latF F).b)).setCell (p := ⟨X0.heap.size, 2, none⟩) (by dsimp only; omega) (.int .i64 (latF F).c)).setCell (p := ⟨X0.heap.size, 3, none⟩) (by dsimp only; omega) (.slice s1 (cellsF F).length t1)
        have q5 := OwnI.set4 U1.out n14 (.int .i64 (latF F).a) (.int .i64 (latF F).b) (.int .i64 (latF F).c) (.slice s1 (cellsF F).length t1)
        have q6 := OwnI.set4 U3.out n34 (.int .i64 (latF F).a) (.int .i64 (latF F).b) (.int .i64 (latF F).c) (.slice s1 (cellsF F).length t1)
        rw [hY] at q1 q2 q3 q4 q5 q6 ⊢
        have HM := Lib.hid (And.intro q2 (And.intro q3 q4))
        have H4 := Lib.hid q0
        have H5 := Lib.hid q1
        have U1 := Lib.hid q5
        have U3 := Lib.hid q6
        clear z0 z1 z2 z3 f0 f1 f2 f3 hY q0 q1 q2 q3 q4 q5 q6
        try dsimp only
        refine hK.out _ _ ⟨HM.out.1, HM.out.2.1⟩ (fun _ => ?_)
        clear hK K
        try simp only [Act.put, List.setIfInBounds_toArray, List.set_cons_zero, List.set_cons_succ]
        refine SeqT.step rfl (by rfl) (fun K hK => ?_)
        have z0 := H5.out.cell 0
        have f0 := H5.out.frozen 0
        have z1 := H5.out.cell 1
        have f1 := H5.out.frozen 1
        have z2 := H5.out.cell 2
        have f2 := H5.out.frozen 2
        have z3 := H5.out.cell 3
        have f3 := H5.out.frozen 3
        go_simp
        obtain ⟨X6, hY⟩ : ∃ Y, ((((X5.setCell ⟨X1.heap.size, 0, none⟩ (.int .i64 (latF F').a)).setCell ⟨X1.heap.size, 1, none⟩ (.int .i64 (latF F').b)).setCell ⟨X1.heap.size, 2, none⟩ (.int .i64 (latF F').c)).setCell ⟨X1.heap.size, 3, none⟩ (.slice s3 (cellsF F').length t3)) = Y := ⟨_, rfl⟩
        have q0 : BlockAt X6 X1.heap.size #[.int .i64 (latF F').a, .int .i64 (latF F').b, .int .i64 (latF F').c, .slice s3 (cellsF F').length t3] 24 := by rw [← hY]; exact (((H5.out.set 0 _).set 1 _).set 2 _).set 3 _
        have q1 := (((H4.out.other (i := 0) (show X0.heap.size ≠ X1.heap.size by omega) (.int .i64 (latF F').a)).other (i := 1) (show X0.heap.size ≠ X1.heap.size by omega) (.int .i64 (latF F').b)).other (i := 2) (show X0.heap.size ≠ X1.heap.size by omega) (.int .i64 (latF F').c)).other (i := 3) (show X0.heap.size ≠ X1.heap.size by omega) (.slice s3 (cellsF F').length t3)
        have q2 := (((HM.out.1.other (i := 0) (show w.heap.size ≠ X1.heap.size by omega) (.int .i64 (latF F').a)).other (i := 1) (show w.heap.size ≠ X1.heap.size by omega) (.int .i64 (latF F').b)).other (i := 2) (show w.heap.size ≠ X1.heap.size by omega) (.int .i64 (latF F').c)).other (i := 3) (show w.heap.size ≠ X1.heap.size by omega) (.slice s3 (cellsF F').length t3)
        have q3 := (((HM.out.2.1.other (i := 0) (show w.heap.size + 1 ≠ X1.heap.size by omega) (.int .i64 (latF F').a)).other (i := 1) (show w.heap.size + 1 ≠ X1.heap.size by omega) (.int .i64 (latF F').b)).other (i := 2) (show w.heap.size + 1 ≠ X1.heap.size by omega) (.int .i64 (latF F').c)).other (i := 3) (show w.heap.size + 1 ≠ X1.heap.size by omega) (.slice s3 (cellsF F').length t3)
        have q4 := (((HM.out.2.2.setCell (p := ⟨X1.heap.size, 0, none⟩) (by dsimp only; omega) (.int .i64 (latF F').a)).setCell (p := ⟨X1.heap.size, 1, none⟩) (by dsimp only; omega) (.int .i64 (latF F').b)).setCell (p := ⟨X1.heap.size, 2, none⟩) (by dsimp only; omega) (.int .i64 (latF F').c)).setCell (p := ⟨X1.heap.size, 3, none⟩) (by dsimp only; omega) (.slice s3 (cellsF F').length t3)
        have q5 := OwnI.set4 U1.out n15 (.int .i64 (latF F').a) (.int .i64 (latF F').b) (.int .i64 (latF F').c) (.slice s3 (cellsF F').length t3)
        have q6 := OwnI.set4 U3.out n35 (.int .i64 (latF F').a) (.int .i64 (latF F').b) (.int .i64 (latF F').c) (.slice s3 (cellsF F').length t3)
        rw [hY] at q1 q2 q3 q4 q5 q6 ⊢
        have HM := Lib.hid (And.intro q2 (And.intro q3 q4))
        have H5 := Lib.hid q0
        have H4 := Lib.hid q1
        have U1 := Lib.hid q5
        have U3 := Lib.hid q6
        clear z0 z1 z2 z3 f0 f1 f2 f3 hY q0 q1 q2 q3 q4 q5 q6
        try dsimp only
        refine hK.out _ _ ⟨HM.out.1, HM.out.2.1⟩ (fun _ => ?_)
        clear hK K
        try simp only [Act.put, List.setIfInBounds_toArray, List.set_cons_zero, List.set_cons_succ]
        exact SeqT.fin ⟨rfl, (X0.heap.size, X1.heap.size, .slice s1 (cellsF F).length t1, .slice s3 (cellsF F').length t3), by simp only [putAll, Act.put, List.setIfInBounds_toArray, List.set_cons_zero, List.set_cons_succ], H4.out, U1.out.ints, H5.out, U3.out.ints, HM.out.2.2⟩
    · go_simp
      obtain ⟨X1, hY⟩ : ∃ Y, X0.alloc (.cells #[.int .i64 0, .int .i64 0, .int .i64 0, .slice none 0 0] 24) = Y := ⟨_, rfl⟩
      have hbY : Below X0.heap.size X0 X1 := by rw [← hY]; exact below_alloc (Below.refl _ _) _
      have hN : BlockAt X1 X0.heap.size #[.int .i64 0, .int .i64 0, .int .i64 0, .slice none 0 0] 24 := by rw [← hY]; exact BlockAt.new _ _ _
      rw [hY]
      have l5 : w.heap.size + 1 < X0.heap.size := HM.out.2.1.lt
      have HM := Lib.hid (And.intro (HM.out.1.below hbY HM.out.1.lt) (And.intro (HM.out.2.1.below hbY HM.out.2.1.lt) (below_step HM.out.2.2 hbY)))
      have H5 := Lib.hid hN
      clear hY hbY hN
      try dsimp only
      refine hK.out _ _ ⟨HM.out.1, HM.out.2.1⟩ (fun _ => ?_)
      clear hK K
      try simp only [Act.put, List.setIfInBounds_toArray, List.set_cons_zero, List.set_cons_succ]
      refine ⟨wpOp_stepS rfl (by rfl) (fun K hK => ?_), wpOp_stepS rfl (by rfl) (fun K hK => ?_)⟩
      · go_simp
        go_at_call 46
        refine (LA.out _ HM.out.2.2).mono ?_
        rintro e X2 ⟨u1, rfl, hown, hbY⟩
        have hown : OwnI X1.heap.size X2 u1 (cellsF F) := hown.ownI
        obtain ⟨s1, t1, rfl⟩ := hown.form
        have n15 := own_ne_old hown (H5.out.lt)
        have HM := Lib.hid (And.intro (HM.out.1.below hbY HM.out.1.lt) (And.intro (HM.out.2.1.below hbY HM.out.2.1.lt) (below_step HM.out.2.2 hbY)))
        have H5 := Lib.hid (H5.out.below hbY H5.out.lt)
        have U1 := Lib.hid hown
        clear hown hbY
        try dsimp only
        refine hK.out _ _ ⟨HM.out.1, HM.out.2.1⟩ (fun _ => ?_)
        clear hK K
        try simp only [Act.put, List.setIfInBounds_toArray, List.set_cons_zero, List.set_cons_succ]
        refine ⟨wpOp_stepS rfl (by rfl) (fun K hK => ?_), wpOp_stepS rfl (by rfl) (fun K hK => ?_)⟩
        · go_simp
          go_at_call 46
          refine (LB.out _ HM.out.2.2).mono ?_
          rintro e X3 ⟨u3, rfl, hown, hbY⟩
          have hown : OwnI X2.heap.size X3 u3 (cellsF F') := hown.ownI
          obtain ⟨s3, t3, rfl⟩ := hown.form
          have n35 := own_ne_old hown (H5.out.lt)
          have HM := Lib.hid (And.intro (HM.out.1.below hbY HM.out.1.lt) (And.intro (HM.out.2.1.below hbY HM.out.2.1.lt) (below_step HM.out.2.2 hbY)))
          have H5 := Lib.hid (H5.out.below hbY H5.out.lt)
          have U1 := Lib.hid (OwnI.all U1.out hbY)
          have U3 := Lib.hid hown
          clear hown hbY
          try dsimp only
          refine hK.out _ _ ⟨HM.out.1, HM.out.2.1⟩ (fun _ => ?_)
          clear hK K
          try simp only [Act.put, List.setIfInBounds_toArray, List.set_cons_zero, List.set_cons_succ]
          refine SeqT.step rfl (by rfl) (fun K hK => ?_)
          go_simp
          obtain ⟨X4, hY⟩ : ∃ Y, X3.alloc (.cells #[.int .i64 0, .int .i64 0, .int .i64 0, .slice none 0 0] 24) = Y := ⟨_, rfl⟩
          have hbY : Below X3.heap.size X3 X4 := by rw [← hY]; exact below_alloc (Below.refl _ _) _
          have hN : BlockAt X4 X3.heap.size #[.int .i64 0, .int .i64 0, .int .i64 0, .slice none 0 0] 24 := by rw [← hY]; exact BlockAt.new _ _ _
          rw [hY]
          have l4 : w.heap.size + 1 < X3.heap.size := HM.out.2.1.lt
          have ne45 : X0.heap.size ≠ X3.heap.size := by have := H5.out.lt; omega
          have n14 := own_ne_new U1.out
          have n34 := own_ne_new U3.out
          have HM := Lib.hid (And.intro (HM.out.1.below hbY HM.out.1.lt) (And.intro (HM.out.2.1.below hbY HM.out.2.1.lt) (below_step HM.out.2.2 hbY)))
          have H5 := Lib.hid (H5.out.below hbY H5.out.lt)
          have U1 := Lib.hid (OwnI.all U1.out hbY)
          have U3 := Lib.hid (OwnI.all U3.out hbY)
          have H4 := Lib.hid hN
          clear hY hbY hN
          try dsimp only
          refine hK.out _ _ ⟨HM.out.1, HM.out.2.1⟩ (fun _ => ?_)
          clear hK K
          try simp only [Act.put, List.setIfInBounds_toArray, List.set_cons_zero, List.set_cons_succ]
          refine SeqT.step rfl (by rfl) (fun K hK => ?_)
          have z0 := H4.out.cell 0
          have f0 := H4.out.frozen 0
          have z1 := H4.out.cell 1
          have f1 := H4.out.frozen 1
          have z2 := H4.out.cell 2
          have f2 := H4.out.frozen 2
          have z3 := H4.out.cell 3
          have f3 := H4.out.frozen 3
          go_simp
          obtain ⟨X5, hY⟩ : ∃ Y, ((((X4.setCell ⟨X3.heap.size, 0, none⟩ (.int .i64 (latF F).a)).setCell ⟨X3.heap.size, 1, none⟩ (.int .i64 (latF F).b)).setCell ⟨X3.heap.size, 2, none⟩ (.int .i64 (latF F).c)).setCell ⟨X3.heap.size, 3, none⟩ (.slice s1 (cellsF F).length t1)) = Y := ⟨_, rfl⟩
          have q0 : BlockAt X5 X3.heap.size #[.int .i64 (latF F).a, .int .i64 (latF F).b, .int .i64 (latF F).c, .slice s1 (cellsF F).length t1] 24 := by rw [← hY]; exact (((H4.out.set 0 _).set 1 _).set 2 _).set 3 _
          have q1 := (((H5.out.other (i := 0) (show X0.heap.size ≠ X3.heap.size by omega) (.int .i64 (latF F).a)).other (i := 1) (show X0.heap.size ≠ X3.heap.size by omega) (.int .i64 (latF F).b)).other (i := 2) (show X0.heap.size ≠ X3.heap.size by omega) (.int .i64 (latF F).c)).other (i := 3) (show X0.heap.size ≠ X3.heap.size by omega) (.slice s1 (cellsF F).length t1)
          have q2 := (((HM.out.1.other (i := 0) (show w.heap.size ≠ X3.heap.size by omega) (.int .i64 (latF F).a)).other (i := 1) (show w.heap.size ≠ X3.heap.size by omega) (.int .i64 (latF F).b)).other (i := 2) (show w.heap.size ≠ X3.heap.size by omega) (.int .i64 (latF F).c)).other (i := 3) (show w.heap.size ≠ X3.heap.size by omega) (.slice s1 (cellsF F).length t1)
          have q3 := (((HM.out.2.1.other (i := 0) (show w.heap.size + 1 ≠ X3.heap.size by omega) (.int .i64 (latF F).a)).other (i := 1) (show w.heap.size + 1 ≠ X3.heap.size by omega) (.int .i64 (latF F).b)).other (i := 2) (show w.heap.size + 1 ≠ X3.heap.size by omega) (.int .i64 (latF F).c)).other (i := 3) (show w.heap.size + 1 ≠ X3.heap.size by omega) (.slice s1 (cellsF F).length t1)
          have q4 := (((HM.out.2.2.setCell (p := ⟨X3.heap.size, 0, none⟩) (by dsimp only; omega) (.int .i64 (latF F).a)).setCell (p := ⟨X3.heap.size, 1, none⟩) (by dsimp only; omega) (.int .i64 (latF F).b)).setCell (p := ⟨X3.heap.size, 2, none⟩) (by dsimp only; omega) (.int .i64 (latF F).c)).setCell (p := ⟨X3.heap.size, 3, none⟩) (by dsimp only; omega) (.slice s1 (cellsF F).length t1)
          have q5 := OwnI.set4 U1.out n14 (.int .i64 (latF F).a) (.int .i64 (latF F).b) (.int .i64 (latF F).c) (.slice s1 (cellsF F).length t1)
          have q6 := OwnI.set4 U3.out n34 (.int .i64 (latF F).a) (.int .i64 (latF F).b) (.int .i64 (latF F).c) (.slice s1 (cellsF F).length t1)
          rw [hY] at q1 q2 q3 q4 q5 q6 ⊢
          have HM := Lib.hid (And.intro q2 (And.intro q3 q4))
          have H4 := Lib.hid q0
          have H5 := Lib.hid q1
          have U1 := Lib.hid q5
          have U3 := Lib.hid q6
          clear z0 z1 z2 z3 f0 f1 f2 f3 hY q0 q1 q2 q3 q4 q5 q6
          try dsimp only
          refine hK.out _ _ ⟨HM.out.1, HM.out.2.1⟩ (fun _ => ?_)
          clear hK K
          try simp only [Act.put, List.setIfInBounds_toArray, List.set_cons_zero, List.set_cons_succ]
          refine SeqT.step rfl (by rfl) (fun K hK => ?_)
          have z0 := H5.out.cell 0
          have f0 := H5.out.frozen 0
          have z1 := H5.out.cell 1
          have f1 := H5.out.frozen 1
          have z2 := H5.out.cell 2
          have f2 := H5.out.frozen 2
          have z3 := H5.out.cell 3
          have f3 := H5.out.frozen 3
          go_simp
          obtain ⟨X6, hY⟩ : ∃ Y, ((((X5.setCell ⟨X0.heap.size, 0, none⟩ (.int .i64 (latF F').a)).setCell ⟨X0.heap.size, 1, none⟩ (.int .i64 (latF F').b)).setCell ⟨X0.heap.size, 2, none⟩ (.int .i64 (latF F').c)).setCell ⟨X0.heap.size, 3, none⟩ (.slice s3 (cellsF F').length t3)) = Y := ⟨_, rfl⟩
          have q0 : BlockAt X6 X0.heap.size #[.int .i64 (latF F').a, .int .i64 (latF F').b, .int .i64 (latF F').c, .slice s3 (cellsF F').length t3] 24 := by rw [← hY]; exact (((H5.out.set 0 _).set 1 _).set 2 _).set 3 _
          have q1 := (((H4.out.other (i := 0) (show X3.heap.size ≠ X0.heap.size by omega) (.int .i64 (latF F').a)).other (i := 1) (show X3.heap.size ≠ X0.heap.size by omega) (.int .i64 (latF F').b)).other (i := 2) (show X3.heap.size ≠ X0.heap.size by omega) (.int .i64 (latF F').c)).other (i := 3) (show X3.heap.size ≠ X0.heap.size by omega) (.slice s3 (cellsF F').length t3)
          have q2 := (((HM.out.1.other (i := 0) (show w.heap.size ≠ X0.heap.size by omega) (.int .i64 (latF F').a)).other (i := 1) (show w.heap.size ≠ X0.heap.size by omega) (.int .i64 (latF F').b)).other (i := 2) (show w.heap.size ≠ X0.heap.size by omega) (.int .i64 (latF F').c)).other (i := 3) (show w.heap.size ≠ X0.heap.size by omega) (.slice s3 (cellsF F').length t3)
          have q3 := (((HM.out.2.1.other (i := 0) (show w.heap.size + 1 ≠ X0.heap.size by omega) (.int .i64 (latF F').a)).other (i := 1) (show w.heap.size + 1 ≠ X0.heap.size by omega) (.int .i64 (latF F').b)).other (i := 2) (show w.heap.size + 1 ≠ X0.heap.size by omega) (.int .i64 (latF F').c)).other (i := 3) (show w.heap.size + 1 ≠ X0.heap.size by omega) (.slice s3 (cellsF F').length t3)
          have q4 := (((HM.out.2.2.setCell (p := ⟨X0.heap.size, 0, none⟩) (by dsimp only; omega) (.int .i64 (latF F').a)).setCell (p := ⟨X0.heap.size, 1, none⟩) (by dsimp only; omega) (.int .i64 (latF F').b)).setCell (p := ⟨X0.heap.size, 2, none⟩) (by dsimp only; omega) (.int .i64 (latF F').c)).setCell (p := ⟨X0.heap.size, 3, none⟩) (by dsimp only; omega) (.slice s3 (cellsF F').length t3)
          have q5 := OwnI.set4 U1.out n15 (.int .i64 (latF F').a) (.int .i64 (latF F').b) (.int .i64 (latF F').c) (.slice s3 (cellsF F').length t3)
          have q6 := OwnI.set4 U3.out n35 (.int .i64 (latF F').a) (.int .i64 (latF F').b) (.int .i64 (latF F').c) (.slice s3 (cellsF F').length t3)
          rw [hY] at q1 q2 q3 q4 q5 q6 ⊢
          have HM := Lib.hid (And.intro q2 (And.intro q3 q4))
          have H5 := Lib.hid q0
          have H4 := Lib.hid q1
          have U1 := Lib.hid q5
          have U3 := Lib.hid q6
          clear z0 z1 z2 z3 f0 f1 f2 f3 hY q0 q1 q2 q3 q4 q5 q6
          try dsimp only
          refine hK.out _ _ ⟨HM.out.1, HM.out.2.1⟩ (fun _ => ?_)
          clear hK K
          try simp only [Act.put, List.setIfInBounds_toArray, List.set_cons_zero, List.set_cons_succ]
          exact SeqT.fin ⟨rfl, (X3.heap.size, X0.heap.size, .slice s1 (cellsF F).length t1, .slice s3 (cellsF F').length t3), by simp only [putAll, Act.put, List.setIfInBounds_toArray, List.set_cons_zero, List.set_cons_succ], H4.out, U1.out.ints, H5.out, U3.out.ints, HM.out.2.2⟩
        · go_simp
          obtain ⟨X3, hY⟩ : ∃ Y, X2.alloc (.cells #[.int .i64 0, .int .i64 0, .int .i64 0, .slice none 0 0] 24) = Y := ⟨_, rfl⟩
          have hbY : Below X2.heap.size X2 X3 := by rw [← hY]; exact below_alloc (Below.refl _ _) _
          have hN : BlockAt X3 X2.heap.size #[.int .i64 0, .int .i64 0, .int .i64 0, .slice none 0 0] 24 := by rw [← hY]; exact BlockAt.new _ _ _
          rw [hY]
          have l4 : w.heap.size + 1 < X2.heap.size := HM.out.2.1.lt
          have ne45 : X0.heap.size ≠ X2.heap.size := by have := H5.out.lt; omega
          have n14 := own_ne_new U1.out
          have HM := Lib.hid (And.intro (HM.out.1.below hbY HM.out.1.lt) (And.intro (HM.out.2.1.below hbY HM.out.2.1.lt) (below_step HM.out.2.2 hbY)))
          have H5 := Lib.hid (H5.out.below hbY H5.out.lt)
          have U1 := Lib.hid (OwnI.all U1.out hbY)
          have H4 := Lib.hid hN
          clear hY hbY hN
          try dsimp only
          refine hK.out _ _ ⟨HM.out.1, HM.out.2.1⟩ (fun _ => ?_)
          clear hK K
          try simp only [Act.put, List.setIfInBounds_toArray, List.set_cons_zero, List.set_cons_succ]
          refine SeqT.step rfl (by rfl) (fun K hK => ?_)
          go_simp
          go_at_call 46
          refine (LB.out _ HM.out.2.2).mono ?_
          rintro e X4 ⟨u3, rfl, hown, hbY⟩
          have hown : OwnI X3.heap.size X4 u3 (cellsF F') := hown.ownI
          obtain ⟨s3, t3, rfl⟩ := hown.form
          have n35 := own_ne_old hown (H5.out.lt)
          have n34 := own_ne_old hown (H4.out.lt)
          have HM := Lib.hid (And.intro (HM.out.1.below hbY HM.out.1.lt) (And.intro (HM.out.2.1.below hbY HM.out.2.1.lt) (below_step HM.out.2.2 hbY)))
          have H5 := Lib.hid (H5.out.below hbY H5.out.lt)
          have H4 := Lib.hid (H4.out.below hbY H4.out.lt)
          have U1 := Lib.hid (OwnI.all U1.out hbY)
          have U3 := Lib.hid hown
          clear hown hbY
          try dsimp only
          refine hK.out _ _ ⟨HM.out.1, HM.out.2.1⟩ (fun _ => ?_)
          clear hK K
          try simp only [Act.put, List.setIfInBounds_toArray, List.set_cons_zero, List.set_cons_succ]
          refine SeqT.step rfl (by rfl) (fun K hK => ?_)
          have z0 := H4.out.cell 0
          have f0 := H4.out.frozen 0
          have z1 := H4.out.cell 1
          have f1 := H4.out.frozen 1
          have z2 := H4.out.cell 2
          have f2 := H4.out.frozen 2
          have z3 := H4.out.cell 3
          have f3 := H4.out.frozen 3
          go_simp
          obtain ⟨X5, hY⟩ : ∃ Y, ((((X4.setCell ⟨X2.heap.size, 0, none⟩ (.int .i64 (latF F).a)).setCell ⟨X2.heap.size, 1, none⟩ (.int .i64 (latF F).b)).setCell ⟨X2.heap.size, 2, none⟩ (.int .i64 (latF F).c)).setCell ⟨X2.heap.size, 3, none⟩ (.slice s1 (cellsF F).length t1)) = Y := ⟨_, rfl⟩
          have q0 : BlockAt X5 X2.heap.size #[.int .i64 (latF F).a, .int .i64 (latF F).b, .int .i64 (latF F).c, .slice s1 (cellsF F).length t1] 24 := by rw [← hY]; exact (((H4.out.set 0 _).set 1 _).set 2 _).set 3 _
          have q1 := (((H5.out.other (i := 0) (show X0.heap.size ≠ X2.heap.size by omega) (.int .i64 (latF F).a)).other (i := 1) (show X0.heap.size ≠ X2.heap.size by omega) (.int .i64 (latF F).b)).other (i := 2) (show X0.heap.size ≠ X2.heap.size by omega) (.int .i64 (latF F).c)).other (i := 3) (show X0.heap.size ≠ X2.heap.size by omega) (.slice s1 (cellsF F).length t1)
          have q2 := (((HM.out.1.other (i := 0) (show w.heap.size ≠ X2.heap.size by omega) (.int .i64 (latF F).a)).other (i := 1) (show w.heap.size ≠ X2.heap.size by omega) (.int .i64 (latF F).b)).other (i := 2) (show w.heap.size ≠ X2.heap.size by omega) (.int .i64 (latF F).c)).other (i := 3) (show w.heap.size ≠ X2.heap.size by omega) (.slice s1 (cellsF F).length t1)
          have q3 := (((HM.out.2.1.other (i := 0) (show w.heap.size + 1 ≠ X2.heap.size by omega) (.int .i64 (latF F).a)).other (i := 1) (show w.heap.size + 1 ≠ X2.heap.size by omega) (.int .i64 (latF F).b)).other (i := 2) (show w.heap.size + 1 ≠ X2.heap.size by omega) (.int .i64 (latF F).c)).other (i := 3) (show w.heap.size + 1 ≠ X2.heap.size by omega) (.slice s1 (cellsF F).length t1)
          have q4 := (((HM.out.2.2.setCell (p := ⟨X2.heap.size, 0, none⟩) (by dsimp only; omega) (.int .i64 (latF F).a)).setCell (p := ⟨X2.heap.size, 1, none⟩) (by dsimp only; omega) (.int .i64 (latF F).b)).setCell (p := ⟨X2.heap.size, 2, none⟩) (by dsimp only; omega) (.int .i64 (latF F).c)).setCell (p := ⟨X2.heap.size, 3, none⟩) (by dsimp only; omega) (.slice s1 (cellsF F).length t1)
          have q5 := OwnI.set4 U1.out n14 (.int .i64 (latF F).a) (.int .i64 (latF F).b) (.int .i64 (latF F).c) (.slice s1 (cellsF F).length t1)
          have q6 := OwnI.set4 U3.out n34 (.int .i64 (latF F).a) (.int .i64 (latF F).b) (.int .i64 (latF F).c) (.slice s1 (cellsF F).length t1)
          rw [hY] at q1 q2 q3 q4 q5 q6 ⊢
          have HM := Lib.hid (And.intro q2 (And.intro q3 q4))
          have H4 := Lib.hid q0
          have H5 := Lib.hid q1
          have U1 := Lib.hid q5
          have U3 := Lib.hid q6
          clear z0 z1 z2 z3 f0 f1 f2 f3 hY q0 q1 q2 q3 q4 q5 q6
          try dsimp only
          refine hK.out _ _ ⟨HM.out.1, HM.out.2.1⟩ (fun _ => ?_)
          clear hK K
          try simp only [Act.put, List.setIfInBounds_toArray, List.set_cons_zero, List.set_cons_succ]
          refine SeqT.step rfl (by rfl) (fun K hK => ?_)
          have z0 := H5.out.cell 0
          have f0 := H5.out.frozen 0
          have z1 := H5.out.cell 1
          have f1 := H5.out.frozen 1
          have z2 := H5.out.cell 2
          have f2 := H5.out.frozen 2
          have z3 := H5.out.cell 3
          have f3 := H5.out.frozen 3
          go_simp
          obtain ⟨X6, hY⟩ : ∃ Y, ((((X5.setCell ⟨X0.heap.size, 0, none⟩ (.int .i64 (latF F').a)).setCell ⟨X0.heap.size, 1, none⟩ (.int .i64 (latF F').b)).setCell ⟨X0.heap.size, 2, none⟩ (.int .i64 (latF F').c)).setCell ⟨X0.heap.size, 3, none⟩ (.slice s3 (cellsF F').length t3)) = Y := ⟨_, rfl⟩
          have q0 : BlockAt X6 X0.heap.size #[.int .i64 (latF F').a, .int .i64 (latF F').b, .int .i64 (latF F').c, .slice s3 (cellsF F').length t3] 24 := by rw [← hY]; exact (((H5.out.set 0 _).set 1 _).set 2 _).set 3 _
          have q1 := (((H4.out.other (i := 0) (show X2.heap.size ≠ X0.heap.size by omega) (.int .i64 (latF F').a)).other (i := 1) (show X2.heap.size ≠ X0.heap.size by omega) (.int .i64 (latF F').b)).other (i := 2) (show X2.heap.size ≠ X0.heap.size by omega) (.int .i64 (latF F').c)).other (i := 3) (show X2.heap.size ≠ X0.heap.size by omega) (.slice s3 (cellsF F').length t3)
          have q2 := (((HM.out.1.other (i := 0) (show w.heap.size ≠ X0.heap.size by omega) (.int .i64 (latF F').a)).other (i := 1) (show w.heap.size ≠ X0.heap.size by omega) (.int .i64 (latF F').b)).other (i := 2) (show w.heap.size ≠ X0.heap.size by omega) (.int .i64 (latF F').c)).other (i := 3) (show w.heap.size ≠ X0.heap.size by omega) (.slice s3 (cellsF F').length t3)
          have q3 := (((HM.out.2.1.other (i := 0) (show w.heap.size + 1 ≠ X0.heap.size by omega) (.int .i64 (latF F').a)).other (i := 1) (show w.heap.size + 1 ≠ X0.heap.size by omega) (.int .i64 (latF F').b)).other (i := 2) (show w.heap.size + 1 ≠ X0.heap.size by omega) (.int .i64 (latF F').c)).other (i := 3) (show w.heap.size + 1 ≠ X0.heap.size by omega) (.slice s3 (cellsF F').length t3)
          have q4 := (((HM.out.2.2.setCell (p := ⟨X0.heap.size, 0, none⟩) (by dsimp only; omega) (.int .i64 (latF F').a)).setCell (p := ⟨X0.heap.size, 1, none⟩) (by dsimp only; omega) (.int .i64 (latF F').b)).setCell (p := ⟨X0.heap.size, 2, none⟩) (by dsimp only; omega) (.int .i64 (latF F').c)).setCell (p := ⟨X0.heap.size, 3, none⟩) (by dsimp only; omega) (.slice s3 (cellsF F').length t3)
          have q5 := OwnI.set4 U1.out n15 (.int .i64 (latF F').a) (.int .i64 (latF F').b) (.int .i64 (latF F').c) (.slice s3 (cellsF F').length t3)
          have q6 := OwnI.set4 U3.out n35 (.int .i64 (latF F').a) (.int .i64 (latF F').b) (.int .i64 (latF F').c) (.slice s3 (cellsF F').length t3)
          rw [hY] at q1 q2 q3 q4 q5 q6 ⊢
          have HM := Lib.hid (And.intro q2 (And.intro q3 q4))
          have H5 := Lib.hid q0
          have H4 := Lib.hid q1
          have U1 := Lib.hid q5
          have U3 := Lib.hid q6
          clear z0 z1 z2 z3 f0 f1 f2 f3 hY q0 q1 q2 q3 q4 q5 q6
          try dsimp only
          refine hK.out _ _ ⟨HM.out.1, HM.out.2.1⟩ (fun _ => ?_)
          clear hK K
          try simp only [Act.put, List.setIfInBounds_toArray, List.set_cons_zero, List.set_cons_succ]
          exact SeqT.fin ⟨rfl, (X2.heap.size, X0.heap.size, .slice s1 (cellsF F).length t1, .slice s3 (cellsF F').length t3), by simp only [putAll, Act.put, List.setIfInBounds_toArray, List.set_cons_zero, List.set_cons_succ], H4.out, U1.out.ints, H5.out, U3.out.ints, HM.out.2.2⟩
      · go_simp
        obtain ⟨X2, hY⟩ : ∃ Y, X1.alloc (.cells #[.int .i64 0, .int .i64 0, .int .i64 0, .slice none 0 0] 24) = Y := ⟨_, rfl⟩
        have hbY : Below X1.heap.size X1 X2 := by rw [← hY]; exact below_alloc (Below.refl _ _) _
        have hN : BlockAt X2 X1.heap.size #[.int .i64 0, .int .i64 0, .int .i64 0, .slice none 0 0] 24 := by rw [← hY]; exact BlockAt.new _ _ _
        rw [hY]
        have l4 : w.heap.size + 1 < X1.heap.size := HM.out.2.1.lt
        have ne45 : X0.heap.size ≠ X1.heap.size := by have := H5.out.lt; omega
        have HM := Lib.hid (And.intro (HM.out.1.below hbY HM.out.1.lt) (And.intro (HM.out.2.1.below hbY HM.out.2.1.lt) (below_step HM.out.2.2 hbY)))
        have H5 := Lib.hid (H5.out.below hbY H5.out.lt)
        have H4 := Lib.hid hN
        clear hY hbY hN
        try dsimp only
        refine hK.out _ _ ⟨HM.out.1, HM.out.2.1⟩ (fun _ => ?_)
        clear hK K
        try simp only [Act.put, List.setIfInBounds_toArray, List.set_cons_zero, List.set_cons_succ]
        refine SeqT.step rfl (by rfl) (fun K hK => ?_)
        go_simp
        go_at_call 46
        refine (LA.out _ HM.out.2.2).mono ?_
        rintro e X3 ⟨u1, rfl, hown, hbY⟩
        have hown : OwnI X2.heap.size X3 u1 (cellsF F) := hown.ownI
        obtain ⟨s1, t1, rfl⟩ := hown.form
        have n15 := own_ne_old hown (H5.out.lt)
        have n14 := own_ne_old hown (H4.out.lt)
        have HM := Lib.hid (And.intro (HM.out.1.below hbY HM.out.1.lt) (And.intro (HM.out.2.1.below hbY HM.out.2.1.lt) (below_step HM.out.2.2 hbY)))
        have H5 := Lib.hid (H5.out.below hbY H5.out.lt)
        have H4 := Lib.hid (H4.out.below hbY H4.out.lt)
        have U1 := Lib.hid hown
        clear hown hbY
        try dsimp only
        refine hK.out _ _ ⟨HM.out.1, HM.out.2.1⟩ (fun _ => ?_)
        clear hK K
        try simp only [Act.put, List.setIfInBounds_toArray, List.set_cons_zero, List.set_cons_succ]
        refine SeqT.step rfl (by rfl) (fun K hK => ?_)
        go_simp
        go_at_call 46
        refine (LB.out _ HM.out.2.2).mono ?_
        rintro e X4 ⟨u3, rfl, hown, hbY⟩
        have hown : OwnI X3.heap.size X4 u3 (cellsF F') := hown.ownI
        obtain ⟨s3, t3, rfl⟩ := hown.form
        have n35 := own_ne_old hown (H5.out.lt)
        have n34 := own_ne_old hown (H4.out.lt)
        have HM := Lib.hid (And.intro (HM.out.1.below hbY HM.out.1.lt) (And.intro (HM.out.2.1.below hbY HM.out.2.1.lt) (below_step HM.out.2.2 hbY)))
        have H5 := Lib.hid (H5.out.below hbY H5.out.lt)
        have H4 := Lib.hid (H4.out.below hbY H4.out.lt)
        have U1 := Lib.hid (OwnI.all U1.out hbY)
        have U3 := Lib.hid hown
        clear hown hbY
        try dsimp only
        refine hK.out _ _ ⟨HM.out.1, HM.out.2.1⟩ (fun _ => ?_)
        clear hK K
        try simp only [Act.put, List.setIfInBounds_toArray, List.set_cons_zero, List.set_cons_succ]
        refine SeqT.step rfl (by rfl) (fun K hK => ?_)
        have z0 := H4.out.cell 0
        have f0 := H4.out.frozen 0
        have z1 := H4.out.cell 1
        have f1 := H4.out.frozen 1
        have z2 := H4.out.cell 2
        have f2 := H4.out.frozen 2
        have z3 := H4.out.cell 3
        have f3 := H4.out.frozen 3
        go_simp
        obtain ⟨X5, hY⟩ : ∃ Y, ((((X4.setCell ⟨X1.heap.size, 0, none⟩ (.int .i64 (latF F).a)).setCell ⟨X1.heap.size, 1, none⟩ (.int .i64 (latF F).b)).setCell ⟨X1.heap.size, 2, none⟩ (.int .i64 (latF F).c)).setCell ⟨X1.heap.size, 3, none⟩ (.slice s1 (cellsF F).length t1)) = Y := ⟨_, rfl⟩
        have q0 : BlockAt X5 X1.heap.size #[.int .i64 (latF F).a, .int .i64 (latF F).b, .int .i64 (latF F).c, .slice s1 (cellsF F).length t1] 24 := by rw [← hY]; exact (((H4.out.set 0 _).set 1 _).set 2 _).set 3 _
        have q1 := (((H5.out.other (i := 0) (show X0.heap.size ≠ X1.heap.size by omega) (.int .i64 (latF F).a)).other (i := 1) (show X0.heap.size ≠ X1.heap.size by omega) (.int .i64 (latF F).b)).other (i := 2) (show X0.heap.size ≠ X1.heap.size by omega) (.int .i64 (latF F).c)).other (i := 3) (show X0.heap.size ≠ X1.heap.size by omega) (.slice s1 (cellsF F).length t1)
        have q2 := (((HM.out.1.other (i := 0) (show w.heap.size ≠ X1.heap.size by omega) (.int .i64 (latF F).a)).other (i := 1) (show w.heap.size ≠ X1.heap.size by omega) (.int .i64 (latF F).b)).other (i := 2) (show w.heap.size ≠ X1.heap.size by omega) (.int .i64 (latF F).c)).other (i := 3) (show w.heap.size ≠ X1.heap.size by omega) (.slice s1 (cellsF F).length t1)
        have q3 := (((HM.out.2.1.other (i := 0) (show w.heap.size + 1 ≠ X1.heap.size by omega) (.int .i64 (latF F).a)).other (i := 1) (show w.heap.size + 1 ≠ X1.heap.size by omega) (.int .i64 (latF F).b)).other (i := 2) (show w.heap.size + 1 ≠ X1.heap.size by omega) (.int .i64 (latF F).c)).other (i := 3) (show w.heap.size + 1 ≠ X1.heap.size by omega) (.slice s1 (cellsF F).length t1)
        have q4 := (((HM.out.2.2.setCell (p := ⟨X1.heap.size, 0, none⟩) (by dsimp only; omega) (.int .i64 (latF F).a)).setCell (p := ⟨X1.heap.size, 1, none⟩) (by dsimp only; omega) (.int .i64 (latF F).b)).setCell (p := ⟨X1.heap.size, 2, none⟩) (by dsimp only; omega) (.int .i64 (latF F).c)).setCell (p := ⟨X1.heap.size, 3, none⟩) (by dsimp only; omega) (.slice s1 (cellsF F).length t1)
        have q5 := OwnI.set4 U1.out n14 (.int .i64 (latF F).a) (.int .i64 (latF F).b) (.int .i64 (latF F).c) (.slice s1 (cellsF F).length t1)
        have q6 := OwnI.set4 U3.out n34 (.int .i64 (latF F).a) (.int .i64 (latF F).b) (.int .i64 (latF F).c) (.slice s1 (cellsF F).length t1)
        rw [hY] at q1 q2 q3 q4 q5 q6 ⊢
        have HM := Lib.hid (And.intro q2 (And.intro q3 q4))
        have H4 := Lib.hid q0
        have H5 := Lib.hid q1
        have U1 := Lib.hid q5
        have U3 := Lib.hid q6
        clear z0 z1 z2 z3 f0 f1 f2 f3 hY q0 q1 q2 q3 q4 q5 q6
        try dsimp only
        refine hK.out _ _ ⟨HM.out.1, HM.out.2.1⟩ (fun _ => ?_)
        clear hK K
        try simp only [Act.put, List.setIfInBounds_toArray, List.set_cons_zero, List.set_cons_succ]
        refine SeqT.step rfl (by rfl) (fun K hK => ?_)
        have z0 := H5.out.cell 0
        have f0 := H5.out.frozen 0
        have z1 := H5.out.cell 1
        have f1 := H5.out.frozen 1
        have z2 := H5.out.cell 2
        have f2 := H5.out.frozen 2
        have z3 := H5.out.cell 3
        have f3 := H5.out.frozen 3
        go_simp
        obtain ⟨X6, hY⟩ : ∃ Y, ((((X5.setCell ⟨X0.heap.size, 0, none⟩ (.int .i64 (latF F').a)).setCell ⟨X0.heap.size, 1, none⟩ (.int .i64 (latF F').b)).setCell ⟨X0.heap.size, 2, none⟩ (.int .i64 (latF F').c)).setCell ⟨X0.heap.size, 3, none⟩ (.slice s3 (cellsF F').length t3)) = Y := ⟨_, rfl⟩
        have q0 : BlockAt X6 X0.heap.size #[.int .i64 (latF F').a, .int .i64 (latF F').b, .int .i64 (latF F').c, .slice s3 (cellsF F').length t3] 24 := by rw [← hY]; exact (((H5.out.set 0 _).set 1 _).set 2 _).set 3 _
        have q1 := (((H4.out.other (i := 0) (show X1.heap.size ≠ X0.heap.size by omega) (.int .i64 (latF F').a)).other (i := 1) (show X1.heap.size ≠ X0.heap.size by omega) (.int .i64 (latF F').b)).other (i := 2) (show X1.heap.size ≠ X0.heap.size by omega) (.int .i64 (latF F').c)).other (i := 3) (show X1.heap.size ≠ X0.heap.size by omega) (.slice s3 (cellsF F').length t3)
        have q2 := (((HM.out.1.other (i := 0) (show w.heap.size ≠ X0.heap.size by omega) (.int .i64 (latF F').a)).other (i := 1) (show w.heap.size ≠ X0.heap.size by omega) (.int .i64 (latF F').b)).other (i := 2) (show w.heap.size ≠ X0.heap.size by omega) (.int .i64 (latF F').c)).other (i := 3) (show w.heap.size ≠ X0.heap.size by omega) (.slice s3 (cellsF F').length t3)
        have q3 := (((HM.out.2.1.other (i := 0) (show w.heap.size + 1 ≠ X0.heap.size by omega) (.int .i64 (latF F').a)).other (i := 1) (show w.heap.size + 1 ≠ X0.heap.size by omega) (.int .i64 (latF F').b)).other (i := 2) (show w.heap.size + 1 ≠ X0.heap.size by omega) (.int .i64 (latF F').c)).other (i := 3) (show w.heap.size + 1 ≠ X0.heap.size by omega) (.slice s3 (cellsF F').length t3)
        have q4 := (((HM.out.2.2.setCell (p := ⟨X0.heap.size, 0, none⟩) (by dsimp only; omega) (.int .i64 (latF F').a)).setCell (p := ⟨X0.heap.size, 1, none⟩) (by dsimp only; omega) (.int .i64 (latF F').b)).setCell (p := ⟨X0.heap.size, 2, none⟩) (by dsimp only; omega) (.int .i64 (latF F').c)).setCell (p := ⟨X0.heap.size, 3, none⟩) (by dsimp only; omega) (.slice s3 (cellsF F').length t3)
        have q5 := OwnI.set4 U1.out n15 (.int .i64 (latF F').a) (.int .i64 (latF F').b) (.int .i64 (latF F').c) (.slice s3 (cellsF F').length t3)
        have q6 := OwnI.set4 U3.out n35 (.int .i64 (latF F').a) (.int .i64 (latF F').b) (.int .i64 (latF F').c) (.slice s3 (cellsF F').length t3)
        rw [hY] at q1 q2 q3 q4 q5 q6 ⊢
        have HM := Lib.hid (And.intro q2 (And.intro q3 q4))
        have H5 := Lib.hid q0
        have H4 := Lib.hid q1
        have U1 := Lib.hid q5
        have U3 := Lib.hid q6
        clear z0 z1 z2 z3 f0 f1 f2 f3 hY q0 q1 q2 q3 q4 q5 q6
        try dsimp only
        refine hK.out _ _ ⟨HM.out.1, HM.out.2.1⟩ (fun _ => ?_)
        clear hK K
        try simp only [Act.put, List.setIfInBounds_toArray, List.set_cons_zero, List.set_cons_succ]
        exact SeqT.fin ⟨rfl, (X1.heap.size, X0.heap.size, .slice s1 (cellsF F).length t1, .slice s3 (cellsF F').length t3), by simp only [putAll, Act.put, List.setIfInBounds_toArray, List.set_cons_zero, List.set_cons_succ], H4.out, U1.out.ints, H5.out, U3.out.ints, HM.out.2.2⟩
  · rintro ⟨b4, b5, v1, v2⟩ X ⟨h4, i1, h5, i3, hw⟩
    dsimp only at h4 i1 h5 i3
    obtain ⟨s1, t1, rfl, _⟩ := i1.look'
    obtain ⟨s3, t3, rfl, _⟩ := i3.look'
    have HX := Lib.hid (And.intro h4 (And.intro i1 (And.intro h5 (And.intro i3 hw))))
    clear h4 i1 h5 i3 hw a0 a1 a2 a3 c0 c1 c2 c3 H1 LA LB h0 h1
    simp only [putAll, Act.put, List.setIfInBounds_toArray, List.set_cons_zero, List.set_cons_succ]
    generalize cellsF F = K at *
    generalize cellsF F' = K' at *
    obtain ⟨L, hL⟩ : ∃ L, latF F = L := ⟨_, rfl⟩
    obtain ⟨L', hL'⟩ : ∃ L, latF F' = L := ⟨_, rfl⟩
    rw [hL, hL'] at HX HRR ⊢
    clear hL hL'
    obtain ⟨a, b, c⟩ := L
    obtain ⟨a', b', c'⟩ := L'
    dsimp only at HX HRR ⊢
    by_cases e0 : a = a'
    case neg =>
      have HR : Hid (eqP a b c K a' b' c' K' = false) := Lib.hid (eqP_no fun h => e0 h.1)
      have q0 : (a == a') = false := beq_eq_false_iff_ne.2 e0
      go_upto_region 5 with fail
      refine wp_region_seq [(0, true), (2, true), (1, false), (3, false), (4, true), (5, true), (6, true), (7, true), (8, true), (9, true), (10, false), (11, true), (12, true), (13, true)] (fun W => BlockAt W b4 #[.int .i64 a, .int .i64 b, .int .i64 c, .slice s1 K.length t1] 24 ∧ BlockAt W b5 #[.int .i64 a', .int .i64 b', .int .i64 c', .slice s3 K'.length t3] 24 ∧ Hid (Ints W (.slice s1 K.length t1) K ∧ Ints W (.slice s3 K'.length t3) K' ∧ Below w.heap.size w W))
        (by kernel_rfl) (by kernel_rfl) (by kernel_rfl) (by kernel_rfl) (fun d _ _ _ _ h => by cases d <;> exact h) ⟨HX.out.1.drew, HX.out.2.2.1.drew, Lib.hid ⟨HX.out.2.1, HX.out.2.2.2.1, HX.out.2.2.2.2.drew⟩⟩ (fun hS => ?_)
      repeat (first
        | (refine SeqH.take (v := ?_) rfl (by rfl) ?_ ?_; rotate_left; (· intro w hSw; (try dsimp only at hSw); have c0 := hSw.1.cell 0; have c1 := hSw.1.cell 1; have c2 := hSw.1.cell 2; have c3 := hSw.1.cell 3; have d0 := hSw.2.1.cell 0; have d1 := hSw.2.1.cell 1; have d2 := hSw.2.1.cell 2; have d3 := hSw.2.1.cell 3; go_simp; (try with_reducible rfl)); simp only [Act.put, List.setIfInBounds_toArray, List.set_cons_zero, List.set_cons_succ])
        | (refine SeqH.skip rfl (by rfl) ?_; simp only [Act.put, List.setIfInBounds_toArray, List.set_cons_zero, List.set_cons_succ]))
      refine SeqH.step rfl (by rfl) (fun K0 hK => ?_)
      go_simp
      go_at_call 47
      refine (latticeOf_any ⟨a, b, c⟩ (.slice s1 K.length t1) _ rfl).mono ?_
      rintro e w3 ⟨rfl, hb1⟩
      try dsimp only
      have hS2 := And.intro (hS.1.below hb1 hS.1.lt) (And.intro (hS.2.1.below hb1 hS.2.1.lt) (Lib.hid (And.intro (hS.2.2.out.1.all hb1) (And.intro (hS.2.2.out.2.1.all hb1) (below_step hS.2.2.out.2.2 hb1)))))
      refine hK.out _ _ hS2 (fun _ => ?_)
      clear hK K0 hb1 hS
      have hS := hS2
      clear hS2
      try simp only [Act.put, List.setIfInBounds_toArray, List.set_cons_zero, List.set_cons_succ]
      repeat (first
        | (refine SeqH.take (v := ?_) rfl (by rfl) ?_ ?_; rotate_left; (· intro w hSw; (try dsimp only at hSw); have c0 := hSw.1.cell 0; have c1 := hSw.1.cell 1; have c2 := hSw.1.cell 2; have c3 := hSw.1.cell 3; have d0 := hSw.2.1.cell 0; have d1 := hSw.2.1.cell 1; have d2 := hSw.2.1.cell 2; have d3 := hSw.2.1.cell 3; go_simp; (try with_reducible rfl)); simp only [Act.put, List.setIfInBounds_toArray, List.set_cons_zero, List.set_cons_succ])
        | (refine SeqH.skip rfl (by rfl) ?_; simp only [Act.put, List.setIfInBounds_toArray, List.set_cons_zero, List.set_cons_succ]))
      refine SeqH.step rfl (by rfl) (fun K0 hK => ?_)
      go_simp
      go_at_call 47
      refine (latticeOf_any ⟨a', b', c'⟩ (.slice s3 K'.length t3) _ rfl).mono ?_
      rintro e w3 ⟨rfl, hb1⟩
      try dsimp only
      have hS2 := And.intro (hS.1.below hb1 hS.1.lt) (And.intro (hS.2.1.below hb1 hS.2.1.lt) (Lib.hid (And.intro (hS.2.2.out.1.all hb1) (And.intro (hS.2.2.out.2.1.all hb1) (below_step hS.2.2.out.2.2 hb1)))))
      refine hK.out _ _ hS2 (fun _ => ?_)
      clear hK K0 hb1 hS
      have hS := hS2
      clear hS2
      try simp only [Act.put, List.setIfInBounds_toArray, List.set_cons_zero, List.set_cons_succ]
      repeat (first
        | (refine SeqH.take (v := ?_) rfl (by rfl) ?_ ?_; rotate_left; (· intro w hSw; (try dsimp only at hSw); have c0 := hSw.1.cell 0; have c1 := hSw.1.cell 1; have c2 := hSw.1.cell 2; have c3 := hSw.1.cell 3; have d0 := hSw.2.1.cell 0; have d1 := hSw.2.1.cell 1; have d2 := hSw.2.1.cell 2; have d3 := hSw.2.1.cell 3; go_simp; (try with_reducible rfl)); simp only [Act.put, List.setIfInBounds_toArray, List.set_cons_zero, List.set_cons_succ])
        | (refine SeqH.skip rfl (by rfl) ?_; simp only [Act.put, List.setIfInBounds_toArray, List.set_cons_zero, List.set_cons_succ]))
      refine SeqH.pass rfl (by rfl) hS ?_
      try simp only [Act.put, List.setIfInBounds_toArray, List.set_cons_zero, List.set_cons_succ]
      repeat (first
        | (refine SeqH.take (v := ?_) rfl (by rfl) ?_ ?_; rotate_left; (· intro w hSw; (try dsimp only at hSw); have c0 := hSw.1.cell 0; have c1 := hSw.1.cell 1; have c2 := hSw.1.cell 2; have c3 := hSw.1.cell 3; have d0 := hSw.2.1.cell 0; have d1 := hSw.2.1.cell 1; have d2 := hSw.2.1.cell 2; have d3 := hSw.2.1.cell 3; go_simp; (try with_reducible rfl)); simp only [Act.put, List.setIfInBounds_toArray, List.set_cons_zero, List.set_cons_succ])
        | (refine SeqH.skip rfl (by rfl) ?_; simp only [Act.put, List.setIfInBounds_toArray, List.set_cons_zero, List.set_cons_succ]))
      refine SeqH.done ?_
      have HZ := Lib.hid hS.2.2.out.2.2
      clear hS
      go_wp2
      exact bodyPost_ret (v := .tuple #[.bool false, .int .i64 0]) (by simp [results, Tryz.results14, go_sem]) rfl ⟨by rw [← HRR.out, HR.out], HZ.out⟩
    subst e0
    have q0 : (a == a) = true := beq_self_eq_true _
    by_cases e1 : b = b'
    case neg =>
      have HR : Hid (eqP a b c K a b' c' K' = false) := Lib.hid (eqP_no fun h => e1 h.2.1)
      have q1 : (b == b') = false := beq_eq_false_iff_ne.2 e1
      go_upto_region 5 with fail
      refine wp_region_seq [(0, true), (2, true), (1, false), (3, false), (4, true), (5, true), (6, true), (7, true), (8, true), (9, true), (10, false), (11, true), (12, true), (13, true)] (fun W => BlockAt W b4 #[.int .i64 a, .int .i64 b, .int .i64 c, .slice s1 K.length t1] 24 ∧ BlockAt W b5 #[.int .i64 a, .int .i64 b', .int .i64 c', .slice s3 K'.length t3] 24 ∧ Hid (Ints W (.slice s1 K.length t1) K ∧ Ints W (.slice s3 K'.length t3) K' ∧ Below w.heap.size w W))
        (by kernel_rfl) (by kernel_rfl) (by kernel_rfl) (by kernel_rfl) (fun d _ _ _ _ h => by cases d <;> exact h) ⟨HX.out.1.drew, HX.out.2.2.1.drew, Lib.hid ⟨HX.out.2.1, HX.out.2.2.2.1, HX.out.2.2.2.2.drew⟩⟩ (fun hS => ?_)
      repeat (first
        | (refine SeqH.take (v := ?_) rfl (by rfl) ?_ ?_; rotate_left; (· intro w hSw; (try dsimp only at hSw); have c0 := hSw.1.cell 0; have c1 := hSw.1.cell 1; have c2 := hSw.1.cell 2; have c3 := hSw.1.cell 3; have d0 := hSw.2.1.cell 0; have d1 := hSw.2.1.cell 1; have d2 := hSw.2.1.cell 2; have d3 := hSw.2.1.cell 3; go_simp; (try with_reducible rfl)); simp only [Act.put, List.setIfInBounds_toArray, List.set_cons_zero, List.set_cons_succ])
        | (refine SeqH.skip rfl (by rfl) ?_; simp only [Act.put, List.setIfInBounds_toArray, List.set_cons_zero, List.set_cons_succ]))
      refine SeqH.step rfl (by rfl) (fun K0 hK => ?_)
      go_simp
      go_at_call 47
      refine (latticeOf_any ⟨a, b, c⟩ (.slice s1 K.length t1) _ rfl).mono ?_
      rintro e w3 ⟨rfl, hb1⟩
      try dsimp only
      have hS2 := And.intro (hS.1.below hb1 hS.1.lt) (And.intro (hS.2.1.below hb1 hS.2.1.lt) (Lib.hid (And.intro (hS.2.2.out.1.all hb1) (And.intro (hS.2.2.out.2.1.all hb1) (below_step hS.2.2.out.2.2 hb1)))))
      refine hK.out _ _ hS2 (fun _ => ?_)
      clear hK K0 hb1 hS
      have hS := hS2
      clear hS2
      try simp only [Act.put, List.setIfInBounds_toArray, List.set_cons_zero, List.set_cons_succ]
      repeat (first
        | (refine SeqH.take (v := ?_) rfl (by rfl) ?_ ?_; rotate_left; (· intro w hSw; (try dsimp only at hSw); have c0 := hSw.1.cell 0; have c1 := hSw.1.cell 1; have c2 := hSw.1.cell 2; have c3 := hSw.1.cell 3; have d0 := hSw.2.1.cell 0; have d1 := hSw.2.1.cell 1; have d2 := hSw.2.1.cell 2; have d3 := hSw.2.1.cell 3; go_simp; (try with_reducible rfl)); simp only [Act.put, List.setIfInBounds_toArray, List.set_cons_zero, List.set_cons_succ])
        | (refine SeqH.skip rfl (by rfl) ?_; simp only [Act.put, List.setIfInBounds_toArray, List.set_cons_zero, List.set_cons_succ]))
      refine SeqH.step rfl (by rfl) (fun K0 hK => ?_)
      go_simp
      go_at_call 47
      refine (latticeOf_any ⟨a, b', c'⟩ (.slice s3 K'.length t3) _ rfl).mono ?_
      rintro e w3 ⟨rfl, hb1⟩
      try dsimp only
      have hS2 := And.intro (hS.1.below hb1 hS.1.lt) (And.intro (hS.2.1.below hb1 hS.2.1.lt) (Lib.hid (And.intro (hS.2.2.out.1.all hb1) (And.intro (hS.2.2.out.2.1.all hb1) (below_step hS.2.2.out.2.2 hb1)))))
      refine hK.out _ _ hS2 (fun _ => ?_)
      clear hK K0 hb1 hS
      have hS := hS2
      clear hS2
      try simp only [Act.put, List.setIfInBounds_toArray, List.set_cons_zero, List.set_cons_succ]
      repeat (first
        | (refine SeqH.take (v := ?_) rfl (by rfl) ?_ ?_; rotate_left; (· intro w hSw; (try dsimp only at hSw); have c0 := hSw.1.cell 0; have c1 := hSw.1.cell 1; have c2 := hSw.1.cell 2; have c3 := hSw.1.cell 3; have d0 := hSw.2.1.cell 0; have d1 := hSw.2.1.cell 1; have d2 := hSw.2.1.cell 2; have d3 := hSw.2.1.cell 3; go_simp; (try with_reducible rfl)); simp only [Act.put, List.setIfInBounds_toArray, List.set_cons_zero, List.set_cons_succ])
        | (refine SeqH.skip rfl (by rfl) ?_; simp only [Act.put, List.setIfInBounds_toArray, List.set_cons_zero, List.set_cons_succ]))
      refine SeqH.pass rfl (by rfl) hS ?_
      try simp only [Act.put, List.setIfInBounds_toArray, List.set_cons_zero, List.set_cons_succ]
      repeat (first
        | (refine SeqH.take (v := ?_) rfl (by rfl) ?_ ?_; rotate_left; (· intro w hSw; (try dsimp only at hSw); have c0 := hSw.1.cell 0; have c1 := hSw.1.cell 1; have c2 := hSw.1.cell 2; have c3 := hSw.1.cell 3; have d0 := hSw.2.1.cell 0; have d1 := hSw.2.1.cell 1; have d2 := hSw.2.1.cell 2; have d3 := hSw.2.1.cell 3; go_simp; (try with_reducible rfl)); simp only [Act.put, List.setIfInBounds_toArray, List.set_cons_zero, List.set_cons_succ])
        | (refine SeqH.skip rfl (by rfl) ?_; simp only [Act.put, List.setIfInBounds_toArray, List.set_cons_zero, List.set_cons_succ]))
      refine SeqH.done ?_
      have HZ := Lib.hid hS.2.2.out.2.2
      clear hS
      go_wp2
      exact bodyPost_ret (v := .tuple #[.bool false, .int .i64 0]) (by simp [results, Tryz.results14, go_sem]) rfl ⟨by rw [← HRR.out, HR.out], HZ.out⟩
    subst e1
    have q1 : (b == b) = true := beq_self_eq_true _
    by_cases e2 : c = c'
    case neg =>
      have HR : Hid (eqP a b c K a b c' K' = false) := Lib.hid (eqP_no fun h => e2 h.2.2.1)
      have q2 : (c == c') = false := beq_eq_false_iff_ne.2 e2
      go_upto_region 5 with fail
      refine wp_region_seq [(0, true), (2, true), (1, false), (3, false), (4, true), (5, true), (6, true), (7, true), (8, true), (9, true), (10, false), (11, true), (12, true), (13, true)] (fun W => BlockAt W b4 #[.int .i64 a, .int .i64 b, .int .i64 c, .slice s1 K.length t1] 24 ∧ BlockAt W b5 #[.int .i64 a, .int .i64 b, .int .i64 c', .slice s3 K'.length t3] 24 ∧ Hid (Ints W (.slice s1 K.length t1) K ∧ Ints W (.slice s3 K'.length t3) K' ∧ Below w.heap.size w W))
        (by kernel_rfl) (by kernel_rfl) (by kernel_rfl) (by kernel_rfl) (fun d _ _ _ _ h => by cases d <;> exact h) ⟨HX.out.1.drew, HX.out.2.2.1.drew, Lib.hid ⟨HX.out.2.1, HX.out.2.2.2.1, HX.out.2.2.2.2.drew⟩⟩ (fun hS => ?_)
      repeat (first
        | (refine SeqH.take (v := ?_) rfl (by rfl) ?_ ?_; rotate_left; (· intro w hSw; (try dsimp only at hSw); have c0 := hSw.1.cell 0; have c1 := hSw.1.cell 1; have c2 := hSw.1.cell 2; have c3 := hSw.1.cell 3; have d0 := hSw.2.1.cell 0; have d1 := hSw.2.1.cell 1; have d2 := hSw.2.1.cell 2; have d3 := hSw.2.1.cell 3; go_simp; (try with_reducible rfl)); simp only [Act.put, List.setIfInBounds_toArray, List.set_cons_zero, List.set_cons_succ])
        | (refine SeqH.skip rfl (by rfl) ?_; simp only [Act.put, List.setIfInBounds_toArray, List.set_cons_zero, List.set_cons_succ]))
      refine SeqH.step rfl (by rfl) (fun K0 hK => ?_)
      go_simp
      go_at_call 47
      refine (latticeOf_any ⟨a, b, c⟩ (.slice s1 K.length t1) _ rfl).mono ?_
      rintro e w3 ⟨rfl, hb1⟩
      try dsimp only
      have hS2 := And.intro (hS.1.below hb1 hS.1.lt) (And.intro (hS.2.1.below hb1 hS.2.1.lt) (Lib.hid (And.intro (hS.2.2.out.1.all hb1) (And.intro (hS.2.2.out.2.1.all hb1) (below_step hS.2.2.out.2.2 hb1)))))
      refine hK.out _ _ hS2 (fun _ => ?_)
      clear hK K0 hb1 hS
      have hS := hS2
      clear hS2
      try simp only [Act.put, List.setIfInBounds_toArray, List.set_cons_zero, List.set_cons_succ]
      repeat (first
        | (refine SeqH.take (v := ?_) rfl (by rfl) ?_ ?_; rotate_left; (· intro w hSw; (try dsimp only at hSw); have c0 := hSw.1.cell 0; have c1 := hSw.1.cell 1; have c2 := hSw.1.cell 2; have c3 := hSw.1.cell 3; have d0 := hSw.2.1.cell 0; have d1 := hSw.2.1.cell 1; have d2 := hSw.2.1.cell 2; have d3 := hSw.2.1.cell 3; go_simp; (try with_reducible rfl)); simp only [Act.put, List.setIfInBounds_toArray, List.set_cons_zero, List.set_cons_succ])
        | (refine SeqH.skip rfl (by rfl) ?_; simp only [Act.put, List.setIfInBounds_toArray, List.set_cons_zero, List.set_cons_succ]))
      refine SeqH.step rfl (by rfl) (fun K0 hK => ?_)
      go_simp
      go_at_call 47
      refine (latticeOf_any ⟨a, b, c'⟩ (.slice s3 K'.length t3) _ rfl).mono ?_
      rintro e w3 ⟨rfl, hb1⟩
      try dsimp only
      have hS2 := And.intro (hS.1.below hb1 hS.1.lt) (And.intro (hS.2.1.below hb1 hS.2.1.lt) (Lib.hid (And.intro (hS.2.2.out.1.all hb1) (And.intro (hS.2.2.out.2.1.all hb1) (below_step hS.2.2.out.2.2 hb1)))))
      refine hK.out _ _ hS2 (fun _ => ?_)
      clear hK K0 hb1 hS
      have hS := hS2
      clear hS2
      try simp only [Act.put, List.setIfInBounds_toArray, List.set_cons_zero, List.set_cons_succ]
      repeat (first
        | (refine SeqH.take (v := ?_) rfl (by rfl) ?_ ?_; rotate_left; (· intro w hSw; (try dsimp only at hSw); have c0 := hSw.1.cell 0; have c1 := hSw.1.cell 1; have c2 := hSw.1.cell 2; have c3 := hSw.1.cell 3; have d0 := hSw.2.1.cell 0; have d1 := hSw.2.1.cell 1; have d2 := hSw.2.1.cell 2; have d3 := hSw.2.1.cell 3; go_simp; (try with_reducible rfl)); simp only [Act.put, List.setIfInBounds_toArray, List.set_cons_zero, List.set_cons_succ])
        | (refine SeqH.skip rfl (by rfl) ?_; simp only [Act.put, List.setIfInBounds_toArray, List.set_cons_zero, List.set_cons_succ]))
      refine SeqH.pass rfl (by rfl) hS ?_
      try simp only [Act.put, List.setIfInBounds_toArray, List.set_cons_zero, List.set_cons_succ]
      repeat (first
        | (refine SeqH.take (v := ?_) rfl (by rfl) ?_ ?_; rotate_left; (· intro w hSw; (try dsimp only at hSw); have c0 := hSw.1.cell 0; have c1 := hSw.1.cell 1; have c2 := hSw.1.cell 2; have c3 := hSw.1.cell 3; have d0 := hSw.2.1.cell 0; have d1 := hSw.2.1.cell 1; have d2 := hSw.2.1.cell 2; have d3 := hSw.2.1.cell 3; go_simp; (try with_reducible rfl)); simp only [Act.put, List.setIfInBounds_toArray, List.set_cons_zero, List.set_cons_succ])
        | (refine SeqH.skip rfl (by rfl) ?_; simp only [Act.put, List.setIfInBounds_toArray, List.set_cons_zero, List.set_cons_succ]))
      refine SeqH.done ?_
      have HZ := Lib.hid hS.2.2.out.2.2
      clear hS
      go_wp2
      exact bodyPost_ret (v := .tuple #[.bool false, .int .i64 0]) (by simp [results, Tryz.results14, go_sem]) rfl ⟨by rw [← HRR.out, HR.out], HZ.out⟩
    subst e2
    have q2 : (c == c) = true := beq_self_eq_true _
    have HR : Hid (eqP a b c K a b c K' = decide (K = K')) := Lib.hid (by unfold eqP; simp)
    go_upto_region 5 with fail
    refine wp_region_seq [(0, true), (2, true), (1, false), (3, false), (4, true), (5, true), (6, true), (7, true), (8, true), (9, true), (10, false), (11, true), (12, true), (13, true)] (fun W => BlockAt W b4 #[.int .i64 a, .int .i64 b, .int .i64 c, .slice s1 K.length t1] 24 ∧ BlockAt W b5 #[.int .i64 a, .int .i64 b, .int .i64 c, .slice s3 K'.length t3] 24 ∧ Hid (Ints W (.slice s1 K.length t1) K ∧ Ints W (.slice s3 K'.length t3) K' ∧ Below w.heap.size w W))
      (by kernel_rfl) (by kernel_rfl) (by kernel_rfl) (by kernel_rfl) (fun d _ _ _ _ h => by cases d <;> exact h) ⟨HX.out.1.drew, HX.out.2.2.1.drew, Lib.hid ⟨HX.out.2.1, HX.out.2.2.2.1, HX.out.2.2.2.2.drew⟩⟩ (fun hS => ?_)
    repeat (first
      | (refine SeqH.take (v := ?_) rfl (by rfl) ?_ ?_; rotate_left; (· intro w hSw; (try dsimp only at hSw); have c0 := hSw.1.cell 0; have c1 := hSw.1.cell 1; have c2 := hSw.1.cell 2; have c3 := hSw.1.cell 3; have d0 := hSw.2.1.cell 0; have d1 := hSw.2.1.cell 1; have d2 := hSw.2.1.cell 2; have d3 := hSw.2.1.cell 3; go_simp; (try with_reducible rfl)); simp only [Act.put, List.setIfInBounds_toArray, List.set_cons_zero, List.set_cons_succ])
      | (refine SeqH.skip rfl (by rfl) ?_; simp only [Act.put, List.setIfInBounds_toArray, List.set_cons_zero, List.set_cons_succ]))
    refine SeqH.step rfl (by rfl) (fun K0 hK => ?_)
    go_simp
    go_at_call 47
    refine (latticeOf_any ⟨a, b, c⟩ (.slice s1 K.length t1) _ rfl).mono ?_
    rintro e w3 ⟨rfl, hb1⟩
    try dsimp only
    have hS2 := And.intro (hS.1.below hb1 hS.1.lt) (And.intro (hS.2.1.below hb1 hS.2.1.lt) (Lib.hid (And.intro (hS.2.2.out.1.all hb1) (And.intro (hS.2.2.out.2.1.all hb1) (below_step hS.2.2.out.2.2 hb1)))))
    refine hK.out _ _ hS2 (fun _ => ?_)
    clear hK K0 hb1 hS
    have hS := hS2
    clear hS2
    try simp only [Act.put, List.setIfInBounds_toArray, List.set_cons_zero, List.set_cons_succ]
    repeat (first
      | (refine SeqH.take (v := ?_) rfl (by rfl) ?_ ?_; rotate_left; (· intro w hSw; (try dsimp only at hSw); have c0 := hSw.1.cell 0; have c1 := hSw.1.cell 1; have c2 := hSw.1.cell 2; have c3 := hSw.1.cell 3; have d0 := hSw.2.1.cell 0; have d1 := hSw.2.1.cell 1; have d2 := hSw.2.1.cell 2; have d3 := hSw.2.1.cell 3; go_simp; (try with_reducible rfl)); simp only [Act.put, List.setIfInBounds_toArray, List.set_cons_zero, List.set_cons_succ])
      | (refine SeqH.skip rfl (by rfl) ?_; simp only [Act.put, List.setIfInBounds_toArray, List.set_cons_zero, List.set_cons_succ]))
    refine SeqH.step rfl (by rfl) (fun K0 hK => ?_)
    go_simp
    go_at_call 47
    refine (latticeOf_any ⟨a, b, c⟩ (.slice s3 K'.length t3) _ rfl).mono ?_
    rintro e w3 ⟨rfl, hb1⟩
    try dsimp only
    have hS2 := And.intro (hS.1.below hb1 hS.1.lt) (And.intro (hS.2.1.below hb1 hS.2.1.lt) (Lib.hid (And.intro (hS.2.2.out.1.all hb1) (And.intro (hS.2.2.out.2.1.all hb1) (below_step hS.2.2.out.2.2 hb1)))))
    refine hK.out _ _ hS2 (fun _ => ?_)
    clear hK K0 hb1 hS
    have hS := hS2
    clear hS2
    try simp only [Act.put, List.setIfInBounds_toArray, List.set_cons_zero, List.set_cons_succ]
    repeat (first
      | (refine SeqH.take (v := ?_) rfl (by rfl) ?_ ?_; rotate_left; (· intro w hSw; (try dsimp only at hSw); have c0 := hSw.1.cell 0; have c1 := hSw.1.cell 1; have c2 := hSw.1.cell 2; have c3 := hSw.1.cell 3; have d0 := hSw.2.1.cell 0; have d1 := hSw.2.1.cell 1; have d2 := hSw.2.1.cell 2; have d3 := hSw.2.1.cell 3; go_simp; (try with_reducible rfl)); simp only [Act.put, List.setIfInBounds_toArray, List.set_cons_zero, List.set_cons_succ])
      | (refine SeqH.skip rfl (by rfl) ?_; simp only [Act.put, List.setIfInBounds_toArray, List.set_cons_zero, List.set_cons_succ]))
    refine SeqH.step rfl (by rfl) (fun K0 hK => ?_)
    go_simp
    go_at_call 48
    refine (sliceEq_any _ _ K K' _ hS.2.2.out.1 hS.2.2.out.2.1 EQ.out.1 EQ.out.2.1 (by have := EQ.out.2.2.1; omega) (by have := EQ.out.2.2.2; omega)).mono ?_
    rintro e w3 ⟨rfl, hb1⟩
    try dsimp only
    have hS2 := And.intro (hS.1.below hb1 hS.1.lt) (And.intro (hS.2.1.below hb1 hS.2.1.lt) (Lib.hid (And.intro (hS.2.2.out.1.all hb1) (And.intro (hS.2.2.out.2.1.all hb1) (below_step hS.2.2.out.2.2 hb1)))))
    refine hK.out _ _ hS2 (fun _ => ?_)
    clear hK K0 hb1 hS
    have hS := hS2
    clear hS2
    try simp only [Act.put, List.setIfInBounds_toArray, List.set_cons_zero, List.set_cons_succ]
    repeat (first
      | (refine SeqH.take (v := ?_) rfl (by rfl) ?_ ?_; rotate_left; (· intro w hSw; (try dsimp only at hSw); have c0 := hSw.1.cell 0; have c1 := hSw.1.cell 1; have c2 := hSw.1.cell 2; have c3 := hSw.1.cell 3; have d0 := hSw.2.1.cell 0; have d1 := hSw.2.1.cell 1; have d2 := hSw.2.1.cell 2; have d3 := hSw.2.1.cell 3; go_simp; (try with_reducible rfl)); simp only [Act.put, List.setIfInBounds_toArray, List.set_cons_zero, List.set_cons_succ])
      | (refine SeqH.skip rfl (by rfl) ?_; simp only [Act.put, List.setIfInBounds_toArray, List.set_cons_zero, List.set_cons_succ]))
    refine SeqH.done ?_
    have HZ := Lib.hid hS.2.2.out.2.2
    clear hS
    go_wp2
    exact bodyPost_ret (v := .tuple #[.bool (decide (K = K')), .int .i64 0]) (by simp [results, Tryz.results14, go_sem]) rfl ⟨by rw [← HRR.out, HR.out], HZ.out⟩
end Go.Proofs.YtobolflgoljafaaGreatDoor
