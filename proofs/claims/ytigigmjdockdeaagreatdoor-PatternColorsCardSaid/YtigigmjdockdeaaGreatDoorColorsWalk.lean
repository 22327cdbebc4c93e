/- PatternColors returns true, whatever the pattern and the cell. -/
import Derived.Test.YtigigmjdockdeaaGreatDoorPat30
import Derived.BigQuiet
namespace Go.Proofs.YtigigmjdockdeaaGreatDoor
open Go.RowKit Go.Sort

theorem long_any (A B C : Int) (v : Value) (cs : List Int) (w : World) (hv : Ints w v cs) :
    Calls Tryz.prog 17 #[.agg #[.int .i64 A, .int .i64 B, .int .i64 C, v]] w fun e w' => e = .returned (.bool (decide (400 < cs.length))) ∧ Below w.heap.size w w' := by
  obtain ⟨va, vc, rfl, _⟩ := hv.look'
  have hw := Lib.hid (below_alloc (Below.refl w.heap.size w) (.cells #[.int .i64 A, .int .i64 B, .int .i64 C, .slice va cs.length vc] 24))
  clear hv
  by_cases h : 400 < cs.length
  · have h1 : decide (400 < cs.length) = true := decide_eq_true h
    have h2 : decide ((400 : Int) < (cs.length : Int)) = true := decide_eq_true (by omega)
    rw [h1]
    go_enter Tryz.func17, Tryz.ntmps17
    go_wp2
    go_ret
    exact ⟨rfl, hw.out⟩
  · have h1 : decide (400 < cs.length) = false := decide_eq_false h
    have h2 : decide ((400 : Int) < (cs.length : Int)) = false := decide_eq_false (by omega)
    rw [h1]
    go_enter Tryz.func17, Tryz.ntmps17
    go_wp2
    go_ret
    exact ⟨rfl, hw.out⟩
/-- The least basis of a pattern's plane. -/
noncomputable def lat (A B C : Int) (cs : List Int) : Pt.Lat := Pt.bas (Pt.Per (Pt.col ⟨A, B, C⟩ (csF cs)))
theorem lat_is {A B C : Int} {cs : List Int} (h : validE A B C cs = 0) : Pt.IsB (Pt.Per (Pt.col ⟨A, B, C⟩ (csF cs))) (lat A B C cs) := by
  obtain ⟨⟨a1, a2⟩, ⟨c1, c2⟩, ⟨b1, b2⟩, h1, h2, h3⟩ := valid_ok h
  exact (Pt.Plane.ofLat ⟨a1, b1, by show B < A; omega, c1⟩ (csF cs)).isP

theorem two_of (E a : Int) : ∃ b, (if E = 0 then Value.tuple #[.int .i64 a, .int .i64 0] else .tuple #[.int .i64 0, .int .i64 E]) = .tuple #[.int .i64 b, .int .i64 E] := by
  by_cases h : E = 0
  · exact ⟨a, by rw [if_pos h, h]⟩
  · exact ⟨0, by rw [if_neg h]⟩
theorem three_of (E a c : Int) : ∃ b d, (if E = 0 then Value.tuple #[.int .i64 a, .int .i64 c, .int .i64 0] else .tuple #[.int .i64 0, .int .i64 0, .int .i64 E]) = .tuple #[.int .i64 b, .int .i64 d, .int .i64 E] := by
  by_cases h : E = 0
  · exact ⟨a, c, by rw [if_pos h, h]⟩
  · exact ⟨0, 0, by rw [if_neg h]⟩

set_option maxRecDepth 20000 in
set_option maxHeartbeats 4000000 in
theorem colors_walk (A B C x y : Int) (v : Value) (cs : List Int) (w : World) (hE : Env w) (hv : Ints w v cs) (hA1 : -9223372036854775808 ≤ A) (hA2 : A ≤ 9223372036854775807) :
    Calls Tryz.prog 3 #[.agg #[.int .i64 A, .int .i64 B, .int .i64 C, v], .int .i64 x, .int .i64 y] w fun e w' => e = .returned (.bool true) ∧ Below w.heap.size w w' := by
  have LO := Lib.hid (fun W (hW : Below w.heap.size w W) => long_any A B C v cs W (hv.all hW))
  have KN := Lib.hid (fun W (hW : Below w.heap.size w W) => known_any W (hE.all hW))
  obtain ⟨va, vc, rfl, _⟩ := hv.look'
  have b0 := BlockAt.new w #[.int .i64 A, .int .i64 B, .int .i64 C, .slice va cs.length vc] 24
  have hw := (Below.refl w.heap.size w).alloc (Nat.le_refl _) (.cells #[.int .i64 A, .int .i64 B, .int .i64 C, .slice va cs.length vc] 24)
  have HB := Lib.hid (And.intro b0 hw)
  clear b0 hw
  by_cases hL : 400 < cs.length
  · have h1 : decide (400 < cs.length) = true := decide_eq_true hL
    rw [h1] at LO
    clear hv hE hL h1
    go_enter Tryz.func3, Tryz.ntmps3
    go_wp2_with fail
    refine (LO.out _ HB.out.2).mono ?_
    rintro e w1 ⟨rfl, hb1⟩
    have HW := Lib.hid (below_step HB.out.2 hb1)
    clear hb1 HB LO
    go_wp2_with fail
    refine (KN.out _ HW.out).mono ?_
    rintro e w2 ⟨rfl, hb2⟩
    have HW2 := Lib.hid (below_step HW.out hb2)
    clear hb2 HW KN
    go_wp2
    go_ret
    exact ⟨rfl, HW2.out⟩
  have h1 : decide (400 < cs.length) = false := decide_eq_false hL
  rw [h1] at LO
  have hkl : cs.length ≤ 1000000000 := by omega
  obtain ⟨a1, ha1⟩ := two_of (placeE A B C cs x y) (Pt.col ⟨A, B, C⟩ (csF cs) x y)
  obtain ⟨a2, a3, ha2⟩ := three_of (placeE A B C cs x y) (Pt.hx (lat A B C cs) x y) (Pt.hy (lat A B C cs) y)
  have AT := Lib.hid (fun W (hW : Below w.heap.size w W) => At_any A B C _ cs x y W (hv.all hW) hkl hA1 hA2)
  have RA := Lib.hid (fun W (hW : Below w.heap.size w W) => refAt_any A B C _ cs x y W (hv.all hW) hkl hA1 hA2)
  have HO := Lib.hid (fun W (hW : Below w.heap.size w W) => Home_any A B C _ cs x y (lat A B C cs) W (hv.all hW) hkl hA1 hA2 lat_is)
  have RH := Lib.hid (fun W (hW : Below w.heap.size w W) => refHome_any A B C _ cs x y (lat A B C cs) W (hv.all hW) hkl hA1 hA2 lat_is)
  have VA := Lib.hid (fun W (hW : Below w.heap.size w W) => validate_any A B C _ cs W (hv.all hW) hkl hA1 hA2)
  have RV := Lib.hid (fun W (hW : Below w.heap.size w W) => refValidate_any A B C _ cs W (hv.all hW) hkl hA1 hA2)
  rw [ha1] at AT RA
  rw [ha2] at HO RH
  generalize placeE A B C cs x y = q at *
  generalize validE A B C cs = q2 at *
  clear ha1 ha2 hv hE h1 hL
  have q1 : (q == q) = true := beq_self_eq_true _
  have q3 : (q2 == q2) = true := beq_self_eq_true _
  have q4 : (a1 == a1) = true := beq_self_eq_true _
  have q5 : (a2 == a2) = true := beq_self_eq_true _
  have q6 : (a3 == a3) = true := beq_self_eq_true _
  go_enter Tryz.func3, Tryz.ntmps3
  go_wp2_with fail
  refine (LO.out _ HB.out.2).mono ?_
  rintro e w1 ⟨rfl, hb1⟩
  have HN := Lib.hid (And.intro (HB.out.1.below hb1 HB.out.1.lt) (below_step HB.out.2 hb1))
  clear hb1 HB LO
  have c0 : World.cell? _ _ = some (.int .i64 A) := HN.out.1.cell 0
  have c1 : World.cell? _ _ = some (.int .i64 B) := HN.out.1.cell 1
  have c2 : World.cell? _ _ = some (.int .i64 C) := HN.out.1.cell 2
  have c3 : World.cell? _ _ = some (.slice va cs.length vc) := HN.out.1.cell 3
  go_wp2_with fail
  refine (AT.out _ HN.out.2).mono ?_
  rintro e w2 ⟨rfl, hb1⟩
  have HN2 := Lib.hid (And.intro (HN.out.1.below hb1 HN.out.1.lt) (below_step HN.out.2 hb1))
  clear hb1 HN AT c0 c1 c2 c3
  have HN := HN2
  clear HN2
  have c0 : World.cell? _ _ = some (.int .i64 A) := HN.out.1.cell 0
  have c1 : World.cell? _ _ = some (.int .i64 B) := HN.out.1.cell 1
  have c2 : World.cell? _ _ = some (.int .i64 C) := HN.out.1.cell 2
  have c3 : World.cell? _ _ = some (.slice va cs.length vc) := HN.out.1.cell 3
  go_wp2_with fail
  refine (RA.out _ HN.out.2).mono ?_
  rintro e w2 ⟨rfl, hb1⟩
  have HN2 := Lib.hid (And.intro (HN.out.1.below hb1 HN.out.1.lt) (below_step HN.out.2 hb1))
  clear hb1 HN RA c0 c1 c2 c3
  have HN := HN2
  clear HN2
  have c0 : World.cell? _ _ = some (.int .i64 A) := HN.out.1.cell 0
  have c1 : World.cell? _ _ = some (.int .i64 B) := HN.out.1.cell 1
  have c2 : World.cell? _ _ = some (.int .i64 C) := HN.out.1.cell 2
  have c3 : World.cell? _ _ = some (.slice va cs.length vc) := HN.out.1.cell 3
  go_wp2_with fail
  refine (HO.out _ HN.out.2).mono ?_
  rintro e w2 ⟨rfl, hb1⟩
  have HN2 := Lib.hid (And.intro (HN.out.1.below hb1 HN.out.1.lt) (below_step HN.out.2 hb1))
  clear hb1 HN HO c0 c1 c2 c3
  have HN := HN2
  clear HN2
  have c0 : World.cell? _ _ = some (.int .i64 A) := HN.out.1.cell 0
  have c1 : World.cell? _ _ = some (.int .i64 B) := HN.out.1.cell 1
  have c2 : World.cell? _ _ = some (.int .i64 C) := HN.out.1.cell 2
  have c3 : World.cell? _ _ = some (.slice va cs.length vc) := HN.out.1.cell 3
  go_wp2_with fail
  refine (RH.out _ HN.out.2).mono ?_
  rintro e w2 ⟨rfl, hb1⟩
  have HN2 := Lib.hid (And.intro (HN.out.1.below hb1 HN.out.1.lt) (below_step HN.out.2 hb1))
  clear hb1 HN RH c0 c1 c2 c3
  have HN := HN2
  clear HN2
  go_upto_region 7 with fail
  refine wp_region_seq [(0, true), (2, true), (1, false), (3, false), (4, true), (5, true), (6, true), (7, true), (8, true), (9, true), (10, true), (11, true), (12, true), (13, true), (14, true), (15, true), (16, true), (17, true), (18, true), (19, true), (20, true), (21, true), (22, true), (23, true), (24, true), (25, true), (26, true), (27, true), (28, true), (29, true), (30, true), (31, false), (32, true), (33, true)] (fun W => BlockAt W w.heap.size #[.int .i64 A, .int .i64 B, .int .i64 C, .slice va cs.length vc] 24 ∧ Hid (Below w.heap.size w W))
    (by kernel_rfl) (by kernel_rfl) (by kernel_rfl) (by kernel_rfl) (fun d _ _ _ _ h => by cases d <;> exact h) ⟨HN.out.1.drew, Lib.hid HN.out.2.drew⟩ (fun hS => ?_)
  clear HN
  repeat (first
    | (refine SeqH.take (v := ?_) rfl (by rfl) ?_ ?_; rotate_left; (· intro w hSw; (try dsimp only at hSw); have c0 := hSw.1.cell 0; have c1 := hSw.1.cell 1; have c2 := hSw.1.cell 2; have c3 := hSw.1.cell 3; go_simp; (try with_reducible rfl)); simp only [Act.put, List.setIfInBounds_toArray, List.set_cons_zero, List.set_cons_succ])
    | (refine SeqH.skip rfl (by rfl) ?_; simp only [Act.put, List.setIfInBounds_toArray, List.set_cons_zero, List.set_cons_succ]))
  refine SeqH.step rfl (by rfl) (fun K hK => ?_)
  go_simp
  go_at_call 23
  refine (VA.out _ hS.2.out).mono ?_
  rintro e w3 ⟨rfl, hb1⟩
  try dsimp only
  have hS2 : BlockAt w3 w.heap.size #[.int .i64 A, .int .i64 B, .int .i64 C, .slice va cs.length vc] 24 ∧ Hid (Below w.heap.size w w3) := ⟨hS.1.below hb1 hS.1.lt, Lib.hid (below_step hS.2.out hb1)⟩
  refine hK.out _ _ hS2 (fun _ => ?_)
  clear hK K hb1 hS VA
  have hS := hS2
  clear hS2
  try simp only [Act.put, List.setIfInBounds_toArray, List.set_cons_zero, List.set_cons_succ]
  repeat (first
    | (refine SeqH.take (v := ?_) rfl (by rfl) ?_ ?_; rotate_left; (· intro w hSw; (try dsimp only at hSw); have c0 := hSw.1.cell 0; have c1 := hSw.1.cell 1; have c2 := hSw.1.cell 2; have c3 := hSw.1.cell 3; go_simp; (try with_reducible rfl)); simp only [Act.put, List.setIfInBounds_toArray, List.set_cons_zero, List.set_cons_succ])
    | (refine SeqH.skip rfl (by rfl) ?_; simp only [Act.put, List.setIfInBounds_toArray, List.set_cons_zero, List.set_cons_succ]))
  refine SeqH.step rfl (by rfl) (fun K hK => ?_)
  go_simp
  go_at_call 24
  refine (RV.out _ hS.2.out).mono ?_
  rintro e w3 ⟨rfl, hb1⟩
  try dsimp only
  have hS2 : BlockAt w3 w.heap.size #[.int .i64 A, .int .i64 B, .int .i64 C, .slice va cs.length vc] 24 ∧ Hid (Below w.heap.size w w3) := ⟨hS.1.below hb1 hS.1.lt, Lib.hid (below_step hS.2.out hb1)⟩
  refine hK.out _ _ hS2 (fun _ => ?_)
  clear hK K hb1 hS RV
  have hS := hS2
  clear hS2
  try simp only [Act.put, List.setIfInBounds_toArray, List.set_cons_zero, List.set_cons_succ]
  repeat (first
    | (refine SeqH.take (v := ?_) rfl (by rfl) ?_ ?_; rotate_left; (· intro w hSw; (try dsimp only at hSw); have c0 := hSw.1.cell 0; have c1 := hSw.1.cell 1; have c2 := hSw.1.cell 2; have c3 := hSw.1.cell 3; go_simp; (try with_reducible rfl)); simp only [Act.put, List.setIfInBounds_toArray, List.set_cons_zero, List.set_cons_succ])
    | (refine SeqH.skip rfl (by rfl) ?_; simp only [Act.put, List.setIfInBounds_toArray, List.set_cons_zero, List.set_cons_succ]))
  refine SeqH.step rfl (by rfl) (fun K hK => ?_)
  go_simp
  go_at_call 18
  refine (KN.out _ hS.2.out).mono ?_
  rintro e w3 ⟨rfl, hb1⟩
  try dsimp only
  have hS2 : BlockAt w3 w.heap.size #[.int .i64 A, .int .i64 B, .int .i64 C, .slice va cs.length vc] 24 ∧ Hid (Below w.heap.size w w3) := ⟨hS.1.below hb1 hS.1.lt, Lib.hid (below_step hS.2.out hb1)⟩
  refine hK.out _ _ hS2 (fun _ => ?_)
  clear hK K hb1 hS KN
  have hS := hS2
  clear hS2
  try simp only [Act.put, List.setIfInBounds_toArray, List.set_cons_zero, List.set_cons_succ]
  repeat (first
    | (refine SeqH.take (v := ?_) rfl (by rfl) ?_ ?_; rotate_left; (· intro w hSw; (try dsimp only at hSw); have c0 := hSw.1.cell 0; have c1 := hSw.1.cell 1; have c2 := hSw.1.cell 2; have c3 := hSw.1.cell 3; go_simp; (try with_reducible rfl)); simp only [Act.put, List.setIfInBounds_toArray, List.set_cons_zero, List.set_cons_succ])
    | (refine SeqH.skip rfl (by rfl) ?_; simp only [Act.put, List.setIfInBounds_toArray, List.set_cons_zero, List.set_cons_succ]))
  refine SeqH.done ?_
  have HZ := Lib.hid hS.2.out
  clear hS
  go_wp2
  go_ret
  exact ⟨rfl, HZ.out⟩
end Go.Proofs.YtigigmjdockdeaaGreatDoor
