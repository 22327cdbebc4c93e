/- PatternColors returns true, whatever the pattern and the cell. PatternLeasts returns true, whatever the pattern. -/
import Derived.Test.YtigigmjdockdeaaGreatDoorPatG
import Derived.BigQuiet
namespace Go.Proofs.YtigigmjdockdeaaGreatDoor
open Go.RowKit Go.Sort

theorem long_any (A B C : Int) (v : Value) (cs : List Int) (w : World) (hv : Ints w v cs) :
    Calls Tryz.prog 17 #[.agg #[.int .i64 A, .int .i64 B, .int .i64 C, v]] w fun e w' => e = .returned (.bool (decide (400 < cs.length))) ∧ Below w.heap.size w w' := by
  obtain ⟨va, vc, rfl, _⟩ := hv.look'
  have hw := Lib.hid (below_alloc (Below.refl w.heap.size w) (.cells #[.int .i64 A, .int .i64 B, .int .i64 C, .slice va cs.length vc] 24))
  clear hv
  by_cases h : 400 < cs.length
  · have h1 : decide (400 < cs.length) = true := decide_eq_true h
    have h2 : decide ((400 : Int) < (cs.length : Int)) = true := decide_eq_true (by omega)
    rw [h1]
    go_enter Tryz.func17, Tryz.ntmps17
    go_wp2
    go_ret
    exact ⟨rfl, hw.out⟩
  · have h1 : decide (400 < cs.length) = false := decide_eq_false h
    have h2 : decide ((400 : Int) < (cs.length : Int)) = false := decide_eq_false (by omega)
    rw [h1]
    go_enter Tryz.func17, Tryz.ntmps17
    go_wp2
    go_ret
    exact ⟨rfl, hw.out⟩
/-- The least basis of a pattern's plane. -/
noncomputable def lat (A B C : Int) (cs : List Int) : Pt.Lat := Pt.bas (Pt.Per (Pt.col ⟨A, B, C⟩ (csF cs)))
theorem lat_is {A B C : Int} {cs : List Int} (h : validE A B C cs = 0) : Pt.IsB (Pt.Per (Pt.col ⟨A, B, C⟩ (csF cs))) (lat A B C cs) := by
  obtain ⟨⟨a1, a2⟩, ⟨c1, c2⟩, ⟨b1, b2⟩, h1, h2, h3⟩ := valid_ok h
  exact (Pt.Plane.ofLat ⟨a1, b1, by show B < A; omega, c1⟩ (csF cs)).isP

theorem two_of (E a : Int) : ∃ b, (if E = 0 then Value.tuple #[.int .i64 a, .int .i64 0] else .tuple #[.int .i64 0, .int .i64 E]) = .tuple #[.int .i64 b, .int .i64 E] := by
  by_cases h : E = 0
  · exact ⟨a, by rw [if_pos h, h]⟩
  · exact ⟨0, by rw [if_neg h]⟩
theorem three_of (E a c : Int) : ∃ b d, (if E = 0 then Value.tuple #[.int .i64 a, .int .i64 c, .int .i64 0] else .tuple #[.int .i64 0, .int .i64 0, .int .i64 E]) = .tuple #[.int .i64 b, .int .i64 d, .int .i64 E] := by
  by_cases h : E = 0
  · exact ⟨a, c, by rw [if_pos h, h]⟩
  · exact ⟨0, 0, by rw [if_neg h]⟩

set_option maxRecDepth 20000 in
set_option maxHeartbeats 4000000 in
theorem colors_walk (A B C x y : Int) (v : Value) (cs : List Int) (w : World) (hE : Env w) (hv : Ints w v cs) (hA1 : -9223372036854775808 ≤ A) (hA2 : A ≤ 9223372036854775807) :
    Calls Tryz.prog 3 #[.agg #[.int .i64 A, .int .i64 B, .int .i64 C, v], .int .i64 x, .int .i64 y] w fun e w' => e = .returned (.bool true) ∧ Below w.heap.size w w' := by
  have LO := Lib.hid (fun W (hW : Below w.heap.size w W) => long_any A B C v cs W (hv.all hW))
  have KN := Lib.hid (fun W (hW : Below w.heap.size w W) => known_any W (hE.all hW))
  obtain ⟨va, vc, rfl, _⟩ := hv.look'
  have b0 := BlockAt.new w #[.int .i64 A, .int .i64 B, .int .i64 C, .slice va cs.length vc] 24
  have hw := (Below.refl w.heap.size w).alloc (Nat.le_refl _) (.cells #[.int .i64 A, .int .i64 B, .int .i64 C, .slice va cs.length vc] 24)
  have HB := Lib.hid (And.intro b0 hw)
  clear b0 hw
  by_cases hL : 400 < cs.length
  · have h1 : decide (400 < cs.length) = true := decide_eq_true hL
    rw [h1] at LO
    clear hv hE hL h1
    go_enter Tryz.func3, Tryz.ntmps3
    go_wp2_with fail
    refine (LO.out _ HB.out.2).mono ?_
    rintro e w1 ⟨rfl, hb1⟩
    have HW := Lib.hid (below_step HB.out.2 hb1)
    clear hb1 HB LO
    go_wp2_with fail
    refine (KN.out _ HW.out).mono ?_
    rintro e w2 ⟨rfl, hb2⟩
    have HW2 := Lib.hid (below_step HW.out hb2)
    clear hb2 HW KN
    go_wp2
    go_ret
    exact ⟨rfl, HW2.out⟩
  have h1 : decide (400 < cs.length) = false := decide_eq_false hL
  rw [h1] at LO
  have hkl : cs.length ≤ 1000000000 := by omega
  obtain ⟨a1, ha1⟩ := two_of (placeE A B C cs x y) (Pt.col ⟨A, B, C⟩ (csF cs) x y)
  obtain ⟨a2, a3, ha2⟩ := three_of (placeE A B C cs x y) (Pt.hx (lat A B C cs) x y) (Pt.hy (lat A B C cs) y)
  have AT := Lib.hid (fun W (hW : Below w.heap.size w W) => At_any A B C _ cs x y W (hv.all hW) hkl hA1 hA2)
  have RA := Lib.hid (fun W (hW : Below w.heap.size w W) => refAt_any A B C _ cs x y W (hv.all hW) hkl hA1 hA2)
  have HO := Lib.hid (fun W (hW : Below w.heap.size w W) => Home_any A B C _ cs x y (lat A B C cs) W (hv.all hW) hkl hA1 hA2 lat_is)
  have RH := Lib.hid (fun W (hW : Below w.heap.size w W) => refHome_any A B C _ cs x y (lat A B C cs) W (hv.all hW) hkl hA1 hA2 lat_is)
  have VA := Lib.hid (fun W (hW : Below w.heap.size w W) => validate_any A B C _ cs W (hv.all hW) hkl hA1 hA2)
  have RV := Lib.hid (fun W (hW : Below w.heap.size w W) => refValidate_any A B C _ cs W (hv.all hW) hkl hA1 hA2)
  rw [ha1] at AT RA
  rw [ha2] at HO RH
  generalize placeE A B C cs x y = q at *
  generalize validE A B C cs = q2 at *
  clear ha1 ha2 hv hE h1 hL
  have q1 : (q == q) = true := beq_self_eq_true _
  have q3 : (q2 == q2) = true := beq_self_eq_true _
  have q4 : (a1 == a1) = true := beq_self_eq_true _
  have q5 : (a2 == a2) = true := beq_self_eq_true _
  have q6 : (a3 == a3) = true := beq_self_eq_true _
  go_enter Tryz.func3, Tryz.ntmps3
  go_wp2_with fail
  refine (LO.out _ HB.out.2).mono ?_
  rintro e w1 ⟨rfl, hb1⟩
  have HN := Lib.hid (And.intro (HB.out.1.below hb1 HB.out.1.lt) (below_step HB.out.2 hb1))
  clear hb1 HB LO
  have c0 : World.cell? _ _ = some (.int .i64 A) := HN.out.1.cell 0
  have c1 : World.cell? _ _ = some (.int .i64 B) := HN.out.1.cell 1
  have c2 : World.cell? _ _ = some (.int .i64 C) := HN.out.1.cell 2
  have c3 : World.cell? _ _ = some (.slice va cs.length vc) := HN.out.1.cell 3
  go_wp2_with fail
  refine (AT.out _ HN.out.2).mono ?_
  rintro e w2 ⟨rfl, hb1⟩
  have HN2 := Lib.hid (And.intro (HN.out.1.below hb1 HN.out.1.lt) (below_step HN.out.2 hb1))
  clear hb1 HN AT c0 c1 c2 c3
  have HN := HN2
  clear HN2
  have c0 : World.cell? _ _ = some (.int .i64 A) := HN.out.1.cell 0
  have c1 : World.cell? _ _ = some (.int .i64 B) := HN.out.1.cell 1
  have c2 : World.cell? _ _ = some (.int .i64 C) := HN.out.1.cell 2
  have c3 : World.cell? _ _ = some (.slice va cs.length vc) := HN.out.1.cell 3
  go_wp2_with fail
  refine (RA.out _ HN.out.2).mono ?_
  rintro e w2 ⟨rfl, hb1⟩
  have HN2 := Lib.hid (And.intro (HN.out.1.below hb1 HN.out.1.lt) (below_step HN.out.2 hb1))
  clear hb1 HN RA c0 c1 c2 c3
  have HN := HN2
  clear HN2
  have c0 : World.cell? _ _ = some (.int .i64 A) := HN.out.1.cell 0
  have c1 : World.cell? _ _ = some (.int .i64 B) := HN.out.1.cell 1
  have c2 : World.cell? _ _ = some (.int .i64 C) := HN.out.1.cell 2
  have c3 : World.cell? _ _ = some (.slice va cs.length vc) := HN.out.1.cell 3
  go_wp2_with fail
  refine (HO.out _ HN.out.2).mono ?_
  rintro e w2 ⟨rfl, hb1⟩
  have HN2 := Lib.hid (And.intro (HN.out.1.below hb1 HN.out.1.lt) (below_step HN.out.2 hb1))
  clear hb1 HN HO c0 c1 c2 c3
  have HN := HN2
  clear HN2
  have c0 : World.cell? _ _ = some (.int .i64 A) := HN.out.1.cell 0
  have c1 : World.cell? _ _ = some (.int .i64 B) := HN.out.1.cell 1
  have c2 : World.cell? _ _ = some (.int .i64 C) := HN.out.1.cell 2
  have c3 : World.cell? _ _ = some (.slice va cs.length vc) := HN.out.1.cell 3
  go_wp2_with fail
  refine (RH.out _ HN.out.2).mono ?_
  rintro e w2 ⟨rfl, hb1⟩
  have HN2 := Lib.hid (And.intro (HN.out.1.below hb1 HN.out.1.lt) (below_step HN.out.2 hb1))
  clear hb1 HN RH c0 c1 c2 c3
  have HN := HN2
  clear HN2
  go_upto_region 7 with fail
  refine wp_region_seq [(0, true), (2, true), (1, false), (3, false), (4, true), (5, true), (6, true), (7, true), (8, true), (9, true), (10, true), (11, true), (12, true), (13, true), (14, true), (15, true), (16, true), (17, true), (18, true), (19, true), (20, true), (21, true), (22, true), (23, true), (24, true), (25, true), (26, true), (27, true), (28, true), (29, true), (30, true), (31, false), (32, true), (33, true)] (fun W => BlockAt W w.heap.size #[.int .i64 A, .int .i64 B, .int .i64 C, .slice va cs.length vc] 24 ∧ Hid (Below w.heap.size w W))
    (by kernel_rfl) (by kernel_rfl) (by kernel_rfl) (by kernel_rfl) (fun d _ _ _ _ h => by cases d <;> exact h) ⟨HN.out.1.drew, Lib.hid HN.out.2.drew⟩ (fun hS => ?_)
  clear HN
  repeat (first
    | (refine SeqH.take (v := ?_) rfl (by rfl) ?_ ?_; rotate_left; (· intro w hSw; (try dsimp only at hSw); have c0 := hSw.1.cell 0; have c1 := hSw.1.cell 1; have c2 := hSw.1.cell 2; have c3 := hSw.1.cell 3; go_simp; (try with_reducible rfl)); simp only [Act.put, List.setIfInBounds_toArray, List.set_cons_zero, List.set_cons_succ])
    | (refine SeqH.skip rfl (by rfl) ?_; simp only [Act.put, List.setIfInBounds_toArray, List.set_cons_zero, List.set_cons_succ]))
  refine SeqH.step rfl (by rfl) (fun K hK => ?_)
  go_simp
  go_at_call 23
  refine (VA.out _ hS.2.out).mono ?_
  rintro e w3 ⟨rfl, hb1⟩
  try dsimp only
  have hS2 : BlockAt w3 w.heap.size #[.int .i64 A, .int .i64 B, .int .i64 C, .slice va cs.length vc] 24 ∧ Hid (Below w.heap.size w w3) := ⟨hS.1.below hb1 hS.1.lt, Lib.hid (below_step hS.2.out hb1)⟩
  refine hK.out _ _ hS2 (fun _ => ?_)
  clear hK K hb1 hS VA
  have hS := hS2
  clear hS2
  try simp only [Act.put, List.setIfInBounds_toArray, List.set_cons_zero, List.set_cons_succ]
  repeat (first
    | (refine SeqH.take (v := ?_) rfl (by rfl) ?_ ?_; rotate_left; (· intro w hSw; (try dsimp only at hSw); have c0 := hSw.1.cell 0; have c1 := hSw.1.cell 1; have c2 := hSw.1.cell 2; have c3 := hSw.1.cell 3; go_simp; (try with_reducible rfl)); simp only [Act.put, List.setIfInBounds_toArray, List.set_cons_zero, List.set_cons_succ])
    | (refine SeqH.skip rfl (by rfl) ?_; simp only [Act.put, List.setIfInBounds_toArray, List.set_cons_zero, List.set_cons_succ]))
  refine SeqH.step rfl (by rfl) (fun K hK => ?_)
  go_simp
  go_at_call 24
  refine (RV.out _ hS.2.out).mono ?_
  rintro e w3 ⟨rfl, hb1⟩
  try dsimp only
  have hS2 : BlockAt w3 w.heap.size #[.int .i64 A, .int .i64 B, .int .i64 C, .slice va cs.length vc] 24 ∧ Hid (Below w.heap.size w w3) := ⟨hS.1.below hb1 hS.1.lt, Lib.hid (below_step hS.2.out hb1)⟩
  refine hK.out _ _ hS2 (fun _ => ?_)
  clear hK K hb1 hS RV
  have hS := hS2
  clear hS2
  try simp only [Act.put, List.setIfInBounds_toArray, List.set_cons_zero, List.set_cons_succ]
  repeat (first
    | (refine SeqH.take (v := ?_) rfl (by rfl) ?_ ?_; rotate_left; (· intro w hSw; (try dsimp only at hSw); have c0 := hSw.1.cell 0; have c1 := hSw.1.cell 1; have c2 := hSw.1.cell 2; have c3 := hSw.1.cell 3; go_simp; (try with_reducible rfl)); simp only [Act.put, List.setIfInBounds_toArray, List.set_cons_zero, List.set_cons_succ])
    | (refine SeqH.skip rfl (by rfl) ?_; simp only [Act.put, List.setIfInBounds_toArray, List.set_cons_zero, List.set_cons_succ]))
  refine SeqH.step rfl (by rfl) (fun K hK => ?_)
  go_simp
  go_at_call 18
  refine (KN.out _ hS.2.out).mono ?_
  rintro e w3 ⟨rfl, hb1⟩
  try dsimp only
  have hS2 : BlockAt w3 w.heap.size #[.int .i64 A, .int .i64 B, .int .i64 C, .slice va cs.length vc] 24 ∧ Hid (Below w.heap.size w w3) := ⟨hS.1.below hb1 hS.1.lt, Lib.hid (below_step hS.2.out hb1)⟩
  refine hK.out _ _ hS2 (fun _ => ?_)
  clear hK K hb1 hS KN
  have hS := hS2
  clear hS2
  try simp only [Act.put, List.setIfInBounds_toArray, List.set_cons_zero, List.set_cons_succ]
  repeat (first
    | (refine SeqH.take (v := ?_) rfl (by rfl) ?_ ?_; rotate_left; (· intro w hSw; (try dsimp only at hSw); have c0 := hSw.1.cell 0; have c1 := hSw.1.cell 1; have c2 := hSw.1.cell 2; have c3 := hSw.1.cell 3; go_simp; (try with_reducible rfl)); simp only [Act.put, List.setIfInBounds_toArray, List.set_cons_zero, List.set_cons_succ])
    | (refine SeqH.skip rfl (by rfl) ?_; simp only [Act.put, List.setIfInBounds_toArray, List.set_cons_zero, List.set_cons_succ]))
  refine SeqH.done ?_
  have HZ := Lib.hid hS.2.out
  clear hS
  go_wp2
  go_ret
  exact ⟨rfl, HZ.out⟩
end Go.Proofs.YtigigmjdockdeaaGreatDoor
namespace Go.Proofs.YtigigmjdockdeaaGreatDoor
open Go.RowKit Go.Sort

abbrev patC (l : Pt.Lat) (v : Value) : Array Value := #[.int .i64 l.a, .int .i64 l.b, .int .i64 l.c, v]
theorem OwnI.ownF {base : Nat} {w : World} {v : Value} {ks : List Int} (h : OwnI base w v ks) : OwnF base w v ks.length (csF ks) := by
  unfold OwnF
  have e : fnL ks.length (csF ks) = ks := by
    unfold fnL csF
    refine List.ext_getElem (by simp) fun j h1 h2 => by simp [List.getD, h2]
  rw [e]; exact h
theorem OwnI.shape {base : Nat} {w : World} {v : Value} {ks : List Int} (h : OwnI base w v ks) : v = .slice none 0 0 ∧ ks.length = 0 ∨ ∃ g cap, v = .slice (some ⟨g, 0, none⟩) ks.length cap ∧ base ≤ g ∧ g < w.heap.size := by
  rcases h with ⟨_, ⟨h1, h2⟩ | ⟨g, cap, cur, h1, h2, h3, _⟩⟩
  · exact .inl ⟨h1, h2⟩
  · exact .inr ⟨g, cap, h1, h2, (Array.getElem?_eq_some_iff.1 h3).1⟩
/-- In any later world. -/
theorem later {B : Nat} {w w1 w2 : World} (h : Below B w w1) (hB : B ≤ w1.heap.size) (k : Below w1.heap.size w1 w2) : Below B w w2 := h.trans (k.mono hB)

set_option maxRecDepth 20000 in
set_option maxHeartbeats 4000000 in
theorem leasts_walk (A B C : Int) (v : Value) (cs : List Int) (w : World) (hE : Env w) (hv : Ints w v cs) (hn : nilOk v) (hA1 : -9223372036854775808 ≤ A) (hA2 : A ≤ 9223372036854775807) :
    Calls Tryz.prog 4 #[.agg #[.int .i64 A, .int .i64 B, .int .i64 C, v]] w fun e w' => e = .returned (.bool true) ∧ Below w.heap.size w w' := by
  have LO := Lib.hid (fun W (hW : Below w.heap.size w W) => long_any A B C v cs W (hv.all hW))
  have KN := Lib.hid (fun W (hW : Below w.heap.size w W) => known_any W (hE.all hW))
  have hvi := hv
  obtain ⟨va, vc, rfl, _⟩ := hv.look'
  have b0 := BlockAt.new w #[.int .i64 A, .int .i64 B, .int .i64 C, .slice va cs.length vc] 24
  have hw := (Below.refl w.heap.size w).alloc (Nat.le_refl _) (.cells #[.int .i64 A, .int .i64 B, .int .i64 C, .slice va cs.length vc] 24)
  have HB := Lib.hid (And.intro b0 hw)
  clear b0 hw
  by_cases hL : 400 < cs.length
  · have h1 : decide (400 < cs.length) = true := decide_eq_true hL
    rw [h1] at LO
    clear hv hvi hE hL h1
    go_enter Tryz.func4, Tryz.ntmps4
    go_wp2_with fail
    refine (LO.out _ HB.out.2).mono ?_
    rintro e w1 ⟨rfl, hb1⟩
    have HW := Lib.hid (below_step HB.out.2 hb1)
    clear hb1 HB LO
    go_wp2_with fail
    refine (KN.out _ HW.out).mono ?_
    rintro e w2 ⟨rfl, hb2⟩
    have HW2 := Lib.hid (below_step HW.out hb2)
    clear hb2 HW KN
    go_wp2
    go_ret
    exact ⟨rfl, HW2.out⟩
  have h1 : decide (400 < cs.length) = false := decide_eq_false hL
  rw [h1] at LO
  have hkl : cs.length ≤ 1000000000 := by omega
  have CP := Lib.hid (fun W (hW : Below w.heap.size w W) => refCopy_any A B C _ cs W (hv.all hW) hn (by omega))
  have LE := Lib.hid (fun (u : Value) W (hu : Ints W u cs) => (Least_any A B C u cs (lat A B C cs) W hu hkl hA1 hA2 lat_is).mono fun e w' h => h.res)
  have RL := Lib.hid (fun W (hW : Below w.heap.size w W) => (refLeast_any A B C _ cs (lat A B C cs) W (hv.all hW) hkl hA1 hA2 lat_is).mono fun e w' (h : LeastSays A B C cs (lat A B C cs) W e w') => h.res)
  unfold PatRes at LE RL
  have hKl : (ansC (validE A B C cs) (lat A B C cs) (Pt.col ⟨A, B, C⟩ (csF cs))).length ≤ 1000000000 := by
    unfold ansC
    split
    · rename_i h0
      rw [fnL_len]
      obtain ⟨⟨a1, a2⟩, ⟨c1, c2⟩, ⟨b1, b2⟩, h1, h2, h3⟩ := valid_ok h0
      have := (Pt.Plane.ofLat (l := ⟨A, B, C⟩) ⟨a1, b1, by show B < A; omega, c1⟩ (csF cs)).sizeP
      unfold lat
      dsimp only at this
      omega
    · simp
  generalize validE A B C cs = E at *
  generalize ansL E (lat A B C cs) = L at *
  generalize ansC E (lat A B C cs) (Pt.col ⟨A, B, C⟩ (csF cs)) = K at *
  have EQ := Lib.hid (fun (u u' : Value) W (hu : Ints W u K) (hu' : Ints W u' K) => refEqual_any L.a L.b L.c L.a L.b L.c u u' K K W hu hu' hKl hKl)
  rw [eqP_same] at EQ
  have EQ2 := Lib.hid (fun (u u' : Value) W (hu : Ints W u cs) (hu' : Ints W u' cs) => refEqual_any A B C A B C u u' cs cs W hu hu' hkl hkl)
  rw [eqP_same] at EQ2
  have HVI := Lib.hid (fun W (hW : Below w.heap.size w W) => hvi.all hW)
  have hKm : K.length ≤ 1000000000 := hKl
  clear hv hvi hE h1 hL hn hKl
  have q1 : (E == E) = true := beq_self_eq_true _
  go_enter Tryz.func4, Tryz.ntmps4
  go_wp2_with fail
  refine (LO.out _ HB.out.2).mono ?_
  rintro e w1 ⟨rfl, hb1⟩
  have HN := Lib.hid (And.intro (HB.out.1.below hb1 HB.out.1.lt) (below_step HB.out.2 hb1))
  clear hb1 HB LO
  have c0 : World.cell? _ _ = some (.int .i64 A) := HN.out.1.cell 0
  have c1 : World.cell? _ _ = some (.int .i64 B) := HN.out.1.cell 1
  have c2 : World.cell? _ _ = some (.int .i64 C) := HN.out.1.cell 2
  have c3 : World.cell? _ _ = some (.slice va cs.length vc) := HN.out.1.cell 3
  go_wp2_with fail
  refine (CP.out _ HN.out.2).mono ?_
  rintro e w2 ⟨uo, rfl, hown, hb1⟩
  obtain ⟨oa, oc, rfl⟩ := hown.form
  -- the world X2 with the copy in a block
  obtain ⟨X2, hX2⟩ : ∃ X, w2.alloc (.cells #[.int .i64 A, .int .i64 B, .int .i64 C, .slice oa cs.length oc] 24) = X := ⟨_, rfl⟩
  have HN2 : Hid (BlockAt X2 w.heap.size #[.int .i64 A, .int .i64 B, .int .i64 C, .slice va cs.length vc] 24 ∧ BlockAt X2 w2.heap.size #[.int .i64 A, .int .i64 B, .int .i64 C, .slice oa cs.length oc] 24 ∧ Ints X2 (.slice oa cs.length oc) cs ∧ Below w.heap.size w X2) := Lib.hid (by
    rw [← hX2]
    exact ⟨(HN.out.1.below hb1 HN.out.1.lt).alloc _, BlockAt.new _ _ _, hown.ints.all ((Below.refl _ _).alloc (Nat.le_refl _) _), below_alloc (below_step HN.out.2 hb1) _⟩)
  clear hown hb1 HN CP c0 c1 c2 c3
  have d0 : World.cell? _ _ = some (.int .i64 A) := HN2.out.2.1.cell 0
  have d1 : World.cell? _ _ = some (.int .i64 B) := HN2.out.2.1.cell 1
  have d2 : World.cell? _ _ = some (.int .i64 C) := HN2.out.2.1.cell 2
  have d3 : World.cell? _ _ = some (.slice oa cs.length oc) := HN2.out.2.1.cell 3
  go_wp2_with (rw [hX2])
  go_wp2_with fail
  refine (LE.out _ X2 HN2.out.2.2.1).mono ?_
  rintro e w3 ⟨ua, rfl, hown, hb1⟩
  obtain ⟨aa, ac, rfl⟩ := hown.form
  obtain ⟨X3, hX3⟩ : ∃ X, w3.alloc (.cells (patC L (.slice aa K.length ac)) 24) = X := ⟨_, rfl⟩
  have HN3 : Hid (BlockAt X3 w3.heap.size (patC L (.slice aa K.length ac)) 24 ∧ OwnI X2.heap.size X3 (.slice aa K.length ac) K ∧ Below X2.heap.size X2 X3 ∧ (Value.slice aa K.length ac = .slice none 0 0 ∧ K.length = 0 ∨ ∃ g cap, Value.slice aa K.length ac = .slice (some ⟨g, 0, none⟩) K.length cap ∧ X2.heap.size ≤ g ∧ g < w3.heap.size)) := Lib.hid (by
    rw [← hX3]
    exact ⟨BlockAt.new _ _ _, hown.alloc _, hb1.alloc hb1.size _, hown.shape⟩)
  clear hown hb1 LE d0 d1 d2 d3
  have hb3 : Below w.heap.size w X3 := later HN2.out.2.2.2 HN2.out.2.2.2.size HN3.out.2.2.1
  have hp3 := HN2.out.1.below HN3.out.2.2.1 HN2.out.1.lt
  have c0 : World.cell? _ _ = some (.int .i64 A) := hp3.cell 0
  have c1 : World.cell? _ _ = some (.int .i64 B) := hp3.cell 1
  have c2 : World.cell? _ _ = some (.int .i64 C) := hp3.cell 2
  have c3 : World.cell? _ _ = some (.slice va cs.length vc) := hp3.cell 3
  have HB3 := Lib.hid hb3
  clear hb3 hp3
  dsimp only [patC] at hX3
  go_wp2_with (rw [hX3])
  go_wp2_with fail
  refine (RL.out X3 HB3.out).mono ?_
  rintro e w4 ⟨ub, rfl, hown, hb1⟩
  obtain ⟨ba, bc, rfl⟩ := hown.form
  obtain ⟨X4, hX4⟩ : ∃ X, w4.alloc (.cells (patC L (.slice ba K.length bc)) 24) = X := ⟨_, rfl⟩
  have HN4 : Hid (BlockAt X4 w4.heap.size (patC L (.slice ba K.length bc)) 24 ∧ Ints X4 (.slice ba K.length bc) K ∧ Below X3.heap.size X3 X4 ∧ X3.heap.size ≤ w4.heap.size) := Lib.hid (by
    rw [← hX4]
    exact ⟨BlockAt.new _ _ _, (hown.alloc _).ints, hb1.alloc hb1.size _, hb1.size⟩)
  clear hown hb1 RL c0 c1 c2 c3
  have ha4 := HN3.out.1.below HN4.out.2.2.1 HN3.out.1.lt
  have a0 : World.cell? _ _ = some (.int .i64 L.a) := ha4.cell 0
  have a1 : World.cell? _ _ = some (.int .i64 L.b) := ha4.cell 1
  have a2 : World.cell? _ _ = some (.int .i64 L.c) := ha4.cell 2
  have a3 : World.cell? _ _ = some (.slice aa K.length ac) := ha4.cell 3
  have e0 : World.cell? _ _ = some (.int .i64 L.a) := HN4.out.1.cell 0
  have e1 : World.cell? _ _ = some (.int .i64 L.b) := HN4.out.1.cell 1
  have e2 : World.cell? _ _ = some (.int .i64 L.c) := HN4.out.1.cell 2
  have e3 : World.cell? _ _ = some (.slice ba K.length bc) := HN4.out.1.cell 3
  have hq := (HN3.out.2.1.all HN4.out.2.2.1).ints
  have HQ := Lib.hid hq
  clear hq ha4
  dsimp only [patC] at hX4
  go_wp2_with (rw [hX4])
  go_wp2_with fail
  refine (EQ.out _ _ X4 HQ.out HN4.out.2.1).mono ?_
  rintro e w5 ⟨rfl, hb1⟩
  have hb45 : Below X3.heap.size X3 w5 := later HN4.out.2.2.1 HN4.out.2.2.1.size hb1
  have ha5 := HN3.out.1.below hb45 HN3.out.1.lt
  have hw5 : Below X2.heap.size X2 w5 := later HN3.out.2.2.1 HN3.out.2.2.1.size hb45
  have HR := Lib.hid (And.intro (HN3.out.2.1.all hb45).ownF (And.intro ha5 hw5))
  have HSH := Lib.hid HN3.out.2.2.2
  clear hb1 hb45 ha5 hw5 a0 a1 a2 a3 e0 e1 e2 e3 HQ EQ HN4 HN3 HB3
  go_wp2
  go_loopw [9] (fun t wr => ∃ (k : Nat) (f : Nat → Int), k ≤ K.length ∧ t = .int .i64 k ∧ Hid (OwnF X2.heap.size wr (.slice aa K.length ac) K.length f ∧ BlockAt wr w3.heap.size (patC L (.slice aa K.length ac)) 24 ∧ Below X2.heap.size X2 wr)) (fun t _ => K.length - (intOf t).toNat)
  case atStart => exact ⟨0, _, Nat.zero_le _, rfl, HR⟩
  case round =>
    obtain ⟨k, f, hk, rfl, hg⟩ := hrel
    clear HR
    have a3 : World.cell? _ _ = some (.slice aa K.length ac) := hg.out.2.1.cell 3
    by_cases hlt : k < K.length
    · obtain ⟨g, cap, he, hg1, hg2⟩ : ∃ g cap, Value.slice aa K.length ac = .slice (some ⟨g, 0, none⟩) K.length cap ∧ X2.heap.size ≤ g ∧ g < w3.heap.size := by
        rcases HSH.out with ⟨_, h⟩ | h
        · omega
        · exact h
      simp only [Value.slice.injEq, true_and] at he
      obtain ⟨rfl, rfl⟩ := he
      have z0 := hg.out.1.cell hlt
      have z1 := hg.out.1.free k
      have HG := Lib.hid (And.intro (hg.out.1.store k 9).1 (And.intro (hg.out.2.1.other (i := k) (show w3.heap.size ≠ g by omega) (.int .i64 9)) (hg.out.2.2.setCell (p := ⟨g, k, none⟩) hg1 (.int .i64 9))))
      clear hg
      go_wp2
      go_roundw
      case rel => exact ⟨k + 1, _, by omega, by go_num, HG⟩
      case measure => simp [intOf]; omega
    · obtain rfl : k = K.length := by omega
      have hw := hg.out.2.2
      have hp5 := HN2.out.1.below hw HN2.out.1.lt
      have ho5 := HN2.out.2.1.below hw HN2.out.2.1.lt
      have HW := Lib.hid (later HN2.out.2.2.2 HN2.out.2.2.2.size hw)
      have hi5 := HN2.out.2.2.1.all hw
      have HI := Lib.hid hi5
      have c0 : World.cell? _ _ = some (.int .i64 A) := hp5.cell 0
      have c1 : World.cell? _ _ = some (.int .i64 B) := hp5.cell 1
      have c2 : World.cell? _ _ = some (.int .i64 C) := hp5.cell 2
      have c3 : World.cell? _ _ = some (.slice va cs.length vc) := hp5.cell 3
      have d0 : World.cell? _ _ = some (.int .i64 A) := ho5.cell 0
      have d1 : World.cell? _ _ = some (.int .i64 B) := ho5.cell 1
      have d2 : World.cell? _ _ = some (.int .i64 C) := ho5.cell 2
      have d3 : World.cell? _ _ = some (.slice oa cs.length oc) := ho5.cell 3
      clear hg hw hp5 ho5 hi5 HN2 HSH hlt hk
      go_wp2_with fail
      refine (EQ2.out _ _ _ HI.out (HVI.out _ HW.out)).mono ?_
      rintro e w6 ⟨rfl, hb1⟩
      have HW6 := Lib.hid (below_step HW.out hb1)
      clear hb1 HW HI EQ2 c0 c1 c2 c3 d0 d1 d2 d3 a3
      go_wp2_with fail
      refine (KN.out _ HW6.out).mono ?_
      rintro e w7 ⟨rfl, hb1⟩
      have HW7 := Lib.hid (below_step HW6.out hb1)
      clear hb1 HW6 KN
      go_wp2
      go_ret
      exact ⟨rfl, HW7.out⟩
end Go.Proofs.YtigigmjdockdeaaGreatDoor
