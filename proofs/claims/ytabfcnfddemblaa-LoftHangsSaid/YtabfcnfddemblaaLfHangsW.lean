/- LoftHangs returns true, whatever the hanging, the length and the place. -/
import Derived.Test.YtabfcnfddemblaaLfS
namespace Go.Proofs.Ytabfcnfddemblaa.Lo
open Go.RowKit

theorem polL_len (h : Lf.H) (n : Int) : (Lf.polL h n).length ≤ 1000000 := by
  unfold Lf.polL
  split
  · rename_i h1
    rw [Lf.pl_len]
    unfold Lf.polE at h1
    split at h1
    · split at h1 <;> omega
    · omega
  · simp
set_option maxRecDepth 100000 in
set_option maxHeartbeats 8000000 in
theorem hangs_walk (h : Lf.H) (n p : Int) (w : World) : Calls Try.prog 3 #[hangV h, .int .i64 n, .int .i64 p] w fun e w' => e = .returned (.bool true) ∧ Below w.heap.size w w' := by
  have HW := Lib.hid (And.intro (HgB.of (BlockAt.new w (hangA h) 23)) (below_alloc2 (Below.refl w.heap.size w) (.cells (hangA h) 23)))
  have CM := Lib.hid (fun W => mine_any h W)
  have CO := Lib.hid (fun W => other_any h W)
  have CP := Lib.hid (fun W => poles_any h n W)
  have CQ := Lib.hid (fun W => rpoles_any h n W)
  have CH := Lib.hid (fun W => heightF_any h p W)
  have CI := Lib.hid (fun W => rheightF_any h p W)
  have CV := Lib.hid (fun W => vHang_any h W)
  have CW := Lib.hid (fun W => rvHang_any h W)
  have CX := Lib.hid (fun u v xs W hu hv hl => sameInts_any u v xs W hu hv hl)
  have CS := Lib.hid (fun W => sane_any W)
  have HLN := Lib.hid (polL_len h n)
  generalize Lf.polL h n = L at *
  generalize Lf.polE h n = E at *
  generalize Lf.hgtR h p = R at *
  generalize Lf.hgtE h p = G at *
  generalize Lf.vH h = V at *
  obtain ⟨hd, hs, hy, hr, hf⟩ := h
  go_enter Try.func3, Try.ntmps3
  have y0 : World.cell? _ _ = some (.int .i64 hd) := HW.out.1.1.1
  have y1 : World.cell? _ _ = some (.int .i64 hs) := HW.out.1.1.2.1
  have y2 : World.cell? _ _ = some (.int .i64 hy) := HW.out.1.1.2.2.1
  have y3 : World.cell? _ _ = some (.int .i64 hr) := HW.out.1.1.2.2.2.1
  have y4 : World.cell? _ _ = some (.int .i64 hf) := HW.out.1.1.2.2.2.2
  go_wp2_with fail
  refine (CM.out _).mono ?_
  rintro e w1 ⟨rfl, hb1⟩
  have H1 := Lib.hid (And.intro (HW.out.1.below hb1 HW.out.1.2) (below_step HW.out.2 hb1))
  clear hb1 y0 y1 y2 y3 y4 HW
  go_wp2_with fail
  refine (CP.out _).mono ?_
  rintro e w2 ⟨a1, c1, rfl, ho1, hb1⟩
  have H2 := Lib.hid (And.intro (H1.out.1.below hb1 H1.out.1.2) (below_step H1.out.2 hb1))
  have O1 := Lib.hid ho1
  clear ho1
  clear hb1 H1
  have y0 : World.cell? _ _ = some (.int .i64 hd) := H2.out.1.1.1
  have y1 : World.cell? _ _ = some (.int .i64 hs) := H2.out.1.1.2.1
  have y2 : World.cell? _ _ = some (.int .i64 hy) := H2.out.1.1.2.2.1
  have y3 : World.cell? _ _ = some (.int .i64 hr) := H2.out.1.1.2.2.2.1
  have y4 : World.cell? _ _ = some (.int .i64 hf) := H2.out.1.1.2.2.2.2
  go_wp2_with fail
  refine (CO.out _).mono ?_
  rintro e w3 ⟨rfl, hb1⟩
  have H3 := Lib.hid (And.intro (H2.out.1.below hb1 H2.out.1.2) (below_step H2.out.2 hb1))
  have O2 := Lib.hid (O1.out.all hb1)
  clear O1
  clear hb1 y0 y1 y2 y3 y4 H2
  go_wp2_with fail
  refine (CQ.out _).mono ?_
  rintro e w4 ⟨a2, c2, rfl, ho1, hb1⟩
  have H4 := Lib.hid (And.intro (H3.out.1.below hb1 H3.out.1.2) (below_step H3.out.2 hb1))
  have O3 := Lib.hid (O2.out.all hb1)
  have P3 := Lib.hid ho1
  clear O2 ho1
  clear hb1 H3
  have y0 : World.cell? _ _ = some (.int .i64 hd) := H4.out.1.1.1
  have y1 : World.cell? _ _ = some (.int .i64 hs) := H4.out.1.1.2.1
  have y2 : World.cell? _ _ = some (.int .i64 hy) := H4.out.1.1.2.2.1
  have y3 : World.cell? _ _ = some (.int .i64 hr) := H4.out.1.1.2.2.2.1
  have y4 : World.cell? _ _ = some (.int .i64 hf) := H4.out.1.1.2.2.2.2
  go_wp2_with fail
  refine (CM.out _).mono ?_
  rintro e w5 ⟨rfl, hb1⟩
  have H5 := Lib.hid (And.intro (H4.out.1.below hb1 H4.out.1.2) (below_step H4.out.2 hb1))
  have O5 := Lib.hid (O3.out.all hb1)
  have P5 := Lib.hid (P3.out.all hb1)
  clear O3 P3
  clear hb1 y0 y1 y2 y3 y4 H4
  go_wp2_with fail
  refine (CH.out _).mono ?_
  rintro e w6 ⟨rfl, hb1⟩
  have H6 := Lib.hid (And.intro (H5.out.1.below hb1 H5.out.1.2) (below_step H5.out.2 hb1))
  have O6 := Lib.hid (O5.out.all hb1)
  have P6 := Lib.hid (P5.out.all hb1)
  clear O5 P5
  clear hb1 H5
  have y0 : World.cell? _ _ = some (.int .i64 hd) := H6.out.1.1.1
  have y1 : World.cell? _ _ = some (.int .i64 hs) := H6.out.1.1.2.1
  have y2 : World.cell? _ _ = some (.int .i64 hy) := H6.out.1.1.2.2.1
  have y3 : World.cell? _ _ = some (.int .i64 hr) := H6.out.1.1.2.2.2.1
  have y4 : World.cell? _ _ = some (.int .i64 hf) := H6.out.1.1.2.2.2.2
  go_wp2_with fail
  refine (CO.out _).mono ?_
  rintro e w7 ⟨rfl, hb1⟩
  have H7 := Lib.hid (And.intro (H6.out.1.below hb1 H6.out.1.2) (below_step H6.out.2 hb1))
  have O7 := Lib.hid (O6.out.all hb1)
  have P7 := Lib.hid (P6.out.all hb1)
  clear O6 P6
  clear hb1 y0 y1 y2 y3 y4 H6
  go_wp2_with fail
  refine (CI.out _).mono ?_
  rintro e w8 ⟨rfl, hb1⟩
  have H8 := Lib.hid (And.intro (H7.out.1.below hb1 H7.out.1.2) (below_step H7.out.2 hb1))
  have O8 := Lib.hid (O7.out.all hb1)
  have P8 := Lib.hid (P7.out.all hb1)
  clear O7 P7
  clear hb1 H7
  have H9 := Lib.hid (And.intro (show HgB w.heap.size ⟨hd, hs, hy, hr, hf⟩ w8.drew from H8.out.1) (below_drewN H8.out.2 1))
  have O9 := Lib.hid (show OwnI _ w8.drew _ _ from O8.out)
  have P9 := Lib.hid (show OwnI _ w8.drew _ _ from P8.out)
  clear H8 O8 P8
  go_upto_region 5 with fail
  refine wp_region_seq [(0, true), (3, true), (1, false), (2, false), (4, false), (5, false), (6, true), (7, true), (8, true), (9, true), (10, false), (11, true), (12, true), (13, true), (14, true), (15, true), (16, true), (17, true), (18, true), (19, true), (20, true), (21, true), (22, true), (23, true), (24, true), (25, true), (26, true), (27, true), (28, false), (29, true), (30, true)] (fun W => HgB w.heap.size ⟨hd, hs, hy, hr, hf⟩ W)
    (by kernel_rfl) (by kernel_rfl) (by kernel_rfl) (by kernel_rfl) (fun d _ _ _ _ h => by cases d <;> exact h) H9.out.1 (fun _ => ?_)
  repeat (first | (refine SeqH.take (v := ?_) rfl (by rfl) ?_ ?_; rotate_left; (· intro w hSw; (try dsimp only at hSw); obtain ⟨⟨a0, a1, a2, a3, a4⟩, _⟩ := hSw; go_simp; (try with_reducible rfl)); simp only [Act.put, List.setIfInBounds_toArray, List.set_cons_zero, List.set_cons_succ]) | (refine SeqH.skip rfl (by rfl) ?_; simp only [Act.put, List.setIfInBounds_toArray, List.set_cons_zero, List.set_cons_succ]))
  refine SeqH.step rfl (by rfl) (fun K hK => ?_)
  go_simp
  go_at_call 17
  refine (CM.out _).mono ?_
  rintro e w7 ⟨rfl, hb1⟩
  try dsimp only
  have H10 := Lib.hid (And.intro (H9.out.1.below hb1 H9.out.1.2) (below_step H9.out.2 hb1))
  have O10 := Lib.hid (O9.out.all hb1)
  have P10 := Lib.hid (P9.out.all hb1)
  clear hb1 H9 O9 P9
  refine hK.out _ _ (H10.out.1) (fun _ => ?_)
  clear hK K
  try simp only [Act.put, List.setIfInBounds_toArray, List.set_cons_zero, List.set_cons_succ]
  repeat (first | (refine SeqH.take (v := ?_) rfl (by rfl) ?_ ?_; rotate_left; (· intro w hSw; (try dsimp only at hSw); obtain ⟨⟨a0, a1, a2, a3, a4⟩, _⟩ := hSw; go_simp; (try with_reducible rfl)); simp only [Act.put, List.setIfInBounds_toArray, List.set_cons_zero, List.set_cons_succ]) | (refine SeqH.skip rfl (by rfl) ?_; simp only [Act.put, List.setIfInBounds_toArray, List.set_cons_zero, List.set_cons_succ]))
  refine SeqH.step rfl (by rfl) (fun K hK => ?_)
  go_simp
  go_at_call 22
  refine (CV.out _).mono ?_
  rintro e w7 ⟨rfl, hb1⟩
  try dsimp only
  have H11 := Lib.hid (And.intro (H10.out.1.below hb1 H10.out.1.2) (below_step H10.out.2 hb1))
  have O11 := Lib.hid (O10.out.all hb1)
  have P11 := Lib.hid (P10.out.all hb1)
  clear hb1 H10 O10 P10
  refine hK.out _ _ (H11.out.1) (fun _ => ?_)
  clear hK K
  try simp only [Act.put, List.setIfInBounds_toArray, List.set_cons_zero, List.set_cons_succ]
  repeat (first | (refine SeqH.take (v := ?_) rfl (by rfl) ?_ ?_; rotate_left; (· intro w hSw; (try dsimp only at hSw); obtain ⟨⟨a0, a1, a2, a3, a4⟩, _⟩ := hSw; go_simp; (try with_reducible rfl)); simp only [Act.put, List.setIfInBounds_toArray, List.set_cons_zero, List.set_cons_succ]) | (refine SeqH.skip rfl (by rfl) ?_; simp only [Act.put, List.setIfInBounds_toArray, List.set_cons_zero, List.set_cons_succ]))
  refine SeqH.step rfl (by rfl) (fun K hK => ?_)
  go_simp
  go_at_call 19
  refine (CO.out _).mono ?_
  rintro e w7 ⟨rfl, hb1⟩
  try dsimp only
  have H12 := Lib.hid (And.intro (H11.out.1.below hb1 H11.out.1.2) (below_step H11.out.2 hb1))
  have O12 := Lib.hid (O11.out.all hb1)
  have P12 := Lib.hid (P11.out.all hb1)
  clear hb1 H11 O11 P11
  refine hK.out _ _ (H12.out.1) (fun _ => ?_)
  clear hK K
  try simp only [Act.put, List.setIfInBounds_toArray, List.set_cons_zero, List.set_cons_succ]
  repeat (first | (refine SeqH.take (v := ?_) rfl (by rfl) ?_ ?_; rotate_left; (· intro w hSw; (try dsimp only at hSw); obtain ⟨⟨a0, a1, a2, a3, a4⟩, _⟩ := hSw; go_simp; (try with_reducible rfl)); simp only [Act.put, List.setIfInBounds_toArray, List.set_cons_zero, List.set_cons_succ]) | (refine SeqH.skip rfl (by rfl) ?_; simp only [Act.put, List.setIfInBounds_toArray, List.set_cons_zero, List.set_cons_succ]))
  refine SeqH.step rfl (by rfl) (fun K hK => ?_)
  go_simp
  go_at_call 23
  refine (CW.out _).mono ?_
  rintro e w7 ⟨rfl, hb1⟩
  try dsimp only
  have H13 := Lib.hid (And.intro (H12.out.1.below hb1 H12.out.1.2) (below_step H12.out.2 hb1))
  have O13 := Lib.hid (O12.out.all hb1)
  have P13 := Lib.hid (P12.out.all hb1)
  clear hb1 H12 O12 P12
  refine hK.out _ _ (H13.out.1) (fun _ => ?_)
  clear hK K
  try simp only [Act.put, List.setIfInBounds_toArray, List.set_cons_zero, List.set_cons_succ]
  repeat (first | (refine SeqH.take (v := ?_) rfl (by rfl) ?_ ?_; rotate_left; (· intro w hSw; (try dsimp only at hSw); obtain ⟨⟨a0, a1, a2, a3, a4⟩, _⟩ := hSw; go_simp; (try with_reducible rfl)); simp only [Act.put, List.setIfInBounds_toArray, List.set_cons_zero, List.set_cons_succ]) | (refine SeqH.skip rfl (by rfl) ?_; simp only [Act.put, List.setIfInBounds_toArray, List.set_cons_zero, List.set_cons_succ]))
  refine SeqH.step rfl (by rfl) (fun K hK => ?_)
  go_simp
  go_at_call 24
  refine (CX.out _ _ L _ (OwnI.ints O13.out) (OwnI.ints P13.out) HLN.out).mono ?_
  rintro e w7 ⟨rfl, hb1⟩
  try dsimp only
  have H14 := Lib.hid (And.intro (H13.out.1.below hb1 H13.out.1.2) (below_step H13.out.2 hb1))
  clear hb1 H13
  refine hK.out _ _ (H14.out.1) (fun _ => ?_)
  clear hK K
  try simp only [Act.put, List.setIfInBounds_toArray, List.set_cons_zero, List.set_cons_succ]
  repeat (first | (refine SeqH.take (v := ?_) rfl (by rfl) ?_ ?_; rotate_left; (· intro w hSw; (try dsimp only at hSw); obtain ⟨⟨a0, a1, a2, a3, a4⟩, _⟩ := hSw; go_simp; (try with_reducible rfl)); simp only [Act.put, List.setIfInBounds_toArray, List.set_cons_zero, List.set_cons_succ]) | (refine SeqH.skip rfl (by rfl) ?_; simp only [Act.put, List.setIfInBounds_toArray, List.set_cons_zero, List.set_cons_succ]))
  refine SeqH.step rfl (by rfl) (fun K hK => ?_)
  go_simp
  go_at_call 25
  refine (CS.out _).mono ?_
  rintro e w7 ⟨rfl, hb1⟩
  try dsimp only
  have H15 := Lib.hid (And.intro (H14.out.1.below hb1 H14.out.1.2) (below_step H14.out.2 hb1))
  clear hb1 H14
  refine hK.out _ _ (H15.out.1) (fun _ => ?_)
  clear hK K
  try simp only [Act.put, List.setIfInBounds_toArray, List.set_cons_zero, List.set_cons_succ]
  repeat (first | (refine SeqH.take (v := ?_) rfl (by rfl) ?_ ?_; rotate_left; (· intro w hSw; (try dsimp only at hSw); obtain ⟨⟨a0, a1, a2, a3, a4⟩, _⟩ := hSw; go_simp; (try with_reducible rfl)); simp only [Act.put, List.setIfInBounds_toArray, List.set_cons_zero, List.set_cons_succ]) | (refine SeqH.skip rfl (by rfl) ?_; simp only [Act.put, List.setIfInBounds_toArray, List.set_cons_zero, List.set_cons_succ]))
  refine SeqH.done ?_
  go_wp2
  go_ret
  exact ⟨rfl, H15.out.2⟩
end Go.Proofs.Ytabfcnfddemblaa.Lo
