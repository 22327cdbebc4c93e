/- IsProof of the reference. -/
import Derived.Test.YtabfcnfddemblaaLf29
namespace Go.Proofs.Ytabfcnfddemblaa.Lo
open Go.RowKit

theorem isP_bad2 {ls : List Lf.F} {gs : List Lf.G} {a b : Int} (h : ¬ (0 ≤ a ∧ a ≤ b ∧ b ≤ 60)) : Lf.isP ls gs a b = false := by
  have : Lf.wOk a b = false := by
    cases hw : Lf.wOk a b
    · rfl
    · exact absurd (Lf.wOk_iff.1 hw) h
  rw [Lf.isP, prf_not this, Bool.and_false]
set_option maxRecDepth 100000 in
set_option maxHeartbeats 8000000 in
theorem risProofF_any (u v : Value) (ls : List Lf.F) (gs : List Lf.G) (a b : Int) (w : World) (hu : Lofts w u ls) (hv : Goods w v gs) :
    Calls Try.prog 56 #[u, v, winV a b] w fun e w' => e = .returned (.bool (Lf.isP ls gs a b)) ∧ Below w.heap.size w w' := by
  have HBW := Lib.hid (And.intro (BlockAt.new w (winA a b) RWinT) (below_alloc2 (Below.refl w.heap.size w) (.cells (winA a b) RWinT)))
  have CB := Lib.hid (fun W (hW : Below w.heap.size w W) => rboth_any u v ls gs W (hu.all hW) (hv.all hW))
  have CN := Lib.hid (fun W (hW : Below w.heap.size w W) h1 h2 h3 h4 => rneeded_any u v ls gs W (hu.all hW) (hv.all hW) h1 h2 h3 h4)
  have CV := Lib.hid (fun x W (hW : Below w.heap.size w W) hx h1 h2 h3 h4 h5 => rproves_any u v x ls gs a b W (hu.all hW) (hv.all hW) hx h1 h2 h3 h4 h5)
  have x0 : World.cell? _ _ = some (.int .i64 a) := HBW.out.1.cell 0
  have x1 : World.cell? _ _ = some (.int .i64 b) := HBW.out.1.cell 1
  obtain ⟨ua, uc, rfl⟩ := hu.form
  obtain ⟨va, vc, rfl⟩ := hv.form
  clear hu hv
  have HBE := Lib.hid (fun h => bth_ok (ls := ls) (gs := gs) h)
  by_cases hz : Lf.bthE ls gs = 0
  case neg =>
    rw [isP_not hz]
    generalize Lf.bthE ls gs = E at *
    have hd : (E == 0) = false := beq_eq_false_iff_ne.2 hz
    have hd2 : (E != 0) = true := by rw [bne, hd]; rfl
    clear CN CV HBE
    go_enter Try.func56, Try.ntmps56
    go_wp2_with fail
    refine (CB.out _ HBW.out.2).mono ?_
    rintro e w1 ⟨rfl, hb1⟩
    have H1 := Lib.hid (below_step HBW.out.2 hb1)
    clear hb1 x0 x1
    go_wp2
    go_ret
    exact ⟨rfl, H1.out⟩
  rw [hz] at CB
  by_cases q1 : 0 ≤ a
  case neg =>
    rw [isP_bad2 (by omega)]
    have d1 : decide (a < 0) = true := decide_eq_true (by omega)
    clear CN CV HBE
    go_enter Try.func56, Try.ntmps56
    go_wp2_with fail
    refine (CB.out _ HBW.out.2).mono ?_
    rintro e w1 ⟨rfl, hb1⟩
    have H1 := Lib.hid (And.intro (HBW.out.1.below hb1 HBW.out.1.lt) (below_step HBW.out.2 hb1))
    clear hb1 x0 x1
    have x0 : World.cell? _ _ = some (.int .i64 a) := H1.out.1.cell 0
    have x1 : World.cell? _ _ = some (.int .i64 b) := H1.out.1.cell 1
    go_wp2
    go_ret
    exact ⟨rfl, H1.out.2⟩
  have d1 : decide (a < 0) = false := decide_eq_false (by omega)
  by_cases q2 : a ≤ b
  case neg =>
    rw [isP_bad2 (by omega)]
    have d2 : decide (b < a) = true := decide_eq_true (by omega)
    clear CN CV HBE
    go_enter Try.func56, Try.ntmps56
    go_wp2_with fail
    refine (CB.out _ HBW.out.2).mono ?_
    rintro e w1 ⟨rfl, hb1⟩
    have H1 := Lib.hid (And.intro (HBW.out.1.below hb1 HBW.out.1.lt) (below_step HBW.out.2 hb1))
    clear hb1 x0 x1
    have x0 : World.cell? _ _ = some (.int .i64 a) := H1.out.1.cell 0
    have x1 : World.cell? _ _ = some (.int .i64 b) := H1.out.1.cell 1
    go_wp2
    go_ret
    exact ⟨rfl, H1.out.2⟩
  have d2 : decide (b < a) = false := decide_eq_false (by omega)
  by_cases q3 : b ≤ 60
  case neg =>
    rw [isP_bad2 (by omega)]
    have d3 : decide (b > 60) = true := decide_eq_true (by omega)
    have d4 : decide (60 < b) = true := decide_eq_true (by omega)
    clear CN CV HBE
    go_enter Try.func56, Try.ntmps56
    go_wp2_with fail
    refine (CB.out _ HBW.out.2).mono ?_
    rintro e w1 ⟨rfl, hb1⟩
    have H1 := Lib.hid (And.intro (HBW.out.1.below hb1 HBW.out.1.lt) (below_step HBW.out.2 hb1))
    clear hb1 x0 x1
    have x0 : World.cell? _ _ = some (.int .i64 a) := H1.out.1.cell 0
    have x1 : World.cell? _ _ = some (.int .i64 b) := H1.out.1.cell 1
    go_wp2
    go_ret
    exact ⟨rfl, H1.out.2⟩
  have d3 : decide (b > 60) = false := decide_eq_false (by omega)
  have d4 : decide (60 < b) = false := decide_eq_false (by omega)
  obtain ⟨h1, h2, h3, h4⟩ := HBE.out hz
  have hwo : Lf.wOk a b = true := Lf.wOk_iff.2 ⟨q1, q2, q3⟩
  rw [isP_yes hz]
  have CN1 := Lib.hid (fun W hW => CN.out W hW h1 h2 h3 h4)
  have CV1 := Lib.hid (fun x W hW hx => CV.out x W hW hx h1 h2 h3 h4 hwo)
  clear CN CV hz h1 h2 h3 h4 HBE hwo
  generalize Lf.prf ls gs a b = R at *
  generalize neds ls gs = X at *
  go_enter Try.func56, Try.ntmps56
  go_wp2_with fail
  refine (CB.out _ HBW.out.2).mono ?_
  rintro e w1 ⟨rfl, hb1⟩
  have H1 := Lib.hid (show BlockAt w1.drew w.heap.size (winA a b) RWinT ∧ Below w.heap.size w w1.drew from ⟨(HBW.out.1.below hb1 HBW.out.1.lt).drew, below_drewN (below_step HBW.out.2 hb1) 1⟩)
  have z0 : World.cell? w1 ⟨w.heap.size, 0, none⟩ = some (.int .i64 a) := H1.out.1.cell 0
  have z1 : World.cell? w1 ⟨w.heap.size, 1, none⟩ = some (.int .i64 b) := H1.out.1.cell 1
  clear hb1 x0 x1
  go_upto_region 3 with fail
  clear z0 z1
  refine wp_region_seq [(0, true), (1, true), (2, true), (3, true), (5, true), (4, false), (6, false), (7, true)] (fun W => World.cell? W ⟨w.heap.size, 0, none⟩ = some (.int .i64 a) ∧ World.cell? W ⟨w.heap.size, 1, none⟩ = some (.int .i64 b))
    (by kernel_rfl) (by kernel_rfl) (by kernel_rfl) (by kernel_rfl) (fun d _ _ _ _ h => by cases d <;> exact h) ⟨H1.out.1.cell 0, H1.out.1.cell 1⟩ (fun _ => ?_)
  repeat (first | (refine SeqH.take (v := ?_) rfl (by rfl) ?_ ?_; rotate_left; (· intro w hSw; (try dsimp only at hSw); obtain ⟨a0, a1⟩ := hSw; go_simp; (try with_reducible rfl)); simp only [Act.put, List.setIfInBounds_toArray, List.set_cons_zero, List.set_cons_succ]) | (refine SeqH.skip rfl (by rfl) ?_; simp only [Act.put, List.setIfInBounds_toArray, List.set_cons_zero, List.set_cons_succ]))
  refine SeqH.step rfl (by rfl) (fun K hK => ?_)
  go_simp
  go_at_call 107
  refine (CN1.out _ H1.out.2).mono ?_
  rintro e w7 ⟨a9, c9, rfl, ho, hb1⟩
  try dsimp only
  have H2 := Lib.hid (And.intro (H1.out.1.below hb1 H1.out.1.lt) (below_step H1.out.2 hb1))
  have HO := Lib.hid ho
  clear ho
  refine hK.out _ _ (⟨H2.out.1.cell 0, H2.out.1.cell 1⟩) (fun _ => ?_)
  clear hK K
  try simp only [Act.put, List.setIfInBounds_toArray, List.set_cons_zero, List.set_cons_succ]
  repeat (first | (refine SeqH.take (v := ?_) rfl (by rfl) ?_ ?_; rotate_left; (· intro w hSw; (try dsimp only at hSw); obtain ⟨a0, a1⟩ := hSw; go_simp; (try with_reducible rfl)); simp only [Act.put, List.setIfInBounds_toArray, List.set_cons_zero, List.set_cons_succ]) | (refine SeqH.skip rfl (by rfl) ?_; simp only [Act.put, List.setIfInBounds_toArray, List.set_cons_zero, List.set_cons_succ]))
  refine SeqH.step rfl (by rfl) (fun K hK => ?_)
  go_simp
  go_at_call 108
  refine (CV1.out _ _ H2.out.2 (OwnI.ints HO.out)).mono ?_
  rintro e w7 ⟨rfl, hb1⟩
  try dsimp only
  have H3 := Lib.hid (And.intro (H2.out.1.below hb1 H2.out.1.lt) (below_step H2.out.2 hb1))
  refine hK.out _ _ (⟨H3.out.1.cell 0, H3.out.1.cell 1⟩) (fun _ => ?_)
  clear hK K
  try simp only [Act.put, List.setIfInBounds_toArray, List.set_cons_zero, List.set_cons_succ]
  repeat (first | (refine SeqH.take (v := ?_) rfl (by rfl) ?_ ?_; rotate_left; (· intro w hSw; (try dsimp only at hSw); obtain ⟨a0, a1⟩ := hSw; go_simp; (try with_reducible rfl)); simp only [Act.put, List.setIfInBounds_toArray, List.set_cons_zero, List.set_cons_succ]) | (refine SeqH.skip rfl (by rfl) ?_; simp only [Act.put, List.setIfInBounds_toArray, List.set_cons_zero, List.set_cons_succ]))
  refine SeqH.done ?_
  go_wp2
  go_ret
  exact ⟨rfl, H3.out.2⟩
end Go.Proofs.Ytabfcnfddemblaa.Lo
