/- IsProof of the program. -/
import Derived.Test.YtabfcnfddemblaaLfMj
namespace Go.Proofs.Ytabfcnfddemblaa.Lo
open Go.RowKit

theorem isP_not {ls : List Lf.F} {gs : List Lf.G} {a b : Int} (h : Lf.bthE ls gs ≠ 0) : Lf.isP ls gs a b = false := by rw [Lf.isP, decide_eq_false h]; rfl
theorem isP_yes {ls : List Lf.F} {gs : List Lf.G} {a b : Int} (h : Lf.bthE ls gs = 0) : Lf.isP ls gs a b = Lf.prf ls gs a b := by rw [Lf.isP, decide_eq_true h]; rfl
theorem bth_ok {ls : List Lf.F} {gs : List Lf.G} (h : Lf.bthE ls gs = 0) : (∀ k (hk : k < ls.length), Lf.okF ls[k] = true) ∧ ls.length ≤ 3 ∧ (∀ k (hk : k < gs.length), Lf.okG gs[k] = true) ∧ gs.length ≤ 8 := by
  obtain ⟨h1, h2⟩ := Lf.bth_zero h
  obtain ⟨h3, h4⟩ := Lf.valF_zero h1
  obtain ⟨h5, h6⟩ := Lf.valG_zero h2
  exact ⟨h4, h3.2, h6, h5⟩
set_option maxRecDepth 100000 in
set_option maxHeartbeats 8000000 in
theorem isProofF_any (u v : Value) (ls : List Lf.F) (gs : List Lf.G) (a b : Int) (w : World) (hu : Lofts w u ls) (hv : Goods w v gs) :
    Calls Try.prog 55 #[u, v, winV a b] w fun e w' => e = .returned (.bool (Lf.isP ls gs a b)) ∧ Below w.heap.size w w' := by
  have HBW := Lib.hid (show BlockAt (w.alloc (.cells (winA a b) WinT)).drew w.heap.size (winA a b) WinT ∧ Below w.heap.size w (w.alloc (.cells (winA a b) WinT)).drew from ⟨(BlockAt.new w (winA a b) WinT).drew, below_drewN (below_alloc2 (Below.refl w.heap.size w) (.cells (winA a b) WinT)) 1⟩)
  have CB := Lib.hid (fun W (hW : Below w.heap.size w W) => both_any u v ls gs W (hu.all hW) (hv.all hW))
  have CP := Lib.hid (fun W (hW : Below w.heap.size w W) h1 h2 => polesOf_any u ls W (hu.all hW) h1 h2)
  have CT := Lib.hid (fun W (hW : Below w.heap.size w W) h1 h2 h3 h4 => staysOf_any u v ls gs W (hu.all hW) (hv.all hW) h1 h2 h3 h4)
  have CI := Lib.hid (fun x W h h1 h2 h3 h4 => isProof_any x ls gs a b W h h1 h2 h3 h4)
  obtain ⟨ua, uc, rfl⟩ := hu.form
  obtain ⟨va, vc, rfl⟩ := hv.form
  clear hu hv
  by_cases hz : Lf.bthE ls gs = 0
  case neg =>
    rw [isP_not hz]
    generalize Lf.bthE ls gs = E at *
    have hd : (E == 0) = false := beq_eq_false_iff_ne.2 hz
    have hd2 : decide (E = 0) = false := decide_eq_false hz
    clear CP CT CI
    go_enter Try.func55, Try.ntmps55
    go_upto_region 1 with fail
    refine wp_region_seq [(0, true), (1, true), (2, false), (3, true), (4, true), (5, true), (7, true), (8, true), (10, true), (6, false), (9, false), (11, false), (12, true), (13, true)] (fun W => World.cell? W ⟨w.heap.size, 0, none⟩ = some (.int .i64 a) ∧ World.cell? W ⟨w.heap.size, 1, none⟩ = some (.int .i64 b))
      (by kernel_rfl) (by kernel_rfl) (by kernel_rfl) (by kernel_rfl) (fun d _ _ _ _ h => by cases d <;> exact h) ⟨HBW.out.1.cell 0, HBW.out.1.cell 1⟩ (fun _ => ?_)
    repeat (first | (refine SeqH.take (v := ?_) rfl (by rfl) ?_ ?_; rotate_left; (· intro w hSw; (try dsimp only at hSw); obtain ⟨a0, a1⟩ := hSw; go_simp; (try with_reducible rfl)); simp only [Act.put, List.setIfInBounds_toArray, List.set_cons_zero, List.set_cons_succ]) | (refine SeqH.skip rfl (by rfl) ?_; simp only [Act.put, List.setIfInBounds_toArray, List.set_cons_zero, List.set_cons_succ]))
    refine SeqH.step rfl (by rfl) (fun K hK => ?_)
    go_simp
    go_at_call 84
    refine (CB.out _ HBW.out.2).mono ?_
    rintro e w7 ⟨rfl, hb1⟩
    try dsimp only
    have H1 := Lib.hid (And.intro (HBW.out.1.below hb1 HBW.out.1.lt) (below_step HBW.out.2 hb1))
    refine hK.out _ _ (⟨H1.out.1.cell 0, H1.out.1.cell 1⟩) (fun _ => ?_)
    clear hK K
    try simp only [Act.put, List.setIfInBounds_toArray, List.set_cons_zero, List.set_cons_succ]
    repeat (first | (refine SeqH.take (v := ?_) rfl (by rfl) ?_ ?_; rotate_left; (· intro w hSw; (try dsimp only at hSw); obtain ⟨a0, a1⟩ := hSw; go_simp; (try with_reducible rfl)); simp only [Act.put, List.setIfInBounds_toArray, List.set_cons_zero, List.set_cons_succ]) | (refine SeqH.skip rfl (by rfl) ?_; simp only [Act.put, List.setIfInBounds_toArray, List.set_cons_zero, List.set_cons_succ]) | (refine SeqH.pass rfl (by rfl) (by exact ⟨H1.out.1.cell 0, H1.out.1.cell 1⟩) ?_; simp only [Act.put, List.setIfInBounds_toArray, List.set_cons_zero, List.set_cons_succ]))
    refine SeqH.done ?_
    go_wp2
    go_ret
    exact ⟨rfl, H1.out.2⟩
  obtain ⟨h1, h2, h3, h4⟩ := bth_ok hz
  rw [isP_yes hz]
  have CP1 := Lib.hid (fun W hW => CP.out W hW h1 h2)
  have CT1 := Lib.hid (fun W hW => CT.out W hW h1 h2 h3 h4)
  have CI1 := Lib.hid (fun x W h => CI.out x W h h1 h2 h3 h4)
  rw [hz] at CB
  clear CP CT CI hz h1 h2 h3 h4
  generalize Lf.pls ls ls.length = P at *
  generalize Lf.prf ls gs a b = R at *
  generalize sts ls gs = X at *
  go_enter Try.func55, Try.ntmps55
  go_upto_region 1 with fail
  refine wp_region_seq [(0, true), (1, true), (2, false), (3, true), (4, true), (5, true), (7, true), (8, true), (10, true), (6, false), (9, false), (11, false), (12, true), (13, true)] (fun W => World.cell? W ⟨w.heap.size, 0, none⟩ = some (.int .i64 a) ∧ World.cell? W ⟨w.heap.size, 1, none⟩ = some (.int .i64 b))
    (by kernel_rfl) (by kernel_rfl) (by kernel_rfl) (by kernel_rfl) (fun d _ _ _ _ h => by cases d <;> exact h) ⟨HBW.out.1.cell 0, HBW.out.1.cell 1⟩ (fun _ => ?_)
  repeat (first | (refine SeqH.take (v := ?_) rfl (by rfl) ?_ ?_; rotate_left; (· intro w hSw; (try dsimp only at hSw); obtain ⟨a0, a1⟩ := hSw; go_simp; (try with_reducible rfl)); simp only [Act.put, List.setIfInBounds_toArray, List.set_cons_zero, List.set_cons_succ]) | (refine SeqH.skip rfl (by rfl) ?_; simp only [Act.put, List.setIfInBounds_toArray, List.set_cons_zero, List.set_cons_succ]))
  refine SeqH.step rfl (by rfl) (fun K hK => ?_)
  go_simp
  go_at_call 84
  refine (CB.out _ HBW.out.2).mono ?_
  rintro e w7 ⟨rfl, hb1⟩
  try dsimp only
  have H1 := Lib.hid (And.intro (HBW.out.1.below hb1 HBW.out.1.lt) (below_step HBW.out.2 hb1))
  refine hK.out _ _ (⟨H1.out.1.cell 0, H1.out.1.cell 1⟩) (fun _ => ?_)
  clear hK K
  try simp only [Act.put, List.setIfInBounds_toArray, List.set_cons_zero, List.set_cons_succ]
  repeat (first | (refine SeqH.take (v := ?_) rfl (by rfl) ?_ ?_; rotate_left; (· intro w hSw; (try dsimp only at hSw); obtain ⟨a0, a1⟩ := hSw; go_simp; (try with_reducible rfl)); simp only [Act.put, List.setIfInBounds_toArray, List.set_cons_zero, List.set_cons_succ]) | (refine SeqH.skip rfl (by rfl) ?_; simp only [Act.put, List.setIfInBounds_toArray, List.set_cons_zero, List.set_cons_succ]))
  refine SeqH.step rfl (by rfl) (fun K hK => ?_)
  go_simp
  go_at_call 104
  refine (CP1.out _ H1.out.2).mono ?_
  rintro e w7 ⟨rfl, hb1⟩
  try dsimp only
  have H2 := Lib.hid (And.intro (H1.out.1.below hb1 H1.out.1.lt) (below_step H1.out.2 hb1))
  refine hK.out _ _ (⟨H2.out.1.cell 0, H2.out.1.cell 1⟩) (fun _ => ?_)
  clear hK K
  try simp only [Act.put, List.setIfInBounds_toArray, List.set_cons_zero, List.set_cons_succ]
  repeat (first | (refine SeqH.take (v := ?_) rfl (by rfl) ?_ ?_; rotate_left; (· intro w hSw; (try dsimp only at hSw); obtain ⟨a0, a1⟩ := hSw; go_simp; (try with_reducible rfl)); simp only [Act.put, List.setIfInBounds_toArray, List.set_cons_zero, List.set_cons_succ]) | (refine SeqH.skip rfl (by rfl) ?_; simp only [Act.put, List.setIfInBounds_toArray, List.set_cons_zero, List.set_cons_succ]))
  refine SeqH.step rfl (by rfl) (fun K hK => ?_)
  go_simp
  go_at_call 105
  refine (CT1.out _ H2.out.2).mono ?_
  rintro e w7 ⟨a9, c9, rfl, ho, hb1⟩
  try dsimp only
  have H3 := Lib.hid (And.intro (H2.out.1.below hb1 H2.out.1.lt) (below_step H2.out.2 hb1))
  have HO := Lib.hid ho
  clear ho
  refine hK.out _ _ (⟨H3.out.1.cell 0, H3.out.1.cell 1⟩) (fun _ => ?_)
  clear hK K
  try simp only [Act.put, List.setIfInBounds_toArray, List.set_cons_zero, List.set_cons_succ]
  repeat (first | (refine SeqH.take (v := ?_) rfl (by rfl) ?_ ?_; rotate_left; (· intro w hSw; (try dsimp only at hSw); obtain ⟨a0, a1⟩ := hSw; go_simp; (try with_reducible rfl)); simp only [Act.put, List.setIfInBounds_toArray, List.set_cons_zero, List.set_cons_succ]) | (refine SeqH.skip rfl (by rfl) ?_; simp only [Act.put, List.setIfInBounds_toArray, List.set_cons_zero, List.set_cons_succ]))
  refine SeqH.step rfl (by rfl) (fun K hK => ?_)
  go_simp
  go_at_call 106
  refine (CI1.out _ _ (OwnG.rows stC_len HO.out)).mono ?_
  rintro e w7 ⟨rfl, hb1⟩
  try dsimp only
  have H4 := Lib.hid (And.intro (H3.out.1.below hb1 H3.out.1.lt) (below_step H3.out.2 hb1))
  refine hK.out _ _ (⟨H4.out.1.cell 0, H4.out.1.cell 1⟩) (fun _ => ?_)
  clear hK K
  try simp only [Act.put, List.setIfInBounds_toArray, List.set_cons_zero, List.set_cons_succ]
  repeat (first | (refine SeqH.take (v := ?_) rfl (by rfl) ?_ ?_; rotate_left; (· intro w hSw; (try dsimp only at hSw); obtain ⟨a0, a1⟩ := hSw; go_simp; (try with_reducible rfl)); simp only [Act.put, List.setIfInBounds_toArray, List.set_cons_zero, List.set_cons_succ]) | (refine SeqH.skip rfl (by rfl) ?_; simp only [Act.put, List.setIfInBounds_toArray, List.set_cons_zero, List.set_cons_succ]))
  refine SeqH.done ?_
  go_wp2
  go_ret
  exact ⟨rfl, H4.out.2⟩
end Go.Proofs.Ytabfcnfddemblaa.Lo
