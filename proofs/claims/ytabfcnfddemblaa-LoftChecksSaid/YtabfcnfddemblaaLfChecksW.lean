/- LoftChecks returns true, whatever the lofts, the goods and the plan. -/
import Derived.Test.YtabfcnfddemblaaLf50
import Derived.Test.YtabfcnfddemblaaLfProofsW
namespace Go.Proofs.Ytabfcnfddemblaa.Lo
open Go.RowKit

set_option maxRecDepth 100000 in
set_option maxHeartbeats 2000000 in
theorem large_any (ua va : Option Addr) (n m : Nat) (uc vc : Nat) (z : Value) (plan : List Lf.L) (w : World) (hz : Loads w z plan) : Calls Try.prog 43 #[.agg #[.slice ua n uc, .slice va m vc], z] w fun e w' => ∃ b : Bool, e = .returned (.bool b) ∧ (b = false → (n ≤ 10 ∧ m ≤ 20) ∧ plan.length ≤ 20 ∧ ∀ j (hj : j < plan.length), plan[j].gs.length ≤ 20 ∧ plan[j].hs.length ≤ 40) ∧ Below w.heap.size w w' := by
  obtain ⟨za, zc, rfl⟩ := hz.form
  have HZ := Lib.hid (loads_row hz)
  have HX := Lib.hid (And.intro (BlockAt.new w #[.slice ua n uc, .slice va m vc] FirmT) (below_alloc2 (Below.refl w.heap.size w) (.cells #[.slice ua n uc, .slice va m vc] FirmT)))
  have x0 : World.cell? _ _ = some (.slice ua n uc) := HX.out.1.cell 0
  have x1 : World.cell? _ _ = some (.slice va m vc) := HX.out.1.cell 1
  clear hz
  by_cases h1 : 10 < n
  · have d1 : decide ((n : Int) > 10) = true := decide_eq_true (by omega)
    have d2 : decide (10 < (n : Int)) = true := decide_eq_true (by omega)
    have d3 : decide (10 < n) = true := decide_eq_true h1
    go_enter Try.func43, Try.ntmps43
    go_wp2
    go_ret
    exact ⟨true, rfl, fun h => by (cases h), HX.out.2⟩
  have d1 : decide ((n : Int) > 10) = false := decide_eq_false (by omega)
  have d2 : decide (10 < (n : Int)) = false := decide_eq_false (by omega)
  have d3 : decide (10 < n) = false := decide_eq_false h1
  by_cases h2 : 20 < m
  · have d4 : decide ((m : Int) > 20) = true := decide_eq_true (by omega)
    have d5 : decide (20 < (m : Int)) = true := decide_eq_true (by omega)
    have d6 : decide (20 < m) = true := decide_eq_true h2
    go_enter Try.func43, Try.ntmps43
    go_wp2
    go_ret
    exact ⟨true, rfl, fun h => by (cases h), HX.out.2⟩
  have d4 : decide ((m : Int) > 20) = false := decide_eq_false (by omega)
  have d5 : decide (20 < (m : Int)) = false := decide_eq_false (by omega)
  have d6 : decide (20 < m) = false := decide_eq_false h2
  by_cases h3 : 20 < plan.length
  · have d7 : decide ((plan.length : Int) > 20) = true := decide_eq_true (by omega)
    have d8 : decide (20 < (plan.length : Int)) = true := decide_eq_true (by omega)
    have d9 : decide (20 < plan.length) = true := decide_eq_true h3
    go_enter Try.func43, Try.ntmps43
    go_wp2
    go_ret
    exact ⟨true, rfl, fun h => by (cases h), HX.out.2⟩
  have d7 : decide ((plan.length : Int) > 20) = false := decide_eq_false (by omega)
  have d8 : decide (20 < (plan.length : Int)) = false := decide_eq_false (by omega)
  have d9 : decide (20 < plan.length) = false := decide_eq_false h3
  go_enter Try.func43, Try.ntmps43
  go_wp2
  clear x0 x1 d1 d2 d3 d4 d5 d6 d7 d8 d9
  go_loopw [5] (fun t wr => ∃ k : Nat, k ≤ plan.length ∧ t = .int .i64 k ∧ Hid ((∀ j (hj : j < plan.length), j < k → plan[j].gs.length ≤ 20 ∧ plan[j].hs.length ≤ 40) ∧ Below w.heap.size w wr)) (fun t _ => plan.length - (intOf t).toNat)
  case atStart => exact ⟨0, Nat.zero_le _, rfl, Lib.hid ⟨fun j hj h => absurd h (Nat.not_lt_zero _), HX.out.2⟩⟩
  case round =>
    obtain ⟨k, hk, rfl, hg⟩ := hrel
    clear HX
    by_cases hlt : k < plan.length
    · obtain ⟨b, off, rfl, hb, hr⟩ := HZ.out k hlt
      obtain ⟨p, q, ⟨c0, c1, c2, c3⟩, hI1, hI2⟩ := hr.all hg.out.2 hb
      obtain ⟨pa, pc, rfl⟩ := hI1.form
      obtain ⟨qa, qc, rfl⟩ := hI2.form
      have HI : Hid (plan[k].gs.length ≤ 20 ∧ plan[k].hs.length ≤ 40 → ∀ j (hj : j < plan.length), j < k + 1 → plan[j].gs.length ≤ 20 ∧ plan[j].hs.length ≤ 40) := Lib.hid fun h j hj hjk => by
        by_cases e : j = k
        · subst e; exact h
        · exact hg.out.1 j hj (by omega)
      have HW := Lib.hid hg.out.2
      clear hg hI1 hI2
      generalize plan[k] = x at *
      obtain ⟨xl, xa, xh, xg⟩ := x
      dsimp only at *
      by_cases h4 : 20 < xg.length
      · have d1 : decide ((xg.length : Int) > 20) = true := decide_eq_true (by omega)
        have d2 : decide (20 < (xg.length : Int)) = true := decide_eq_true (by omega)
        have d3 : decide (20 < xg.length) = true := decide_eq_true h4
        go_wp2
        go_ret
        exact ⟨true, rfl, fun h => by (cases h), HW.out⟩
      have d1 : decide ((xg.length : Int) > 20) = false := decide_eq_false (by omega)
      have d2 : decide (20 < (xg.length : Int)) = false := decide_eq_false (by omega)
      have d3 : decide (20 < xg.length) = false := decide_eq_false h4
      by_cases h5 : 40 < xh.length
      · have d4 : decide ((xh.length : Int) > 40) = true := decide_eq_true (by omega)
        have d5 : decide (40 < (xh.length : Int)) = true := decide_eq_true (by omega)
        have d6 : decide (40 < xh.length) = true := decide_eq_true h5
        go_wp2
        go_ret
        exact ⟨true, rfl, fun h => by (cases h), HW.out⟩
      have d4 : decide ((xh.length : Int) > 40) = false := decide_eq_false (by omega)
      have d5 : decide (40 < (xh.length : Int)) = false := decide_eq_false (by omega)
      have d6 : decide (40 < xh.length) = false := decide_eq_false h5
      have HI2 := Lib.hid (HI.out ⟨by omega, by omega⟩)
      clear HI
      go_wp2
      go_roundw
      case rel => exact ⟨k + 1, by omega, by go_num, Lib.hid ⟨HI2.out, HW.out⟩⟩
      case measure => simp [intOf]; omega
    · obtain rfl : k = plan.length := by omega
      have HG := Lib.hid hg.out
      clear hg
      go_wp2
      go_ret
      exact ⟨false, rfl, fun _ => ⟨⟨by omega, by omega⟩, by omega, fun j hj => HG.out.1 j hj hj⟩, HG.out.2⟩
set_option maxRecDepth 100000 in
set_option maxHeartbeats 4000000 in
theorem checks_walk (u v : Value) (ls : List Lf.F) (gs : List Lf.G) (z : Value) (plan : List Lf.L) (w : World) (hu : Lofts w u ls) (hv : Goods w v gs) (hz : Loads w z plan) :
    Calls Try.prog 9 #[.agg #[u, v], z] w fun e w' => e = .returned (.bool true) ∧ Below w.heap.size w w' := by
  have CA := Lib.hid (fun W (hW : Below w.heap.size w W) => valGoods_any v gs W (hv.all hW))
  have CB := Lib.hid (fun W (hW : Below w.heap.size w W) => rvalGoods_any v gs W (hv.all hW))
  have CC := Lib.hid (fun W (hW : Below w.heap.size w W) h => checkF_any u v z ls gs plan W (hu.all hW) (hv.all hW) (hz.all hW) h)
  have CD := Lib.hid (fun W (hW : Below w.heap.size w W) h h2 => rcheckF_any u v z ls gs plan W (hu.all hW) (hv.all hW) (hz.all hW) h h2)
  have CS := Lib.hid (fun W => sane_any W)
  have CL := Lib.hid (fun W (hW : Below w.heap.size w W) (ua va : Option Addr) (uc vc : Nat) => large_any ua va ls.length gs.length uc vc z plan W (hz.all hW))
  obtain ⟨ua, uc, rfl⟩ := hu.form
  obtain ⟨va, vc, rfl⟩ := hv.form
  obtain ⟨za, zc, rfl⟩ := hz.form
  have HS0 := Lib.hid (And.intro (BlockAt.new w #[.slice ua ls.length uc, .slice va gs.length vc] FirmT) (below_alloc2 (Below.refl w.heap.size w) (.cells #[.slice ua ls.length uc, .slice va gs.length vc] FirmT)))
  clear hu hv hz
  generalize Lf.valG gs = E at *
  generalize Lf.chkE ls gs plan = F at *
  have x0 : World.cell? _ _ = some (.slice ua ls.length uc) := HS0.out.1.cell 0
  have x1 : World.cell? _ _ = some (.slice va gs.length vc) := HS0.out.1.cell 1
  go_enter Try.func9, Try.ntmps9
  go_wp2_with fail
  refine (CL.out _ HS0.out.2 ua va uc vc).mono ?_
  rintro e w1 ⟨b, rfl, hbf, hb1⟩
  have HS1 := Lib.hid (And.intro (HS0.out.1.below hb1 HS0.out.1.lt) (below_step HS0.out.2 hb1))
  have HBF := Lib.hid hbf
  clear hb1 hbf x0 x1 HS0 CL
  cases b
  case true =>
    go_wp2_with fail
    refine (CS.out _).mono ?_
    rintro e w4 ⟨rfl, hb1⟩
    have HE := Lib.hid (below_step HS1.out.2 hb1)
    clear hb1
    go_wp2
    go_ret
    exact ⟨rfl, HE.out⟩
  obtain ⟨_, hp20, hsm⟩ := HBF.out rfl
  have CC1 := Lib.hid (fun W hW => CC.out W hW hp20)
  have CD1 := Lib.hid (fun W hW => CD.out W hW hp20 (fun j hj => by have := hsm j hj; omega))
  clear CC CD hp20 hsm HBF
  have HS2 := Lib.hid (And.intro HS1.out.1.drew (below_drewN HS1.out.2 1))
  go_wp2_with fail
  refine wp_region_seq [(0, true), (1, true), (3, true), (4, true), (2, false), (5, false), (6, true), (7, true), (8, true), (9, true), (10, true), (11, true), (12, true), (14, true), (15, true), (16, true), (17, true), (18, true), (13, false), (19, false), (20, true), (21, true), (22, true), (23, false), (24, true), (25, true)] (fun W => W.cell? ⟨w.heap.size, 0, none⟩ = some (.slice ua ls.length uc) ∧ W.cell? ⟨w.heap.size, 1, none⟩ = some (.slice va gs.length vc))
    (by kernel_rfl) (by kernel_rfl) (by kernel_rfl) (by kernel_rfl) (fun d _ _ _ _ h => by cases d <;> exact h) ⟨HS2.out.1.cell 0, HS2.out.1.cell 1⟩ (fun _ => ?_)
  clear HS1
  repeat (first | (refine SeqH.take (v := ?_) rfl (by rfl) ?_ ?_; rotate_left; (· intro w hSw; (try dsimp only at hSw); obtain ⟨q0, q1⟩ := hSw; go_simp; (try with_reducible rfl)); simp only [Act.put, List.setIfInBounds_toArray, List.set_cons_zero, List.set_cons_succ]) | (refine SeqH.skip rfl (by rfl) ?_; simp only [Act.put, List.setIfInBounds_toArray, List.set_cons_zero, List.set_cons_succ]))
  refine SeqH.step rfl (by rfl) (fun K hK => ?_)
  go_simp
  go_at_call 44
  refine (CA.out _ HS2.out.2).mono ?_
  rintro e w7 ⟨rfl, hb1⟩
  try dsimp only
  have HS3 := Lib.hid (And.intro (HS2.out.1.below hb1 HS2.out.1.lt) (below_step HS2.out.2 hb1))
  clear hb1 HS2
  refine hK.out _ _ (⟨HS3.out.1.cell 0, HS3.out.1.cell 1⟩) (fun _ => ?_)
  clear hK K
  try simp only [Act.put, List.setIfInBounds_toArray, List.set_cons_zero, List.set_cons_succ]
  repeat (first | (refine SeqH.take (v := ?_) rfl (by rfl) ?_ ?_; rotate_left; (· intro w hSw; (try dsimp only at hSw); obtain ⟨q0, q1⟩ := hSw; go_simp; (try with_reducible rfl)); simp only [Act.put, List.setIfInBounds_toArray, List.set_cons_zero, List.set_cons_succ]) | (refine SeqH.skip rfl (by rfl) ?_; simp only [Act.put, List.setIfInBounds_toArray, List.set_cons_zero, List.set_cons_succ]))
  refine SeqH.step rfl (by rfl) (fun K hK => ?_)
  go_simp
  go_at_call 45
  refine (CB.out _ HS3.out.2).mono ?_
  rintro e w7 ⟨rfl, hb1⟩
  try dsimp only
  have HS4 := Lib.hid (And.intro (HS3.out.1.below hb1 HS3.out.1.lt) (below_step HS3.out.2 hb1))
  clear hb1 HS3
  refine hK.out _ _ (⟨HS4.out.1.cell 0, HS4.out.1.cell 1⟩) (fun _ => ?_)
  clear hK K
  try simp only [Act.put, List.setIfInBounds_toArray, List.set_cons_zero, List.set_cons_succ]
  repeat (first | (refine SeqH.take (v := ?_) rfl (by rfl) ?_ ?_; rotate_left; (· intro w hSw; (try dsimp only at hSw); obtain ⟨q0, q1⟩ := hSw; go_simp; (try with_reducible rfl)); simp only [Act.put, List.setIfInBounds_toArray, List.set_cons_zero, List.set_cons_succ]) | (refine SeqH.skip rfl (by rfl) ?_; simp only [Act.put, List.setIfInBounds_toArray, List.set_cons_zero, List.set_cons_succ]))
  refine SeqH.step rfl (by rfl) (fun K hK => ?_)
  go_simp
  go_at_call 46
  refine (CC1.out _ HS4.out.2).mono ?_
  rintro e w7 ⟨rfl, hb1⟩
  try dsimp only
  have HS5 := Lib.hid (And.intro (HS4.out.1.below hb1 HS4.out.1.lt) (below_step HS4.out.2 hb1))
  clear hb1 HS4
  refine hK.out _ _ (⟨HS5.out.1.cell 0, HS5.out.1.cell 1⟩) (fun _ => ?_)
  clear hK K
  try simp only [Act.put, List.setIfInBounds_toArray, List.set_cons_zero, List.set_cons_succ]
  repeat (first | (refine SeqH.take (v := ?_) rfl (by rfl) ?_ ?_; rotate_left; (· intro w hSw; (try dsimp only at hSw); obtain ⟨q0, q1⟩ := hSw; go_simp; (try with_reducible rfl)); simp only [Act.put, List.setIfInBounds_toArray, List.set_cons_zero, List.set_cons_succ]) | (refine SeqH.skip rfl (by rfl) ?_; simp only [Act.put, List.setIfInBounds_toArray, List.set_cons_zero, List.set_cons_succ]))
  refine SeqH.step rfl (by rfl) (fun K hK => ?_)
  go_simp
  go_at_call 47
  refine (CD1.out _ HS5.out.2).mono ?_
  rintro e w7 ⟨rfl, hb1⟩
  try dsimp only
  have HS6 := Lib.hid (And.intro (HS5.out.1.below hb1 HS5.out.1.lt) (below_step HS5.out.2 hb1))
  clear hb1 HS5
  refine hK.out _ _ (⟨HS6.out.1.cell 0, HS6.out.1.cell 1⟩) (fun _ => ?_)
  clear hK K
  try simp only [Act.put, List.setIfInBounds_toArray, List.set_cons_zero, List.set_cons_succ]
  repeat (first | (refine SeqH.take (v := ?_) rfl (by rfl) ?_ ?_; rotate_left; (· intro w hSw; (try dsimp only at hSw); obtain ⟨q0, q1⟩ := hSw; go_simp; (try with_reducible rfl)); simp only [Act.put, List.setIfInBounds_toArray, List.set_cons_zero, List.set_cons_succ]) | (refine SeqH.skip rfl (by rfl) ?_; simp only [Act.put, List.setIfInBounds_toArray, List.set_cons_zero, List.set_cons_succ]))
  refine SeqH.step rfl (by rfl) (fun K hK => ?_)
  go_simp
  go_at_call 25
  refine (CS.out _).mono ?_
  rintro e w7 ⟨rfl, hb1⟩
  try dsimp only
  have HS7 := Lib.hid (And.intro (HS6.out.1.below hb1 HS6.out.1.lt) (below_step HS6.out.2 hb1))
  clear hb1 HS6
  refine hK.out _ _ (⟨HS7.out.1.cell 0, HS7.out.1.cell 1⟩) (fun _ => ?_)
  clear hK K
  try simp only [Act.put, List.setIfInBounds_toArray, List.set_cons_zero, List.set_cons_succ]
  repeat (first | (refine SeqH.take (v := ?_) rfl (by rfl) ?_ ?_; rotate_left; (· intro w hSw; (try dsimp only at hSw); obtain ⟨q0, q1⟩ := hSw; go_simp; (try with_reducible rfl)); simp only [Act.put, List.setIfInBounds_toArray, List.set_cons_zero, List.set_cons_succ]) | (refine SeqH.skip rfl (by rfl) ?_; simp only [Act.put, List.setIfInBounds_toArray, List.set_cons_zero, List.set_cons_succ]))
  refine SeqH.done ?_
  go_wp2
  go_ret
  exact ⟨rfl, HS7.out.2⟩
end Go.Proofs.Ytabfcnfddemblaa.Lo
