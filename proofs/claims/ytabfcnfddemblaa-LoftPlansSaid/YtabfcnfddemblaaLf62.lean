/- Whether two lists of loads are the same: of the reference. -/
import Derived.Test.YtabfcnfddemblaaLf47
import Derived.Test.YtabfcnfddemblaaLfS
namespace Go.Proofs.Ytabfcnfddemblaa.Lo
open Go.RowKit

set_option maxRecDepth 100000 in
set_option maxHeartbeats 8000000 in
theorem rsameLoads_any (u v : Value) (l : List Lf.L) (w : World) (hu : Loads w u l) (hv : Loads w v l) (hn : l.length ≤ 100) (hl : ∀ k (hk : k < l.length), l[k].hs.length ≤ 100 ∧ l[k].gs.length ≤ 100) :
    Calls Try.prog 50 #[u, v] w fun e w' => e = .returned (.bool true) ∧ Below w.heap.size w w' := by
  obtain ⟨ua, uc, rfl⟩ := hu.form
  obtain ⟨va, vc, rfl⟩ := hv.form
  have HU := Lib.hid (loads_row hu)
  have HV := Lib.hid (loads_row hv)
  have HL := Lib.hid hl
  clear hu hv hl
  go_enter Try.func50, Try.ntmps50
  go_wp2
  go_loopw [5] (fun t wr => ∃ k : Nat, k ≤ l.length ∧ t = .int .i64 k ∧ Hid (Below w.heap.size w wr)) (fun t _ => l.length - (intOf t).toNat)
  case atStart => exact ⟨0, Nat.zero_le _, rfl, Lib.hid (Below.refl _ _)⟩
  case round =>
    obtain ⟨k, hk, rfl, hg⟩ := hrel
    by_cases hlt : k < l.length
    · obtain ⟨zb, zo, rfl, hzb, hzr⟩ := HU.out k hlt
      obtain ⟨yb, yo, rfl, hyb, hyr⟩ := HV.out k hlt
      obtain ⟨p, q, ⟨c0, c1, c2, c3⟩, hI1, hI2⟩ := hzr.all hg.out hzb
      obtain ⟨r, s, ⟨d0, d1, d2, d3⟩, hJ1, hJ2⟩ := hyr.all hg.out hyb
      obtain ⟨pa, pc, rfl⟩ := hI1.form
      obtain ⟨qa, qc, rfl⟩ := hI2.form
      obtain ⟨ra, rc, rfl⟩ := hJ1.form
      obtain ⟨sa, sc, rfl⟩ := hJ2.form
      have hsw := hg.out.size
      have hzw : zb < wr.heap.size := by omega
      have hyw : yb < wr.heap.size := by omega
      obtain ⟨hh, hgl⟩ := HL.out k hlt
      have HG := Lib.hid hg.out
      have hkd : decide (k < l.length) = true := decide_eq_true hlt
      clear hg hzr hyr
      generalize l[k] = x at *
      obtain ⟨xl, xa, xh, xg⟩ := x
      dsimp only at *
      have C1 := Lib.hid (fun W (hW : Below wr.heap.size wr W) => sameInts_any (.slice pa xh.length pc) (.slice ra xh.length rc) xh W (hI1.all hW) (hJ1.all hW) (by omega))
      have C2 := Lib.hid (fun W (hW : Below wr.heap.size wr W) => sameInts_any (.slice qa xg.length qc) (.slice sa xg.length sc) xg W (hI2.all hW) (hJ2.all hW) (by omega))
      have HSX : Hid (∀ W, Below wr.heap.size wr W → (fun W => W.cell? ⟨zb, zo + k * 4, none⟩ = some (.int .i64 xl) ∧ W.cell? ⟨zb, zo + k * 4 + 1, none⟩ = some (.int .i64 xa) ∧ W.cell? ⟨zb, zo + k * 4 + 2, none⟩ = some (.slice pa xh.length pc) ∧ W.cell? ⟨zb, zo + k * 4 + 3, none⟩ = some (.slice qa xg.length qc) ∧ W.cell? ⟨yb, yo + k * 4, none⟩ = some (.int .i64 xl) ∧ W.cell? ⟨yb, yo + k * 4 + 1, none⟩ = some (.int .i64 xa) ∧ W.cell? ⟨yb, yo + k * 4 + 2, none⟩ = some (.slice ra xh.length rc) ∧ W.cell? ⟨yb, yo + k * 4 + 3, none⟩ = some (.slice sa xg.length sc)) W) := Lib.hid fun W h => ⟨(h.cell (p := ⟨zb, zo + k * 4, none⟩) hzw).trans c0, (h.cell (p := ⟨zb, zo + k * 4 + 1, none⟩) hzw).trans c1, (h.cell (p := ⟨zb, zo + k * 4 + 2, none⟩) hzw).trans c2, (h.cell (p := ⟨zb, zo + k * 4 + 3, none⟩) hzw).trans c3, (h.cell (p := ⟨yb, yo + k * 4, none⟩) hyw).trans d0, (h.cell (p := ⟨yb, yo + k * 4 + 1, none⟩) hyw).trans d1, (h.cell (p := ⟨yb, yo + k * 4 + 2, none⟩) hyw).trans d2, (h.cell (p := ⟨yb, yo + k * 4 + 3, none⟩) hyw).trans d3⟩
      have HS1 := Lib.hid (below_drewN (Below.refl wr.heap.size wr) 1)
      clear c0 c1 c2 c3 d0 d1 d2 d3 hI1 hI2 hJ1 hJ2 HU HV HL
      go_wp2_with fail
      refine wp_region_seq [(0, true), (1, true), (2, true), (3, true), (4, true), (5, true), (6, true), (7, true), (8, true), (9, true), (10, true), (11, true), (12, true), (13, true), (14, true), (15, true), (16, true), (17, true), (18, true), (19, true), (20, true), (21, true), (22, true), (23, true), (24, true), (25, true), (26, true), (27, true), (28, true), (29, true), (30, true), (31, true), (32, true), (33, true), (34, true), (35, false), (36, true), (37, true), (38, true), (39, true), (40, true), (41, true), (42, true), (43, true), (44, true), (45, true), (46, true), (47, true), (48, true), (49, false), (50, true), (51, true)] (fun W => W.cell? ⟨zb, zo + k * 4, none⟩ = some (.int .i64 xl) ∧ W.cell? ⟨zb, zo + k * 4 + 1, none⟩ = some (.int .i64 xa) ∧ W.cell? ⟨zb, zo + k * 4 + 2, none⟩ = some (.slice pa xh.length pc) ∧ W.cell? ⟨zb, zo + k * 4 + 3, none⟩ = some (.slice qa xg.length qc) ∧ W.cell? ⟨yb, yo + k * 4, none⟩ = some (.int .i64 xl) ∧ W.cell? ⟨yb, yo + k * 4 + 1, none⟩ = some (.int .i64 xa) ∧ W.cell? ⟨yb, yo + k * 4 + 2, none⟩ = some (.slice ra xh.length rc) ∧ W.cell? ⟨yb, yo + k * 4 + 3, none⟩ = some (.slice sa xg.length sc))
        (by kernel_rfl) (by kernel_rfl) (by kernel_rfl) (by kernel_rfl) (fun d _ _ _ _ h => by cases d <;> exact h) (HSX.out _ HS1.out) (fun _ => ?_)
      repeat (first | (refine SeqH.take (v := ?_) rfl (by rfl) ?_ ?_; rotate_left; (· intro w hSw; (try dsimp only at hSw); obtain ⟨q0, q1, q2, q3, q4, q5, q6, q7⟩ := hSw; go_simp; (try with_reducible rfl)); simp only [Act.put, List.setIfInBounds_toArray, List.set_cons_zero, List.set_cons_succ]) | (refine SeqH.skip rfl (by rfl) ?_; simp only [Act.put, List.setIfInBounds_toArray, List.set_cons_zero, List.set_cons_succ]))
      refine SeqH.step rfl (by rfl) (fun K hK => ?_)
      go_simp
      go_at_call 24
      refine (C1.out _ HS1.out).mono ?_
      rintro e w7 ⟨rfl, hb1⟩
      try dsimp only
      have HS2 := Lib.hid (below_step HS1.out hb1)
      clear hb1 HS1
      refine hK.out _ _ (HSX.out _ HS2.out) (fun _ => ?_)
      clear hK K
      try simp only [Act.put, List.setIfInBounds_toArray, List.set_cons_zero, List.set_cons_succ]
      repeat (first | (refine SeqH.take (v := ?_) rfl (by rfl) ?_ ?_; rotate_left; (· intro w hSw; (try dsimp only at hSw); obtain ⟨q0, q1, q2, q3, q4, q5, q6, q7⟩ := hSw; go_simp; (try with_reducible rfl)); simp only [Act.put, List.setIfInBounds_toArray, List.set_cons_zero, List.set_cons_succ]) | (refine SeqH.skip rfl (by rfl) ?_; simp only [Act.put, List.setIfInBounds_toArray, List.set_cons_zero, List.set_cons_succ]))
      refine SeqH.step rfl (by rfl) (fun K hK => ?_)
      go_simp
      go_at_call 24
      refine (C2.out _ HS2.out).mono ?_
      rintro e w7 ⟨rfl, hb1⟩
      try dsimp only
      have HS3 := Lib.hid (below_step HS2.out hb1)
      clear hb1 HS2
      refine hK.out _ _ (HSX.out _ HS3.out) (fun _ => ?_)
      clear hK K
      try simp only [Act.put, List.setIfInBounds_toArray, List.set_cons_zero, List.set_cons_succ]
      repeat (first | (refine SeqH.take (v := ?_) rfl (by rfl) ?_ ?_; rotate_left; (· intro w hSw; (try dsimp only at hSw); obtain ⟨q0, q1, q2, q3, q4, q5, q6, q7⟩ := hSw; go_simp; (try with_reducible rfl)); simp only [Act.put, List.setIfInBounds_toArray, List.set_cons_zero, List.set_cons_succ]) | (refine SeqH.skip rfl (by rfl) ?_; simp only [Act.put, List.setIfInBounds_toArray, List.set_cons_zero, List.set_cons_succ]))
      refine SeqH.done ?_
      have HE := Lib.hid (below_step HG.out HS3.out)
      clear HSX HS3 C1 C2 HG
      go_wp2
      go_roundw
      case rel => exact ⟨k + 1, by omega, by go_num, HE⟩
      case measure => simp [intOf]; omega
    · obtain rfl : k = l.length := by omega
      go_wp2
      go_ret
      exact ⟨rfl, hg.out⟩
end Go.Proofs.Ytabfcnfddemblaa.Lo
