/- The reference's At. -/
import Derived.Test.YtimpdmpfpbeflaaBand31
namespace Go.Proofs.Ytimpdmpfpbeflaa
open Go.RowKit

theorem Bd.at_none_of {rs : List Bd.R} {p : Int} (h : Bd.valE rs = 0) (hp : p < 0 ∨ Bd.len rs ≤ p) : Bd.atE rs p = 5 ∧ Bd.atM rs p = ⟨0, 0, 0⟩ := by
  have hn : ¬ (0 ≤ p ∧ p < Bd.len rs) := by omega
  unfold Bd.atE Bd.atM
  rw [if_pos h, if_neg hn, if_neg (fun e => hn e.2)]
  exact ⟨rfl, rfl⟩
theorem Bd.at_in {rs : List Bd.R} {p : Int} (h : Bd.valE rs = 0) (h1 : 0 ≤ p) (h2 : p < Bd.len rs) : Bd.atE rs p = 0 := by
  unfold Bd.atE
  rw [if_pos h, if_pos ⟨h1, h2⟩]

theorem ref_at_results {W : World} {B : Nat} {m : Bd.M} {e : Int} {tmps : Array Value} (hM : BlockAt W B #[.int .i64 m.t, .int .i64 m.s, .int .i64 m.f] 35)
    (h4 : tmps.getD 4 undef = .pointer (some ⟨B, 0, none⟩)) (h5 : tmps.getD 5 undef = .int .i64 e) :
    (results Try.f28 tmps).run Try.prog W = .ok (.tuple #[markV m, .int .i64 e]) W := by
  have c0 : W.cell? ⟨B, 0, none⟩ = some (.int .i64 m.t) := hM.cell 0
  have c1 : W.cell? ⟨B, 1, none⟩ = some (.int .i64 m.s) := hM.cell 1
  have c2 : W.cell? ⟨B, 2, none⟩ = some (.int .i64 m.f) := hM.cell 2
  simp at h4 h5
  simp [results, Try.results28, go_sem, h4, h5, c0, c1, c2]
set_option maxRecDepth 20000 in
set_option maxHeartbeats 2000000 in
theorem ref_at_any (v : Value) (rs : List Bd.R) (p : Int) (w : World) (hv : Runs w v rs) (hl : rs.length ≤ 1000) :
    Calls Try.prog 28 #[v, .int .i64 p] w fun e w' => e = .returned (.tuple #[markV (Bd.atM rs p), .int .i64 (Bd.atE rs p)]) ∧ Below w.heap.size w w' := by
  have V := Lib.hid (fun W (hW : Below w.heap.size w W) => ref_validate_any v rs W (hv.all hW) hl)
  have N := Lib.hid (fun W (hW : Below w.heap.size w W) h => size_any v rs W (hv.all hW) h)
  have K := Lib.hid (fun W (hW : Below w.heap.size w W) => ref_mark_any v rs p W (hv.all hW))
  obtain ⟨a, c, rfl⟩ := hv.form
  clear hv
  generalize hE : Bd.atE rs p = E
  generalize hM : Bd.atM rs p = m
  have hB0 := (Below.refl w.heap.size w).alloc (Nat.le_refl _) (.cells #[.int .i64 0, .int .i64 0, .int .i64 0] 35)
  go_enter Try.func28, Try.ntmps28
  go_wp2_with fail
  refine (V.out _ hB0).mono ?_
  rintro e w1 ⟨rfl, hb1⟩
  have bM := (BlockAt.new w #[.int .i64 0, .int .i64 0, .int .i64 0] 35).below hb1 (by simp)
  have hB1 := below_step hB0 hb1
  have hs := hb1.size
  simp at hs
  have f0 := bM.frozen 0
  clear hb1 hB0
  by_cases hv0 : Bd.valE rs = 0
  · rw [hv0]
    have hf := Bd.fine_of_valid hv0
    have N := Lib.hid (fun W hW => N.out W hW hf)
    clear hf
    by_cases hin : 0 ≤ p ∧ p < Bd.len rs
    · rw [Bd.at_in hv0 hin.1 hin.2] at hE
      have HE := Lib.hid hE
      have HM := Lib.hid hM
      have J := Lib.hid (fun W hW => K.out W hW hv0 hin.1 hin.2)
      obtain ⟨h1, h2⟩ := hin
      have hlv := Bd.len_valid hv0
      rw [hM] at J
      clear hE hM hv0 V K
      generalize Bd.len rs = n at *
      go_wp2_with fail
      refine (N.out _ hB1).mono ?_
      rintro e w2 ⟨rfl, hb2⟩
      have bM := bM.below hb2 (by omega)
      have hB2 := below_step hB1 hb2
      have hs2 := hb2.size
      clear hb2 N hB1 f0
      go_wp2_with fail
      refine (J.out _ hB2).mono ?_
      rintro e w3 ⟨rfl, hb3⟩
      have bM := bM.below hb3 (by omega)
      have hB3 := below_step hB2 hb3
      have f0 := bM.frozen 0
      have f1 := bM.frozen 1
      have f2 := bM.frozen 2
      have HN := Lib.hid (bM.set3 (.int .i64 m.t) (.int .i64 m.s) (.int .i64 m.f))
      have c0 := bM.cell 0
      have c1 := bM.cell 1
      have c2 := bM.cell 2
      clear bM hb3 hB2 J
      go_wp2
      refine bodyPost_ret (v := .tuple #[.agg #[.int .i64 m.t, .int .i64 m.s, .int .i64 m.f], .int .i64 0]) (ref_at_results (m := ⟨m.t, m.s, m.f⟩) HN.out (by simp) (by simp)) rfl ⟨by rw [← HE.out, ← HM.out], ?_⟩
      refine ((hB3.setCell ?_ _).setCell ?_ _).setCell ?_ _ <;> exact Nat.le_refl _
    · rw [(Bd.at_none_of hv0 (by omega)).1] at hE
      rw [(Bd.at_none_of hv0 (by omega)).2] at hM
      have HE := Lib.hid hE
      have HM := Lib.hid hM
      have hlv := Bd.len_valid hv0
      have f1 := bM.frozen 1
      have f2 := bM.frozen 2
      have HN := Lib.hid (bM.set3 (.int .i64 0) (.int .i64 0) (.int .i64 0))
      have c0 := bM.cell 0
      have c1 := bM.cell 1
      have c2 := bM.cell 2
      clear hE hM hv0 V K
      generalize Bd.len rs = n at *
      rcases (show p < 0 ∨ (0 ≤ p ∧ n ≤ p) by omega) with h1 | ⟨h1, h2⟩
      · clear bM N
        go_wp2
        refine bodyPost_ret (v := .tuple #[.agg #[.int .i64 0, .int .i64 0, .int .i64 0], .int .i64 5]) (ref_at_results (m := ⟨0, 0, 0⟩) HN.out (by simp) (by simp)) rfl ⟨by rw [← HE.out, ← HM.out], ?_⟩
        refine ((hB1.setCell ?_ _).setCell ?_ _).setCell ?_ _ <;> exact Nat.le_refl _
      · clear c0 c1 c2 f0 f1 f2 HN
        go_wp2_with fail
        refine (N.out _ hB1).mono ?_
        rintro e w2 ⟨rfl, hb2⟩
        have bM := bM.below hb2 (by omega)
        have hB2 := below_step hB1 hb2
        have f0 := bM.frozen 0
        have f1 := bM.frozen 1
        have f2 := bM.frozen 2
        have HN := Lib.hid (bM.set3 (.int .i64 0) (.int .i64 0) (.int .i64 0))
        have c0 := bM.cell 0
        have c1 := bM.cell 1
        have c2 := bM.cell 2
        have hs2 := hb2.size
        clear bM hb2 hB1 N
        go_wp2
        refine bodyPost_ret (v := .tuple #[.agg #[.int .i64 0, .int .i64 0, .int .i64 0], .int .i64 5]) (ref_at_results (m := ⟨0, 0, 0⟩) HN.out (by simp) (by simp)) rfl ⟨by rw [← HE.out, ← HM.out], ?_⟩
        refine ((hB2.setCell ?_ _).setCell ?_ _).setCell ?_ _ <;> exact Nat.le_refl _
  · rw [(Bd.at_inv hv0).1] at hE
    rw [(Bd.at_inv hv0).2] at hM
    have HM := Lib.hid hM
    generalize Bd.valE rs = z at *
    have HE := Lib.hid hE
    have hz : (z == 0) = false := by simp [hv0]
    clear hE
    have f1 := bM.frozen 1
    have f2 := bM.frozen 2
    have HN := Lib.hid (bM.set3 (.int .i64 0) (.int .i64 0) (.int .i64 0))
    have c0 := bM.cell 0
    have c1 := bM.cell 1
    have c2 := bM.cell 2
    clear bM V K N hM hv0
    go_wp2
    refine bodyPost_ret (v := .tuple #[.agg #[.int .i64 0, .int .i64 0, .int .i64 0], .int .i64 z]) (ref_at_results (m := ⟨0, 0, 0⟩) HN.out (by simp) (by simp)) rfl ⟨by rw [← HE.out, ← HM.out], ?_⟩
    refine ((hB1.setCell ?_ _).setCell ?_ _).setCell ?_ _ <;> exact Nat.le_refl _
end Go.Proofs.Ytimpdmpfpbeflaa
