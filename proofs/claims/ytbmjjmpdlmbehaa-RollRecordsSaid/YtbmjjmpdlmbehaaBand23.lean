/- Slices of bands, of the program and of the reference; BandSlices. -/
import Derived.Test.YtbmjjmpdlmbehaaBand22
import Derived.Test.YtbmjjmpdlmbehaaBand8
namespace Go.Proofs.Ytbmjjmpdlmbehaa
open Go.RowKit

theorem Bd.len_valid {rs : List Bd.R} (h : Bd.valE rs = 0) : 0 ≤ Bd.len rs ∧ Bd.len rs ≤ 1000000 := ⟨Bd.len_nonneg (Bd.valE_pos h), (Bd.valE_zero h).2.2⟩
theorem Bd.sliE_ok {rs : List Bd.R} {fr to : Int} (h : Bd.valE rs = 0) (h1 : 0 ≤ fr) (h2 : fr ≤ to) (h3 : to ≤ Bd.len rs) : Bd.sliE rs fr to = 0 := Bd.sliE_zero.2 ⟨h, h1, h2, h3⟩
theorem Bd.sliE_bad {rs : List Bd.R} {fr to : Int} (h : Bd.valE rs = 0) (h1 : fr < 0 ∨ to < fr ∨ Bd.len rs < to) : Bd.sliE rs fr to = 1 := by
  unfold Bd.sliE; rw [if_pos h, if_neg]; rintro ⟨a, b, c⟩; omega
theorem Bd.sliE_inv {rs : List Bd.R} {fr to : Int} (h : Bd.valE rs ≠ 0) : Bd.sliE rs fr to = Bd.valE rs := by unfold Bd.sliE; rw [if_neg h]

theorem validate_span_any (v : Value) (rs : List Bd.R) (fr to : Int) (w : World) (hv : Runs w v rs) (hl : rs.length ≤ 1000) :
    Calls Try.prog 49 #[v, .int .i64 fr, .int .i64 to] w fun e w' => e = .returned (.int .i64 (Bd.sliE rs fr to)) ∧ Below w.heap.size w w' := by
  have V := Lib.hid (validate_any v rs w hv hl)
  have N := Lib.hid (fun W (hW : Below w.heap.size w W) h => length_any v rs W (hv.all hW) h)
  obtain ⟨a, c, rfl⟩ := hv.form
  clear hv
  generalize hE : Bd.sliE rs fr to = E
  by_cases h : Bd.valE rs = 0
  · have hf := Bd.fine_of_valid h
    have N := Lib.hid (fun W hW => N.out W hW hf)
    rw [h] at V
    clear hf
    rcases (show (0 ≤ fr ∧ fr ≤ to ∧ to ≤ Bd.len rs) ∨ (0 ≤ fr ∧ fr ≤ to ∧ Bd.len rs < to) ∨ (0 ≤ fr ∧ to < fr) ∨ fr < 0 by omega) with ⟨h1, h2, h3⟩ | ⟨h1, h2, h3⟩ | ⟨h1, h2⟩ | h1
    · rw [Bd.sliE_ok h h1 h2 h3] at hE
      have HE := Lib.hid hE
      clear h hE
      generalize Bd.len rs = m at *
      go_enter Try.func49, Try.ntmps49
      go_wp2_with fail
      refine V.out.mono ?_
      rintro e w1 ⟨rfl, hb1⟩
      go_wp2_with fail
      refine (N.out _ hb1).mono ?_
      rintro e w2 ⟨rfl, hb2⟩
      go_wp2
      go_ret
      exact ⟨ret_int HE.out, below_step hb1 hb2⟩
    · rw [Bd.sliE_bad h (by omega)] at hE
      have HE := Lib.hid hE
      clear h hE
      generalize Bd.len rs = m at *
      go_enter Try.func49, Try.ntmps49
      go_wp2_with fail
      refine V.out.mono ?_
      rintro e w1 ⟨rfl, hb1⟩
      go_wp2_with fail
      refine (N.out _ hb1).mono ?_
      rintro e w2 ⟨rfl, hb2⟩
      go_wp2
      go_ret
      exact ⟨ret_int HE.out, below_step hb1 hb2⟩
    · rw [Bd.sliE_bad h (by omega)] at hE
      have HE := Lib.hid hE
      clear h hE
      go_enter Try.func49, Try.ntmps49
      go_wp2_with fail
      refine V.out.mono ?_
      rintro e w1 ⟨rfl, hb1⟩
      go_wp2
      go_ret
      exact ⟨ret_int HE.out, hb1⟩
    · rw [Bd.sliE_bad h (by omega)] at hE
      have HE := Lib.hid hE
      clear h hE
      go_enter Try.func49, Try.ntmps49
      go_wp2_with fail
      refine V.out.mono ?_
      rintro e w1 ⟨rfl, hb1⟩
      go_wp2
      go_ret
      exact ⟨ret_int HE.out, hb1⟩
  · rw [Bd.sliE_inv h] at hE
    subst hE
    generalize Bd.valE rs = z at *
    have hz : (z == 0) = false := by simp [h]
    clear h N
    go_enter Try.func49, Try.ntmps49
    go_wp2_with fail
    refine V.out.mono ?_
    rintro e w1 ⟨rfl, hb1⟩
    go_wp2
    go_ret
    exact ⟨rfl, hb1⟩

theorem span_any (v : Value) (rs : List Bd.R) (fr to : Int) (w : World) (hv : Runs w v rs) (h : Bd.valE rs = 0) :
    Calls Try.prog 66 #[v, .int .i64 fr, .int .i64 to] w fun e w' => e = .returned (.bool (decide (Bd.sliE rs fr to = 0))) ∧ Below w.heap.size w w' := by
  have N := Lib.hid (size_any v rs w hv (Bd.fine_of_valid h))
  obtain ⟨a, c, rfl⟩ := hv.form
  clear hv
  generalize hE : decide (Bd.sliE rs fr to = 0) = E
  rcases (show (0 ≤ fr ∧ fr ≤ to ∧ to ≤ Bd.len rs) ∨ (0 ≤ fr ∧ fr ≤ to ∧ Bd.len rs < to) ∨ (0 ≤ fr ∧ to < fr) ∨ fr < 0 by omega) with ⟨h1, h2, h3⟩ | ⟨h1, h2, h3⟩ | ⟨h1, h2⟩ | h1
  · rw [Bd.sliE_ok h h1 h2 h3] at hE
    have HE := Lib.hid hE
    clear h hE
    generalize Bd.len rs = m at *
    go_enter Try.func66, Try.ntmps66
    go_wp2_with fail
    refine N.out.mono ?_
    rintro e w1 ⟨rfl, hb1⟩
    go_wp2
    go_ret
    exact ⟨ret_bool (by rw [← HE.out]; simp; try omega), hb1⟩
  · rw [Bd.sliE_bad h (by omega)] at hE
    have HE := Lib.hid hE
    clear h hE
    generalize Bd.len rs = m at *
    go_enter Try.func66, Try.ntmps66
    go_wp2_with fail
    refine N.out.mono ?_
    rintro e w1 ⟨rfl, hb1⟩
    go_wp2
    go_ret
    exact ⟨ret_bool (by rw [← HE.out]; simp; try omega), hb1⟩
  · rw [Bd.sliE_bad h (by omega)] at hE
    have HE := Lib.hid hE
    clear h hE N
    go_enter Try.func66, Try.ntmps66
    go_wp2
    go_ret
    exact ⟨ret_bool (by rw [← HE.out]; simp; try omega), Below.refl _ _⟩
  · rw [Bd.sliE_bad h (by omega)] at hE
    have HE := Lib.hid hE
    clear h hE N
    go_enter Try.func66, Try.ntmps66
    go_wp2
    go_ret
    exact ⟨ret_bool (by rw [← HE.out]; simp; try omega), Below.refl _ _⟩

theorem num_slice_any (v : Value) (rs : List Bd.R) (fr to : Int) (w : World) (hv : Runs w v rs) (hl : rs.length ≤ 1000) :
    Calls Try.prog 25 #[v, .int .i64 fr, .int .i64 to] w fun e w' => ∃ x, e = .returned (.tuple #[x, .int .i64 (Bd.sliE rs fr to)]) ∧ Own w.heap.size w' x (Bd.sliR rs fr to) ∧ Below w.heap.size w w' := by
  have V := Lib.hid (validate_span_any v rs fr to w hv hl)
  have N := Lib.hid (fun W (hW : Below w.heap.size w W) h => part_any v rs fr to W (hv.all hW) h)
  obtain ⟨a, c, rfl⟩ := hv.form
  clear hv
  unfold Bd.sliR
  by_cases h : Bd.sliE rs fr to = 0
  · rw [if_pos h]
    obtain ⟨h0, h1, h2, h3⟩ := Bd.sliE_zero.1 h
    have hf := Bd.fine_of_valid h0
    have hlv := Bd.len_valid h0
    have N := Lib.hid (fun W hW => N.out W hW hf h1 (by omega) (by omega) (by omega))
    have hfc := Bd.fine_cutL hf h1 h2 h3
    rw [h] at V ⊢
    have e0 : cutS fr to (Bd.upto rs rs.length) = Bd.cutL rs fr to := rfl
    rw [e0] at N
    clear h h0 h1 h2 h3 hf hlv e0
    generalize Bd.cutL rs fr to = cs at *
    go_enter Try.func25, Try.ntmps25
    go_wp2_with fail
    refine V.out.mono ?_
    rintro e w1 ⟨rfl, hb1⟩
    go_wp2_with fail
    refine (N.out _ hb1).mono ?_
    rintro e w2 ⟨x, rfl, hx, hb2⟩
    have hb2' := below_step hb1 hb2
    go_wp2_with fail
    refine (normal_any x _ _ hx.runs hfc).mono ?_
    rintro e w3 ⟨y, rfl, hy, hb3⟩
    have hb3' := below_step hb2' hb3
    obtain ⟨ya, yc, hyf⟩ := hy.runs.form
    subst hyf
    go_wp2
    go_ret2
    exact ⟨_, rfl, hy.mono hb2'.size, hb3'⟩
  · rw [if_neg h]
    generalize Bd.sliE rs fr to = z at *
    have hz : (z == 0) = false := by simp [h]
    clear h N
    go_enter Try.func25, Try.ntmps25
    go_wp2_with fail
    refine V.out.mono ?_
    rintro e w1 ⟨rfl, hb1⟩
    go_wp2
    go_ret2
    exact ⟨_, rfl, Own.nil _ _, hb1⟩

theorem ref_slice_any (v : Value) (rs : List Bd.R) (fr to : Int) (w : World) (hv : Runs w v rs) (hl : rs.length ≤ 1000) :
    Calls Try.prog 43 #[v, .int .i64 fr, .int .i64 to] w fun e w' => ∃ x, e = .returned (.tuple #[x, .int .i64 (Bd.sliE rs fr to)]) ∧ Own w.heap.size w' x (Bd.sliR rs fr to) ∧ Below w.heap.size w w' := by
  have V := Lib.hid (ref_validate_any v rs w hv hl)
  have S := Lib.hid (fun W (hW : Below w.heap.size w W) h => span_any v rs fr to W (hv.all hW) h)
  have N := Lib.hid (fun W (hW : Below w.heap.size w W) h => ref_cut_any v rs fr to W (hv.all hW) h)
  obtain ⟨a, c, rfl⟩ := hv.form
  clear hv
  unfold Bd.sliR
  by_cases hv0 : Bd.valE rs = 0
  · have S := Lib.hid (fun W hW => S.out W hW hv0)
    rw [hv0] at V
    by_cases h : Bd.sliE rs fr to = 0
    · rw [if_pos h]
      obtain ⟨h0, h1, h2, h3⟩ := Bd.sliE_zero.1 h
      have hf := Bd.fine_of_valid h0
      have hlv := Bd.len_valid h0
      have N := Lib.hid (fun W hW => N.out W hW hf h1 (by omega) (by omega) (by omega))
      have hfc := Bd.fine_cutL hf h1 h2 h3
      have ht := Bd.told_cut h
      rw [h] at S ⊢
      have S := Lib.hid (fun W hW => (S.out W hW : Calls _ _ _ _ fun e w' => e = .returned (.bool true) ∧ Below W.heap.size W w'))
      have HT := Lib.hid ht
      clear h h0 h1 h2 h3 hf hlv ht hv0
      generalize Bd.cutL rs fr to = cs at *
      go_enter Try.func43, Try.ntmps43
      go_wp2_with fail
      refine V.out.mono ?_
      rintro e w1 ⟨rfl, hb1⟩
      go_wp2_with fail
      refine (S.out _ hb1).mono ?_
      rintro e w2 ⟨rfl, hb2⟩
      have hb2' := below_step hb1 hb2
      go_wp2_with fail
      refine (N.out _ hb2').mono ?_
      rintro e w3 ⟨x, rfl, hx, hb3⟩
      have hb3' := below_step hb2' hb3
      have TT := Lib.hid (told_any x _ _ hx.runs hfc)
      rw [HT.out.1, HT.out.2] at TT
      go_wp2_with fail
      refine TT.out.mono ?_
      rintro e w4 ⟨y, rfl, hy, hb4⟩
      have hb4' := below_step hb3' hb4
      go_wp2
      go_ret2
      exact ⟨_, rfl, hy.mono hb3'.size, hb4'⟩
    · rw [if_neg h]
      have h1 : Bd.sliE rs fr to = 1 := by
        unfold Bd.sliE at h ⊢
        rw [if_pos hv0] at h ⊢
        by_cases hs : Bd.spanOk rs fr to
        · rw [if_pos hs] at h; exact absurd rfl h
        · rw [if_neg hs]
      rw [h1] at S ⊢
      have S := Lib.hid (fun W hW => (S.out W hW : Calls _ _ _ _ fun e w' => e = .returned (.bool false) ∧ Below W.heap.size W w'))
      clear h h1 hv0 N
      go_enter Try.func43, Try.ntmps43
      go_wp2_with fail
      refine V.out.mono ?_
      rintro e w1 ⟨rfl, hb1⟩
      go_wp2_with fail
      refine (S.out _ hb1).mono ?_
      rintro e w2 ⟨rfl, hb2⟩
      have hb2' := below_step hb1 hb2
      go_wp2
      go_ret2
      exact ⟨_, rfl, Own.nil _ _, hb2'⟩
  · have h : Bd.sliE rs fr to ≠ 0 := by rw [Bd.sliE_inv hv0]; exact hv0
    rw [if_neg h, Bd.sliE_inv hv0]
    generalize Bd.valE rs = z at *
    have hz : (z == 0) = false := by simp [hv0]
    clear h N S hv0
    go_enter Try.func43, Try.ntmps43
    go_wp2_with fail
    refine V.out.mono ?_
    rintro e w1 ⟨rfl, hb1⟩
    go_wp2
    go_ret2
    exact ⟨_, rfl, Own.nil _ _, hb1⟩

theorem Bd.sliR_length (rs : List Bd.R) (fr to : Int) : (Bd.sliR rs fr to).length ≤ rs.length := by
  unfold Bd.sliR; split
  · exact Nat.le_trans (Bd.norm_length _) (Bd.cutL_length _ _ _)
  · simp

end Go.Proofs.Ytbmjjmpdlmbehaa
