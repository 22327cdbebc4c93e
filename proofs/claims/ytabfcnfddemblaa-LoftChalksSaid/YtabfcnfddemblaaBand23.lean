/- Slices of bands, of the program and of the reference; BandSlices. -/
import Derived.Test.YtabfcnfddemblaaBand22
namespace Go.Proofs.Ytabfcnfddemblaa
open Go.RowKit

theorem Bd.len_valid {rs : List Bd.R} (h : Bd.valE rs = 0) : 0 ≤ Bd.len rs ∧ Bd.len rs ≤ 1000000 := ⟨Bd.len_nonneg (Bd.valE_pos h), (Bd.valE_zero h).2.2⟩
theorem Bd.sliE_ok {rs : List Bd.R} {fr to : Int} (h : Bd.valE rs = 0) (h1 : 0 ≤ fr) (h2 : fr ≤ to) (h3 : to ≤ Bd.len rs) : Bd.sliE rs fr to = 0 := Bd.sliE_zero.2 ⟨h, h1, h2, h3⟩
theorem Bd.sliE_bad {rs : List Bd.R} {fr to : Int} (h : Bd.valE rs = 0) (h1 : fr < 0 ∨ to < fr ∨ Bd.len rs < to) : Bd.sliE rs fr to = 1 := by
  unfold Bd.sliE; rw [if_pos h, if_neg]; rintro ⟨a, b, c⟩; omega
theorem Bd.sliE_inv {rs : List Bd.R} {fr to : Int} (h : Bd.valE rs ≠ 0) : Bd.sliE rs fr to = Bd.valE rs := by unfold Bd.sliE; rw [if_neg h]

theorem validate_span_any (v : Value) (rs : List Bd.R) (fr to : Int) (w : World) (hv : Runs w v rs) (hl : rs.length ≤ 1000) :
    Calls Try.prog 113 #[v, .int .i64 fr, .int .i64 to] w fun e w' => e = .returned (.int .i64 (Bd.sliE rs fr to)) ∧ Below w.heap.size w w' := by
  have V := Lib.hid (validate_any v rs w hv hl)
  have N := Lib.hid (fun W (hW : Below w.heap.size w W) h => length_any v rs W (hv.all hW) h)
  obtain ⟨a, c, rfl⟩ := hv.form
  clear hv
  generalize hE : Bd.sliE rs fr to = E
  by_cases h : Bd.valE rs = 0
  · have hf := Bd.fine_of_valid h
    have N := Lib.hid (fun W hW => N.out W hW hf)
    rw [h] at V
    clear hf
    rcases (show (0 ≤ fr ∧ fr ≤ to ∧ to ≤ Bd.len rs) ∨ (0 ≤ fr ∧ fr ≤ to ∧ Bd.len rs < to) ∨ (0 ≤ fr ∧ to < fr) ∨ fr < 0 by omega) with ⟨h1, h2, h3⟩ | ⟨h1, h2, h3⟩ | ⟨h1, h2⟩ | h1
    · rw [Bd.sliE_ok h h1 h2 h3] at hE
      have HE := Lib.hid hE
      clear h hE
      generalize Bd.len rs = m at *
      go_enter Try.func113, Try.ntmps113
      go_wp2_with fail
      refine V.out.mono ?_
      rintro e w1 ⟨rfl, hb1⟩
      go_wp2_with fail
      refine (N.out _ hb1).mono ?_
      rintro e w2 ⟨rfl, hb2⟩
      go_wp2
      go_ret
      exact ⟨ret_int HE.out, below_step hb1 hb2⟩
    · rw [Bd.sliE_bad h (by omega)] at hE
      have HE := Lib.hid hE
      clear h hE
      generalize Bd.len rs = m at *
      go_enter Try.func113, Try.ntmps113
      go_wp2_with fail
      refine V.out.mono ?_
      rintro e w1 ⟨rfl, hb1⟩
      go_wp2_with fail
      refine (N.out _ hb1).mono ?_
      rintro e w2 ⟨rfl, hb2⟩
      go_wp2
      go_ret
      exact ⟨ret_int HE.out, below_step hb1 hb2⟩
    · rw [Bd.sliE_bad h (by omega)] at hE
      have HE := Lib.hid hE
      clear h hE
      go_enter Try.func113, Try.ntmps113
      go_wp2_with fail
      refine V.out.mono ?_
      rintro e w1 ⟨rfl, hb1⟩
      go_wp2
      go_ret
      exact ⟨ret_int HE.out, hb1⟩
    · rw [Bd.sliE_bad h (by omega)] at hE
      have HE := Lib.hid hE
      clear h hE
      go_enter Try.func113, Try.ntmps113
      go_wp2_with fail
      refine V.out.mono ?_
      rintro e w1 ⟨rfl, hb1⟩
      go_wp2
      go_ret
      exact ⟨ret_int HE.out, hb1⟩
  · rw [Bd.sliE_inv h] at hE
    subst hE
    generalize Bd.valE rs = z at *
    have hz : (z == 0) = false := by simp [h]
    clear h N
    go_enter Try.func113, Try.ntmps113
    go_wp2_with fail
    refine V.out.mono ?_
    rintro e w1 ⟨rfl, hb1⟩
    go_wp2
    go_ret
    exact ⟨rfl, hb1⟩

theorem num_slice_any (v : Value) (rs : List Bd.R) (fr to : Int) (w : World) (hv : Runs w v rs) (hl : rs.length ≤ 1000) :
    Calls Try.prog 69 #[v, .int .i64 fr, .int .i64 to] w fun e w' => ∃ x, e = .returned (.tuple #[x, .int .i64 (Bd.sliE rs fr to)]) ∧ Own w.heap.size w' x (Bd.sliR rs fr to) ∧ Below w.heap.size w w' := by
  have V := Lib.hid (validate_span_any v rs fr to w hv hl)
  have N := Lib.hid (fun W (hW : Below w.heap.size w W) h => part_any v rs fr to W (hv.all hW) h)
  obtain ⟨a, c, rfl⟩ := hv.form
  clear hv
  unfold Bd.sliR
  by_cases h : Bd.sliE rs fr to = 0
  · rw [if_pos h]
    obtain ⟨h0, h1, h2, h3⟩ := Bd.sliE_zero.1 h
    have hf := Bd.fine_of_valid h0
    have hlv := Bd.len_valid h0
    have N := Lib.hid (fun W hW => N.out W hW hf h1 (by omega) (by omega) (by omega))
    have hfc := Bd.fine_cutL hf h1 h2 h3
    rw [h] at V ⊢
    have e0 : cutS fr to (Bd.upto rs rs.length) = Bd.cutL rs fr to := rfl
    rw [e0] at N
    clear h h0 h1 h2 h3 hf hlv e0
    generalize Bd.cutL rs fr to = cs at *
    go_enter Try.func69, Try.ntmps69
    go_wp2_with fail
    refine V.out.mono ?_
    rintro e w1 ⟨rfl, hb1⟩
    go_wp2_with fail
    refine (N.out _ hb1).mono ?_
    rintro e w2 ⟨x, rfl, hx, hb2⟩
    have hb2' := below_step hb1 hb2
    go_wp2_with fail
    refine (normal_any x _ _ hx.runs hfc).mono ?_
    rintro e w3 ⟨y, rfl, hy, hb3⟩
    have hb3' := below_step hb2' hb3
    obtain ⟨ya, yc, hyf⟩ := hy.runs.form
    subst hyf
    go_wp2
    go_ret2
    exact ⟨_, rfl, hy.mono hb2'.size, hb3'⟩
  · rw [if_neg h]
    generalize Bd.sliE rs fr to = z at *
    have hz : (z == 0) = false := by simp [h]
    clear h N
    go_enter Try.func69, Try.ntmps69
    go_wp2_with fail
    refine V.out.mono ?_
    rintro e w1 ⟨rfl, hb1⟩
    go_wp2
    go_ret2
    exact ⟨_, rfl, Own.nil _ _, hb1⟩

theorem Bd.sliR_length (rs : List Bd.R) (fr to : Int) : (Bd.sliR rs fr to).length ≤ rs.length := by
  unfold Bd.sliR; split
  · exact Nat.le_trans (Bd.norm_length _) (Bd.cutL_length _ _ _)
  · simp

end Go.Proofs.Ytabfcnfddemblaa
