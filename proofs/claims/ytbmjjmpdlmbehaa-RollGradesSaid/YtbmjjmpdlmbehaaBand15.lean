/- Join and Reverse, of the program and of the reference. -/
import Derived.Test.YtbmjjmpdlmbehaaBand14
namespace Go.Proofs.Ytbmjjmpdlmbehaa
open Go.RowKit

set_option maxRecDepth 20000 in
theorem num_reverse_any (v : Value) (rs : List Bd.R) (w : World) (hv : Runs w v rs) (hl : rs.length ≤ 1000) :
    Calls Try.prog 23 #[v] w fun e w' => ∃ x, e = .returned (.tuple #[x, .int .i64 (Bd.valE rs)]) ∧ Own w.heap.size w' x (Bd.revR rs) ∧ Below w.heap.size w w' := by
  have V := Lib.hid (validate_any v rs w hv hl)
  have N := Lib.hid (fun W (hW : Below w.heap.size w W) h => normal_any v rs W (hv.all hW) h)
  obtain ⟨a, c, rfl⟩ := hv.form
  clear hv
  unfold Bd.revR
  by_cases h : Bd.valE rs = 0
  · rw [if_pos h]
    have hf := Bd.fine_of_valid h
    have hl2 := Nat.le_trans (Bd.norm_length rs) hl
    rw [h] at V ⊢
    clear h
    go_enter Try.func23, Try.ntmps23
    go_wp2_with fail
    refine V.out.mono ?_
    rintro e w1 ⟨rfl, hb1⟩
    go_wp2_with fail
    refine (N.out _ hb1 hf).mono ?_
    rintro e w2 ⟨x, rfl, hx, hb2⟩
    have hb2' := below_step hb1 hb2
    go_wp2_with fail
    refine (reverse_any _ x _ _ hx hl2).mono ?_
    rintro e w3 ⟨rfl, hy, hb3⟩
    have hb3' := hb2'.trans (hb3.mono hb1.size)
    obtain ⟨xa, xc, rfl⟩ := hx.runs.form
    go_wp2
    go_ret2
    exact ⟨_, rfl, hy.mono hb1.size, hb3'⟩
  · rw [if_neg h]
    generalize Bd.valE rs = z at *
    clear N
    have hz : (z == 0) = false := by simp [h]
    clear h
    go_enter Try.func23, Try.ntmps23
    go_wp2_with fail
    refine V.out.mono ?_
    rintro e w1 ⟨rfl, hb1⟩
    go_wp2
    go_ret2
    exact ⟨_, rfl, Own.nil _ _, hb1⟩

end Go.Proofs.Ytbmjjmpdlmbehaa
