/- Which weights can be used: plain. -/
import Derived.Test.YtmmmlcnclehilaaDoorShareP
import Derived.Test.YtmmmlcnclehilaaDoorShare1
namespace Go.Proofs.YtmmmlcnclehilaaDoor
namespace Sh
theorem goB_all : ∀ (xs : List Int) (acc : Int), goB acc xs = true → (∀ x ∈ xs, 0 ≤ x ∧ x ≤ 1048576) ∧ goV acc xs = acc + xs.sum ∧ 0 < acc + xs.sum
  | [], acc, h => by simp [goB] at h; simp [goV, h]
  | x :: r, acc, h => by
    rw [goB] at h
    by_cases hb : x < 0 ∨ 1048576 < x
    · rw [if_pos hb] at h; simp at h
    · rw [if_neg hb] at h
      obtain ⟨h1, h2, h3⟩ := goB_all r (acc + x) h
      rw [goV, if_neg hb, List.sum_cons]
      refine ⟨fun y hy => ?_, by omega, by omega⟩
      rcases List.mem_cons.1 hy with rfl | hy
      · omega
      · exact h1 y hy
theorem sumN_take (ws : List Int) : ∀ k, k ≤ ws.length → Lr.sumN (Lr.wt ws) k = (ws.take k).sum
  | 0, _ => by simp [Lr.sumN]
  | k + 1, h => by
    show Lr.sumN (Lr.wt ws) k + Lr.wt ws k = _
    rw [sumN_take ws k (by omega), List.take_succ_eq_append_getElem (by omega), List.sum_append]
    simp [Lr.wt, show k < ws.length by omega]
theorem tot_sum (ws : List Int) : Lr.tot ws = ws.sum := by unfold Lr.tot; rw [sumN_take ws _ (Nat.le_refl _), List.take_length]
theorem usable {ws : List Int} (h : sumB ws = true) : ws.length ≤ 16 ∧ 0 < ws.length ∧ sumV ws = Lr.tot ws ∧ 0 < Lr.tot ws ∧ ∀ i, i < ws.length → 0 ≤ Lr.wt ws i ∧ Lr.wt ws i ≤ 1048576 := by
  unfold sumB at h
  unfold sumV
  by_cases hl : 16 < ws.length
  · rw [if_pos hl] at h; simp at h
  · rw [if_neg hl] at h ⊢
    obtain ⟨h1, h2, h3⟩ := goB_all ws 0 h
    rw [tot_sum]
    refine ⟨by omega, ?_, by omega, by omega, fun i hi => ?_⟩
    · rcases ws with _ | ⟨x, r⟩
      · simp at h3
      · simp
    · unfold Lr.wt
      rw [show ws.getD i 0 = ws[i] by simp [hi]]
      exact h1 _ (List.getElem_mem hi)
theorem fits_of {ws : List Int} {T : Int} (h : sumB ws = true) (hT : 0 ≤ T) : Lr.fits T ws := by
  obtain ⟨_, _, _, h4, h5⟩ := usable h
  exact ⟨hT, fun i hi => (h5 i hi).1, h4⟩
end Sh
end Go.Proofs.YtmmmlcnclehilaaDoor
