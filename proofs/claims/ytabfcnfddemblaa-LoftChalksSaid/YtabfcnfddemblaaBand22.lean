/- Parts of bands: what they are place by place; the reference's. -/
import Derived.Test.YtabfcnfddemblaaBand21
import Derived.Test.YtabfcnfddemblaaBand15
namespace Go.Proofs.Ytabfcnfddemblaa
open Go.RowKit

namespace Bd
def cutL (rs : List R) (fr to : Int) : List R := cutS fr to (upto rs rs.length)
theorem exp_cutSp (fr to : Int) (x : Sp) : exp (cutSp fr to x) = List.replicate (min x.t to - max x.f fr).toNat x.m := by
  unfold cutSp; split
  · simp [exp]
  · rw [show (min x.t to - max x.f fr).toNat = 0 by omega]; rfl
theorem pos_cutSp (fr to : Int) (x : Sp) : pos (cutSp fr to x) := by
  unfold cutSp; split
  · intro r hr; simp at hr; subst hr; assumption
  · exact pos_nil
theorem pos_cutS (fr to : Int) (pre : List SpB) : pos (cutS fr to pre) := by
  intro r hr
  obtain ⟨x, _, hx⟩ := List.mem_flatMap.1 hr
  exact pos_cutSp fr to x.1 r hx
theorem exp_take_len {rs : List R} (h : pos rs) (k : Nat) : ((exp (rs.take k)).length : Int) = len (rs.take k) := (len_exp (pos_take h k)).symm
theorem exp_cut {rs : List R} (h : fine rs) {fr to : Int} (h1 : 0 ≤ fr) : ∀ k, k ≤ rs.length → exp (cutS fr to (upto rs k)) = ((exp (rs.take k)).take to.toNat).drop fr.toNat
  | 0, _ => by simp [upto, cutS, exp]
  | k + 1, hk => by
    have ih := exp_cut h (to := to) h1 k (by omega)
    have hl := exp_take_len h.2.1 k
    have hs := len_take_succ (b := rs) (k := k) (by omega)
    have hp := h.2.1 rs[k] (List.getElem_mem (by omega))
    rw [upto_succ, cutS_snoc, exp_append, ih, exp_cutSp, spk_eq h (by omega), List.take_succ_eq_append_getElem (by omega), exp_append, exp_one, List.take_append, List.drop_append]
    congr 1
    rw [List.take_replicate, List.drop_replicate, List.length_take]
    congr 1
    dsimp only
    rw [List.take_succ_eq_append_getElem (by omega)] at hs
    rw [hs, ← hl]
    omega
theorem exp_cutL {rs : List R} (h : fine rs) {fr to : Int} (h1 : 0 ≤ fr) : exp (cutL rs fr to) = ((exp rs).take to.toNat).drop fr.toNat := by
  unfold cutL; rw [exp_cut h h1 _ (Nat.le_refl _), List.take_length]
theorem pos_cutL (rs : List R) (fr to : Int) : pos (cutL rs fr to) := pos_cutS _ _ _
theorem cutL_length (rs : List R) (fr to : Int) : (cutL rs fr to).length ≤ rs.length := by
  have := cutS_le fr to (upto rs rs.length)
  rwa [upto_length] at this
theorem len_cutL {rs : List R} (h : fine rs) {fr to : Int} (h1 : 0 ≤ fr) (h2 : fr ≤ to) (h3 : to ≤ len rs) : len (cutL rs fr to) = to - fr := by
  rw [len_exp (pos_cutL _ _ _), exp_cutL h h1, List.length_drop, List.length_take]
  rw [len_exp h.2.1] at h3
  omega
theorem fine_cutL {rs : List R} (h : fine rs) {fr to : Int} (h1 : 0 ≤ fr) (h2 : fr ≤ to) (h3 : to ≤ len rs) : fine (cutL rs fr to) := by
  have a := cutL_length rs fr to
  have b := len_cutL h h1 h2 h3
  obtain ⟨c1, c2, c3⟩ := h
  exact ⟨by omega, pos_cutL _ _ _, by omega⟩
def spanOk (rs : List R) (fr to : Int) : Prop := 0 ≤ fr ∧ fr ≤ to ∧ to ≤ len rs
instance (rs : List R) (fr to : Int) : Decidable (spanOk rs fr to) := inferInstanceAs (Decidable (_ ∧ _ ∧ _))
def sliE (rs : List R) (fr to : Int) : Int := if valE rs = 0 then (if spanOk rs fr to then 0 else 1) else valE rs
def sliR (rs : List R) (fr to : Int) : List R := if sliE rs fr to = 0 then norm (cutL rs fr to) else []
theorem sliE_zero {rs : List R} {fr to : Int} : sliE rs fr to = 0 ↔ valE rs = 0 ∧ spanOk rs fr to := by
  unfold sliE
  by_cases h : valE rs = 0
  · rw [if_pos h]
    by_cases h2 : spanOk rs fr to
    · simp [h, h2]
    · simp [h2]
  · simp [h]
theorem told_cut {rs : List R} {fr to : Int} (h : sliE rs fr to = 0) : toldE (cutL rs fr to) = 0 ∧ toldR (cutL rs fr to) = norm (cutL rs fr to) := by
  obtain ⟨h1, h2, h3, h4⟩ := sliE_zero.1 h
  obtain ⟨a1, _, a3⟩ := valE_zero h1
  have hf := fine_of_valid h1
  have b1 := len_cutL hf h2 h3 h4
  have b2 := cutL_length rs fr to
  have b3 := norm_length (cutL rs fr to)
  exact told_fits (by omega)
end Bd

end Go.Proofs.Ytabfcnfddemblaa
