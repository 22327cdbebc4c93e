/- Slices are found: plain. -/
import Derived.Test.YtimpdmpfpbeflaaBandH
import Derived.Test.YtimpdmpfpbeflaaBand38
namespace Go.Proofs.Ytimpdmpfpbeflaa
namespace Bd
/-- What a slice is: valid, normal, and the marks from one place to another. -/
theorem sli_facts {rs : List R} {fr to : Int} (h : sliE rs fr to = 0) : valE (sliR rs fr to) = 0 ∧ nrm (sliR rs fr to) ∧ len (sliR rs fr to) = to - fr ∧ exp (sliR rs fr to) = ((exp rs).take to.toNat).drop fr.toNat := by
  obtain ⟨hv, s1, s2, s3⟩ := sliE_zero.1 h
  have hf := fine_of_valid hv
  have hp := pos_cutL rs fr to
  have he := exp_cutL hf (fr := fr) (to := to) s1
  have ht := told_cut h
  have hs : sliR rs fr to = norm (cutL rs fr to) := by unfold sliR; rw [if_pos h]
  have hok : ∀ m ∈ exp (cutL rs fr to), okM m = true := by
    intro m hm
    rw [he] at hm
    exact exp_okM hv m (List.mem_of_mem_take (List.mem_of_mem_drop hm))
  have h1 := (valE_told hp hok ht.1).1
  rw [ht.2] at h1
  rw [hs]
  exact ⟨h1, norm_nrm hp, by rw [norm_len, len_cutL hf s1 s2 s3], by rw [norm_exp hp, he]⟩
theorem sli_occ {rs : List R} {fr to : Int} (h : sliE rs fr to = 0) : occ (norm rs) (sliR rs fr to) fr := by
  obtain ⟨hv, s1, s2, s3⟩ := sliE_zero.1 h
  obtain ⟨_, _, h3, h4⟩ := sli_facts h
  refine ⟨s1, by rw [norm_len]; omega, ?_⟩
  rw [norm_exp (valE_pos hv), h4, h3, show fr + (to - fr) = to by omega]
/-- A slice is found, not behind its own place, and what is found there is the slice. -/
theorem found_slice {rs : List R} {fr to : Int} (h : sliE rs fr to = 0) : finB rs (sliR rs fr to) = true ∧ bothE rs (sliR rs fr to) = 0 ∧ finV rs (sliR rs fr to) ≤ fr ∧ sliE rs (finV rs (sliR rs fr to)) (finV rs (sliR rs fr to) + to - fr) = 0 ∧
    sliR rs (finV rs (sliR rs fr to)) (finV rs (sliR rs fr to) + to - fr) = sliR rs fr to := by
  have ho := sli_occ h
  obtain ⟨hv, s1, s2, s3⟩ := sliE_zero.1 h
  obtain ⟨h1, h2, h3, h4⟩ := sli_facts h
  have hb : bothE rs (sliR rs fr to) = 0 := bothE_zero.2 ⟨hv, h1⟩
  have hn : norm (sliR rs fr to) = sliR rs fr to := norm_of_nrm h2
  unfold finB finV
  rw [if_pos hb, if_pos hb, hn]
  cases hf : fnd (norm rs) (sliR rs fr to) with
  | none => exact absurd ho (fnd_none (nrm_pos h2) hf _)
  | some a =>
    obtain ⟨o1, o2⟩ := fnd_some (nrm_pos h2) hf
    have hle := o2 _ ho
    obtain ⟨a1, a2, a3⟩ := o1
    rw [norm_len, h3] at a2
    rw [h3, norm_exp (valE_pos hv)] at a3
    have hz : sliE rs ((a : Nat) : Int) (((a : Nat) : Int) + to - fr) = 0 := sliE_zero.2 ⟨hv, by omega, by omega, by omega⟩
    obtain ⟨_, g2, _, g4⟩ := sli_facts hz
    refine ⟨rfl, hb, hle, hz, nrm_unique g2 h2 ?_⟩
    show exp (sliR rs ((a : Nat) : Int) (((a : Nat) : Int) + to - fr)) = _
    rw [g4, ← a3, show ((a : Nat) : Int) + to - fr = ((a : Nat) : Int) + (to - fr) by omega]
end Bd
end Go.Proofs.Ytimpdmpfpbeflaa
