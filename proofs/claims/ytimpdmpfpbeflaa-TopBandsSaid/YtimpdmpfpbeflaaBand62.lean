/- What slices, joints, reversed and patched bands are place by place: plain. -/
import Derived.Test.YtimpdmpfpbeflaaBand48
import Derived.Test.YtimpdmpfpbeflaaBandI
import Derived.Test.YtimpdmpfpbeflaaBand28
import Derived.Test.YtimpdmpfpbeflaaBand45
import Derived.Test.YtimpdmpfpbeflaaBand61
import Derived.Test.YtimpdmpfpbeflaaBand10
namespace Go.Proofs.Ytimpdmpfpbeflaa
namespace Bd
/-- A band is valid, normal, and has these marks. -/
def Is (b : List R) (ms : List M) : Prop := valE b = 0 ∧ nrm b ∧ exp b = ms
theorem is_told {b : List R} (hp : pos b) (ho : ∀ m ∈ exp b, okM m = true) (ht : toldE b = 0) : Is (toldR b) (exp b) := by
  obtain ⟨h1, h2⟩ := valE_told hp ho ht
  exact ⟨h1, by rw [h2]; exact norm_nrm hp, by rw [h2, norm_exp hp]⟩
theorem is_sli {rs : List R} {fr to : Int} (h : sliE rs fr to = 0) : Is (sliR rs fr to) (((exp rs).take to.toNat).drop fr.toNat) ∧ (0 ≤ fr ∧ fr ≤ to ∧ to ≤ ((exp rs).length : Int)) := by
  obtain ⟨h1, h2, _, h4⟩ := sli_facts h
  obtain ⟨hv, s1, s2, s3⟩ := sliE_zero.1 h
  exact ⟨⟨h1, h2, h4⟩, s1, s2, by rw [← len_exp (valE_pos hv)]; exact s3⟩
theorem is_join {rs qs : List R} (h : joinE rs qs = 0) : Is (joinR rs qs) (exp rs ++ exp qs) := by
  unfold joinE at h
  by_cases hb : bothE rs qs = 0
  · rw [if_pos hb] at h
    obtain ⟨h1, h2⟩ := bothE_zero.1 hb
    unfold joinR
    rw [if_pos hb, ← exp_append]
    refine is_told (pos_append.2 ⟨valE_pos h1, valE_pos h2⟩) (fun m hm => ?_) h
    rw [exp_append] at hm
    rcases List.mem_append.1 hm with hm | hm
    · exact exp_okM h1 m hm
    · exact exp_okM h2 m hm
  · rw [if_neg hb] at h; exact absurd h hb
theorem is_rev {rs : List R} (h : valE rs = 0) : Is (revR rs) (exp rs).reverse := by
  obtain ⟨t1, t2⟩ := told_reverse h
  have := is_told (pos_reverse (valE_pos h)) (fun m hm => exp_okM h m (by rw [exp_reverse] at hm; simpa using hm)) t1
  rw [t2, exp_reverse] at this
  unfold revR
  rw [if_pos h]
  exact this
/-- The marks with those of a patch. -/
def ovM (ms ps : List M) (fr : Nat) : List M := ms.take fr ++ (ps ++ ms.drop (fr + ps.length))
theorem is_ov {rs qs : List R} {fr : Int} (h : ovE rs fr qs = 0) : Is (ovR rs fr qs) (ovM (exp rs) (exp qs) fr.toNat) ∧ (0 ≤ fr ∧ fr + ((exp qs).length : Int) ≤ ((exp rs).length : Int)) ∧ valE rs = 0 ∧ valE qs = 0 := by
  unfold ovE at h
  by_cases hb : bothE rs qs = 0
  · rw [if_pos hb] at h
    obtain ⟨h1, h2⟩ := bothE_zero.1 hb
    by_cases hr : 0 ≤ fr ∧ fr + len qs ≤ len rs
    · rw [if_pos hr] at h
      have he := exp_repL h1 hr.1 (valE_pos h2) hr.2
      have hl1 := len_exp (valE_pos h1)
      have hl2 := len_exp (valE_pos h2)
      have hm : ovM (exp rs) (exp qs) fr.toNat = exp (repL rs fr qs) := by
        rw [he]
        unfold ovM
        congr 3
        omega
      refine ⟨?_, by omega, h1, h2⟩
      unfold ovR
      rw [if_pos hb, if_pos hr, hm]
      refine is_told ?_ (fun m hm => ?_) h
      · unfold repL
        exact pos_append.2 ⟨pos_cutL _ _ _, pos_append.2 ⟨valE_pos h2, pos_cutL _ _ _⟩⟩
      · rw [he] at hm
        rcases List.mem_append.1 hm with hm | hm
        · exact exp_okM h1 m (List.mem_of_mem_take hm)
        · rcases List.mem_append.1 hm with hm | hm
          · exact exp_okM h2 m hm
          · exact exp_okM h1 m (List.mem_of_mem_drop hm)
    · rw [if_neg hr] at h; cases h
  · rw [if_neg hb] at h; exact absurd h hb
/-- The patch is found in the patched band, not behind its place. -/
theorem ov_found {rs qs : List R} {fr : Int} (h : ovE rs fr qs = 0) : finB (ovR rs fr qs) qs = true ∧ bothE (ovR rs fr qs) qs = 0 ∧ finV (ovR rs fr qs) qs ≤ fr := by
  obtain ⟨⟨i1, i2, i3⟩, ⟨f1, f2⟩, h1, h2⟩ := is_ov h
  have hb : bothE (ovR rs fr qs) qs = 0 := bothE_zero.2 ⟨i1, h2⟩
  have hlq := len_exp (valE_pos h2)
  have hnq := norm_nrm (valE_pos h2)
  have hnx := norm_nrm (valE_pos i1)
  have ho : occ (norm (ovR rs fr qs)) (norm qs) fr := by
    refine ⟨f1, ?_, ?_⟩
    · rw [norm_len, norm_len, len_exp (valE_pos i1), i3, hlq]
      unfold ovM
      simp only [List.length_append, List.length_take, List.length_drop]
      omega
    · rw [norm_exp (valE_pos i1), norm_exp (valE_pos h2), norm_len, i3, hlq]
      unfold ovM
      have e1 : ((exp rs).take fr.toNat).length = fr.toNat := by rw [List.length_take]; omega
      rw [show (fr + ((exp qs).length : Int)).toNat = ((exp rs).take fr.toNat).length + (exp qs).length by rw [e1]; omega]
      rw [List.take_append, List.take_of_length_le (by omega)]
      rw [show ((exp rs).take fr.toNat).length + (exp qs).length - ((exp rs).take fr.toNat).length = (exp qs).length by omega]
      rw [List.take_left, List.drop_append, e1, Nat.sub_self, List.drop_zero, List.drop_of_length_le (by omega), List.nil_append]
  unfold finB finV
  rw [if_pos hb, if_pos hb]
  cases hf : fnd (norm (ovR rs fr qs)) (norm qs) with
  | none => exact absurd ho (fnd_none (nrm_pos hnq) hf _)
  | some a =>
    have := (fnd_some (nrm_pos hnq) hf).2 _ ho
    exact ⟨rfl, hb, this⟩
/-- The sum of the thicknesses. -/
def sumT : List M → Int
  | [] => 0
  | m :: r => m.t + sumT r
theorem sumT_append (a b : List M) : sumT (a ++ b) = sumT a + sumT b := by
  induction a with
  | nil => simp [sumT]
  | cons x a ih => simp [sumT, ih]; omega
theorem sumT_rep (n : Nat) (m : M) : sumT (List.replicate n m) = n * m.t := by
  induction n with
  | zero => simp [sumT]
  | succ n ih => rw [List.replicate_succ]; simp only [sumT, ih]; rw [Int.natCast_add, Int.add_mul]; omega
theorem vol_sumT : ∀ {b : List R}, pos b → vol b = sumT (exp b)
  | [], _ => rfl
  | r :: b, h => by
    obtain ⟨h1, h2⟩ := pos_cons.1 h
    simp only [vol, exp]
    rw [sumT_append, sumT_rep, vol_sumT h2, show ((r.l.toNat : Nat) : Int) = r.l by omega]
theorem sumT_take {ms : List M} {k : Nat} (h : k < ms.length) : sumT (ms.take (k + 1)) = sumT (ms.take k) + ms[k].t := by
  rw [List.take_succ_eq_append_getElem h, sumT_append]; simp [sumT]
theorem sumT_bd {ms : List M} (h : ∀ m ∈ ms, okM m = true) : ∀ k, k ≤ ms.length → 0 ≤ sumT (ms.take k) ∧ sumT (ms.take k) ≤ k * 1000
  | 0, _ => by simp [sumT]
  | k + 1, hk => by
    have ih := sumT_bd h k (by omega)
    have hm := h ms[k] (List.getElem_mem (by omega))
    simp only [okM, Bool.and_eq_true, decide_eq_true_eq] at hm
    rw [sumT_take (by omega)]
    omega
/-- How far a band and its reverse agree. -/
theorem agr_rev {rs : List R} (h : valE rs = 0) : ∃ a : Nat, agrV rs (revR rs) = (a : Int) ∧ bothE rs (revR rs) = 0 ∧ a ≤ (exp rs).length ∧ (∀ k, k < a → (exp rs)[k]? = (exp rs).reverse[k]?) ∧ (a < (exp rs).length → (exp rs)[a]? ≠ (exp rs).reverse[a]?) := by
  obtain ⟨r1, r2, r3⟩ := is_rev h
  have hb : bothE rs (revR rs) = 0 := bothE_zero.2 ⟨h, r1⟩
  have hn := norm_nrm (valE_pos h)
  have hn2 := norm_nrm (valE_pos r1)
  refine ⟨cpl (exp rs) (exp rs).reverse, ?_, hb, (cpl_le _ _).1, fun k hk => ?_, fun ha => cpl_next _ _ ha (by simpa using ha)⟩
  · unfold agrV
    rw [if_pos hb, agr_cpl hn hn2, norm_exp (valE_pos h), norm_exp (valE_pos r1), r3]
  · have := congrArg (fun l => l[k]?) (cpl_take (exp rs) (exp rs).reverse)
    simpa [List.getElem?_take, hk] using this
end Bd
end Go.Proofs.Ytimpdmpfpbeflaa
