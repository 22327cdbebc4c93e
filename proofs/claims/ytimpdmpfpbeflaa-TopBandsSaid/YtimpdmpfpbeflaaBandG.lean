/- The first place of a piece: plain. -/
import Derived.Test.YtimpdmpfpbeflaaBandF
import Derived.Test.YtimpdmpfpbeflaaBand30
namespace Go.Proofs.Ytimpdmpfpbeflaa
namespace Bd
theorem occ_iff {x p : List R} (hx : pos x) (hp : pos p) {a : Int} : occ x p a ↔ 0 ≤ a ∧ a + len p ≤ len x ∧ ∀ i : Nat, (i : Int) < len p → (exp x)[a.toNat + i]? = (exp p)[i]? := by
  have lx := len_exp hx
  have lp := len_exp hp
  constructor
  · rintro ⟨h1, h2, h3⟩
    refine ⟨h1, h2, fun i hi => ?_⟩
    rw [← h3, List.getElem?_drop, List.getElem?_take_of_lt (by omega)]
  · rintro ⟨h1, h2, h3⟩
    refine ⟨h1, h2, ?_⟩
    apply List.ext_getElem?
    intro i
    by_cases hi : (i : Int) < len p
    · rw [← h3 i hi, List.getElem?_drop, List.getElem?_take_of_lt (by omega)]
    · rw [List.getElem?_eq_none (by rw [List.length_drop, List.length_take]; omega), List.getElem?_eq_none (by omega)]
/-- The place at which the program asks at the run k. -/
def plcF (x p : List R) (k : Nat) : Int := if p.length ≤ 1 then len (x.take k) else len (x.take (k + 1)) - (p.getD 0 default).l
theorem run_at {x : List R} (hx : pos x) {p : Int} (h1 : 0 ≤ p) (h2 : p < len x) : ∃ k, ∃ hk : k < x.length, len (x.take k) ≤ p ∧ p < len (x.take (k + 1)) ∧ (exp x)[p.toNat]? = some x[k].m := by
  obtain ⟨k, hk, h3, h4⟩ := span_of hx h1 x.length (Nat.le_refl _) (by rw [List.take_length]; exact h2)
  rw [len_take_succ hk] at h4
  exact ⟨k, hk, h3, by rw [len_take_succ hk]; exact h4, exp_at hx hk h3 h4⟩
theorem nrm_next {x : List R} (hn : nrm x) {k : Nat} (hk : k + 1 < x.length) : x[k].m ≠ x[k + 1].m := by
  have hx : x = x.take (k + 1) ++ x.drop (k + 1) := (List.take_append_drop _ _).symm
  have h2 := hn
  rw [hx] at h2
  refine (nrm_append.1 h2).2.2 x[k] x[k + 1] ?_ ?_
  · rw [List.take_succ_eq_append_getElem (show k < x.length by omega), List.getLast?_concat]
  · rw [List.head?_drop, List.getElem?_eq_getElem (by omega)]
/-- The first place of a piece is one at which the program asks. -/
theorem first_asked {x p : List R} (hn : nrm x) (hq : nrm p) (h0 : p ≠ []) {a : Int} (ho : occ x p a) (hm : ∀ b, occ x p b → a ≤ b) : ∃ k, k < x.length ∧ a = plcF x p k ∧ len (x.take k) ≤ a := by
  have hx := nrm_pos hn
  have hp := nrm_pos hq
  have ho' := ho
  obtain ⟨h1, h2, h3⟩ := (occ_iff hx hp).1 ho
  match p, h0, hq, hp, h2, h3, hm, ho' with
  | [r], _, hq, hp, h2, h3, hm, _ =>
    have hr := hq.1
    simp only [len] at h2 h3
    obtain ⟨k, hk, e1, e2, e3⟩ := run_at hx h1 (p := a) (by omega)
    refine ⟨k, hk, ?_, e1⟩
    unfold plcF
    rw [if_pos (by simp)]
    apply Decidable.byContradiction
    intro hne
    have h30 := h3 0 (by omega)
    rw [Nat.add_zero, e3] at h30
    have hk3 := len_take_succ hk
    have hlk := (len_take_le hx k).1
    have e4 : (exp x)[(a - 1).toNat]? = some x[k].m := exp_at hx hk (by omega) (by omega)
    have hb := hm (a - 1) ((occ_iff hx hp).2 ⟨by omega, by simp only [len]; omega, fun i hi => by
      simp only [len] at hi
      have hre : ∀ j : Nat, (j : Int) < r.l → (exp [r])[j]? = some r.m := fun j hj => by rw [exp_one, List.getElem?_replicate, if_pos (by omega)]
      cases i with
      | zero => rw [Nat.add_zero, e4, h30]
      | succ j =>
        rw [show (a - 1).toNat + (j + 1) = a.toNat + j by omega, h3 j (by omega), hre j (by omega), hre (j + 1) (by omega)]⟩)
    omega
  | r :: q :: b, _, hq, hp, h2, h3, _, _ =>
    have hr := hq.1
    have hq1 := hq.2.2.1
    have hne := hq.2.1 q rfl
    have hb := len_nonneg (nrm_pos hq.2.2.2.2)
    simp only [len] at h2 h3
    have hre : ∀ j : Nat, (j : Int) < r.l → (exp (r :: q :: b))[j]? = some r.m := fun j hj => by
      show (List.replicate r.l.toNat r.m ++ exp (q :: b))[j]? = _
      rw [List.getElem?_append_left (by simp; omega), List.getElem?_replicate, if_pos (by omega)]
    have hre2 : (exp (r :: q :: b))[r.l.toNat]? = some q.m := by
      show (List.replicate r.l.toNat r.m ++ (List.replicate q.l.toNat q.m ++ exp b))[r.l.toNat]? = _
      rw [List.getElem?_append_right (by simp), List.length_replicate, Nat.sub_self, List.getElem?_append_left (by simp; omega), List.getElem?_replicate, if_pos (by omega)]
    obtain ⟨k, hk, e1, e2, e3⟩ := run_at hx (p := a + r.l - 1) (by omega) (by omega)
    have hk3 := len_take_succ hk
    have hlk := (len_take_le hx k).1
    have hmk : x[k].m = r.m := by
      have h4 := h3 (r.l.toNat - 1) (by omega)
      rw [hre _ (by omega), show a.toNat + (r.l.toNat - 1) = (a + r.l - 1).toNat by omega, e3] at h4
      simpa using h4
    have hend : len (x.take (k + 1)) = a + r.l := by
      apply Decidable.byContradiction
      intro hc
      have h5 : (exp x)[(a + r.l).toNat]? = some x[k].m := exp_at hx hk (by omega) (by omega)
      have h4 := h3 r.l.toNat (by omega)
      rw [hre2, show a.toNat + r.l.toNat = (a + r.l).toNat by omega, h5, hmk] at h4
      exact hne (by simpa using h4)
    have hbeg : len (x.take k) ≤ a := by
      apply Decidable.byContradiction
      intro hc
      cases k with
      | zero => simp [len] at hc; omega
      | succ j =>
        have hj := len_take_succ (b := x) (k := j) (by omega)
        have hpj := hx x[j] (List.getElem_mem (by omega))
        have h5 : (exp x)[(len (x.take (j + 1)) - 1).toNat]? = some x[j].m := exp_at hx (by omega) (by omega) (by omega)
        have h4 := h3 ((len (x.take (j + 1)) - 1).toNat - a.toNat) (by omega)
        rw [hre _ (by omega), show a.toNat + ((len (x.take (j + 1)) - 1).toNat - a.toNat) = (len (x.take (j + 1)) - 1).toNat by omega, h5] at h4
        exact nrm_next hn hk ((by simpa using h4 : x[j].m = r.m).trans hmk.symm)
    refine ⟨k, hk, ?_, hbeg⟩
    unfold plcF
    rw [if_neg (by simp)]
    simp
    omega
/-- Later runs are asked at later places. -/
theorem plcF_mono {x p : List R} (hx : pos x) {j k : Nat} (h : j ≤ k) (hk : k < x.length) : plcF x p j ≤ plcF x p k := by
  induction k with
  | zero =>
    obtain rfl : j = 0 := by omega
    exact Int.le_refl _
  | succ k ih =>
    rcases Nat.lt_or_ge k j with h1 | h1
    · obtain rfl : j = k + 1 := by omega
      exact Int.le_refl _
    · have h2 := ih h1 (by omega)
      have s1 := len_take_succ (b := x) (k := k) (by omega)
      have s2 := len_take_succ (b := x) (k := k + 1) hk
      have p1 := hx x[k] (List.getElem_mem (by omega))
      have p2 := hx x[k + 1] (List.getElem_mem hk)
      unfold plcF at h2 ⊢
      split <;> rename_i h3 <;> simp only [h3, if_true, if_false] at h2 <;> omega
end Bd
end Go.Proofs.Ytimpdmpfpbeflaa
