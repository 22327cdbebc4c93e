/- Place by place what flaws and pressing make of a band. -/
import Derived.Test.YtimpdmpfpbeflaaBand32
import Derived.Test.YtimpdmpfpbeflaaBand27
namespace Go.Proofs.Ytimpdmpfpbeflaa
open Go.RowKit

namespace Bd
theorem le_len {b : List R} (h : pos b) : ∀ {r : R}, r ∈ b → r.l ≤ len b := by
  induction b with
  | nil => intro r hr; cases hr
  | cons q b ih =>
    intro r hr
    obtain ⟨h1, h2⟩ := pos_cons.1 h
    have h3 := len_nonneg h2
    rcases List.mem_cons.1 hr with rfl | hr
    · simp only [len]; omega
    · have := ih h2 hr; simp only [len]; omega
theorem mem_exp {b : List R} (h : pos b) : ∀ {r : R}, r ∈ b → r.m ∈ exp b := by
  induction b with
  | nil => intro r hr; cases hr
  | cons q b ih =>
    intro r hr
    obtain ⟨h1, h2⟩ := pos_cons.1 h
    rcases List.mem_cons.1 hr with rfl | hr
    · exact List.mem_append_left _ (List.mem_replicate.2 ⟨by omega, rfl⟩)
    · exact List.mem_append_right _ (ih h2 hr)
theorem exp_mem : ∀ {b : List R} {m : M}, m ∈ exp b → ∃ r ∈ b, r.m = m
  | [], m, h => by cases h
  | q :: b, m, h => by
    rcases List.mem_append.1 h with h | h
    · exact ⟨q, by simp, (List.mem_replicate.1 h).2.symm⟩
    · obtain ⟨r, h1, h2⟩ := exp_mem h
      exact ⟨r, by simp [h1], h2⟩
theorem valE_told {b : List R} (hp : pos b) (ho : ∀ m ∈ exp b, okM m = true) (ht : toldE b = 0) : valE (toldR b) = 0 ∧ toldR b = norm b := by
  by_cases h : 40 < (norm b).length ∨ 1000000 < len b
  · rw [(told_large h).1] at ht; omega
  · rw [(told_fits h).2]
    have hq := nrm_pos (norm_nrm hp)
    refine ⟨?_, rfl⟩
    have ha : (norm b).all okR = true := by
      rw [List.all_eq_true]
      intro r hr
      have h1 := le_len hq hr
      have h2 := hq r hr
      rw [norm_len] at h1
      have h3 := mem_exp hq hr
      rw [norm_exp hp] at h3
      simp only [okR, Bool.and_eq_true, decide_eq_true_eq]
      exact ⟨⟨by omega, by omega⟩, ho _ h3⟩
    unfold valE
    rw [if_neg (by omega), if_neg (by rw [ha]; simp), norm_len, if_neg (by omega)]
theorem exp_mapR (c : M → M) : ∀ b : List R, exp (mapR c b) = (exp b).map c
  | [] => rfl
  | r :: b => by
    have := exp_mapR c b
    simp only [mapR, List.map_cons, exp, List.map_append, List.map_replicate] at this ⊢
    rw [this]
theorem exp_okM {b : List R} (h : valE b = 0) : ∀ m ∈ exp b, okM m = true := by
  intro m hm
  obtain ⟨r, h1, rfl⟩ := exp_mem hm
  have := (valE_zero h).2.1 r h1
  simp only [okR, Bool.and_eq_true] at this
  exact this.2
theorem exp_repL {rs patch : List R} {fr : Int} (hv : valE rs = 0) (h1 : 0 ≤ fr) (hp : pos patch) (h2 : fr + len patch ≤ len rs) :
    exp (repL rs fr patch) = (exp rs).take fr.toNat ++ (exp patch ++ (exp rs).drop (fr + len patch).toNat) := by
  have hf := fine_of_valid hv
  have hl := len_exp hf.2.1
  have hn := len_nonneg hp
  unfold repL
  rw [exp_append, exp_append, exp_cutL hf (Int.le_refl 0), exp_cutL hf (by omega), hl]
  simp
theorem atM_in {rs : List R} {p : Int} (h : valE rs = 0) (h1 : 0 ≤ p) (h2 : p < len rs) : atM rs p = (exp rs)[p.toNat]?.getD ⟨0, 0, 0⟩ := by
  unfold atM; rw [if_pos ⟨h, h1, h2⟩]
theorem cha_at {rs : List R} {fr to p : Int} {ok : Bool} {c : M → M} (hc : ok = true → ∀ m, okM m = true → okM (c m) = true) (h1 : atE rs p = 0) (h2 : chaE rs fr to ok c = 0) :
    atE (chaR rs fr to ok c) p = 0 ∧ atM (chaR rs fr to ok c) p = (if fr ≤ p ∧ p < to then c (atM rs p) else atM rs p) := by
  by_cases hs : sliE rs fr to = 0
  · cases ho : ok with
    | false => rw [(cha_bad hs ho).1] at h2; omega
    | true =>
      obtain ⟨e1, e2⟩ := cha_ok (c := c) hs ho
      rw [ho] at e1 e2
      subst ho
      rw [e1] at h2
      rw [e2]
      obtain ⟨hv, s1, s2, s3⟩ := sliE_zero.1 hs
      have hf := fine_of_valid hv
      have hin : 0 ≤ p ∧ p < len rs := by
        apply Decidable.byContradiction
        intro hn
        have := (at_none_of hv (p := p) (by omega)).1
        omega
      have hlen := len_cutL hf s1 s2 s3
      have hpm := pos_mapR (c := c) (pos_cutL rs fr to)
      have hlm := len_mapR c (cutL rs fr to)
      have hpx : pos (repL rs fr (mapR c (cutL rs fr to))) := pos_append.2 ⟨pos_cutL _ _ _, pos_append.2 ⟨hpm, pos_cutL _ _ _⟩⟩
      have hex := exp_repL hv s1 hpm (by omega)
      rw [hlm, hlen, exp_mapR, exp_cutL hf s1, show fr + (to - fr) = to by omega] at hex
      have hl := len_exp hf.2.1
      have hok : ∀ m ∈ exp (repL rs fr (mapR c (cutL rs fr to))), okM m = true := by
        intro m hm
        rw [hex] at hm
        rcases List.mem_append.1 hm with hm | hm
        · exact exp_okM hv m (List.mem_of_mem_take hm)
        · rcases List.mem_append.1 hm with hm | hm
          · obtain ⟨q, hq, rfl⟩ := List.mem_map.1 hm
            exact hc rfl q (exp_okM hv q (List.mem_of_mem_take (List.mem_of_mem_drop hq)))
          · exact exp_okM hv m (List.mem_of_mem_drop hm)
      obtain ⟨v1, v2⟩ := valE_told hpx hok h2
      have hle := len_exp hpx
      rw [hex] at hle
      simp only [List.length_append, List.length_map, List.length_drop, List.length_take] at hle
      have hlt : len (toldR (repL rs fr (mapR c (cutL rs fr to)))) = len rs := by rw [v2, norm_len]; omega
      refine ⟨at_in v1 hin.1 (by omega), ?_⟩
      rw [atM_in v1 hin.1 (by omega), atM_in hv hin.1 hin.2, v2, norm_exp hpx, hex]
      clear hlt v1 hok hpx hex
      by_cases c1 : p < fr
      · rw [if_neg (by omega), List.getElem?_append_left (by simp; omega), List.getElem?_take_of_lt (by omega)]
      · by_cases c2 : p < to
        · rw [if_pos ⟨by omega, c2⟩, List.getElem?_append_right (by simp; omega), List.getElem?_append_left (by simp; omega), List.getElem?_map, List.getElem?_drop, List.getElem?_take_of_lt (by simp; omega),
            show fr.toNat + (p.toNat - ((exp rs).take fr.toNat).length) = p.toNat by simp; omega, List.getElem?_eq_getElem (show p.toNat < (exp rs).length by omega)]
          rfl
        · rw [if_neg (by omega), List.getElem?_append_right (by simp; omega), List.getElem?_append_right (by simp; omega), List.getElem?_drop]
          congr 2
          simp; omega
  · rw [(cha_inv hs).1] at h2; omega
theorem or_15 : ∀ a b : Fin 16, 0 ≤ orV (a.val : Int) (b.val : Int) ∧ orV (a.val : Int) (b.val : Int) ≤ 15 := by decide
theorem okM_F {fl : Int} (h : chFOk fl = true) (m : M) (hm : okM m = true) : okM (chF fl m) = true := by
  simp only [chFOk, Bool.and_eq_true, decide_eq_true_eq] at h
  simp only [okM, chF, Bool.and_eq_true, decide_eq_true_eq] at hm ⊢
  have e := or_15 ⟨m.f.toNat, by omega⟩ ⟨fl.toNat, by omega⟩
  dsimp only at e
  rw [Int.toNat_of_nonneg (by omega), Int.toNat_of_nonneg (by omega)] at e
  obtain ⟨⟨⟨a1, a2⟩, a3, a4⟩, a5, a6⟩ := hm
  exact ⟨⟨⟨decide_eq_true a1, decide_eq_true a2⟩, decide_eq_true a3, decide_eq_true a4⟩, decide_eq_true e.1, decide_eq_true e.2⟩
theorem okM_P {th : Int} (h : chPOk th = true) (m : M) (hm : okM m = true) : okM (chP th m) = true := by
  simp only [chPOk, Bool.and_eq_true, decide_eq_true_eq] at h
  simp only [okM, chP, Bool.and_eq_true, decide_eq_true_eq] at hm ⊢
  obtain ⟨⟨⟨a1, a2⟩, a3, a4⟩, a5, a6⟩ := hm
  have b1 : 1 ≤ min m.t th := by omega
  have b2 : min m.t th ≤ 1000 := by omega
  exact ⟨⟨⟨decide_eq_true b1, decide_eq_true b2⟩, decide_eq_true a3, decide_eq_true a4⟩, decide_eq_true a5, decide_eq_true a6⟩
end Bd
end Go.Proofs.Ytimpdmpfpbeflaa
