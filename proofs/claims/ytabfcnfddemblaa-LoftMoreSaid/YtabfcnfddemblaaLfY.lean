/- Proofs in plain words: more goods, more poles; the first window that is a proof. -/
import Derived.Test.YtabfcnfddemblaaLfX
namespace Go.Proofs.Ytabfcnfddemblaa
namespace Lf

def wdF (f : F) : F := ⟨min (f.p + 1) 40, f.rs⟩
def wdL (ls : List F) : List F := ls.map wdF
theorem wd_at {ls : List F} {k : Nat} (h : k < ls.length) : (wdL ls).getD k default = wdF (ls.getD k default) := by simp [wdL, h]
theorem dyk_wd {ls : List F} {g : G} (hF : ∀ k (hk : k < ls.length), okF ls[k] = true) : ∀ k, k ≤ ls.length → 0 < dyk ls g k → 0 < dyk (wdL ls) g k ∧ dyk (wdL ls) g k ≤ dyk ls g k
  | 0, _, h => by simp [dyk] at h
  | k + 1, hk, h => by
    have ih := dyk_wd hF k (by omega) (g := g)
    have hp : (ls.getD k default).p ≤ 40 := by
      have := (okF_iff.1 (hF k (by omega))).1
      rw [show ls.getD k default = ls[k] by simp [show k < ls.length by omega]]; omega
    rw [dyk, dst] at h ⊢
    rw [dyk, dst, wd_at (by omega)]
    have e : (wdF (ls.getD k default)).rs = (ls.getD k default).rs := rfl
    have e2 : (wdF (ls.getD k default)).p = min ((ls.getD k default).p + 1) 40 := rfl
    rw [e, e2]
    generalize dN (ls.getD k default).rs g.n g.m = d at *
    generalize (ls.getD k default).p = p at *
    generalize dyk ls g k = A at *
    generalize dyk (wdL ls) g k = B at *
    split at h
    · rename_i c
      rw [if_pos c]
      split <;> omega
    · rename_i c
      rw [if_neg c]
      split <;> omega
theorem ndk_nn {ls : List F} {gs : List G} (hG : ∀ k (hk : k < gs.length), okG gs[k] = true) (a b : Int) (i : Nat) (hi : i < gs.length) : 0 ≤ ndk ls gs a b i := by
  unfold ndk
  split
  · have := okG_iff.1 (hG i hi)
    refine Int.mul_nonneg ?_ (by omega)
    rw [show gs.getD i default = gs[i] by simp [hi]]; omega
  · exact Int.le_refl _
theorem ndk_more {ls : List F} {gs : List G} {g : G} {a b : Int} {i : Nat} (hi : i < gs.length) : ndk ls (gs ++ [g]) a b i = ndk ls gs a b i := by
  unfold ndk
  rw [show (gs ++ [g]).getD i default = gs.getD i default by simp [List.getD, List.getElem?_append_left hi]]
theorem nvr_iff {ls : List F} {gs : List G} {a b : Int} {n : Nat} : nvr ls gs a b n = true ↔ ∃ i, i < n ∧ inW (gs.getD i default) a b = true ∧ dyN ls (gs.getD i default) = 0 := by
  unfold nvr
  rw [List.any_eq_true]
  constructor
  · rintro ⟨i, hi, h⟩
    rw [Bool.and_eq_true, decide_eq_true_eq] at h
    exact ⟨i, List.mem_range.1 hi, h⟩
  · rintro ⟨i, hi, h⟩
    exact ⟨i, List.mem_range.2 hi, by rw [Bool.and_eq_true, decide_eq_true_eq]; exact h⟩
theorem prf_more {ls : List F} {gs : List G} {g : G} {a b : Int} (hg : okG g = true) (hl : gs.length < 8) (h : isP ls gs a b = true) : isP ls (gs ++ [g]) a b = true := by
  unfold isP at h ⊢
  rw [Bool.and_eq_true, decide_eq_true_eq] at h
  obtain ⟨hv, hp⟩ := h
  obtain ⟨hvF, hvG⟩ := bth_zero hv
  obtain ⟨_, hG⟩ := valG_zero hvG
  have hG2 : ∀ k (hk : k < (gs ++ [g]).length), okG (gs ++ [g])[k] = true := fun k hk => by
    rw [List.getElem_append]
    split
    · exact hG _ _
    · simpa using hg
  have hv2 : bthE ls (gs ++ [g]) = 0 := by
    unfold bthE
    rw [if_pos hvF]
    exact valG_ok (by simp; omega) hG2
  rw [decide_eq_true hv2, Bool.true_and]
  unfold prf at hp ⊢
  rw [Bool.and_eq_true, Bool.or_eq_true, decide_eq_true_eq] at hp ⊢
  refine ⟨hp.1, ?_⟩
  rcases hp.2 with h | h
  · left
    obtain ⟨i, hi, h1, h2⟩ := nvr_iff.1 h
    have e : (gs ++ [g]).getD i default = gs.getD i default := by simp [List.getD, List.getElem?_append_left hi]
    exact nvr_iff.2 ⟨i, by simp; omega, by rw [e]; exact h1, by rw [e]; exact h2⟩
  · right
    have h1 : S (ndk ls (gs ++ [g]) a b) (gs ++ [g]).length = S (ndk ls gs a b) gs.length + ndk ls (gs ++ [g]) a b gs.length := by
      rw [show (gs ++ [g]).length = gs.length + 1 by simp, S, S_congr _ (fun i hi => ndk_more hi)]
    have h2 := ndk_nn (ls := ls) hG2 a b gs.length (by simp)
    omega
theorem pls_wd {ls : List F} (hF : ∀ k (hk : k < ls.length), okF ls[k] = true) : pls ls ls.length ≤ pls (wdL ls) ls.length := by
  unfold pls
  refine S_le _ fun i hi => ?_
  rw [wd_at hi]
  have := (okF_iff.1 (hF i hi)).1
  show _ ≤ min _ _
  rw [show ls.getD i default = ls[i] by simp [hi]]; omega
theorem prf_wider {ls : List F} {gs : List G} {a b : Int} (hv : valF ls = 0) (h : isP (wdL ls) gs a b = true) : isP ls gs a b = true := by
  unfold isP at h ⊢
  rw [Bool.and_eq_true, decide_eq_true_eq] at h
  obtain ⟨hv2, hp⟩ := h
  obtain ⟨_, hvG⟩ := bth_zero hv2
  obtain ⟨_, hG⟩ := valG_zero hvG
  obtain ⟨_, hF⟩ := valF_zero hv
  have hv3 : bthE ls gs = 0 := by unfold bthE; rw [if_pos hv]; exact hvG
  rw [decide_eq_true hv3, Bool.true_and]
  unfold prf at hp ⊢
  rw [Bool.and_eq_true, Bool.or_eq_true, decide_eq_true_eq] at hp ⊢
  refine ⟨hp.1, ?_⟩
  have hll : (wdL ls).length = ls.length := by simp [wdL]
  have hdy : ∀ g, 0 < dyN ls g → 0 < dyN (wdL ls) g ∧ dyN (wdL ls) g ≤ dyN ls g := fun g h => by
    unfold dyN at h ⊢
    rw [hll]
    exact dyk_wd hF ls.length (Nat.le_refl _) h
  by_cases hn : nvr ls gs a b gs.length = true
  · exact .inl hn
  · right
    have hpos : ∀ i, i < gs.length → inW (gs.getD i default) a b = true → 0 < dyN ls (gs.getD i default) := fun i hi hw => by
      apply Decidable.byContradiction
      intro hc
      exact hn (nvr_iff.2 ⟨i, hi, hw, by omega⟩)
    rcases hp.2 with h | h
    · obtain ⟨i, hi, h1, h2⟩ := nvr_iff.1 h
      have := hdy _ (hpos i hi h1); omega
    · rw [hll] at h
      have h1 := pls_wd hF
      have hw := wOk_iff.1 hp.1
      have h2 := Int.mul_le_mul_of_nonneg_right h1 (show (0 : Int) ≤ b - a by omega)
      have h3 : S (ndk (wdL ls) gs a b) gs.length ≤ S (ndk ls gs a b) gs.length := S_le _ fun i hi => by
        unfold ndk
        by_cases c : inW (gs.getD i default) a b = true
        · rw [if_pos c, if_pos c]
          have h4 := hdy _ (hpos i hi c)
          have h5 := okG_iff.1 (hG i hi)
          refine Int.mul_le_mul_of_nonneg_left (by omega) ?_
          rw [show gs.getD i default = gs[i] by simp [hi]]; omega
        · rw [if_neg c, if_neg c]; exact Int.le_refl _
      omega
end Lf
end Go.Proofs.Ytabfcnfddemblaa
