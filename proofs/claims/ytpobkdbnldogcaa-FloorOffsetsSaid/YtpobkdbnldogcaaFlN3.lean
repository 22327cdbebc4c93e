/- Where strips and seams lie; seams among the first strips. -/
import Derived.Test.YtpobkdbnldogcaaFlN2
namespace Go.Proofs.Ytpobkdbnldogcaa
namespace Fl
theorem one_mem {rs : List R} {w x : Int} {s : S} (h : s ∈ one rs w x) : s.x = x := by
  unfold one at h
  split at h
  · simp at h; rw [h]
  · simp at h
theorem stk_mem {rs : List R} {w o : Int} : ∀ {i : Nat} {s : S}, s ∈ stk rs w o i → ∃ k : Nat, k < i ∧ s.x = o - w + k * w
  | 0, _, h => by simp [stk] at h
  | i + 1, s, h => by
    rw [stk] at h
    rcases List.mem_append.1 h with h | h
    · obtain ⟨k, hk, e⟩ := stk_mem h
      exact ⟨k, by omega, e⟩
    · exact ⟨i, by omega, one_mem h⟩
theorem stL_x {rs : List R} {w o : Int} (hw : 1 ≤ w) (hw2 : w ≤ 20) (h0 : 0 ≤ o) (h1 : o < w) {s : S} (h : s ∈ stL rs w o) : -20 ≤ s.x ∧ s.x ≤ 59 := by
  obtain ⟨k, hk, e⟩ := stk_mem h
  have a := (nS_iff hw h1 k).1 hk
  have b : 0 ≤ (k : Int) * w := Int.mul_nonneg (by omega) (by omega)
  omega
theorem nS_le {w o : Int} (hw : 1 ≤ w) (_hw2 : w ≤ 20) (h0 : 0 ≤ o) (h1 : o < w) : nS w o ≤ 99 := by
  by_cases h : 99 < nS w o
  · have a := (nS_iff hw h1 99).1 h
    have b : (99 : Int) * 1 ≤ 99 * w := Int.mul_le_mul_of_nonneg_left hw (by omega)
    omega
  · omega
theorem stL_len {rs : List R} {w o : Int} (hw : 1 ≤ w) (hw2 : w ≤ 20) (h0 : 0 ≤ o) (h1 : o < w) : (stL rs w o).length ≤ 99 := Nat.le_trans (stk_len rs w o _) (nS_le hw hw2 h0 h1)
theorem smk_mem {rs : List R} {w o : Int} : ∀ {i : Nat} {x : Int}, x ∈ smk rs w o i → ∃ k : Nat, k < i ∧ x = o + k * w
  | 0, _, h => by simp [smk] at h
  | i + 1, x, h => by
    rw [smk] at h
    rcases List.mem_append.1 h with h | h
    · obtain ⟨k, hk, e⟩ := smk_mem h
      exact ⟨k, by omega, e⟩
    · split at h
      · simp at h; exact ⟨i, by omega, h⟩
      · simp at h
theorem smL_x {rs : List R} {w o : Int} (hw : 1 ≤ w) (h0 : 0 ≤ o) (h1 : o < w) {x : Int} (h : x ∈ smL rs w o) : 0 ≤ x ∧ x ≤ 59 := by
  obtain ⟨k, hk, e⟩ := smk_mem h
  have a := (nS_iff hw h1 (k + 1)).1 (by omega)
  have b : 0 ≤ (k : Int) * w := Int.mul_nonneg (by omega) (by omega)
  have c : ((k + 1 : Nat) : Int) * w = k * w + w := by rw [Int.natCast_add, Int.add_mul]; simp
  omega
theorem smL_len {rs : List R} {w o : Int} (hw : 1 ≤ w) (hw2 : w ≤ 20) (h0 : 0 ≤ o) (h1 : o < w) : (smL rs w o).length ≤ 99 := by
  have := smk_len rs w o (nS w o - 1)
  have := nS_le hw hw2 h0 h1
  unfold smL; omega
theorem smOf_yes {rs : List R} {l : List S} {k : Nat} (hk : k < l.length) (h : seam rs l[k].x = true) : smOf rs (l.take (k + 1)) = smOf rs (l.take k) ++ [l[k].x] := by
  unfold smOf
  rw [List.take_succ_eq_append_getElem hk, List.filter_append, List.map_append]
  simp [h]
theorem smOf_no {rs : List R} {l : List S} {k : Nat} (hk : k < l.length) (h : seam rs l[k].x = false) : smOf rs (l.take (k + 1)) = smOf rs (l.take k) := by
  unfold smOf
  rw [List.take_succ_eq_append_getElem hk, List.filter_append, List.map_append]
  simp [h]
theorem smOf_len (rs : List R) (l : List S) : (smOf rs l).length ≤ l.length := by
  unfold smOf
  rw [List.length_map]
  exact List.length_filter_le _ _
theorem smOf_all (rs : List R) (l : List S) : smOf rs (l.take l.length) = smOf rs l := by rw [List.take_length]
theorem smk_yes {rs : List R} {w o x : Int} {i : Nat} (hx : x = o + i * w) (h : seam rs x = true) : smk rs w o (i + 1) = smk rs w o i ++ [x] := by
  rw [smk, ← hx, if_pos h]
theorem smk_no {rs : List R} {w o x : Int} {i : Nat} (hx : x = o + i * w) (h : seam rs x = false) : smk rs w o (i + 1) = smk rs w o i := by
  rw [smk, ← hx, if_neg (by rw [h]; simp), List.append_nil]
theorem sm_next {w o x : Int} {i : Nat} (hx : x = o + i * w) : x + w = o + ((i + 1 : Nat) : Int) * w := by
  rw [Int.natCast_add, Int.add_mul, hx]; simp; omega
theorem sm_in {w o x : Int} {i : Nat} (hw : 1 ≤ w) (h1 : o < w) (hx : x = o + i * w) (h : x < 60) : i + 1 ≤ nS w o - 1 := by
  have := (nS_iff hw h1 (i + 1)).2 (by
    have c : ((i + 1 : Nat) : Int) * w = i * w + w := by rw [Int.natCast_add, Int.add_mul]; simp
    omega)
  omega
theorem sm_end {w o x : Int} {i : Nat} (hw : 1 ≤ w) (h1 : o < w) (hx : x = o + i * w) (hi : i ≤ nS w o - 1) (h : ¬ x < 60) : i = nS w o - 1 := by
  by_cases e : i + 1 < nS w o
  · have a := (nS_iff hw h1 (i + 1)).1 e
    have c : ((i + 1 : Nat) : Int) * w = i * w + w := by rw [Int.natCast_add, Int.add_mul]; simp
    omega
  · omega
theorem smx_le {w o x : Int} {i : Nat} (hw : 1 ≤ w) (ho : 0 ≤ o) (hx : x = o + i * w) (h : x < 60 + w) (hw2 : w ≤ 20) : i ≤ 99 := by
  have : (i : Int) * 1 ≤ i * w := Int.mul_le_mul_of_nonneg_left hw (by omega)
  omega
end Fl
end Go.Proofs.Ytpobkdbnldogcaa
