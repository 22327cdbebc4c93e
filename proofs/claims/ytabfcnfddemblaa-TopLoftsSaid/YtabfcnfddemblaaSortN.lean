/- The insertion sort of the indices by their remainders: plain. -/
import Derived.Test.YtabfcnfddemblaaShareP
import Derived.Sort.Defs
namespace Go.Proofs.Ytabfcnfddemblaa
namespace Lr
theorem at_list {d : Array Nat} {A B : List Nat} {y : Nat} (h : d.toList = A ++ y :: B) : d[A.length]! = y := by
  obtain ⟨L⟩ := d
  simp only at h
  subst h
  simp
theorem swp_list {d : Array Nat} {A B : List Nat} {x y : Nat} (h : d.toList = A ++ y :: x :: B) : (Go.Sort.swp d (A.length + 1) A.length).toList = A ++ x :: y :: B := by
  have e1 : d[A.length]! = y := at_list h
  have e2 : d[A.length + 1]! = x := by
    have := at_list (A := A ++ [y]) (y := x) (B := B) (d := d) (by rw [h]; simp)
    simpa using this
  unfold Go.Sort.swp
  rw [e1, e2, Array.toList_setIfInBounds, Array.toList_setIfInBounds, h]
  simp [List.set_append]
theorem inner_ok {r : Nat → Int} {lt : Nat → Nat → Bool} (hlt : ∀ x y, lt x y = decide (r y < r x)) {l rest : List Nat} {x : Nat} (hs : l.Pairwise (bef r)) : ∀ (j : Nat) (d : Array Nat), j ≤ l.length → d.toList = l.take j ++ x :: (l.drop j ++ rest) → (∀ k (hk : k < l.length), j ≤ k → r l[k] < r x) → (Go.Sort.insInner lt 0 j d).toList = ins r l x ++ rest
  | 0, d, _, hd, h1 => by
    rw [Go.Sort.insInner, hd, ← ins_at hs (Nat.zero_le _) h1 (fun h => absurd h (by omega))]
    simp
  | j + 1, d, hj, hd, h1 => by
    have hjl : j < l.length := by omega
    have ht : l.take (j + 1) = l.take j ++ [l[j]] := List.take_succ_eq_append_getElem hjl
    have hlen : (l.take j).length = j := by rw [List.length_take]; omega
    have hd2 : d.toList = l.take j ++ l[j] :: x :: (l.drop (j + 1) ++ rest) := by rw [hd, ht, List.append_assoc]; rfl
    have e1 : d[j]! = l[j] := by have := at_list hd2; rwa [hlen] at this
    have e2 : d[j + 1]! = x := by
      have := at_list (A := l.take (j + 1)) (y := x) hd
      rwa [show (l.take (j + 1)).length = j + 1 by rw [List.length_take]; omega] at this
    rw [Go.Sort.insInner, e1, e2, hlt]
    by_cases hc : r l[j] < r x
    · rw [if_pos (by simp [hc])]
      refine inner_ok hlt hs j _ (by omega) ?_ fun k hk hjk => ?_
      · have := swp_list hd2
        rw [hlen] at this
        rw [this, List.drop_eq_getElem_cons hjl]; rfl
      · by_cases e : k = j
        · subst e; exact hc
        · exact h1 k hk (by omega)
    · rw [if_neg (by simp [hc]), hd, ← ins_at hs hj h1 (fun _ => by simpa using Int.not_lt.1 hc)]
      simp
theorem outer_ok {r : Nat → Int} {lt : Nat → Nat → Bool} (hlt : ∀ x y, lt x y = decide (r y < r x)) (n : Nat) : ∀ (m i : Nat) (d : Array Nat), m = n - i → i ≤ n → d.toList = srt r i ++ List.range' i (n - i) → (Go.Sort.insOuter lt 0 n i d).toList = srt r n
  | 0, i, d, hm, hi, hd => by
    obtain rfl : i = n := by omega
    rw [Go.Sort.insOuter, if_neg (by omega), hd]; simp
  | m + 1, i, d, hm, hi, hd => by
    rw [Go.Sort.insOuter, if_pos (by omega)]
    refine outer_ok hlt n m (i + 1) _ (by omega) (by omega) ?_
    have hl := srt_len r i
    have := inner_ok hlt (l := srt r i) (rest := List.range' (i + 1) (n - (i + 1))) (x := i) (srt_sorted r i) i d (by omega) (by
      rw [hd, List.take_of_length_le (by omega), List.drop_eq_nil_of_le (by omega), show n - i = (n - (i + 1)) + 1 by omega, List.range'_succ]; rfl) (fun k hk h => absurd h (by omega))
    exact this
/-- The sorted indices. -/
theorem sorted_ok {r : Nat → Int} {lt : Nat → Nat → Bool} (hlt : ∀ x y, lt x y = decide (r y < r x)) {n : Nat} (hn : 0 < n) {d : Array Nat} (hd : d.toList = List.range n) : (Go.Sort.insertionSort lt d 0 n).toList = srt r n := by
  unfold Go.Sort.insertionSort
  refine outer_ok hlt n (n - 1) (0 + 1) d (by omega) (by omega) ?_
  rw [hd, List.range_eq_range']
  show List.range' 0 n = [0] ++ List.range' 1 (n - 1)
  rw [show n = (n - 1) + 1 by omega, List.range'_succ]; rfl
theorem srt_congr {r r' : Nat → Int} : ∀ {n : Nat}, (∀ i, i < n → r i = r' i) → srt r n = srt r' n
  | 0, _ => rfl
  | n + 1, h => by
    show ins r (srt r n) n = ins r' (srt r' n) n
    rw [← srt_congr (r := r) (r' := r') fun i hi => h i (by omega)]
    have hf : ∀ y ∈ srt r n, r n = r' n ∧ r y = r' y := fun y hy => ⟨h n (by omega), h y (by have := (srt_mem r).1 hy; omega)⟩
    unfold ins
    have e1 : (srt r n).filter (fun y => decide (r n ≤ r y)) = (srt r n).filter (fun y => decide (r' n ≤ r' y)) := List.filter_congr fun y hy => by rw [(hf y hy).1, (hf y hy).2]
    have e2 : (srt r n).filter (fun y => !decide (r n ≤ r y)) = (srt r n).filter (fun y => !decide (r' n ≤ r' y)) := List.filter_congr fun y hy => by rw [(hf y hy).1, (hf y hy).2]
    rw [e1, e2]
end Lr
end Go.Proofs.Ytabfcnfddemblaa
