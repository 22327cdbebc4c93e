/- How far two bands agree: runs by runs, and place by place. -/
import Derived.Test.YtbmjjmpdlmbehaaRmB
namespace Go.Proofs.Ytbmjjmpdlmbehaa
namespace Bd
/-- How far two normal bands agree. -/
def agr : List R → List R → Int
  | r :: x, q :: y => if r.m = q.m then (if r.l = q.l then r.l + agr x y else min r.l q.l) else 0
  | _, _ => 0
/-- The length of the common beginning. -/
def cpl : List M → List M → Nat
  | a :: x, b :: y => if a = b then cpl x y + 1 else 0
  | _, _ => 0
theorem cpl_nil (x : List M) : cpl x [] = 0 := by cases x <;> rfl
theorem agr_nil (x : List R) : agr x [] = 0 := by cases x <;> rfl
theorem cpl_rep (m : M) (n : Nat) (x y : List M) : cpl (List.replicate n m ++ x) (List.replicate n m ++ y) = n + cpl x y := by
  induction n with
  | zero => simp
  | succ n ih => simp only [List.replicate_succ, List.cons_append, cpl, if_true, ih]; omega
theorem cpl_head {x y : List M} (h : x.head? = none ∨ x.head? ≠ y.head?) : cpl x y = 0 := by
  cases x with
  | nil => rfl
  | cons a x =>
    cases y with
    | nil => rfl
    | cons b y =>
      rcases h with h | h
      · simp at h
      · simp at h; simp [cpl, h]
theorem cpl_comm : ∀ (x y : List M), cpl x y = cpl y x
  | [], y => by rw [cpl_nil]; rfl
  | a :: x, [] => rfl
  | a :: x, b :: y => by
    simp only [cpl]
    by_cases h : a = b
    · rw [if_pos h, if_pos h.symm, cpl_comm x y]
    · rw [if_neg h, if_neg (fun e => h e.symm)]
theorem rep_split {n k : Nat} (h : n < k) (m : M) (z : List M) : List.replicate k m ++ z = List.replicate n m ++ (List.replicate (k - n) m ++ z) := by
  rw [← List.append_assoc, List.replicate_append_replicate, show n + (k - n) = k by omega]
theorem rep_head {n : Nat} (h : 0 < n) (m : M) (z : List M) : (List.replicate n m ++ z).head? = some m := by
  cases n with
  | zero => omega
  | succ n => simp [List.replicate_succ]
theorem agr_cpl : ∀ {x y : List R}, nrm x → nrm y → agr x y = cpl (exp x) (exp y)
  | [], y, _, _ => by simp [agr, exp, cpl]
  | r :: x, [], _, _ => by simp [agr, exp, cpl_nil]
  | r :: x, q :: y, hx, hy => by
    have h1 := hx.1
    have h2 := hy.1
    simp only [agr, exp]
    by_cases hm : r.m = q.m
    · rw [if_pos hm, ← hm]
      by_cases hl : r.l = q.l
      · rw [if_pos hl, ← hl, cpl_rep, agr_cpl hx.2.2 hy.2.2]; omega
      · rw [if_neg hl]
        rcases Int.lt_or_gt_of_ne hl with h | h
        · rw [rep_split (n := r.l.toNat) (k := q.l.toNat) (by omega), cpl_rep, cpl_head, Int.min_eq_left (by omega)]
          · omega
          · right; rw [rep_head (by omega)]; exact nrm_head hx
        · rw [rep_split (n := q.l.toNat) (k := r.l.toNat) (by omega), cpl_rep, cpl_comm, cpl_head, Int.min_eq_right (by omega)]
          · omega
          · right; rw [rep_head (by omega), hm]; exact nrm_head hy
    · rw [if_neg hm, cpl_head]
      · rfl
      · right; rw [rep_head (by omega), rep_head (by omega)]; simpa using hm
theorem cpl_le : ∀ (x y : List M), cpl x y ≤ x.length ∧ cpl x y ≤ y.length
  | [], y => by simp [cpl]
  | a :: x, [] => by simp [cpl]
  | a :: x, b :: y => by
    have := cpl_le x y
    simp only [cpl]; split <;> simp <;> omega
theorem cpl_take : ∀ (x y : List M), x.take (cpl x y) = y.take (cpl x y)
  | [], y => by simp [cpl]
  | a :: x, [] => by simp [cpl]
  | a :: x, b :: y => by
    simp only [cpl]
    by_cases h : a = b
    · rw [if_pos h, h]; simp [cpl_take x y]
    · rw [if_neg h]; simp
theorem cpl_next : ∀ (x y : List M), cpl x y < x.length → cpl x y < y.length → x[cpl x y]? ≠ y[cpl x y]?
  | [], y, h, _ => by simp [cpl] at h
  | a :: x, [], _, h => by simp [cpl] at h
  | a :: x, b :: y, h1, h2 => by
    simp only [cpl] at *
    by_cases h : a = b
    · rw [if_pos h] at *
      simp only [List.length_cons, List.getElem?_cons_succ] at *
      exact cpl_next x y (by omega) (by omega)
    · rw [if_neg h]; simpa using h
theorem cpl_full {x y : List M} (h1 : cpl x y = x.length) (h2 : cpl x y = y.length) : x = y := by
  have := cpl_take x y
  rwa [h1, List.take_length, ← h1, h2, List.take_length] at this
theorem cpl_self : ∀ x : List M, cpl x x = x.length
  | [] => rfl
  | a :: x => by simp [cpl, cpl_self x]
/-- Two normal bands are one just if they agree up to both ends. -/
theorem agr_full {x y : List R} (hx : nrm x) (hy : nrm y) : (agr x y = len x ∧ agr x y = len y) ↔ x = y := by
  rw [agr_cpl hx hy, len_exp (nrm_pos hx), len_exp (nrm_pos hy)]
  constructor
  · rintro ⟨h1, h2⟩
    exact nrm_unique hx hy (cpl_full (by omega) (by omega))
  · rintro rfl
    rw [cpl_self]; exact ⟨rfl, rfl⟩
theorem agr_bounds {x y : List R} (hx : nrm x) (hy : nrm y) : 0 ≤ agr x y ∧ agr x y ≤ len x ∧ agr x y ≤ len y := by
  rw [agr_cpl hx hy, len_exp (nrm_pos hx), len_exp (nrm_pos hy)]
  have := cpl_le (exp x) (exp y)
  omega
theorem nrm_drop : ∀ {x : List R} (k : Nat), nrm x → nrm (x.drop k)
  | _, 0, h => h
  | [], k + 1, _ => by simp [nrm]
  | r :: x, k + 1, h => nrm_drop (x := x) k h.2.2
theorem agr_step {x y : List R} {k : Nat} (hx : k < x.length) (hy : k < y.length) :
    agr (x.drop k) (y.drop k) = if x[k].m = y[k].m then (if x[k].l = y[k].l then x[k].l + agr (x.drop (k + 1)) (y.drop (k + 1)) else min x[k].l y[k].l) else 0 := by
  rw [List.drop_eq_getElem_cons hx, List.drop_eq_getElem_cons hy]; rfl
theorem agr_end {x y : List R} {k : Nat} (h : x.length ≤ k ∨ y.length ≤ k) : agr (x.drop k) (y.drop k) = 0 := by
  rcases h with h | h
  · rw [List.drop_of_length_le h]; rfl
  · rw [List.drop_of_length_le h, agr_nil]
theorem len_drop_le {b : List R} (h : pos b) (k : Nat) : 0 ≤ len (b.drop k) ∧ len (b.drop k) ≤ len b := by
  have h1 := len_append (b.take k) (b.drop k)
  rw [List.take_append_drop] at h1
  have h2 := len_nonneg (pos_take h k)
  have h3 := len_nonneg (b := b.drop k) (fun r hr => h r (List.mem_of_mem_drop hr))
  omega
def bothE (a b : List R) : Int := if valE a = 0 then valE b else valE a
theorem bothE_zero {a b : List R} : bothE a b = 0 ↔ valE a = 0 ∧ valE b = 0 := by
  unfold bothE; split
  · rename_i h; simp [h]
  · rename_i h; simp [h]
def sameB (a b : List R) : Bool := if bothE a b = 0 then decide (norm a = norm b) else false
def agrV (a b : List R) : Int := if bothE a b = 0 then agr (norm a) (norm b) else 0
end Bd
end Go.Proofs.Ytbmjjmpdlmbehaa
