/- Sets of numbers, without the program. -/
namespace Go.Proofs.YtcljpklgpedolaaGreatDoor
namespace Cal

/-- Whether a list is a set of numbers from 'least' to limit - 1. -/
def setGo (limit : Int) : Int → List Int → Bool
  | _, [] => true
  | least, x :: r => if x < least ∨ limit ≤ x then false else setGo limit (x + 1) r
def setB (limit : Int) (xs : List Int) : Bool := setGo limit 0 xs

theorem setGo_cons {limit least x : Int} {r : List Int} : setGo limit least (x :: r) = if x < least ∨ limit ≤ x then false else setGo limit (x + 1) r := rfl
theorem drop_cons {xs : List Int} {k : Nat} (h : k < xs.length) : xs.drop k = xs[k] :: xs.drop (k + 1) := List.drop_eq_getElem_cons h
theorem setGo_bad {limit least : Int} {xs : List Int} {k : Nat} (h : k < xs.length) (hb : xs[k] < least ∨ limit ≤ xs[k]) : setGo limit least (xs.drop k) = false := by
  rw [drop_cons h, setGo_cons, if_pos hb]
theorem setGo_good {limit least : Int} {xs : List Int} {k : Nat} (h : k < xs.length) (hb : ¬ (xs[k] < least ∨ limit ≤ xs[k])) : setGo limit least (xs.drop k) = setGo limit (xs[k] + 1) (xs.drop (k + 1)) := by
  rw [drop_cons h, setGo_cons, if_neg hb]
theorem setGo_end {limit least : Int} {xs : List Int} : setGo limit least (xs.drop xs.length) = true := by simp [setGo]

/-- What a set is. -/
theorem setGo_iff {limit : Int} : ∀ {least : Int} {xs : List Int}, setGo limit least xs = true ↔ (∀ x ∈ xs, least ≤ x ∧ x < limit) ∧ xs.Pairwise (· < ·)
  | least, [] => by simp [setGo]
  | least, x :: r => by
    rw [setGo_cons]
    by_cases h : x < least ∨ limit ≤ x
    · rw [if_pos h]
      simp only [List.mem_cons, forall_eq_or_imp, Bool.false_eq_true, false_iff, not_and]
      intro hh
      omega
    · rw [if_neg h, setGo_iff (xs := r), List.pairwise_cons]
      constructor
      · rintro ⟨h1, h2⟩
        refine ⟨fun y hy => ?_, fun y hy => ?_, h2⟩
        · rcases List.mem_cons.1 hy with rfl | hy
          · omega
          · have := h1 y hy; omega
        · have := h1 y hy; omega
      · rintro ⟨h1, h2, h3⟩
        refine ⟨fun y hy => ?_, h3⟩
        have a := h1 y (List.mem_cons_of_mem _ hy)
        have b := h2 y hy
        omega

/-- Whether a number is in a list. -/
def hasB (xs : List Int) (x : Int) : Bool := xs.contains x
theorem hasB_iff {xs : List Int} {x : Int} : hasB xs x = true ↔ x ∈ xs := by simp [hasB]
theorem hasB_hit {xs : List Int} {k : Nat} {x y : Int} (hd : xs.drop k = y :: xs.drop (k + 1)) (h : y = x) : hasB (xs.drop k) x = true := by rw [hasB_iff, hd]; simp [h]
theorem hasB_miss {xs : List Int} {k : Nat} {x y : Int} (hd : xs.drop k = y :: xs.drop (k + 1)) (h : y ≠ x) : hasB (xs.drop k) x = hasB (xs.drop (k + 1)) x := by
  rw [Bool.eq_iff_iff, hasB_iff, hasB_iff, hd]; simp [Ne.symm h]
theorem hasB_end {xs : List Int} {x : Int} : hasB (xs.drop xs.length) x = false := by simp [hasB]
end Cal
end Go.Proofs.YtcljpklgpedolaaGreatDoor
