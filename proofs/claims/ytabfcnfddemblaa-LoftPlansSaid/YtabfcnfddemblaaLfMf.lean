/- Dividing by the largest remainders: plain. The insertion sort of the indices by their remainders: plain. -/
import Derived.Sort.Defs
namespace Go.Proofs.Ytabfcnfddemblaa
namespace Lr
/-- The remainder a comes before the remainder b: it is larger, or the same with the smaller index. -/
def bef (r : Nat → Int) (a b : Nat) : Prop := r b < r a ∨ (r a = r b ∧ a < b)
theorem bef_asym {r : Nat → Int} {a b : Nat} (h : bef r a b) : ¬ bef r b a := by unfold bef at *; omega
theorem bef_total {r : Nat → Int} {a b : Nat} (h : a ≠ b) : bef r a b ∨ bef r b a := by unfold bef; omega
theorem bef_trans {r : Nat → Int} {a b c : Nat} (h : bef r a b) (k : bef r b c) : bef r a c := by unfold bef at *; omega
/-- The indices below n in their order: each one is put behind all that are not smaller. -/
def ins (r : Nat → Int) (l : List Nat) (x : Nat) : List Nat := l.filter (fun y => decide (r x ≤ r y)) ++ x :: l.filter (fun y => !decide (r x ≤ r y))
def srt (r : Nat → Int) : Nat → List Nat
  | 0 => []
  | n + 1 => ins r (srt r n) n
theorem ins_mem {r : Nat → Int} {l : List Nat} {x y : Nat} : y ∈ ins r l x ↔ y = x ∨ y ∈ l := by
  unfold ins
  simp only [List.mem_append, List.mem_cons, List.mem_filter, Bool.not_eq_true', decide_eq_true_eq, decide_eq_false_iff_not]
  constructor
  · rintro (⟨h, _⟩ | h | ⟨h, _⟩)
    · exact .inr h
    · exact .inl h
    · exact .inr h
  · rintro (h | h)
    · exact .inr (.inl h)
    · by_cases hc : r x ≤ r y
      · exact .inl ⟨h, hc⟩
      · exact .inr (.inr ⟨h, hc⟩)
theorem filter_len {p : Nat → Bool} : ∀ l : List Nat, (l.filter p).length + (l.filter fun y => !p y).length = l.length
  | [] => rfl
  | a :: l => by
    have ih := filter_len (p := p) l
    cases h : p a <;> simp [h] <;> omega
theorem ins_len (r : Nat → Int) (l : List Nat) (x : Nat) : (ins r l x).length = l.length + 1 := by
  unfold ins
  have := filter_len (p := fun y => decide (r x ≤ r y)) l
  simp only [List.length_append, List.length_cons]
  omega
theorem srt_len (r : Nat → Int) : ∀ n, (srt r n).length = n
  | 0 => rfl
  | n + 1 => by show (ins r (srt r n) n).length = _; rw [ins_len, srt_len r n]
theorem srt_mem (r : Nat → Int) : ∀ {n y : Nat}, y ∈ srt r n ↔ y < n
  | 0, y => by simp [srt]
  | n + 1, y => by
    show y ∈ ins r (srt r n) n ↔ _
    rw [ins_mem, srt_mem r]; omega
theorem srt_sorted (r : Nat → Int) : ∀ n, (srt r n).Pairwise (bef r)
  | 0 => List.Pairwise.nil
  | n + 1 => by
    have ih := srt_sorted r n
    show (ins r (srt r n) n).Pairwise (bef r)
    unfold ins
    rw [List.pairwise_append]
    refine ⟨ih.sublist List.filter_sublist, ?_, ?_⟩
    · rw [List.pairwise_cons]
      refine ⟨fun y hy => ?_, ih.sublist List.filter_sublist⟩
      obtain ⟨h1, h2⟩ := List.mem_filter.1 hy
      simp only [Bool.not_eq_true', decide_eq_false_iff_not] at h2
      unfold bef; omega
    · intro a ha b hb
      obtain ⟨h1, h2⟩ := List.mem_filter.1 ha
      simp only [decide_eq_true_eq] at h2
      have h3 := (srt_mem r).1 h1
      rcases List.mem_cons.1 hb with rfl | hb
      · unfold bef; omega
      · obtain ⟨h4, h5⟩ := List.mem_filter.1 hb
        simp only [Bool.not_eq_true', decide_eq_false_iff_not] at h5
        unfold bef; omega
/-- Where the insertion stops: all behind are smaller, the one ahead is not. -/
theorem ins_at {r : Nat → Int} {l : List Nat} (hs : l.Pairwise (bef r)) {x j : Nat} (hj : j ≤ l.length) (h1 : ∀ k (hk : k < l.length), j ≤ k → r l[k] < r x) (h2 : ∀ (h : 0 < j), r x ≤ r (l[j - 1]'(by omega))) : l.take j ++ x :: l.drop j = ins r l x := by
  unfold ins
  have e : l = l.take j ++ l.drop j := (List.take_append_drop j l).symm
  have ha : ∀ y ∈ l.take j, r x ≤ r y := by
    intro y hy
    obtain ⟨k, hk, rfl⟩ := List.getElem_of_mem hy
    rw [List.length_take] at hk
    rw [List.getElem_take]
    have h0 := h2 (by omega)
    by_cases hc : k = j - 1
    · subst hc; exact h0
    · have := List.pairwise_iff_getElem.1 hs k (j - 1) (by omega) (by omega) (by omega)
      unfold bef at this; omega
  have hb : ∀ y ∈ l.drop j, ¬ r x ≤ r y := by
    intro y hy
    obtain ⟨k, hk, rfl⟩ := List.getElem_of_mem hy
    rw [List.length_drop] at hk
    rw [List.getElem_drop]
    have := h1 (j + k) (by omega) (by omega)
    omega
  have f1 : (l.take j ++ l.drop j).filter (fun y => decide (r x ≤ r y)) = l.take j := by
    rw [List.filter_append, List.filter_eq_self.2 (fun y hy => by simpa using ha y hy), List.filter_eq_nil_iff.2 (fun y hy => by simpa using hb y hy), List.append_nil]
  have f2 : (l.take j ++ l.drop j).filter (fun y => !decide (r x ≤ r y)) = l.drop j := by
    rw [List.filter_append, List.filter_eq_nil_iff.2 (fun y hy => by simpa using ha y hy), List.filter_eq_self.2 (fun y hy => by simpa using hb y hy), List.nil_append]
  rw [← e] at f1 f2
  rw [f1, f2]
/-- Those with one more. -/
def got (r : Nat → Int) (n L : Nat) (i : Nat) : Prop := i ∈ (srt r n).take L
instance (r : Nat → Int) (n L i : Nat) : Decidable (got r n L i) := inferInstanceAs (Decidable (_ ∈ _))
theorem at_get (r : Nat → Int) {n t : Nat} (h : t < n) : t < (srt r n).length := by rw [srt_len]; exact h
/-- The next one comes before all that have not been taken yet. -/
theorem next_bef {r : Nat → Int} {n t : Nat} (h : t < n) : ((srt r n)[t]'(at_get r h)) < n ∧ ¬ got r n t ((srt r n)[t]'(at_get r h)) ∧ ∀ j, j < n → ¬ got r n t j → j ≠ ((srt r n)[t]'(at_get r h)) → bef r ((srt r n)[t]'(at_get r h)) j := by
  have hs := List.pairwise_iff_getElem.1 (srt_sorted r n)
  have hl := srt_len r n
  refine ⟨(srt_mem r).1 (List.getElem_mem _), fun hg => ?_, fun j hj hn hne => ?_⟩
  · obtain ⟨k, hk, e⟩ := List.getElem_of_mem hg
    rw [List.length_take] at hk
    rw [List.getElem_take] at e
    have := hs k t (by omega) (by omega) (by omega)
    rw [e] at this
    exact bef_asym this this
  · obtain ⟨s, hs1, rfl⟩ := List.getElem_of_mem ((srt_mem r).2 hj)
    have h1 : ¬ s < t := fun hc => hn (List.mem_iff_getElem.2 ⟨s, by rw [List.length_take]; omega, by rw [List.getElem_take]⟩)
    have h2 : s ≠ t := fun hc => hne (by subst hc; rfl)
    exact hs t s (by omega) (by omega) (by omega)
/-- What the reference's search finds, once those taken are marked: the next one. -/
theorem found_next {r : Nat → Int} (hr : ∀ i, 0 ≤ r i) {n t b : Nat} (h : t < n) (hb : b < n) {R : Nat → Int} (hR : ∀ i, i < n → R i = if got r n t i then -1 else r i) (h1 : ∀ i, i < n → R i ≤ R b) (h2 : ∀ i, i < b → R i < R b) : b = ((srt r n)[t]'(at_get r h)) := by
  obtain ⟨c1, c2, c3⟩ := next_bef (r := r) h
  apply Decidable.byContradiction
  intro hne
  have hc := h1 _ c1
  rw [hR _ c1, if_neg c2] at hc
  have hbR := hR b hb
  by_cases hg : got r n t b
  · rw [if_pos hg] at hbR
    have := hr ((srt r n)[t]'(at_get r h))
    omega
  · rw [if_neg hg] at hbR
    rcases c3 b hb hg hne with hlt | ⟨he, hlt⟩
    · omega
    · have := h2 _ hlt
      rw [hR _ c1, if_neg c2] at this
      omega
theorem got_succ {r : Nat → Int} {n t i : Nat} (h : t < n) : got r n (t + 1) i ↔ got r n t i ∨ i = ((srt r n)[t]'(at_get r h)) := by
  unfold got
  rw [List.take_succ_eq_append_getElem (at_get r h), List.mem_append, List.mem_singleton]
theorem got_bef {r : Nat → Int} {n L i k : Nat} (hL : L ≤ n) (hi : i < n) (hg : got r n L k) (hb : bef r i k) : got r n L i := by
  have hs := List.pairwise_iff_getElem.1 (srt_sorted r n)
  have hl := srt_len r n
  obtain ⟨s, hs1, e⟩ := List.getElem_of_mem hg
  rw [List.length_take] at hs1
  rw [List.getElem_take] at e
  obtain ⟨q, hq, rfl⟩ := List.getElem_of_mem ((srt_mem r).2 hi)
  have hqs : q < L := by
    apply Decidable.byContradiction
    intro hc
    have := hs s q (by omega) (by omega) (by omega)
    rw [e] at this
    exact bef_asym this hb
  exact List.mem_iff_getElem.2 ⟨q, by rw [List.length_take]; omega, by rw [List.getElem_take]⟩
/-- The sum of ones over those taken. -/
def sumN (f : Nat → Int) : Nat → Int
  | 0 => 0
  | n + 1 => sumN f n + f n
theorem sumN_congr {f g : Nat → Int} : ∀ {n : Nat}, (∀ i, i < n → f i = g i) → sumN f n = sumN g n
  | 0, _ => rfl
  | n + 1, h => by show sumN f n + f n = sumN g n + g n; rw [sumN_congr fun i hi => h i (by omega), h n (by omega)]
theorem sumN_add (f g : Nat → Int) : ∀ n, sumN (fun i => f i + g i) n = sumN f n + sumN g n
  | 0 => rfl
  | n + 1 => by show sumN (fun i => f i + g i) n + (f n + g n) = (sumN f n + f n) + (sumN g n + g n); rw [sumN_add f g n]; omega
theorem sumN_mul (f : Nat → Int) (c : Int) : ∀ n, sumN (fun i => c * f i) n = c * sumN f n
  | 0 => by show (0 : Int) = c * 0; rw [Int.mul_zero]
  | n + 1 => by show sumN (fun i => c * f i) n + c * f n = c * (sumN f n + f n); rw [sumN_mul f c n, Int.mul_add]
theorem sumN_upd (f : Nat → Int) {c : Nat} : ∀ {n : Nat}, c < n → sumN (fun i => if i = c then f i + 1 else f i) n = sumN f n + 1
  | n + 1, h => by
    show sumN (fun i => if i = c then f i + 1 else f i) n + (if n = c then f n + 1 else f n) = sumN f n + f n + 1
    by_cases e : n = c
    · subst e
      rw [if_pos rfl, sumN_congr (g := f) fun i hi => by rw [if_neg (by omega)]]
      omega
    · rw [if_neg e, sumN_upd f (by omega)]
      omega
theorem got_sum (r : Nat → Int) (f : Nat → Int) {n : Nat} : ∀ L, L ≤ n → sumN (fun i => if got r n L i then f i + 1 else f i) n = sumN f n + L
  | 0, _ => by
    rw [sumN_congr (g := f) fun i _ => by rw [if_neg]; unfold got; simp]
    omega
  | L + 1, h => by
    obtain ⟨c1, c2, _⟩ := next_bef (r := r) (n := n) (t := L) (by omega)
    have := sumN_upd (fun i => if got r n L i then f i + 1 else f i) c1
    rw [sumN_congr (g := fun i => if i = ((srt r n)[L]'(at_get r (by omega))) then (if got r n L i then f i + 1 else f i) + 1 else if got r n L i then f i + 1 else f i), this, got_sum r f L (by omega)]
    · omega
    · intro i hi
      by_cases hg : got r n (L + 1) i
      · rw [if_pos hg]
        rcases (got_succ (by omega)).1 hg with h1 | h1
        · rw [if_pos h1, if_neg]
          intro e
          rw [e] at h1
          exact c2 h1
        · rw [if_pos h1, if_neg (by rw [h1]; exact c2)]
      · rw [if_neg hg, if_neg fun e => hg ((got_succ (by omega)).2 (.inr e)), if_neg fun e => hg ((got_succ (by omega)).2 (.inl e))]
/-- What is left over is less than there are remainders above 0. -/
theorem left_lt {q r w : Nat → Int} {T s : Int} {n : Nat} (hs : 0 < s) (hd : ∀ i, i < n → T * w i = s * q i + r i ∧ 0 ≤ r i ∧ r i < s) (hw : sumN w n = s) : s * (T - sumN q n) = sumN r n := by
  have h1 : sumN (fun i => T * w i) n = sumN (fun i => s * q i + r i) n := sumN_congr fun i hi => (hd i hi).1
  rw [sumN_mul, hw, sumN_add, sumN_mul] at h1
  rw [Int.mul_sub, Int.mul_comm s T]
  omega
theorem sumN_bd {r : Nat → Int} {s : Int} : ∀ {n : Nat}, (∀ i, i < n → 0 ≤ r i ∧ r i < s) → 0 ≤ sumN r n ∧ sumN r n ≤ n * (s - 1)
  | 0, _ => by simp [sumN]
  | n + 1, h => by
    have ih := sumN_bd (n := n) fun i hi => h i (by omega)
    have h1 := h n (by omega)
    show 0 ≤ sumN r n + r n ∧ sumN r n + r n ≤ (n + 1 : Nat) * (s - 1)
    rw [Int.natCast_add, Int.add_mul]
    omega
/-- A remainder of 0 gets nothing. -/
theorem not_got {r : Nat → Int} {s : Int} {n L i : Nat} (hL : L ≤ n) (hi : i < n) (hr : ∀ j, j < n → 0 ≤ r j ∧ r j < s) (hsum : s * (L : Int) = sumN r n) (h0 : r i = 0) : ¬ got r n L i := by
  intro hg
  have hL1 : 1 ≤ L := by
    obtain ⟨k, hk, _⟩ := List.getElem_of_mem hg
    rw [List.length_take] at hk
    omega
  have hs : 1 ≤ s := by have := hr i hi; omega
  have hle : ∀ m, m ≤ n → sumN r m ≤ sumN (fun j => (s - 1) * (if got r n L j ∧ j ≠ i then 1 else 0)) m := by
    intro m
    induction m with
    | zero => intro _; exact Int.le_refl _
    | succ m ih =>
      intro hm
      have ih := ih (by omega)
      have h1 := hr m (by omega)
      show sumN r m + r m ≤ sumN (fun j => (s - 1) * (if got r n L j ∧ j ≠ i then 1 else 0)) m + (s - 1) * (if got r n L m ∧ m ≠ i then 1 else 0)
      by_cases hp : 0 < r m
      · have hgm : got r n L m := got_bef hL (by omega) hg (by unfold bef; omega)
        rw [if_pos ⟨hgm, fun e => by subst e; omega⟩]
        omega
      · have : 0 ≤ (s - 1) * (if got r n L m ∧ m ≠ i then (1 : Int) else 0) := Int.mul_nonneg (by omega) (by split <;> omega)
        omega
  have h2 := hle n (Nat.le_refl _)
  rw [sumN_mul] at h2
  have h3 := got_sum r (fun _ => 0) L hL
  have h4 := sumN_upd (fun j => if got r n L j ∧ j ≠ i then (1 : Int) else 0) hi
  have h5 : sumN (fun j => if j = i then (if got r n L j ∧ j ≠ i then (1 : Int) else 0) + 1 else (if got r n L j ∧ j ≠ i then (1 : Int) else 0)) n = sumN (fun j => if got r n L j then (0 : Int) + 1 else 0) n := by
    refine sumN_congr fun j _ => ?_
    by_cases e : j = i
    · subst e
      rw [if_pos rfl, if_neg (by simp), if_pos hg]
    · rw [if_neg e]
      by_cases h : got r n L j
      · rw [if_pos ⟨h, e⟩, if_pos h]; rfl
      · rw [if_neg fun hc => h hc.1, if_neg h]
  have h6 : sumN (fun _ => (0 : Int)) n = 0 := by
    clear h2 h3 h4 h5 hle hsum
    induction n with
    | zero => rfl
    | succ n ih =>
      show sumN (fun _ => (0 : Int)) n + 0 = 0
      have : ∀ m, sumN (fun _ => (0 : Int)) m = 0 := by
        intro m
        induction m with
        | zero => rfl
        | succ m ihm => show sumN (fun _ => (0 : Int)) m + 0 = 0; rw [ihm]; rfl
      rw [this]; rfl
  rw [h5] at h4
  have h7 : sumN (fun j => if got r n L j ∧ j ≠ i then (1 : Int) else 0) n = (L : Int) - 1 := by omega
  rw [h7, ← hsum] at h2
  have h8 : (s - 1) * ((L : Int) - 1) = s * (L : Int) - s - (L : Int) + 1 := by
    rw [Int.sub_mul, Int.mul_sub, Int.one_mul, Int.mul_one]; omega
  omega

/-- The parts of a total. -/
def wt (ws : List Int) (i : Nat) : Int := ws.getD i 0
def tot (ws : List Int) : Int := sumN (wt ws) ws.length
def qF (T : Int) (ws : List Int) (i : Nat) : Int := T * wt ws i / tot ws
def rF (T : Int) (ws : List Int) (i : Nat) : Int := T * wt ws i % tot ws
def leftN (T : Int) (ws : List Int) : Nat := (T - sumN (qF T ws) ws.length).toNat
def partF (T : Int) (ws : List Int) (i : Nat) : Int := if got (rF T ws) ws.length (leftN T ws) i then qF T ws i + 1 else qF T ws i
/-- What can be divided. -/
def fits (T : Int) (ws : List Int) : Prop := 0 ≤ T ∧ (∀ i, i < ws.length → 0 ≤ wt ws i) ∧ 0 < tot ws
theorem rF_bd {T : Int} {ws : List Int} (h : fits T ws) (i : Nat) : 0 ≤ rF T ws i ∧ rF T ws i < tot ws := ⟨Int.emod_nonneg _ (by have := h.2.2; omega), Int.emod_lt_of_pos _ h.2.2⟩
theorem qr_eq (T : Int) (ws : List Int) (i : Nat) : T * wt ws i = tot ws * qF T ws i + rF T ws i := (Int.mul_ediv_add_emod _ _).symm
theorem left_eq {T : Int} {ws : List Int} (h : fits T ws) : tot ws * (T - sumN (qF T ws) ws.length) = sumN (rF T ws) ws.length :=
  left_lt h.2.2 (fun i _ => ⟨qr_eq T ws i, rF_bd h i⟩) rfl
theorem left_ok {T : Int} {ws : List Int} (h : fits T ws) : (leftN T ws : Int) = T - sumN (qF T ws) ws.length ∧ leftN T ws ≤ ws.length := by
  have h1 := left_eq h
  have h2 := sumN_bd (r := rF T ws) (s := tot ws) (n := ws.length) fun i _ => rF_bd h i
  have hp := h.2.2
  obtain ⟨L, hL⟩ : ∃ L, L = T - sumN (qF T ws) ws.length := ⟨_, rfl⟩
  rw [← hL] at h1 ⊢
  have h3 : 0 ≤ L := by
    apply Decidable.byContradiction
    intro hc
    have := Int.mul_neg_of_pos_of_neg hp (show L < 0 by omega)
    omega
  have h4 : L ≤ ws.length := by
    apply Decidable.byContradiction
    intro hc
    have := Int.mul_le_mul_of_nonneg_left (show (ws.length : Int) + 1 ≤ L by omega) (show 0 ≤ tot ws by omega)
    rw [Int.mul_add, Int.mul_one] at this
    have h5 : (ws.length : Int) * (tot ws - 1) = tot ws * ws.length - ws.length := by rw [Int.mul_sub, Int.mul_one, Int.mul_comm]
    omega
  unfold leftN
  rw [← hL]
  omega
theorem part_sum {T : Int} {ws : List Int} (h : fits T ws) : sumN (partF T ws) ws.length = T := by
  obtain ⟨h1, h2⟩ := left_ok h
  have := got_sum (rF T ws) (qF T ws) (n := ws.length) _ h2
  show sumN (fun i => if got (rF T ws) ws.length (leftN T ws) i then qF T ws i + 1 else qF T ws i) ws.length = T
  omega
theorem part_zero {T : Int} {ws : List Int} (h : fits T ws) {i : Nat} (hi : i < ws.length) (h0 : wt ws i = 0) : partF T ws i = 0 := by
  obtain ⟨h1, h2⟩ := left_ok h
  have hq : qF T ws i = 0 := by unfold qF; rw [h0, Int.mul_zero, Int.zero_ediv]
  have hr : rF T ws i = 0 := by unfold rF; rw [h0, Int.mul_zero, Int.zero_emod]
  unfold partF
  rw [if_neg (not_got h2 hi (fun j _ => rF_bd h j) (by rw [h1]; exact left_eq h) hr), hq]
theorem part_same {T : Int} {ws : List Int} (h : fits T ws) {i k : Nat} (hik : i < k) (hk : k < ws.length) (he : wt ws i = wt ws k) : partF T ws i = partF T ws k ∨ partF T ws i = partF T ws k + 1 := by
  obtain ⟨_, h2⟩ := left_ok h
  have hq : qF T ws i = qF T ws k := by unfold qF; rw [he]
  have hr : rF T ws i = rF T ws k := by unfold rF; rw [he]
  unfold partF
  by_cases hg : got (rF T ws) ws.length (leftN T ws) k
  · rw [if_pos hg, if_pos (got_bef h2 (by omega) hg (.inr ⟨hr, hik⟩)), hq]
    exact .inl rfl
  · rw [if_neg hg, hq]
    split
    · exact .inr rfl
    · exact .inl rfl
theorem part_more {T : Int} {ws : List Int} (h : fits T ws) {i k : Nat} (hi : i < ws.length) (hk : k < ws.length) (hw : wt ws k < wt ws i) : partF T ws k ≤ partF T ws i := by
  obtain ⟨h1, h2⟩ := left_ok h
  have hp := h.2.2
  have e1 := qr_eq T ws i
  have e2 := qr_eq T ws k
  have b1 := rF_bd h i
  have b2 := rF_bd h k
  have hT : T * wt ws k ≤ T * wt ws i := Int.mul_le_mul_of_nonneg_left (by omega) h.1
  have hq : qF T ws k ≤ qF T ws i := Int.ediv_le_ediv hp hT
  by_cases hc : qF T ws k = qF T ws i
  · rw [hc] at e2
    have hr : rF T ws k ≤ rF T ws i := by omega
    unfold partF
    by_cases hg : got (rF T ws) ws.length (leftN T ws) k
    · rw [if_pos hg]
      by_cases hrr : rF T ws k = rF T ws i
      · have hTz : T = 0 := by
          have : T * (wt ws i - wt ws k) = 0 := by rw [Int.mul_sub]; omega
          rcases Int.mul_eq_zero.1 this with h5 | h5
          · exact h5
          · omega
        have hr0 : rF T ws k = 0 := by unfold rF; rw [hTz, Int.zero_mul, Int.zero_emod]
        exact absurd hg (not_got h2 hk (fun j _ => rF_bd h j) (by rw [h1]; exact left_eq h) hr0)
      · rw [if_pos (got_bef h2 hi hg (.inl (by omega))), hc]
        exact Int.le_refl _
    · rw [if_neg hg, hc]
      split <;> omega
  · unfold partF
    split <;> split <;> omega
end Lr
end Go.Proofs.Ytabfcnfddemblaa
namespace Go.Proofs.Ytabfcnfddemblaa
namespace Lr
theorem at_list {d : Array Nat} {A B : List Nat} {y : Nat} (h : d.toList = A ++ y :: B) : d[A.length]! = y := by
  obtain ⟨L⟩ := d
  simp only at h
  subst h
  simp
theorem swp_list {d : Array Nat} {A B : List Nat} {x y : Nat} (h : d.toList = A ++ y :: x :: B) : (Go.Sort.swp d (A.length + 1) A.length).toList = A ++ x :: y :: B := by
  have e1 : d[A.length]! = y := at_list h
  have e2 : d[A.length + 1]! = x := by
    have := at_list (A := A ++ [y]) (y := x) (B := B) (d := d) (by rw [h]; simp)
    simpa using this
  unfold Go.Sort.swp
  rw [e1, e2, Array.toList_setIfInBounds, Array.toList_setIfInBounds, h]
  simp [List.set_append]
theorem inner_ok {r : Nat → Int} {lt : Nat → Nat → Bool} (hlt : ∀ x y, lt x y = decide (r y < r x)) {l rest : List Nat} {x : Nat} (hs : l.Pairwise (bef r)) : ∀ (j : Nat) (d : Array Nat), j ≤ l.length → d.toList = l.take j ++ x :: (l.drop j ++ rest) → (∀ k (hk : k < l.length), j ≤ k → r l[k] < r x) → (Go.Sort.insInner lt 0 j d).toList = ins r l x ++ rest
  | 0, d, _, hd, h1 => by
    rw [Go.Sort.insInner, hd, ← ins_at hs (Nat.zero_le _) h1 (fun h => absurd h (by omega))]
    simp
  | j + 1, d, hj, hd, h1 => by
    have hjl : j < l.length := by omega
    have ht : l.take (j + 1) = l.take j ++ [l[j]] := List.take_succ_eq_append_getElem hjl
    have hlen : (l.take j).length = j := by rw [List.length_take]; omega
    have hd2 : d.toList = l.take j ++ l[j] :: x :: (l.drop (j + 1) ++ rest) := by rw [hd, ht, List.append_assoc]; rfl
    have e1 : d[j]! = l[j] := by have := at_list hd2; rwa [hlen] at this
    have e2 : d[j + 1]! = x := by
      have := at_list (A := l.take (j + 1)) (y := x) hd
      rwa [show (l.take (j + 1)).length = j + 1 by rw [List.length_take]; omega] at this
    rw [Go.Sort.insInner, e1, e2, hlt]
    by_cases hc : r l[j] < r x
    · rw [if_pos (by simp [hc])]
      refine inner_ok hlt hs j _ (by omega) ?_ fun k hk hjk => ?_
      · have := swp_list hd2
        rw [hlen] at this
        rw [this, List.drop_eq_getElem_cons hjl]; rfl
      · by_cases e : k = j
        · subst e; exact hc
        · exact h1 k hk (by omega)
    · rw [if_neg (by simp [hc]), hd, ← ins_at hs hj h1 (fun _ => by simpa using Int.not_lt.1 hc)]
      simp
theorem outer_ok {r : Nat → Int} {lt : Nat → Nat → Bool} (hlt : ∀ x y, lt x y = decide (r y < r x)) (n : Nat) : ∀ (m i : Nat) (d : Array Nat), m = n - i → i ≤ n → d.toList = srt r i ++ List.range' i (n - i) → (Go.Sort.insOuter lt 0 n i d).toList = srt r n
  | 0, i, d, hm, hi, hd => by
    obtain rfl : i = n := by omega
    rw [Go.Sort.insOuter, if_neg (by omega), hd]; simp
  | m + 1, i, d, hm, hi, hd => by
    rw [Go.Sort.insOuter, if_pos (by omega)]
    refine outer_ok hlt n m (i + 1) _ (by omega) (by omega) ?_
    have hl := srt_len r i
    have := inner_ok hlt (l := srt r i) (rest := List.range' (i + 1) (n - (i + 1))) (x := i) (srt_sorted r i) i d (by omega) (by
      rw [hd, List.take_of_length_le (by omega), List.drop_eq_nil_of_le (by omega), show n - i = (n - (i + 1)) + 1 by omega, List.range'_succ]; rfl) (fun k hk h => absurd h (by omega))
    exact this
/-- The sorted indices. -/
theorem sorted_ok {r : Nat → Int} {lt : Nat → Nat → Bool} (hlt : ∀ x y, lt x y = decide (r y < r x)) {n : Nat} (hn : 0 < n) {d : Array Nat} (hd : d.toList = List.range n) : (Go.Sort.insertionSort lt d 0 n).toList = srt r n := by
  unfold Go.Sort.insertionSort
  refine outer_ok hlt n (n - 1) (0 + 1) d (by omega) (by omega) ?_
  rw [hd, List.range_eq_range']
  show List.range' 0 n = [0] ++ List.range' 1 (n - 1)
  rw [show n = (n - 1) + 1 by omega, List.range'_succ]; rfl
theorem srt_congr {r r' : Nat → Int} : ∀ {n : Nat}, (∀ i, i < n → r i = r' i) → srt r n = srt r' n
  | 0, _ => rfl
  | n + 1, h => by
    show ins r (srt r n) n = ins r' (srt r' n) n
    rw [← srt_congr (r := r) (r' := r') fun i hi => h i (by omega)]
    have hf : ∀ y ∈ srt r n, r n = r' n ∧ r y = r' y := fun y hy => ⟨h n (by omega), h y (by have := (srt_mem r).1 hy; omega)⟩
    unfold ins
    have e1 : (srt r n).filter (fun y => decide (r n ≤ r y)) = (srt r n).filter (fun y => decide (r' n ≤ r' y)) := List.filter_congr fun y hy => by rw [(hf y hy).1, (hf y hy).2]
    have e2 : (srt r n).filter (fun y => !decide (r n ≤ r y)) = (srt r n).filter (fun y => !decide (r' n ≤ r' y)) := List.filter_congr fun y hy => by rw [(hf y hy).1, (hf y hy).2]
    rw [e1, e2]
end Lr
end Go.Proofs.Ytabfcnfddemblaa
