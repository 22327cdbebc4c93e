/- Genealogies as plain lists of lots: which are valid, and what is taken from a lot. -/
namespace Go.Proofs.Ytccjbefmcifaeaa
namespace Lt
structure P where
  l : Int
  m : Int
structure L where
  k : Int
  m : Int
  ps : List P
instance : Inhabited P := ⟨⟨0, 0⟩⟩
instance : Inhabited L := ⟨⟨0, 0, []⟩⟩
def takes : List P → Int
  | [] => 0
  | p :: r => p.m + takes r
def okM (m : Int) : Bool := decide (1 ≤ m) && decide (m ≤ 100000)
def okK (k : Int) : Bool := decide (0 ≤ k) && decide (k < 8)
def okPart (n : Int) (b : List P) (p : P) : Bool := (decide (0 ≤ p.l) && decide (p.l < n) && okM p.m) && b.all (fun q => !(q.l == p.l))
def okPs (n : Int) (ps : List P) : Bool := (List.range ps.length).all fun i => okPart n (ps.take i) (ps.getD i default)
def kindAt (ls : List L) (i : Int) : Int := (ls.getD i.toNat default).k
def oil (ls : List L) (ps : List P) : Bool := ps.any fun p => kindAt ls p.l == 0
def ruleOk (ls : List L) (x : L) : Bool := if x.ps.length = 0 then !(x.k == 5) && !(x.k == 6) && !(x.k == 7) else decide (x.m ≤ takes x.ps) || (x.k == 5 && oil ls x.ps)
def errAt (ls : List L) (i : Nat) : Int :=
  let x := ls.getD i default
  if (okK x.k && okM x.m) = false then 1 else if 6 < x.ps.length then 4 else if okPs i x.ps = false then 1 else if ruleOk ls x = false then 9 else 0
def usedP (i : Int) : List P → Int
  | [] => 0
  | p :: r => (if p.l = i then p.m else 0) + usedP i r
def used (i : Int) : List L → Int
  | [] => 0
  | x :: r => usedP i x.ps + used i r
def left (ls : List L) (i : Nat) : Int := (ls.getD i default).m - used i ls
def first (es : List Int) : Int := (es.find? (fun e => !(e == 0))).getD 0
def errs (ls : List L) : List Int := (List.range ls.length).map (errAt ls)
def shortE (ls : List L) (i : Nat) : Int := if left ls i < 0 then 6 else 0
def shorts (ls : List L) : List Int := (List.range ls.length).map (shortE ls)
def valE (ls : List L) : Int := if 24 < ls.length then 4 else if first (errs ls) = 0 then first (shorts ls) else first (errs ls)

theorem first_at : ∀ {es : List Int} {k : Nat}, (∀ j, j < k → es.getD j 0 = 0) → es.getD k 0 ≠ 0 → first es = es.getD k 0
  | [], k, _, h => by simp at h
  | e :: es, 0, _, h => by
    have h' : e ≠ 0 := by simpa using h
    simp [first, h']
  | e :: es, k + 1, h, hk => by
    have h0 := h 0 (by omega)
    simp at h0
    have ih := first_at (es := es) (k := k) (fun j hj => by have := h (j + 1) (by omega); simpa using this) (by simpa using hk)
    subst h0
    simp only [List.getD_cons_succ]
    rw [← ih]; simp [first]
theorem first_none : ∀ {es : List Int}, (∀ j, j < es.length → es.getD j 0 = 0) → first es = 0
  | [], _ => rfl
  | e :: es, h => by
    have h0 := h 0 (by simp)
    simp at h0
    have ih := first_none (es := es) (fun j hj => by have := h (j + 1) (by simp; omega); simpa using this)
    subst h0
    have : first (0 :: es) = first es := by simp [first]
    rw [this, ih]
theorem getD_map {f : Nat → Int} {n k : Nat} (h : k < n) : ((List.range n).map f).getD k 0 = f k := by simp [h]
theorem errs_at {ls : List L} {k : Nat} (h : k < ls.length) : (errs ls).getD k 0 = errAt ls k := getD_map h
theorem first_errs {ls : List L} {k : Nat} (h : k < ls.length) (h0 : ∀ j, j < k → errAt ls j = 0) (hk : errAt ls k ≠ 0) : first (errs ls) = errAt ls k := by
  rw [first_at (k := k) (fun j hj => by rw [errs_at (by omega)]; exact h0 j hj) (by rw [errs_at h]; exact hk), errs_at h]
theorem first_errs_ok {ls : List L} (h0 : ∀ j, j < ls.length → errAt ls j = 0) : first (errs ls) = 0 :=
  first_none fun j hj => by have hj' : j < ls.length := by simpa [errs] using hj
                            rw [errs_at hj']; exact h0 j hj'
theorem valE_large {ls : List L} (h : 24 < ls.length) : valE ls = 4 := if_pos h
theorem valE_bad {ls : List L} {k : Nat} (hl : ¬ 24 < ls.length) (h : k < ls.length) (h0 : ∀ j, j < k → errAt ls j = 0) (hk : errAt ls k ≠ 0) : valE ls = errAt ls k := by
  unfold valE; rw [if_neg hl, first_errs h h0 hk, if_neg hk]
theorem valE_short {ls : List L} {k : Nat} (hl : ¬ 24 < ls.length) (h0 : ∀ j, j < ls.length → errAt ls j = 0) (h : k < ls.length) (h1 : ∀ j, j < k → 0 ≤ left ls j) (hk : left ls k < 0) : valE ls = 6 := by
  unfold valE; rw [if_neg hl, first_errs_ok h0, if_pos rfl]
  have : (shorts ls).getD k 0 = 6 := by rw [shorts, getD_map h, shortE, if_pos hk]
  rw [first_at (k := k) (fun j hj => by rw [shorts, getD_map (by omega), shortE, if_neg (by have := h1 j hj; omega)]) (by rw [this]; decide), this]
theorem valE_ok {ls : List L} (hl : ¬ 24 < ls.length) (h0 : ∀ j, j < ls.length → errAt ls j = 0) (h1 : ∀ j, j < ls.length → 0 ≤ left ls j) : valE ls = 0 := by
  unfold valE; rw [if_neg hl, first_errs_ok h0, if_pos rfl]
  exact first_none fun j hj => by
    have hj' : j < ls.length := by simpa [shorts] using hj
    rw [shorts, getD_map hj', shortE, if_neg (by have := h1 j hj'; omega)]
theorem first_ne {es : List Int} {e : Int} (h : first es = e) (he : e ≠ 0) : e ∈ es := by
  unfold first at h
  cases hf : es.find? (fun e => !(e == 0)) with
  | none => rw [hf] at h; exact absurd h.symm he
  | some x => rw [hf] at h; have := List.mem_of_find?_eq_some hf; simp at h; subst h; exact this
theorem first_zero {es : List Int} (h : first es = 0) : ∀ e ∈ es, e = 0 := by
  unfold first at h
  cases hf : es.find? (fun e => !(e == 0)) with
  | none => intro e he; have := List.find?_eq_none.1 hf e he; simpa using this
  | some x => rw [hf] at h; have := List.find?_some hf; simp at h; simp [h] at this
/-- What a valid genealogy is. -/
theorem valE_zero {ls : List L} (h : valE ls = 0) : ls.length ≤ 24 ∧ (∀ j, j < ls.length → errAt ls j = 0) ∧ ∀ j, j < ls.length → 0 ≤ left ls j := by
  unfold valE at h
  by_cases hl : 24 < ls.length
  · rw [if_pos hl] at h; cases h
  rw [if_neg hl] at h
  by_cases he : first (errs ls) = 0
  · rw [if_pos he] at h
    refine ⟨by omega, fun j hj => first_zero he _ (by simp [errs]; exact ⟨j, hj, rfl⟩), fun j hj => ?_⟩
    have := first_zero h (shortE ls j) (by simp [shorts]; exact ⟨j, hj, rfl⟩)
    unfold shortE at this
    by_cases hn : left ls j < 0
    · rw [if_pos hn] at this; cases this
    · omega
  · rw [if_neg he] at h; exact absurd h he

/-- A lot of which all numbers are small. -/
def fine (x : L) : Prop := (1 ≤ x.m ∧ x.m ≤ 100000) ∧ x.ps.length ≤ 6 ∧ ∀ p ∈ x.ps, 1 ≤ p.m ∧ p.m ≤ 100000
theorem okM_iff {m : Int} : okM m = true ↔ 1 ≤ m ∧ m ≤ 100000 := by simp [okM]
theorem okK_iff {m : Int} : okK m = true ↔ 0 ≤ m ∧ m < 8 := by simp [okK]
theorem okPart_iff {n : Int} {b : List P} {p : P} : okPart n b p = true ↔ (0 ≤ p.l ∧ p.l < n ∧ 1 ≤ p.m ∧ p.m ≤ 100000) ∧ ∀ q ∈ b, q.l ≠ p.l := by
  unfold okPart
  rw [Bool.and_eq_true, Bool.and_eq_true, Bool.and_eq_true, okM_iff, List.all_eq_true]
  simp [and_assoc]
theorem okPs_iff {n : Int} {ps : List P} : okPs n ps = true ↔ ∀ i, i < ps.length → okPart n (ps.take i) (ps.getD i default) = true := by
  unfold okPs; rw [List.all_eq_true]; simp
theorem okPs_mem {n : Int} {ps : List P} (h : okPs n ps = true) : ∀ p ∈ ps, 0 ≤ p.l ∧ p.l < n ∧ 1 ≤ p.m ∧ p.m ≤ 100000 := by
  intro p hp
  obtain ⟨i, hi, rfl⟩ := List.getElem_of_mem hp
  have := okPart_iff.1 (okPs_iff.1 h i hi)
  simpa [hi] using this.1
theorem errAt_parts {ls : List L} {i : Nat} (h : errAt ls i = 0) : (okK (ls.getD i default).k = true ∧ okM (ls.getD i default).m = true) ∧ (ls.getD i default).ps.length ≤ 6 ∧ okPs i (ls.getD i default).ps = true ∧ ruleOk ls (ls.getD i default) = true := by
  unfold errAt at h
  dsimp only at h
  generalize ls.getD i default = x at *
  by_cases h1 : (okK x.k && okM x.m) = false
  · rw [if_pos h1] at h; cases h
  rw [if_neg h1] at h
  by_cases h2 : 6 < x.ps.length
  · rw [if_pos h2] at h; cases h
  rw [if_neg h2] at h
  by_cases h3 : okPs i x.ps = false
  · rw [if_pos h3] at h; cases h
  rw [if_neg h3] at h
  by_cases h4 : ruleOk ls x = false
  · rw [if_pos h4] at h; cases h
  simp only [Bool.not_eq_false, Bool.and_eq_true] at h1 h3 h4
  exact ⟨h1, by omega, h3, h4⟩
theorem fine_of {ls : List L} {i : Nat} (h : errAt ls i = 0) : fine (ls.getD i default) := by
  obtain ⟨⟨_, h1⟩, h2, h3, _⟩ := errAt_parts h
  exact ⟨okM_iff.1 h1, h2, fun p hp => (okPs_mem h3 p hp).2.2⟩

theorem takes_append (a b : List P) : takes (a ++ b) = takes a + takes b := by
  induction a with
  | nil => simp [takes]
  | cons p a ih => simp [takes, ih]; omega
theorem usedP_append (i : Int) (a b : List P) : usedP i (a ++ b) = usedP i a + usedP i b := by
  induction a with
  | nil => simp [usedP]
  | cons p a ih => simp [usedP, ih]; omega
theorem used_append (i : Int) (a b : List L) : used i (a ++ b) = used i a + used i b := by
  induction a with
  | nil => simp [used]
  | cons p a ih => simp [used, ih]; omega
theorem takes_bd : ∀ {ps : List P}, (∀ p ∈ ps, 1 ≤ p.m ∧ p.m ≤ 100000) → (ps.length : Int) ≤ takes ps ∧ takes ps ≤ ps.length * 100000
  | [], _ => by simp [takes]
  | p :: ps, h => by
    have h1 := h p (by simp)
    have ih := takes_bd (ps := ps) fun q hq => h q (by simp [hq])
    simp [takes]; omega
theorem usedP_bd (i : Int) : ∀ {ps : List P}, (∀ p ∈ ps, 1 ≤ p.m ∧ p.m ≤ 100000) → 0 ≤ usedP i ps ∧ usedP i ps ≤ ps.length * 100000
  | [], _ => by simp [usedP]
  | p :: ps, h => by
    have h1 := h p (by simp)
    have ih := usedP_bd i (ps := ps) fun q hq => h q (by simp [hq])
    simp only [usedP, List.length_cons]; split <;> omega
theorem used_bd (i : Int) : ∀ {ls : List L}, (∀ x ∈ ls, fine x) → 0 ≤ used i ls ∧ used i ls ≤ ls.length * 600000
  | [], _ => by simp [used]
  | x :: ls, h => by
    have h1 := h x (by simp)
    have h2 := usedP_bd i h1.2.2
    have ih := used_bd i (ls := ls) fun q hq => h q (by simp [hq])
    have h3 := h1.2.1
    simp only [used, List.length_cons]; omega
theorem take_P {xs : List P} {k : Nat} (h : k < xs.length) : xs.take (k + 1) = xs.take k ++ [xs[k]] := by rw [List.take_succ_eq_append_getElem h]
theorem take_L {xs : List L} {k : Nat} (h : k < xs.length) : xs.take (k + 1) = xs.take k ++ [xs[k]] := by rw [List.take_succ_eq_append_getElem h]
theorem takes_succ {xs : List P} {k : Nat} (h : k < xs.length) : takes (xs.take (k + 1)) = takes (xs.take k) + xs[k].m := by rw [take_P h, takes_append]; simp [takes]
theorem usedP_succ (i : Int) {xs : List P} {k : Nat} (h : k < xs.length) : usedP i (xs.take (k + 1)) = usedP i (xs.take k) + (if xs[k].l = i then xs[k].m else 0) := by rw [take_P h, usedP_append]; simp [usedP]
theorem used_succ (i : Int) {xs : List L} {k : Nat} (h : k < xs.length) : used i (xs.take (k + 1)) = used i (xs.take k) + usedP i xs[k].ps := by rw [take_L h, used_append]; simp [used]
end Lt
end Go.Proofs.Ytccjbefmcifaeaa
