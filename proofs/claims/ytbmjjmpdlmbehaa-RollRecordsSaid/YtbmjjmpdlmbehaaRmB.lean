/- Bands as plain lists of runs (a length and a mark each): which are valid, their normal forms, and what they are place by place. Lists of runs in memory: what can be read, and what the call itself has made. Lengths and validity of bands. -/
import Derived.Test.YtbmjjmpdlmbehaaProg
import Derived.WalkKit
import Derived.WalkSpells
import Derived.BigQuiet
import Derived.Deep.QuietTactic
import Derived.RegionTactic
import Derived.ChangeAlike
import Derived.Outline
import Derived.Lib.Hide
import Derived.Laws.OwnMore
namespace Go.Proofs.Ytbmjjmpdlmbehaa
namespace Bd
structure M where
  t : Int
  s : Int
  f : Int
structure R where
  l : Int
  m : M
theorem M.ext' {a b : M} (h1 : a.t = b.t) (h2 : a.s = b.s) (h3 : a.f = b.f) : a = b := by cases a; cases b; simp_all
theorem R.ext' {a b : R} (h1 : a.l = b.l) (h2 : a.m = b.m) : a = b := by cases a; cases b; simp_all
instance : DecidableEq M := fun a b => decidable_of_iff (a.t = b.t ∧ a.s = b.s ∧ a.f = b.f) ⟨fun ⟨h1, h2, h3⟩ => M.ext' h1 h2 h3, fun h => by subst h; exact ⟨rfl, rfl, rfl⟩⟩
instance : DecidableEq R := fun a b => decidable_of_iff (a.l = b.l ∧ a.m = b.m) ⟨fun ⟨h1, h2⟩ => R.ext' h1 h2, fun h => by subst h; exact ⟨rfl, rfl⟩⟩
instance : Inhabited M := ⟨⟨0, 0, 0⟩⟩
instance : Inhabited R := ⟨⟨0, default⟩⟩
def okM (m : M) : Bool := decide (1 ≤ m.t) && decide (m.t ≤ 1000) && (decide (0 ≤ m.s) && decide (m.s ≤ 99)) && (decide (0 ≤ m.f) && decide (m.f ≤ 15))
def okR (r : R) : Bool := decide (1 ≤ r.l) && decide (r.l ≤ 1000000) && okM r.m
def len : List R → Int
  | [] => 0
  | r :: b => r.l + len b
def valE (b : List R) : Int := if 40 < b.length then 4 else if b.all okR = false then 1 else if 1000000 < len b then 4 else 0
/-- A run behind others: joined to the last one if it has the same mark. -/
def push (out : List R) (r : R) : List R :=
  match out.getLast? with
  | some q => if q.m = r.m then out.dropLast ++ [⟨q.l + r.l, q.m⟩] else out ++ [r]
  | none => [r]
def norm (b : List R) : List R := b.foldl push []
/-- The marks place by place. -/
def exp : List R → List M
  | [] => []
  | r :: b => List.replicate r.l.toNat r.m ++ exp b
def pos (b : List R) : Prop := ∀ r ∈ b, 0 < r.l
def nrm : List R → Prop
  | [] => True
  | r :: b => 0 < r.l ∧ (∀ q, b.head? = some q → r.m ≠ q.m) ∧ nrm b

theorem len_append (a b : List R) : len (a ++ b) = len a + len b := by
  induction a with
  | nil => simp [len]
  | cons r a ih => simp [len, ih]; omega
theorem exp_append (a b : List R) : exp (a ++ b) = exp a ++ exp b := by
  induction a with
  | nil => rfl
  | cons r a ih => simp [exp, ih, List.append_assoc]
theorem pos_cons {r : R} {b : List R} : pos (r :: b) ↔ 0 < r.l ∧ pos b := by simp [pos]
theorem pos_append {a b : List R} : pos (a ++ b) ↔ pos a ∧ pos b := by
  constructor
  · intro h; exact ⟨fun r hr => h r (by simp [hr]), fun r hr => h r (by simp [hr])⟩
  · rintro ⟨h1, h2⟩ r hr
    rcases List.mem_append.1 hr with h | h
    · exact h1 r h
    · exact h2 r h
theorem pos_nil : pos [] := fun _ h => by cases h
theorem nrm_pos : ∀ {b : List R}, nrm b → pos b
  | [], _ => pos_nil
  | _ :: _, h => pos_cons.2 ⟨h.1, nrm_pos h.2.2⟩
theorem len_exp : ∀ {b : List R}, pos b → len b = (exp b).length
  | [], _ => rfl
  | r :: b, h => by
    obtain ⟨h1, h2⟩ := pos_cons.1 h
    have := len_exp h2
    simp [len, exp, this]; omega
theorem len_nonneg {b : List R} (h : pos b) : 0 ≤ len b := by rw [len_exp h]; omega
theorem nrm_append : ∀ {a b : List R}, nrm (a ++ b) ↔ nrm a ∧ nrm b ∧ ∀ p q, a.getLast? = some p → b.head? = some q → p.m ≠ q.m
  | [], b => by simp [nrm]
  | [r], b => by
    constructor
    · rintro ⟨h1, h2, h3⟩; exact ⟨⟨h1, by simp, trivial⟩, h3, fun p q hp hq => by simp at hp; subst hp; exact h2 q hq⟩
    · rintro ⟨⟨h1, _, _⟩, h3, h2⟩; exact ⟨h1, fun q hq => h2 r q (by simp) hq, h3⟩
  | r :: s :: a, b => by
    have ih := nrm_append (a := s :: a) (b := b)
    simp only [List.cons_append] at ih ⊢
    have e1 : nrm (r :: s :: (a ++ b)) ↔ 0 < r.l ∧ r.m ≠ s.m ∧ nrm (s :: (a ++ b)) := by simp [nrm]
    have e2 : nrm (r :: s :: a) ↔ 0 < r.l ∧ r.m ≠ s.m ∧ nrm (s :: a) := by simp [nrm]
    rw [e1, e2, ih, List.getLast?_cons_cons]
    constructor
    · rintro ⟨h1, h2, h3, h4, h5⟩; exact ⟨⟨h1, h2, h3⟩, h4, h5⟩
    · rintro ⟨⟨h1, h2, h3⟩, h4, h5⟩; exact ⟨h1, h2, h3, h4, h5⟩

theorem push_nil (r : R) : push [] r = [r] := rfl
theorem push_snoc (a : List R) (q r : R) : push (a ++ [q]) r = if q.m = r.m then a ++ [⟨q.l + r.l, q.m⟩] else a ++ [q] ++ [r] := by
  simp [push]
theorem snoc_cases (b : List R) : b = [] ∨ ∃ a q, b = a ++ [q] := by
  rcases List.eq_nil_or_concat b with h | ⟨a, q, h⟩
  · exact .inl h
  · exact .inr ⟨a, q, by simpa using h⟩
theorem exp_one (r : R) : exp [r] = List.replicate r.l.toNat r.m := by simp [exp]
theorem exp_push {out : List R} {r : R} (h : pos out) (hr : 0 < r.l) : exp (push out r) = exp out ++ exp [r] := by
  rcases snoc_cases out with rfl | ⟨a, q, rfl⟩
  · rw [push_nil]; rfl
  · rw [push_snoc]
    have hq : 0 < q.l := h q (by simp)
    by_cases e : q.m = r.m
    · rw [if_pos e]
      rw [exp_append, exp_append, exp_one, exp_one, exp_one, List.append_assoc]
      congr 1
      show List.replicate (q.l + r.l).toNat q.m = _
      rw [show (q.l + r.l).toNat = q.l.toNat + r.l.toNat by omega, e, List.replicate_append_replicate]
    · rw [if_neg e, exp_append]
theorem len_push (out : List R) (r : R) : len (push out r) = len out + r.l := by
  rcases snoc_cases out with rfl | ⟨a, q, rfl⟩
  · rw [push_nil]; simp [len]
  · rw [push_snoc]
    by_cases e : q.m = r.m
    · rw [if_pos e]; simp [len_append, len]; omega
    · rw [if_neg e]; simp [len_append, len]; try omega
theorem push_length (out : List R) (r : R) : (push out r).length ≤ out.length + 1 ∧ out.length ≤ (push out r).length := by
  rcases snoc_cases out with rfl | ⟨a, q, rfl⟩
  · rw [push_nil]; simp
  · rw [push_snoc]
    by_cases e : q.m = r.m
    · rw [if_pos e]; simp
    · rw [if_neg e]; simp
theorem nrm_push {out : List R} {r : R} (h : nrm out) (hr : 0 < r.l) : nrm (push out r) := by
  rcases snoc_cases out with rfl | ⟨a, q, rfl⟩
  · rw [push_nil]; simp [nrm, hr]
  · rw [push_snoc]
    obtain ⟨h1, h2, h3⟩ := nrm_append.1 h
    have hq : 0 < q.l := h2.1
    by_cases e : q.m = r.m
    · rw [if_pos e]
      refine nrm_append.2 ⟨h1, by simp [nrm]; omega, fun p s hp hs => ?_⟩
      simp at hs; subst hs
      exact h3 p q hp (by simp)
    · rw [if_neg e]
      refine nrm_append.2 ⟨h, by simp [nrm, hr], fun p s hp hs => ?_⟩
      simp at hp hs; subst hp hs
      exact e
theorem fold_exp : ∀ (b : List R) (out : List R), nrm out → pos b → exp (b.foldl push out) = exp out ++ exp b ∧ nrm (b.foldl push out)
  | [], out, h, _ => by simp [exp, h]
  | r :: b, out, h, hb => by
    obtain ⟨h1, h2⟩ := pos_cons.1 hb
    obtain ⟨i1, i2⟩ := fold_exp b (push out r) (nrm_push h h1) h2
    refine ⟨?_, i2⟩
    rw [List.foldl_cons, i1, exp_push (nrm_pos h) h1, List.append_assoc, ← exp_append]
    rfl
theorem norm_exp {b : List R} (h : pos b) : exp (norm b) = exp b := (fold_exp b [] (by simp [nrm]) h).1
theorem norm_nrm {b : List R} (h : pos b) : nrm (norm b) := (fold_exp b [] (by simp [nrm]) h).2
theorem fold_len : ∀ (b out : List R), len (b.foldl push out) = len out + len b
  | [], out => by simp [len]
  | r :: b, out => by rw [List.foldl_cons, fold_len b, len_push]; simp [len]; omega
theorem norm_len (b : List R) : len (norm b) = len b := by unfold norm; rw [fold_len]; simp [len]
theorem fold_length : ∀ (b out : List R), (b.foldl push out).length ≤ out.length + b.length
  | [], out => by simp
  | r :: b, out => by have h1 := fold_length b (push out r); have h2 := (push_length out r).1; rw [List.foldl_cons]; simp only [List.length_cons]; omega
theorem norm_length (b : List R) : (norm b).length ≤ b.length := by have := fold_length b []; simpa [norm] using this

theorem replicate_split {n k : Nat} {m m' : M} {x y : List M} (hn : 0 < n) (hk : 0 < k) (hx : x.head? ≠ some m) (hy : y.head? ≠ some m') (h : List.replicate n m ++ x = List.replicate k m' ++ y) : n = k ∧ m = m' ∧ x = y := by
  have hm : m = m' := by
    have h1 : (List.replicate n m ++ x).head? = some m := by cases n with
      | zero => omega
      | succ n => simp [List.replicate_succ]
    have h2 : (List.replicate k m' ++ y).head? = some m' := by cases k with
      | zero => omega
      | succ n => simp [List.replicate_succ]
    rw [h] at h1; rw [h1] at h2; simpa using h2
  subst hm
  have hnk : n = k := by
    rcases Nat.lt_trichotomy n k with hlt | heq | hgt
    · exfalso
      obtain ⟨j, rfl⟩ : ∃ j, k = n + (j + 1) := ⟨k - n - 1, by omega⟩
      rw [← List.replicate_append_replicate, List.append_assoc] at h
      have := List.append_cancel_left h
      rw [this] at hx; simp [List.replicate_succ] at hx
    · exact heq
    · exfalso
      obtain ⟨j, rfl⟩ : ∃ j, n = k + (j + 1) := ⟨n - k - 1, by omega⟩
      rw [← List.replicate_append_replicate, List.append_assoc] at h
      have := List.append_cancel_left h
      rw [← this] at hy; simp [List.replicate_succ] at hy
  subst hnk
  exact ⟨rfl, rfl, List.append_cancel_left h⟩
theorem exp_head {b : List R} (h : pos b) : (exp b).head? = b.head?.map (·.m) := by
  cases b with
  | nil => rfl
  | cons r b =>
    have hr := (pos_cons.1 h).1
    obtain ⟨n, hn⟩ : ∃ n, r.l.toNat = n + 1 := ⟨r.l.toNat - 1, by omega⟩
    simp [exp, hn, List.replicate_succ]
theorem nrm_head {r : R} {b : List R} (h : nrm (r :: b)) : (exp b).head? ≠ some r.m := by
  rw [exp_head (nrm_pos h.2.2)]
  intro hc
  cases b with
  | nil => simp at hc
  | cons q b => simp at hc; exact h.2.1 q (by simp) hc.symm
/-- Two normal bands with the same marks are one. -/
theorem nrm_unique : ∀ {a b : List R}, nrm a → nrm b → exp a = exp b → a = b
  | [], [], _, _, _ => rfl
  | [], r :: b, _, hb, h => by
    have := len_exp (nrm_pos hb)
    rw [← h] at this
    have h2 := len_nonneg (nrm_pos hb.2.2)
    have h3 := hb.1
    simp [len, exp] at this; omega
  | r :: a, [], ha, _, h => by
    have := len_exp (nrm_pos ha)
    rw [h] at this
    have h2 := len_nonneg (nrm_pos ha.2.2)
    have h3 := ha.1
    simp [len, exp] at this; omega
  | r :: a, q :: b, ha, hb, h => by
    have h1 := ha.1
    have h2 := hb.1
    obtain ⟨e1, e2, e3⟩ := replicate_split (by omega) (by omega) (nrm_head ha) (nrm_head hb) h
    have := nrm_unique ha.2.2 hb.2.2 e3
    subst this
    have : r = q := R.ext' (by omega) e2
    rw [this]
theorem norm_of_nrm {b : List R} (h : nrm b) : norm b = b := nrm_unique (norm_nrm (nrm_pos h)) h (norm_exp (nrm_pos h))

theorem valE_zero {b : List R} (h : valE b = 0) : b.length ≤ 40 ∧ (∀ r ∈ b, okR r = true) ∧ len b ≤ 1000000 := by
  unfold valE at h
  by_cases h1 : 40 < b.length
  · rw [if_pos h1] at h; omega
  · rw [if_neg h1] at h
    by_cases h2 : b.all okR = false
    · rw [if_pos h2] at h; omega
    · rw [if_neg h2] at h
      by_cases h3 : 1000000 < len b
      · rw [if_pos h3] at h; omega
      · exact ⟨by omega, by simpa using h2, by omega⟩
theorem okR_pos {r : R} (h : okR r = true) : 1 ≤ r.l ∧ r.l ≤ 1000000 ∧ 1 ≤ r.m.t ∧ r.m.t ≤ 1000 ∧ 0 ≤ r.m.s ∧ r.m.s ≤ 99 ∧ 0 ≤ r.m.f ∧ r.m.f ≤ 15 := by
  simp [okR, okM] at h; omega
theorem valE_pos {b : List R} (h : valE b = 0) : pos b := fun r hr => by have := okR_pos ((valE_zero h).2.1 r hr); omega
theorem len_take_bound {b : List R} (h : ∀ r ∈ b, okR r = true) : ∀ k, 0 ≤ len (b.take k) ∧ len (b.take k) ≤ b.length * 1000000
  | 0 => by simp [len]; omega
  | k + 1 => by
    cases b with
    | nil => simp [len]
    | cons r b =>
      have h1 := okR_pos (h r (by simp))
      have h2 := len_take_bound (b := b) (fun q hq => h q (by simp [hq])) k
      simp [len]
      omega
theorem len_take_all (b : List R) {k : Nat} (h : b.length ≤ k) : len (b.take k) = len b := by rw [List.take_of_length_le h]
theorem len_take_succ {b : List R} {k : Nat} (h : k < b.length) : len (b.take (k + 1)) = len (b.take k) + b[k].l := by
  rw [List.take_succ_eq_append_getElem h, len_append]; simp [len]
theorem norm_take_succ {b : List R} {k : Nat} (hk : k < b.length) : norm (b.take (k + 1)) = push (norm (b.take k)) b[k] := by
  unfold norm; rw [List.take_succ_eq_append_getElem hk, List.foldl_append]; rfl
theorem pos_take {b : List R} (h : pos b) (k : Nat) : pos (b.take k) := fun r hr => h r (List.mem_of_mem_take hr)
theorem norm_take_length (b : List R) (k : Nat) : (norm (b.take k)).length ≤ b.length := Nat.le_trans (norm_length _) (List.length_take_le' _ _)
theorem len_take_le {b : List R} (h : pos b) (k : Nat) : 0 ≤ len (b.take k) ∧ len (b.take k) ≤ len b := by
  have h1 := len_append (b.take k) (b.drop k)
  rw [List.take_append_drop] at h1
  have h2 := len_nonneg (pos_take h k)
  have h3 := len_nonneg (b := b.drop k) (fun r hr => h r (List.mem_of_mem_drop hr))
  omega
/-- The last run of what has been joined so far. -/
theorem norm_last {b a : List R} {q : R} (h : pos b) {k : Nat} (hk : k < b.length) (he : norm (b.take k) = a ++ [q]) : 0 < q.l ∧ 0 < b[k].l ∧ q.l + b[k].l ≤ len b ∧ a.length + 1 ≤ b.length := by
  have h1 := nrm_pos (norm_nrm (pos_take h k))
  rw [he] at h1
  have h2 := norm_len (b.take k)
  rw [he, len_append] at h2
  have h3 := len_take_le h (k + 1)
  rw [len_take_succ hk] at h3
  have h4 := len_nonneg (pos_append.1 h1).1
  have h5 := h1 q (by simp)
  have h6 := h b[k] (List.getElem_mem hk)
  have h7 := norm_take_length b k
  rw [he] at h7
  simp [len] at h2 h7
  omega
theorem valE_large {b : List R} (h : 40 < b.length) : valE b = 4 := by unfold valE; rw [if_pos h]
theorem valE_bad {b : List R} {k : Nat} (h : b.length ≤ 40) (hk : k < b.length) (hb : okR b[k] = false) : valE b = 1 := by
  unfold valE; rw [if_neg (by omega), if_pos]
  rw [List.all_eq_false]
  exact ⟨b[k], List.getElem_mem hk, by simp [hb]⟩
theorem valE_ok {b : List R} (h : b.length ≤ 40) (ho : ∀ r ∈ b, okR r = true) : valE b = if 1000000 < len b then 4 else 0 := by
  unfold valE; rw [if_neg (by omega), if_neg (by simpa using ho)]
theorem take_ok_succ {b : List R} {k : Nat} (hk : k < b.length) (h : ∀ r ∈ b.take k, okR r = true) (h2 : okR b[k] = true) : ∀ r ∈ b.take (k + 1), okR r = true := by
  intro r hr
  rw [List.take_succ_eq_append_getElem hk] at hr
  rcases List.mem_append.1 hr with h' | h'
  · exact h r h'
  · simp at h'; rw [h']; exact h2
theorem okR_iff {r : R} : okR r = true ↔ (1 ≤ r.l ∧ r.l ≤ 1000000) ∧ okM r.m = true := by simp [okR]
theorem okR_not {r : R} (h : okR r = false) : r.l < 1 ∨ 1000000 < r.l ∨ (1 ≤ r.l ∧ r.l ≤ 1000000 ∧ okM r.m = false) := by
  cases ho : okM r.m
  · by_cases h1 : r.l < 1
    · exact .inl h1
    · by_cases h2 : 1000000 < r.l
      · exact .inr (.inl h2)
      · exact .inr (.inr ⟨by omega, by omega, rfl⟩)
  · simp [okR, ho] at h; omega
theorem okM_not {m : M} (h : okM m = false) : m.t < 1 ∨ 1000 < m.t ∨ (1 ≤ m.t ∧ m.t ≤ 1000 ∧ (m.s < 0 ∨ 99 < m.s ∨ (0 ≤ m.s ∧ m.s ≤ 99 ∧ (m.f < 0 ∨ 15 < m.f)))) := by
  simp [okM] at h; omega
theorem len_take_bound2 {b : List R} (k : Nat) (h : ∀ r ∈ b.take k, okR r = true) : 0 ≤ len (b.take k) ∧ len (b.take k) ≤ b.length * 1000000 := by
  have h1 := len_take_bound h k
  rw [List.take_take, Nat.min_self] at h1
  have h2 : (b.take k).length ≤ b.length := List.length_take_le' _ _
  omega
theorem valE_cases (b : List R) : valE b = 0 ∨ valE b = 1 ∨ valE b = 4 := by
  unfold valE; split
  · exact .inr (.inr rfl)
  · split
    · exact .inr (.inl rfl)
    · split
      · exact .inr (.inr rfl)
      · exact .inl rfl
/-- Lists of runs that can be joined: not empty runs, and not too long together. -/
def fine (b : List R) : Prop := b.length ≤ 1000 ∧ pos b ∧ len b ≤ 1000000000
theorem fine_of_valid {b : List R} (h : valE b = 0) : fine b := by
  obtain ⟨h1, h2, h3⟩ := valE_zero h
  exact ⟨by omega, valE_pos h, by omega⟩
theorem fine_norm {b : List R} (h : fine b) : fine (norm b) := by
  obtain ⟨h1, h2, h3⟩ := h
  exact ⟨Nat.le_trans (norm_length b) h1, nrm_pos (norm_nrm h2), by rw [norm_len]; exact h3⟩
theorem len_bound_ok {b : List R} (h : ∀ r ∈ b, okR r = true) : len b ≤ b.length * 1000000 := by
  have := len_take_bound h b.length
  rw [List.take_length] at this; exact this.2
theorem fine_ok {b : List R} (h : b.length ≤ 40) (ho : ∀ r ∈ b, okR r = true) : fine b :=
  ⟨by omega, fun r hr => by have := okR_pos (ho r hr); omega, by have := len_bound_ok ho; omega⟩
theorem fine_nil : fine [] := ⟨by simp, pos_nil, by simp [len]⟩
end Bd
end Go.Proofs.Ytbmjjmpdlmbehaa
namespace Go.Proofs.Ytbmjjmpdlmbehaa
open Go.RowKit

theorem ret_int {k : IntKind} {a b : Int} (h : a = b) : Ending.returned (.int k a) = .returned (.int k b) := by rw [h]
theorem ret_bool {a b : Bool} (h : a = b) : Ending.returned (.bool a) = .returned (.bool b) := by rw [h]
theorem below_drewN {B : Nat} {a w : World} (h : Below B a w) (n : Nat) : Below B a (w.drewN n) := ⟨h.os, h.tape, h.output, h.size, h.block⟩
theorem below_step {w w1 w2 : World} (h : Below w.heap.size w w1) (hb : Below w1.heap.size w1 w2) : Below w.heap.size w w2 := h.trans (hb.mono h.size)

abbrev markV (m : Bd.M) : Value := .agg #[.int .i64 m.t, .int .i64 m.s, .int .i64 m.f]
abbrev runV (r : Bd.R) : Value := .agg #[.int .i64 r.l, .int .i64 r.m.t, .int .i64 r.m.s, .int .i64 r.m.f]
def runC (r : Bd.R) : List Value := [.int .i64 r.l, .int .i64 r.m.t, .int .i64 r.m.s, .int .i64 r.m.f]
def cellsR : List Bd.R → List Value
  | [] => []
  | r :: b => runC r ++ cellsR b
theorem cellsR_append (a b : List Bd.R) : cellsR (a ++ b) = cellsR a ++ cellsR b := by
  induction a with
  | nil => rfl
  | cons r a ih => simp [cellsR, ih, List.append_assoc]
theorem cellsR_length (b : List Bd.R) : (cellsR b).length = b.length * 4 := by
  induction b with
  | nil => rfl
  | cons r b ih => simp [cellsR, runC, ih]; omega
theorem cellsR_one (b : List Bd.R) : ∀ u ∈ cellsR b, u.oneCell' = true := by
  induction b with
  | nil => intro u h; cases h
  | cons r b ih =>
    intro u h
    rcases List.mem_append.1 h with h | h
    · simp [runC] at h; rcases h with rfl | rfl | rfl | rfl <;> rfl
    · exact ih u h

/-- A run lies at an address. -/
def RunAt (w : World) (b off : Nat) (r : Bd.R) : Prop :=
  w.cell? ⟨b, off, none⟩ = some (.int .i64 r.l) ∧ w.cell? ⟨b, off + 1, none⟩ = some (.int .i64 r.m.t) ∧ w.cell? ⟨b, off + 2, none⟩ = some (.int .i64 r.m.s) ∧ w.cell? ⟨b, off + 3, none⟩ = some (.int .i64 r.m.f)
theorem RunAt.below {w w2 : World} {b off : Nat} {r : Bd.R} {B : Nat} (h : RunAt w b off r) (hb : Below B w w2) (hB : b < B) : RunAt w2 b off r :=
  ⟨(hb.cell (p := ⟨b, off, none⟩) hB).trans h.1, (hb.cell (p := ⟨b, off + 1, none⟩) hB).trans h.2.1, (hb.cell (p := ⟨b, off + 2, none⟩) hB).trans h.2.2.1, (hb.cell (p := ⟨b, off + 3, none⟩) hB).trans h.2.2.2⟩
/-- A list of runs that can be read: of length 0, or a row of cells. -/
def Runs (w : World) (v : Value) (rs : List Bd.R) : Prop :=
  (∃ a c, v = .slice a 0 c ∧ rs = [] ∧ (a = none → c = 0)) ∨ ∃ b off cap, v = .slice (some ⟨b, off, none⟩) rs.length cap ∧ rs.length ≤ cap ∧ b < w.heap.size ∧ ∀ k, k < rs.length → RunAt w b (off + k * 4) (rs.getD k default)
theorem Runs.all {w w2 : World} {v : Value} {rs : List Bd.R} (h : Runs w v rs) (hb : Below w.heap.size w w2) : Runs w2 v rs := by
  rcases h with h | ⟨b, off, cap, h1, h2, h3, h4⟩
  · exact .inl h
  · exact .inr ⟨b, off, cap, h1, h2, Nat.lt_of_lt_of_le h3 hb.size, fun k hk => (h4 k hk).below hb h3⟩
theorem Runs.form {w : World} {v : Value} {rs : List Bd.R} (h : Runs w v rs) : ∃ a c, v = .slice a rs.length c := by
  rcases h with ⟨a, c, rfl, rfl, _⟩ | ⟨b, off, cap, rfl, _⟩
  · exact ⟨a, c, rfl⟩
  · exact ⟨_, _, rfl⟩
theorem getD_run {xs : List Bd.R} {k : Nat} (h : k < xs.length) : xs.getD k default = xs[k] := by simp [h]
theorem drop_run {xs : List Bd.R} {k : Nat} (h : k < xs.length) : xs.drop k = xs[k] :: xs.drop (k + 1) := by rw [List.drop_eq_getElem_cons h]
theorem take_run {xs : List Bd.R} {k : Nat} (h : k < xs.length) : xs.take (k + 1) = xs.take k ++ [xs[k]] := by rw [List.take_succ_eq_append_getElem h]

/-- What the call itself has made: a list of runs in blocks from a number on. -/
def Own (base : Nat) (w : World) (v : Value) (rs : List Bd.R) : Prop := w.ownsRow base 52 4 v rs.length (cellsR rs)
theorem cellsR_at : ∀ (rs : List Bd.R) (k : Nat), k < rs.length → (cellsR rs)[k * 4]? = some (.int .i64 (rs.getD k default).l) ∧ (cellsR rs)[k * 4 + 1]? = some (.int .i64 (rs.getD k default).m.t) ∧
    (cellsR rs)[k * 4 + 2]? = some (.int .i64 (rs.getD k default).m.s) ∧ (cellsR rs)[k * 4 + 3]? = some (.int .i64 (rs.getD k default).m.f)
  | [], k, h => by simp at h
  | r :: b, 0, _ => by simp [cellsR, runC]
  | r :: b, k + 1, h => by
    have ih := cellsR_at b k (by simpa using h)
    have e : ∀ j, (cellsR (r :: b))[(k + 1) * 4 + j]? = (cellsR b)[k * 4 + j]? := by
      intro j
      show (runC r ++ cellsR b)[(k + 1) * 4 + j]? = _
      rw [List.getElem?_append_right (by simp [runC]; omega)]
      congr 1; simp [runC]; omega
    have e0 := e 0
    simp only [Nat.add_zero] at e0
    rw [e0, e 1, e 2, e 3]
    simpa using ih
theorem Own.nil (base : Nat) (w : World) : Own base w (.slice none 0 0) [] := World.ownsRow_nil _ _ _ _
theorem Own.alloc {base : Nat} {w : World} {v : Value} {rs : List Bd.R} (h : Own base w v rs) (o : Obj) : Own base (w.alloc o) v rs := World.ownsRow.alloc h o
theorem Own.drewN {base : Nat} {w : World} {v : Value} {rs : List Bd.R} (h : Own base w v rs) (n : Nat) : Own base (w.drewN n) v rs := h
theorem Own.lt {base : Nat} {w : World} {g n cap : Nat} {rs : List Bd.R} (h : Own base w (.slice (some ⟨g, 0, none⟩) n cap) rs) : base ≤ g ∧ g < w.heap.size := World.ownsRow.lt h g rfl
theorem Own.mono {base B : Nat} {w : World} {v : Value} {rs : List Bd.R} (h : Own base w v rs) (hB : B ≤ base) : Own B w v rs := by
  obtain ⟨h0, h⟩ := h
  rcases h with h | ⟨g, cap, cur, h1, h2, h3⟩
  · exact ⟨h0, .inl h⟩
  · exact ⟨h0, .inr ⟨g, cap, cur, h1, Nat.le_trans hB h2, h3⟩⟩
/-- An own list is nil, or a row at the head of a block. -/
theorem Own.form {base : Nat} {w : World} {v : Value} {rs : List Bd.R} (h : Own base w v rs) :
    (v = .slice none 0 0 ∧ rs = []) ∨ ∃ g cap, v = .slice (some ⟨g, 0, none⟩) rs.length cap ∧ base ≤ g ∧ g < w.heap.size ∧ rs.length ≤ cap ∧ (∀ j, w.frozen? ⟨g, j, none⟩ = false) ∧ ∀ k, k < rs.length → RunAt w g (k * 4) (rs.getD k default) := by
  have h' := h
  obtain ⟨h0, ⟨h1, h2⟩ | ⟨g, cap, cur, h1, h2, h3, h4, h5⟩⟩ := h'
  · exact .inl ⟨h1, List.length_eq_zero_iff.1 h2⟩
  · subst h1
    refine .inr ⟨g, cap, rfl, h2, h.lt.2, h4, fun j => World.ownsRow.frozenAt h j, fun k hk => ?_⟩
    obtain ⟨c0, c1, c2, c3⟩ := cellsR_at rs k hk
    exact ⟨(World.ownsRow.cellAt h (k * 4) (by omega)).trans c0, (World.ownsRow.cellAt h (k * 4 + 1) (by omega)).trans c1, (World.ownsRow.cellAt h (k * 4 + 2) (by omega)).trans c2, (World.ownsRow.cellAt h (k * 4 + 3) (by omega)).trans c3⟩
theorem Own.runs {base : Nat} {w : World} {v : Value} {rs : List Bd.R} (h : Own base w v rs) : Runs w v rs := by
  rcases h.form with ⟨rfl, rfl⟩ | ⟨g, cap, rfl, _, h2, h3, _, h4⟩
  · exact .inl ⟨none, 0, rfl, rfl, fun _ => rfl⟩
  · exact .inr ⟨g, 0, cap, rfl, h3, h2, fun k hk => by rw [Nat.zero_add]; exact h4 k hk⟩
/-- An own list behind what leaves its blocks alone. -/
theorem Own.all {base : Nat} {w w2 : World} {v : Value} {rs : List Bd.R} (h : Own base w v rs) (hb : Below w.heap.size w w2) : Own base w2 v rs := by
  obtain ⟨h0, h1 | ⟨g, cap, cur, h1, h2, h3, h4⟩⟩ := h
  · exact ⟨h0, .inl h1⟩
  · have hg : g < w.heap.size := (Array.getElem?_eq_some_iff.1 h3).1
    exact ⟨h0, .inr ⟨g, cap, cur, h1, h2, by rw [hb.block g hg]; exact h3, h4⟩⟩
theorem cellsR_set : ∀ (a : List Bd.R) (q : Bd.R) (x : Int), (cellsR (a ++ [q])).set (a.length * 4) (.int .i64 x) = cellsR (a ++ [⟨x, q.m⟩])
  | [], q, x => rfl
  | r :: a, q, x => by
    have ih := cellsR_set a q x
    show (runC r ++ cellsR (a ++ [q])).set ((a.length + 1) * 4) _ = runC r ++ cellsR (a ++ [⟨x, q.m⟩])
    rw [← ih, List.set_append_right _ _ (by simp [runC]; omega)]
    congr 2
    simp [runC]; omega
/-- The length of the last run of an own list is written. -/
theorem Own.setL {base : Nat} {w : World} {g cap : Nat} {a : List Bd.R} {q : Bd.R} (h : Own base w (.slice (some ⟨g, 0, none⟩) (a.length + 1) cap) (a ++ [q])) (x : Int) :
    Own base (w.setCell ⟨g, a.length * 4, none⟩ (.int .i64 x)) (.slice (some ⟨g, 0, none⟩) (a.length + 1) cap) (a ++ [⟨x, q.m⟩]) := by
  have hl : (a ++ [q]).length = a.length + 1 := by simp
  have h' : w.ownsRow base 52 4 (.slice (some ⟨g, 0, none⟩) (a.length + 1) cap) (a.length + 1) (cellsR (a ++ [q])) := by rw [← hl]; unfold Own at h; rw [hl] at h ⊢; exact h
  have := (World.ownsRow.stored h' (a.length * 4) (.int .i64 x)).1
  rw [cellsR_set] at this
  unfold Own
  rw [show (a ++ [(⟨x, q.m⟩ : Bd.R)]).length = a.length + 1 by simp]
  exact this
theorem Own.snoc {base : Nat} {w : World} {v : Value} {a : List Bd.R} {q : Bd.R} (h : Own base w v (a ++ [q])) :
    ∃ g cap, v = .slice (some ⟨g, 0, none⟩) (a.length + 1) cap ∧ base ≤ g ∧ g < w.heap.size ∧ a.length + 1 ≤ cap ∧ (∀ j, w.frozen? ⟨g, j, none⟩ = false) ∧ RunAt w g (a.length * 4) q := by
  rcases h.form with ⟨_, h⟩ | ⟨g, cap, h1, h2, h3, h4, h5, h6⟩
  · simp at h
  · have h7 := h6 a.length (by simp)
    rw [show (a ++ [q]).getD a.length default = q by simp [List.getD]] at h7
    simp only [List.length_append, List.length_singleton] at h1 h4
    exact ⟨g, cap, h1, h2, h3, h4, h5, h7⟩
/-- What the law on append leaves, as a list of runs. -/
theorem Own.pushed {base : Nat} {w : World} {v : Value} {a : List Bd.R} {r : Bd.R} (h : w.ownsRow base 52 4 v (a.length + 1) (cellsR a ++ runC r)) : Own base w v (a ++ [r]) := by
  unfold Own
  rw [cellsR_append, show cellsR [r] = runC r by simp [cellsR], show (a ++ [r]).length = a.length + 1 by simp]
  exact h
theorem Own.empty {base : Nat} {w : World} {v : Value} (h : Own base w v []) : ∃ a c, v = .slice a 0 c := by
  rcases h.form with ⟨rfl, _⟩ | ⟨g, cap, rfl, _⟩
  · exact ⟨_, _, rfl⟩
  · exact ⟨_, _, rfl⟩
theorem runC_at (w : World) (r : Bd.R) (t : TypeId) : ∀ (j : Nat) (u : Value), (runC r)[j]? = some u → (w.alloc (.cells #[.int .i64 r.l, .int .i64 r.m.t, .int .i64 r.m.s, .int .i64 r.m.f] t)).cell? ((⟨w.heap.size, 0, none⟩ : Addr).add j) = some u := by
  intro j u h
  match j, h with
  | 0, h => simp [runC] at h; subst h; simp [Addr.add]
  | 1, h => simp [runC] at h; subst h; simp [Addr.add]
  | 2, h => simp [runC] at h; subst h; simp [Addr.add]
  | 3, h => simp [runC] at h; subst h; simp [Addr.add]
  | j + 4, h => simp [runC] at h
theorem runC_one (r : Bd.R) : ∀ u ∈ runC r, u.oneCell' = true := by
  intro u h
  simp [runC] at h; rcases h with rfl | rfl | rfl | rfl <;> rfl
theorem infoRun : (Try.prog.info? 52).map (fun i => (i.zero, i.size, i.bytes)) = some (some (.agg #[.int .i64 0, .int .i64 0, .int .i64 0, .int .i64 0]), 4, 32) := by kernel_rfl
end Go.Proofs.Ytbmjjmpdlmbehaa
namespace Go.Proofs.Ytbmjjmpdlmbehaa
open Go.RowKit

set_option maxRecDepth 20000 in
theorem size_any (v : Value) (rs : List Bd.R) (w : World) (hv : Runs w v rs) (hf : Bd.fine rs) :
    Calls Try.prog 79 #[v] w fun e w' => e = .returned (.int .i64 (Bd.len rs)) ∧ Below w.heap.size w w' := by
  have HB := Lib.hid (Bd.len_take_le hf.2.1)
  obtain ⟨hlen, _, hmax⟩ := hf
  rcases hv with ⟨a0, c0, rfl, rfl, hn0⟩ | ⟨b, off, cap, rfl, hcap, hb, hc⟩
  · go_enter Try.func79, Try.ntmps79
    go_wp2
    go_loop [3, 4] (fun s t => s = .int .i64 0 ∧ t = .int .i64 0) (fun _ t => (0 - intOf t).toNat)
    case atStart => exact ⟨rfl, rfl⟩
    case round =>
      obtain ⟨rfl, rfl⟩ := hrel
      go_wp2
      go_ret
      exact ⟨rfl, Below.refl _ _⟩
  · go_enter Try.func79, Try.ntmps79
    go_wp2
    have hw0 := Below.refl w.heap.size w
    go_loopw [3, 4] (fun s t wr => ∃ k : Nat, k ≤ rs.length ∧ t = .int .i64 k ∧ s = .int .i64 (Bd.len (rs.take k)) ∧ Below w.heap.size w wr) (fun _ t _ => rs.length - (intOf t).toNat)
    case atStart => exact ⟨0, Nat.zero_le _, rfl, rfl, hw0⟩
    case round =>
      obtain ⟨k, hk, rfl, rfl, hw⟩ := hrel
      clear hw0
      by_cases hlt : k < rs.length
      · have hck := hc k hlt
        rw [getD_run hlt] at hck
        clear hc
        obtain ⟨c0, c1, c2, c3⟩ := hck.below hw hb
        clear hck
        have hn := Lib.hid (Bd.len_take_succ hlt)
        have b1 := HB.out k
        have b2 := HB.out (k + 1)
        rw [hn.out] at b2
        generalize hr : rs[k] = r at *
        clear hr
        generalize Bd.len (rs.take k) = s at *
        go_wp2
        go_roundw
        case rel => exact ⟨k + 1, by omega, by go_num, by rw [hn.out], hw⟩
        case measure => simp [intOf]; omega
      · obtain rfl : k = rs.length := by omega
        clear hc
        go_wp2
        go_ret
        exact ⟨ret_int (Bd.len_take_all _ (Nat.le_refl _)), hw⟩

set_option maxRecDepth 20000 in
theorem length_any (v : Value) (rs : List Bd.R) (w : World) (hv : Runs w v rs) (hf : Bd.fine rs) :
    Calls Try.prog 51 #[v] w fun e w' => e = .returned (.int .i64 (Bd.len rs)) ∧ Below w.heap.size w w' := by
  have HB := Lib.hid (Bd.len_take_le hf.2.1)
  obtain ⟨hlen, _, hmax⟩ := hf
  rcases hv with ⟨a0, c0, rfl, rfl, hn0⟩ | ⟨b, off, cap, rfl, hcap, hb, hc⟩
  · go_enter Try.func51, Try.ntmps51
    go_wp2
    go_loop [3, 8] (fun s t => s = .int .i64 0 ∧ t = .int .i64 0) (fun _ t => (0 - intOf t).toNat)
    case atStart => exact ⟨rfl, rfl⟩
    case round =>
      obtain ⟨rfl, rfl⟩ := hrel
      go_wp2
      go_ret
      exact ⟨rfl, Below.refl _ _⟩
  · go_enter Try.func51, Try.ntmps51
    go_wp2
    have hw0 := Below.refl w.heap.size w
    go_loopw [3, 8] (fun s t wr => ∃ k : Nat, k ≤ rs.length ∧ t = .int .i64 k ∧ s = .int .i64 (Bd.len (rs.take k)) ∧ Below w.heap.size w wr) (fun _ t _ => rs.length - (intOf t).toNat)
    case atStart => exact ⟨0, Nat.zero_le _, rfl, rfl, hw0⟩
    case round =>
      obtain ⟨k, hk, rfl, rfl, hw⟩ := hrel
      clear hw0
      by_cases hlt : k < rs.length
      · have hck := hc k hlt
        rw [getD_run hlt] at hck
        clear hc
        obtain ⟨c0, c1, c2, c3⟩ := hck.below hw hb
        clear hck
        have hn := Lib.hid (Bd.len_take_succ hlt)
        have b1 := HB.out k
        have b2 := HB.out (k + 1)
        rw [hn.out] at b2
        generalize hr : rs[k] = r at *
        clear hr
        generalize Bd.len (rs.take k) = s at *
        go_wp2
        go_roundw
        case rel => exact ⟨k + 1, by omega, by go_num, by rw [hn.out], hw.alloc hw.size _⟩
        case measure => simp [intOf]; omega
      · obtain rfl : k = rs.length := by omega
        clear hc
        go_wp2
        go_ret
        exact ⟨ret_int (Bd.len_take_all _ (Nat.le_refl _)), hw⟩

theorem isMark_any (m : Bd.M) (w : World) :
    Calls Try.prog 69 #[markV m] w fun e w' => e = .returned (.bool (Bd.okM m)) ∧ Below w.heap.size w w' := by
  have hb := (Below.refl w.heap.size w).alloc (Nat.le_refl _) (.cells #[.int .i64 m.t, .int .i64 m.s, .int .i64 m.f] 50)
  have HB := Lib.hid hb
  clear hb
  cases ho : Bd.okM m
  · rcases Bd.okM_not ho with h | h | ⟨h1, h2, h | h | ⟨h3, h4, h | h⟩⟩
    all_goals
      clear ho
      obtain ⟨t, s, f⟩ := m
      dsimp only at *
      go_enter Try.func69, Try.ntmps69
      go_wp2
      go_ret
      exact ⟨by first | exact ret_bool (by simp; omega) | rfl, HB.out⟩
  · have h : (1 ≤ m.t ∧ m.t ≤ 1000) ∧ (0 ≤ m.s ∧ m.s ≤ 99) ∧ (0 ≤ m.f ∧ m.f ≤ 15) := by simp [Bd.okM] at ho; omega
    obtain ⟨⟨h1, h2⟩, ⟨h3, h4⟩, h5, h6⟩ := h
    clear ho
    obtain ⟨t, s, f⟩ := m
    dsimp only at *
    go_enter Try.func69, Try.ntmps69
    go_wp2
    go_ret
    exact ⟨by first | exact ret_bool (by simp; omega) | rfl, HB.out⟩

theorem within_any (n lo hi : Int) (w : World) :
    Calls Try.prog 81 #[.int .i64 n, .int .i64 lo, .int .i64 hi] w fun e w' => e = .returned (.bool (decide (lo ≤ n) && decide (n ≤ hi))) ∧ w = w' := by
  by_cases h1 : lo ≤ n
  · by_cases h2 : n ≤ hi
    all_goals
      go_enter Try.func81, Try.ntmps81
      go_wp2
      go_ret
      exact ⟨by simp [h1, h2]; try omega, rfl⟩
  · go_enter Try.func81, Try.ntmps81
    go_wp2
    go_ret
    exact ⟨by simp [h1]; try omega, rfl⟩
theorem within_true (n lo hi : Int) (w : World) (h : lo ≤ n ∧ n ≤ hi) :
    Calls Try.prog 81 #[.int .i64 n, .int .i64 lo, .int .i64 hi] w fun e w' => e = .returned (.bool true) ∧ w = w' :=
  (within_any n lo hi w).mono fun e w' ⟨h1, h2⟩ => ⟨by rw [h1]; simp [h], h2⟩
theorem within_false (n lo hi : Int) (w : World) (h : n < lo ∨ hi < n) :
    Calls Try.prog 81 #[.int .i64 n, .int .i64 lo, .int .i64 hi] w fun e w' => e = .returned (.bool false) ∧ w = w' :=
  (within_any n lo hi w).mono fun e w' ⟨h1, h2⟩ => ⟨by rw [h1]; simp; omega, h2⟩

set_option maxRecDepth 20000 in
theorem validate_any (v : Value) (rs : List Bd.R) (w : World) (hv : Runs w v rs) (hlen : rs.length ≤ 1000) :
    Calls Try.prog 46 #[v] w fun e w' => e = .returned (.int .i64 (Bd.valE rs)) ∧ Below w.heap.size w w' := by
  by_cases hl : 40 < rs.length
  · rw [Bd.valE_large hl]
    obtain ⟨a, c, rfl⟩ := hv.form
    clear hv
    go_enter Try.func46, Try.ntmps46
    go_wp2
    go_ret
    exact ⟨rfl, Below.refl _ _⟩
  · have hv0 := Lib.hid hv
    generalize hE : Bd.valE rs = E
    have HE := Lib.hid hE
    clear hE
    rcases hv with ⟨a0, c0, rfl, rfl, hn0⟩ | ⟨b, off, cap, rfl, hcap, hb, hc⟩
    · have L := Lib.hid (fun W => length_any _ [] W (.inl ⟨a0, c0, rfl, rfl, hn0⟩) Bd.fine_nil)
      go_enter Try.func46, Try.ntmps46
      go_wp2
      go_loop [10] (fun t => t = .int .i64 0) (fun t => (0 - intOf t).toNat)
      case atStart => exact rfl
      case round =>
        obtain rfl := hrel
        go_wp2_with fail
        refine (L.out _).mono ?_
        rintro e w1 ⟨rfl, hb1⟩
        unfold Bd.len
        go_wp2
        go_ret
        exact ⟨ret_int (by rw [← HE.out]; rfl), hb1⟩
    · have L := Lib.hid (fun W (hW : Below w.heap.size w W) ho => length_any _ rs W (hv0.out.all hW) (Bd.fine_ok (by omega) ho))
      go_enter Try.func46, Try.ntmps46
      go_wp2
      have hw0 := Below.refl w.heap.size w
      go_loopw [10] (fun t wr => ∃ k : Nat, k ≤ rs.length ∧ t = .int .i64 k ∧ Hid (∀ r ∈ rs.take k, Bd.okR r = true) ∧ Below w.heap.size w wr) (fun t _ => rs.length - (intOf t).toNat)
      case atStart => exact ⟨0, Nat.zero_le _, rfl, Lib.hid (by simp), hw0⟩
      case round =>
        obtain ⟨k, hk, rfl, hg, hw⟩ := hrel
        clear hw0
        by_cases hlt : k < rs.length
        · clear L hv0
          have hck := hc k hlt
          rw [getD_run hlt] at hck
          clear hc
          obtain ⟨c0, c1, c2, c3⟩ := hck.below hw hb
          clear hck
          cases ho : Bd.okR rs[k]
          · have HB := Lib.hid ((Bd.valE_bad (by omega) hlt ho).symm.trans HE.out)
            have hr := Bd.okR_not ho
            clear ho hg
            generalize rs[k] = r at *
            rcases hr with hr | hr | ⟨hr1, hr2, hr⟩
            · go_wp2
              go_ret
              exact ⟨ret_int HB.out, hw.alloc hw.size _⟩
            · go_wp2
              go_ret
              exact ⟨ret_int HB.out, hw.alloc hw.size _⟩
            · have hr' := Lib.hid hr
              clear hr
              go_wp2_with fail
              refine (isMark_any r.m _).mono ?_
              rw [hr'.out]
              rintro e w1 ⟨rfl, hb1⟩
              go_wp2
              go_ret
              exact ⟨ret_int HB.out, below_step (hw.alloc hw.size _) hb1⟩
          · have hg' := Lib.hid (Bd.take_ok_succ hlt hg.out ho)
            obtain ⟨⟨hr1, hr2⟩, hr⟩ := Bd.okR_iff.1 ho
            clear ho hg
            generalize rs[k] = r at *
            have hr' := Lib.hid hr
            clear hr
            go_wp2_with fail
            refine (isMark_any r.m _).mono ?_
            rw [hr'.out]
            rintro e w1 ⟨rfl, hb1⟩
            go_wp2
            go_roundw
            case rel => exact ⟨k + 1, by omega, by go_num, hg', below_step (hw.alloc hw.size _) hb1⟩
            case measure => simp [intOf]; omega
        · obtain rfl : k = rs.length := by omega
          have ho := hg.out
          rw [List.take_length] at ho
          have hE := Lib.hid ((Bd.valE_ok (by omega) ho).symm.trans HE.out)
          have C := L.out _ hw ho
          clear hc L ho hg hv0
          have C := Lib.hid C
          generalize Bd.len rs = n at *
          by_cases hn : 1000000 < n
          · go_wp2_with fail
            refine C.out.mono ?_
            rintro e w1 ⟨rfl, hb1⟩
            go_wp2
            go_ret
            exact ⟨ret_int ((if_pos hn).symm.trans hE.out), below_step hw hb1⟩
          · go_wp2_with fail
            refine C.out.mono ?_
            rintro e w1 ⟨rfl, hb1⟩
            go_wp2
            go_ret
            exact ⟨ret_int ((if_neg (by omega)).symm.trans hE.out), below_step hw hb1⟩
end Go.Proofs.Ytbmjjmpdlmbehaa
