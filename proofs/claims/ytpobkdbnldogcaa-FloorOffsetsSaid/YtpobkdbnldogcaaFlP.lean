/- Jobs in plain words: which are valid, where a strip can begin, and the plans by which the fewest rolls are found. -/
import Derived.Test.YtpobkdbnldogcaaFlN2
namespace Go.Proofs.Ytpobkdbnldogcaa
namespace Fl
def okS (s : S) : Bool := (decide (-20 ≤ s.x) && decide (s.x ≤ 60)) && decide (0 ≤ s.f) && decide (s.f < s.t) && decide (s.t ≤ 60)
theorem okS_iff {s : S} : okS s = true ↔ -20 ≤ s.x ∧ s.x ≤ 60 ∧ 0 ≤ s.f ∧ s.f < s.t ∧ s.t ≤ 60 := by simp [okS, and_assoc]
def okL (m : Int) (r : L) : Bool := (decide (1 ≤ r.l) && decide (r.l ≤ 300)) && (decide (0 ≤ r.p) && decide (r.p ≤ m - 1)) && (decide (0 ≤ r.c) && decide (r.c ≤ 99))
theorem okL_iff {m : Int} {r : L} : okL m r = true ↔ (1 ≤ r.l ∧ r.l ≤ 300) ∧ (0 ≤ r.p ∧ r.p ≤ m - 1) ∧ (0 ≤ r.c ∧ r.c ≤ 99) := by simp [okL, and_assoc]
structure J where
  ss : List S
  rs : List L
  m : Int
def jobE (j : J) : Int :=
  if 6 < j.ss.length ∨ 5 < j.rs.length then 4 else if (j.ss.all okS && j.rs.all (okL j.m) && (decide (1 ≤ j.m) && decide (j.m ≤ 144))) = true then 0 else 1
theorem jobE_zero {j : J} : jobE j = 0 ↔ j.ss.length ≤ 6 ∧ j.rs.length ≤ 5 ∧ (∀ k (hk : k < j.ss.length), okS j.ss[k] = true) ∧ (∀ k (hk : k < j.rs.length), okL j.m j.rs[k] = true) ∧ 1 ≤ j.m ∧ j.m ≤ 144 := by
  unfold jobE
  constructor
  · intro h
    split at h
    · omega
    · rename_i h1
      split at h
      · rename_i h2
        simp only [Bool.and_eq_true, List.all_eq_true, decide_eq_true_eq] at h2
        exact ⟨by omega, by omega, fun k hk => h2.1.1 _ (List.getElem_mem hk), fun k hk => h2.1.2 _ (List.getElem_mem hk), h2.2.1, h2.2.2⟩
      · omega
  · rintro ⟨h1, h2, h3, h4, h5, h6⟩
    rw [if_neg (by omega), if_pos]
    simp only [Bool.and_eq_true, List.all_eq_true, decide_eq_true_eq]
    refine ⟨⟨fun s hs => ?_, fun r hr => ?_⟩, h5, h6⟩
    · obtain ⟨k, hk, rfl⟩ := List.mem_iff_getElem.1 hs; exact h3 k hk
    · obtain ⟨k, hk, rfl⟩ := List.mem_iff_getElem.1 hr; exact h4 k hk
theorem jobE_large {j : J} (h : 6 < j.ss.length ∨ 5 < j.rs.length) : jobE j = 4 := if_pos h
theorem jobE_strip {j : J} (h : ¬ (6 < j.ss.length ∨ 5 < j.rs.length)) {k : Nat} (hk : k < j.ss.length) (h2 : okS j.ss[k] = false) : jobE j = 1 := by
  unfold jobE
  rw [if_neg h, if_neg]
  intro hc
  simp only [Bool.and_eq_true, List.all_eq_true] at hc
  have := hc.1.1 _ (List.getElem_mem hk)
  rw [h2] at this; cases this
theorem jobE_roll {j : J} (h : ¬ (6 < j.ss.length ∨ 5 < j.rs.length)) {k : Nat} (hk : k < j.rs.length) (h2 : okL j.m j.rs[k] = false) : jobE j = 1 := by
  unfold jobE
  rw [if_neg h, if_neg]
  intro hc
  simp only [Bool.and_eq_true, List.all_eq_true] at hc
  have := hc.1.2 _ (List.getElem_mem hk)
  rw [h2] at this; cases this
theorem jobE_rep {j : J} (h : ¬ (6 < j.ss.length ∨ 5 < j.rs.length)) (h2 : ¬ (1 ≤ j.m ∧ j.m ≤ 144)) : jobE j = 1 := by
  unfold jobE
  rw [if_neg h, if_neg]
  intro hc
  simp only [Bool.and_eq_true, decide_eq_true_eq] at hc
  exact h2 hc.2
/-- The smallest place, not below a place, at which a strip can begin. -/
def nxt (r : L) (m a : Int) (s : S) : Int := a + (s.f - r.p - a) % m
theorem nxt_bd {r : L} {m a : Int} {s : S} (hm : 1 ≤ m) (hm2 : m ≤ 144) : a ≤ nxt r m a s ∧ nxt r m a s ≤ a + 143 := by
  unfold nxt
  have h1 := Int.emod_nonneg (s.f - r.p - a) (show m ≠ 0 by omega)
  have h2 := Int.emod_lt_of_pos (s.f - r.p - a) (show 0 < m by omega)
  omega

/-- A plan: whether there is one, what it costs, its cuts. -/
structure P where
  b : Bool
  c : Int
  l : List C
instance : Inhabited P := ⟨⟨false, 0, []⟩⟩
def above (p : P) (c : Int) : Bool := !p.b || decide (c < p.c)
def thn (p : P) (c : Int) (l : List C) : P := ⟨true, c, p.l ++ l⟩
def noP (n : Nat) : List P := (List.replicate (2 ^ n) (⟨false, 0, []⟩ : P)).set 0 ⟨true, 0, []⟩
theorem noP_len (n : Nat) : (noP n).length = 2 ^ n := by simp [noP]
/-- One step of the plans of one roll: the strip i last in the set a. -/
def tst (j : J) (k : Nat) (ps : List P) (a i : Nat) : List P :=
  if a &&& 2 ^ i ≠ 0 ∧ (ps.getD (a - (a &&& 2 ^ i)) default).b = true ∧
      nxt (j.rs.getD k default) j.m (ps.getD (a - (a &&& 2 ^ i)) default).c (j.ss.getD i default) + (j.ss.getD i default).t - (j.ss.getD i default).f ≤ (j.rs.getD k default).l ∧
      above (ps.getD a default) (nxt (j.rs.getD k default) j.m (ps.getD (a - (a &&& 2 ^ i)) default).c (j.ss.getD i default) + (j.ss.getD i default).t - (j.ss.getD i default).f) = true
  then ps.set a (thn (ps.getD (a - (a &&& 2 ^ i)) default) (nxt (j.rs.getD k default) j.m (ps.getD (a - (a &&& 2 ^ i)) default).c (j.ss.getD i default) + (j.ss.getD i default).t - (j.ss.getD i default).f)
    [⟨i, k, nxt (j.rs.getD k default) j.m (ps.getD (a - (a &&& 2 ^ i)) default).c (j.ss.getD i default)⟩])
  else ps
def tin (j : J) (k : Nat) (ps : List P) (a : Nat) : Nat → List P
  | 0 => ps
  | i + 1 => tst j k (tin j k ps a i) a i
def tig (j : J) (k : Nat) : Nat → List P
  | 0 => noP j.ss.length
  | a + 1 => tin j k (tig j k a) a j.ss.length
theorem tst_len (j : J) (k : Nat) (ps : List P) (a i : Nat) : (tst j k ps a i).length = ps.length := by unfold tst; split <;> simp
theorem tin_len (j : J) (k : Nat) (ps : List P) (a : Nat) : ∀ i, (tin j k ps a i).length = ps.length
  | 0 => rfl
  | i + 1 => by rw [tin, tst_len, tin_len j k ps a i]
theorem tig_len (j : J) (k : Nat) : ∀ a, (tig j k a).length = 2 ^ j.ss.length
  | 0 => noP_len _
  | a + 1 => by rw [tig, tin_len, tig_len j k a]
/-- One step when there is one more roll. -/
def wst (ps ts : List P) (xs : List P) (b m : Nat) : List P :=
  if (ps.getD b default).b = true ∧ (ts.getD m default).b = true ∧ b &&& m = 0 ∧ above (xs.getD (b ||| m) default) ((ps.getD b default).c + 1) = true
  then xs.set (b ||| m) (thn (ps.getD b default) ((ps.getD b default).c + 1) (ts.getD m default).l) else xs
def win (ps ts : List P) (xs : List P) (b : Nat) : Nat → List P
  | 0 => xs
  | m + 1 => wst ps ts (win ps ts xs b m) b m
def wit (ps ts : List P) : Nat → List P
  | 0 => ps
  | b + 1 => win ps ts (wit ps ts b) b ts.length
theorem wst_len (ps ts xs : List P) (b m : Nat) : (wst ps ts xs b m).length = xs.length := by unfold wst; split <;> simp
theorem win_len (ps ts xs : List P) (b : Nat) : ∀ m, (win ps ts xs b m).length = xs.length
  | 0 => rfl
  | m + 1 => by rw [win, wst_len, win_len ps ts xs b m]
theorem wit_len (ps ts : List P) : ∀ b, (wit ps ts b).length = ps.length
  | 0 => rfl
  | b + 1 => by rw [wit, win_len, wit_len ps ts b]
/-- The plans of the first k rolls of a shade. -/
def few (j : J) (c : Int) : Nat → List P
  | 0 => noP j.ss.length
  | k + 1 => if (j.rs.getD k default).c = c then wit (few j c k) (tig j k (2 ^ j.ss.length)) (few j c k).length else few j c k
theorem few_len (j : J) (c : Int) : ∀ k, (few j c k).length = 2 ^ j.ss.length
  | 0 => noP_len _
  | k + 1 => by
    rw [few]
    split
    · rw [wit_len, few_len j c k]
    · exact few_len j c k
def fewP (j : J) (c : Int) : P := (few j c j.rs.length).getD (2 ^ j.ss.length - 1) default
/-- The best plan over the shades of the first k rolls. -/
def best (j : J) : Nat → P
  | 0 => ⟨false, 0, []⟩
  | k + 1 => if (fewP j (j.rs.getD k default).c).b = true ∧ above (best j k) (fewP j (j.rs.getD k default).c).c = true then fewP j (j.rs.getD k default).c else best j k
def fewR (j : J) : P := if jobE j = 0 then (if j.ss.length = 0 then ⟨true, 0, []⟩ else best j j.rs.length) else ⟨false, 0, []⟩

/-- What plans cost. -/
def cst (B : Int) (ps : List P) : Prop := ∀ k (hk : k < ps.length), 0 ≤ ps[k].c ∧ ps[k].c ≤ B
theorem cst_getD {B : Int} {ps : List P} (h : cst B ps) (hB : 0 ≤ B) (k : Nat) : 0 ≤ (ps.getD k default).c ∧ (ps.getD k default).c ≤ B := by
  by_cases hk : k < ps.length
  · rw [show ps.getD k default = ps[k] by simp [hk]]; exact h k hk
  · rw [show ps.getD k default = ⟨false, 0, []⟩ by simp [List.getD, hk]; rfl]
    exact ⟨Int.le_refl _, hB⟩
theorem cst_set {B : Int} {ps : List P} (h : cst B ps) (a : Nat) {p : P} (hp : 0 ≤ p.c ∧ p.c ≤ B) : cst B (ps.set a p) := by
  intro k hk
  rw [List.getElem_set]
  split
  · exact hp
  · exact h k (by simpa using hk)
theorem cst_noP {B : Int} (hB : 0 ≤ B) (n : Nat) : cst B (noP n) := by
  unfold noP
  refine cst_set (fun k hk => ?_) 0 ⟨Int.le_refl _, hB⟩
  rw [List.getElem_replicate]; exact ⟨Int.le_refl _, hB⟩
theorem cst_mono {B B2 : Int} {ps : List P} (h : cst B ps) (hB : B ≤ B2) : cst B2 ps := fun k hk => ⟨(h k hk).1, Int.le_trans (h k hk).2 hB⟩
theorem tst_cst {j : J} (hj : jobE j = 0) {k : Nat} (hk : k < j.rs.length) {ps : List P} (h : cst 300 ps) (a : Nat) {i : Nat} (hi : i < j.ss.length) : cst 300 (tst j k ps a i) := by
  obtain ⟨_, _, h3, h4, h5, h6⟩ := jobE_zero.1 hj
  unfold tst
  split
  · rename_i hc
    obtain ⟨_, _, hc3, _⟩ := hc
    refine cst_set h a ?_
    obtain ⟨⟨l1, l2⟩, _⟩ := okL_iff.1 (h4 k hk)
    obtain ⟨_, _, s1, s2, s3⟩ := okS_iff.1 (h3 i hi)
    rw [show j.rs.getD k default = j.rs[k] by simp [hk], show j.ss.getD i default = j.ss[i] by simp [hi]] at *
    have hb := nxt_bd (r := j.rs[k]) (a := (ps.getD (a - (a &&& 2 ^ i)) default).c) (s := j.ss[i]) h5 h6
    have hp := cst_getD h (by omega) (a - (a &&& 2 ^ i))
    show 0 ≤ nxt _ _ _ _ + _ - _ ∧ nxt _ _ _ _ + _ - _ ≤ 300
    omega
  · exact h
theorem tin_cst {j : J} (hj : jobE j = 0) {k : Nat} (hk : k < j.rs.length) {ps : List P} (h : cst 300 ps) (a : Nat) : ∀ {i : Nat}, i ≤ j.ss.length → cst 300 (tin j k ps a i)
  | 0, _ => h
  | i + 1, hi => tst_cst hj hk (tin_cst hj hk h a (by omega)) a (by omega)
theorem tig_cst {j : J} (hj : jobE j = 0) {k : Nat} (hk : k < j.rs.length) : ∀ a, cst 300 (tig j k a)
  | 0 => cst_noP (by omega) _
  | a + 1 => tin_cst hj hk (tig_cst hj hk a) a (Nat.le_refl _)
theorem wst_cst {B : Int} {ps ts xs : List P} (hB : 0 ≤ B) (hp : cst B ps) (hx : cst (B + 1) xs) (b m : Nat) : cst (B + 1) (wst ps ts xs b m) := by
  unfold wst
  split
  · refine cst_set hx _ ?_
    have := cst_getD hp hB b
    show 0 ≤ _ + 1 ∧ _ + 1 ≤ B + 1
    omega
  · exact hx
theorem win_cst {B : Int} {ps ts xs : List P} (hB : 0 ≤ B) (hp : cst B ps) (hx : cst (B + 1) xs) (b : Nat) : ∀ m, cst (B + 1) (win ps ts xs b m)
  | 0 => hx
  | m + 1 => wst_cst hB hp (win_cst hB hp hx b m) b m
theorem wit_cst {B : Int} {ps ts : List P} (hB : 0 ≤ B) (hp : cst B ps) : ∀ b, cst (B + 1) (wit ps ts b)
  | 0 => cst_mono hp (by omega)
  | b + 1 => win_cst hB hp (wit_cst hB hp b) b _
theorem few_cst (j : J) (c : Int) : ∀ k : Nat, cst k (few j c k)
  | 0 => cst_noP (by omega) _
  | k + 1 => by
    rw [few]
    split
    · exact wit_cst (by omega) (few_cst j c k) _
    · exact cst_mono (few_cst j c k) (by omega)
end Fl
end Go.Proofs.Ytpobkdbnldogcaa
