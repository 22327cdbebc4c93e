/- The steps of the plans, told case by case; how many cuts a plan has. -/
import Derived.Test.YtpobkdbnldogcaaFlP
namespace Go.Proofs.Ytpobkdbnldogcaa
namespace Fl
theorem tst_all {j : J} {k a i : Nat} {ps : List P} (hk : k < j.rs.length) (hi : i < j.ss.length) (ha : a < ps.length) {X A1 : Nat} (hX : X = a &&& 2 ^ i) (hA : A1 = a - X) (hA1 : A1 < ps.length) {t e : Int}
    (ht : t = nxt j.rs[k] j.m ps[A1].c j.ss[i]) (he : e = t + j.ss[i].t - j.ss[i].f) :
    (X = 0 → tst j k ps a i = ps) ∧ (ps[A1].b = false → tst j k ps a i = ps) ∧ (¬ e ≤ j.rs[k].l → tst j k ps a i = ps) ∧ (above ps[a] e = false → tst j k ps a i = ps) ∧
    (X ≠ 0 → ps[A1].b = true → e ≤ j.rs[k].l → above ps[a] e = true → tst j k ps a i = ps.set a (thn ps[A1] e [⟨i, k, t⟩])) := by
  have d1 : ps.getD (a - (a &&& 2 ^ i)) default = ps[A1] := by rw [← hX, ← hA]; simp [hA1]
  have d2 : ps.getD a default = ps[a] := by simp [ha]
  have d3 : j.rs.getD k default = j.rs[k] := by simp [hk]
  have d4 : j.ss.getD i default = j.ss[i] := by simp [hi]
  unfold tst
  rw [d1, d2, d3, d4, ← ht, ← he, ← hX]
  refine ⟨fun h => if_neg fun hc => hc.1 h, fun h => if_neg fun hc => ?_, fun h => if_neg fun hc => h hc.2.2.1, fun h => if_neg fun hc => ?_, fun h1 h2 h3 h4 => if_pos ⟨h1, h2, h3, h4⟩⟩
  · have := hc.2.1; rw [h] at this; cases this
  · have := hc.2.2.2; rw [h] at this; cases this
theorem wst_all {ps ts xs : List P} {b m : Nat} (hb : b < ps.length) (hm : m < ts.length) {O : Nat} (hO : O = b ||| m) (hOx : O < xs.length) :
    (ps[b].b = false → wst ps ts xs b m = xs) ∧ (ts[m].b = false → wst ps ts xs b m = xs) ∧ (b &&& m ≠ 0 → wst ps ts xs b m = xs) ∧ (above xs[O] (ps[b].c + 1) = false → wst ps ts xs b m = xs) ∧
    (ps[b].b = true → ts[m].b = true → b &&& m = 0 → above xs[O] (ps[b].c + 1) = true → wst ps ts xs b m = xs.set O (thn ps[b] (ps[b].c + 1) ts[m].l)) := by
  have d1 : ps.getD b default = ps[b] := by simp [hb]
  have d2 : ts.getD m default = ts[m] := by simp [hm]
  have d3 : xs.getD (b ||| m) default = xs[O] := by rw [← hO]; simp [hOx]
  unfold wst
  rw [d1, d2, d3, ← hO]
  refine ⟨fun h => if_neg fun hc => ?_, fun h => if_neg fun hc => ?_, fun h => if_neg fun hc => h hc.2.2.1, fun h => if_neg fun hc => ?_, fun h1 h2 h3 h4 => if_pos ⟨h1, h2, h3, h4⟩⟩
  · have := hc.1; rw [h] at this; cases this
  · have := hc.2.1; rw [h] at this; cases this
  · have := hc.2.2.2; rw [h] at this; cases this
/-- A plan for a set has at most as many cuts as its number says. -/
def lnB (ps : List P) : Prop := ∀ k (hk : k < ps.length), ps[k].l.length ≤ k
theorem lnB_getD {ps : List P} (h : lnB ps) (k : Nat) : (ps.getD k default).l.length ≤ k := by
  by_cases hk : k < ps.length
  · rw [show ps.getD k default = ps[k] by simp [hk]]; exact h k hk
  · rw [show ps.getD k default = ⟨false, 0, []⟩ by simp [List.getD, hk]; rfl]
    exact Nat.zero_le _
theorem lnB_set {ps : List P} (h : lnB ps) (a : Nat) {p : P} (hp : p.l.length ≤ a) : lnB (ps.set a p) := by
  intro k hk
  rw [List.getElem_set]
  split
  · rename_i e; rw [← e]; exact hp
  · exact h k (by simpa using hk)
theorem lnB_noP (n : Nat) : lnB (noP n) := by
  unfold noP
  refine lnB_set (fun k hk => ?_) 0 (Nat.le_refl _)
  rw [List.getElem_replicate]; exact Nat.zero_le _
theorem tst_lnB (j : J) (k : Nat) {ps : List P} (h : lnB ps) (a i : Nat) : lnB (tst j k ps a i) := by
  unfold tst
  split
  · rename_i hc
    refine lnB_set h a ?_
    have h1 : a &&& 2 ^ i ≤ a := Nat.and_le_left
    have h2 := lnB_getD h (a - (a &&& 2 ^ i))
    have h3 := hc.1
    show (_ ++ [_]).length ≤ a
    rw [List.length_append, List.length_singleton]
    omega
  · exact h
theorem tin_lnB (j : J) (k : Nat) {ps : List P} (h : lnB ps) (a : Nat) : ∀ i, lnB (tin j k ps a i)
  | 0 => h
  | i + 1 => tst_lnB j k (tin_lnB j k h a i) a i
theorem tig_lnB (j : J) (k : Nat) : ∀ a, lnB (tig j k a)
  | 0 => lnB_noP _
  | a + 1 => tin_lnB j k (tig_lnB j k a) a _
theorem or_add : ∀ b, b < 64 → ∀ m, m < 64 → b &&& m = 0 → b ||| m = b + m := by decide +kernel
theorem or_lt : ∀ n, n ≤ 6 → ∀ b, b < 2 ^ n → ∀ m, m < 2 ^ n → b ||| m < 2 ^ n := fun _n _ _b hb _m hm => Nat.or_lt_two_pow hb hm
theorem wst_lnB {ps ts xs : List P} (hp : lnB ps) (ht : lnB ts) (hx : lnB xs) {b m : Nat} (hb : b < 64) (hm : m < 64) : lnB (wst ps ts xs b m) := by
  unfold wst
  split
  · rename_i hc
    refine lnB_set hx _ ?_
    rw [or_add b hb m hm hc.2.2.1]
    have h1 := lnB_getD hp b
    have h2 := lnB_getD ht m
    show ((ps.getD b default).l ++ (ts.getD m default).l).length ≤ _
    rw [List.length_append]
    omega
  · exact hx
theorem win_lnB {ps ts xs : List P} (hp : lnB ps) (ht : lnB ts) (hx : lnB xs) {b : Nat} (hb : b < 64) : ∀ {m}, m ≤ 64 → lnB (win ps ts xs b m)
  | 0, _ => hx
  | m + 1, h => wst_lnB hp ht (win_lnB hp ht hx hb (by omega)) hb (by omega)
theorem wit_lnB {ps ts : List P} (hp : lnB ps) (ht : lnB ts) (hl : ts.length ≤ 64) : ∀ {b}, b ≤ 64 → lnB (wit ps ts b)
  | 0, _ => hp
  | b + 1, h => win_lnB hp ht (wit_lnB hp ht hl (by omega)) (by omega) hl
theorem few_lnB {j : J} (hj : j.ss.length ≤ 6) (c : Int) : ∀ k, lnB (few j c k)
  | 0 => lnB_noP _
  | k + 1 => by
    have hp : 2 ^ j.ss.length ≤ 2 ^ 6 := Nat.pow_le_pow_right (by omega) hj
    rw [few]
    split
    · exact wit_lnB (few_lnB hj c k) (tig_lnB j k _) (by rw [tig_len]; exact hp) (by rw [few_len]; exact hp)
    · exact few_lnB hj c k
end Fl
end Go.Proofs.Ytpobkdbnldogcaa
