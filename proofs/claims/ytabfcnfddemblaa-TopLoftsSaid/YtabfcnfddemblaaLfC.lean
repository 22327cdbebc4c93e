/- Goods and plans in plain words: which are valid, and the first error of a plan. -/
import Derived.Test.YtabfcnfddemblaaLfQ
namespace Go.Proofs.Ytabfcnfddemblaa
namespace Lf

def okG (g : G) : Bool := rng 1 40 g.p && (isRp g.n g.m && (rng 0 60 g.a && rng g.a 60 g.u))
theorem okG_iff {g : G} : okG g = true ↔ (1 ≤ g.p ∧ g.p ≤ 40) ∧ ((1 ≤ g.n ∧ g.n ≤ 60) ∧ (g.n ≤ g.m ∧ g.m ≤ 60)) ∧ (0 ≤ g.a ∧ g.a ≤ 60) ∧ (g.a ≤ g.u ∧ g.u ≤ 60) := by
  unfold okG
  simp only [Bool.and_eq_true, rng_iff, isRp_iff]
def valG (l : List G) : Int := if 8 < l.length then 4 else if l.all okG = true then 0 else 1
theorem valG_long {l : List G} (h : 8 < l.length) : valG l = 4 := if_pos h
theorem valG_ok {l : List G} (h : ¬ 8 < l.length) (hv : ∀ k (hk : k < l.length), okG l[k] = true) : valG l = 0 := by
  rw [valG, if_neg h, if_pos]
  rw [List.all_eq_true]
  intro x hx
  obtain ⟨k, hk, rfl⟩ := List.mem_iff_getElem.1 hx
  exact hv k hk
theorem valG_bad {l : List G} (h : ¬ 8 < l.length) {k : Nat} (hk : k < l.length) (hv : okG l[k] = false) : valG l = 1 := by
  rw [valG, if_neg h, if_neg]
  rw [List.all_eq_true]
  intro hc
  rw [hc _ (List.getElem_mem hk)] at hv; cases hv
theorem valG_zero {l : List G} (h : valG l = 0) : l.length ≤ 8 ∧ ∀ k (hk : k < l.length), okG l[k] = true := by
  unfold valG at h
  by_cases h8 : 8 < l.length
  · rw [if_pos h8] at h; omega
  · rw [if_neg h8] at h
    by_cases ha : l.all okG = true
    · exact ⟨by omega, fun k hk => List.all_eq_true.1 ha _ (List.getElem_mem hk)⟩
    · rw [if_neg ha] at h; omega
theorem valG_one {g : G} : valG [g] = 0 ↔ okG g = true := by
  constructor
  · intro h; exact (valG_zero h).2 0 (by simp)
  · intro h; exact valG_ok (by simp) (fun k hk => by
      have e : k = 0 := by simpa using hk
      subst e
      exact h)
def bthE (ls : List F) (gs : List G) : Int := if valF ls = 0 then valG gs else valF ls
theorem bth_zero {ls : List F} {gs : List G} (h : bthE ls gs = 0) : valF ls = 0 ∧ valG gs = 0 := by
  unfold bthE at h
  by_cases c : valF ls = 0
  · rw [if_pos c] at h; exact ⟨c, h⟩
  · rw [if_neg c] at h; exact absurd h c

/-- A set of numbers below a limit. -/
def lsz (l : List Int) : Nat → Int
  | 0 => 0
  | k + 1 => l.getD k 0 + 1
def stAt (l : List Int) (n : Int) (k : Nat) : Bool := rng (lsz l k) (n - 1) (l.getD k 0)
def stB (l : List Int) (n : Int) : Bool := (List.range l.length).all (stAt l n)
theorem stB_iff {l : List Int} {n : Int} : stB l n = true ↔ ∀ k, k < l.length → stAt l n k = true := by
  unfold stB
  rw [List.all_eq_true]
  exact ⟨fun h k hk => h k (List.mem_range.2 hk), fun h k hk => h k (List.mem_range.1 hk)⟩
theorem stB_bad {l : List Int} {n : Int} {k : Nat} (hk : k < l.length) (h : stAt l n k = false) : stB l n = false := by
  apply Bool.eq_false_iff.2
  intro hc; rw [stB_iff.1 hc k hk] at h; cases h
theorem st_bd {l : List Int} {n : Int} (h : ∀ k, k < l.length → stAt l n k = true) : ∀ k, k < l.length → 0 ≤ l.getD k 0 ∧ l.getD k 0 < n
  | 0, h0 => by have := rng_iff.1 (h 0 h0); simp only [lsz] at this; omega
  | k + 1, hk => by
    have a := rng_iff.1 (h (k + 1) hk)
    have b := st_bd h k (by omega)
    simp only [lsz] at a; omega
theorem st_lt {l : List Int} {n : Int} (h : ∀ k, k < l.length → stAt l n k = true) : ∀ k j, j < k → k < l.length → l.getD j 0 < l.getD k 0
  | k + 1, j, hj, hk => by
    have a := rng_iff.1 (h (k + 1) hk)
    simp only [lsz] at a
    by_cases e : j = k
    · subst e; omega
    · have := st_lt h k j (by omega) (by omega); omega
/-- A set of numbers of goods is no longer than the goods. -/
theorem st_len {l : List Int} {n : Nat} (h : stB l n = true) : l.length ≤ n := by
  have h1 := stB_iff.1 h
  have : ∀ k, k < l.length → (k : Int) ≤ l.getD k 0 := by
    intro k
    induction k with
    | zero => intro hk; exact (st_bd h1 0 hk).1
    | succ k ih =>
      intro hk
      have a := ih (by omega)
      have b := st_lt h1 (k + 1) k (by omega) hk
      omega
  by_cases e : l.length = 0
  · omega
  · have a := this (l.length - 1) (by omega)
    have b := (st_bd h1 (l.length - 1) (by omega)).2
    omega

def gat (gs : List G) (n : Int) : G := gs.getD n.toNat default
theorem gat_at {gs : List G} {n : Int} (h : n.toNat < gs.length) : gat gs n = gs[n.toNat] := by unfold gat; simp [h]
def tg1 (a g : G) : G := ⟨a.p + g.p, max a.n g.n, min a.m g.m, max a.a g.a, min a.u g.u⟩
/-- What the first goods of a list need together, and one more. -/
def tog (gs : List G) (l : List Int) : Nat → G
  | 0 => gat gs (l.getD 0 0)
  | k + 1 => tg1 (tog gs l k) (gat gs (l.getD (k + 1) 0))
def togA (gs : List G) (l : List Int) : G := tog gs l (l.length - 1)
theorem tog_bd {gs : List G} (hg : ∀ k (hk : k < gs.length), okG gs[k] = true) {l : List Int} (hl : ∀ k, k < l.length → 0 ≤ l.getD k 0 ∧ l.getD k 0 < gs.length) :
    ∀ k, k < l.length → (k + 1 ≤ (tog gs l k).p ∧ (tog gs l k).p ≤ 40 * (k + 1)) ∧ (1 ≤ (tog gs l k).n ∧ (tog gs l k).n ≤ 60) ∧ (1 ≤ (tog gs l k).m ∧ (tog gs l k).m ≤ 60) ∧ (0 ≤ (tog gs l k).a ∧ (tog gs l k).a ≤ 60) ∧ (0 ≤ (tog gs l k).u ∧ (tog gs l k).u ≤ 60) := by
  intro k
  induction k with
  | zero =>
    intro hk
    have h1 := hl 0 hk
    have h2 : gat gs (l.getD 0 0) = gs[(l.getD 0 0).toNat]'(by omega) := gat_at (by omega)
    have h3 := okG_iff.1 (hg (l.getD 0 0).toNat (by omega))
    rw [tog, h2]
    omega
  | succ k ih =>
    intro hk
    have h0 := ih (by omega)
    have h1 := hl (k + 1) hk
    have h2 : gat gs (l.getD (k + 1) 0) = gs[(l.getD (k + 1) 0).toNat]'(by omega) := gat_at (by omega)
    have h3 := okG_iff.1 (hg (l.getD (k + 1) 0).toNat (by omega))
    rw [tog, h2]
    simp only [tg1]
    omega
/-- What the errors of a load by itself ask: its poles, and each goods. -/
theorem tog_a {gs : List G} {l : List Int} {x : Int} : ∀ k, (x < (tog gs l k).a ↔ ∃ j, j ≤ k ∧ x < (gat gs (l.getD j 0)).a)
  | 0 => by
    rw [tog]
    exact ⟨fun h => ⟨0, Nat.le_refl _, h⟩, fun ⟨j, hj, h⟩ => by obtain rfl : j = 0 := by omega
                                                                exact h⟩
  | k + 1 => by
    rw [tog]
    simp only [tg1]
    have ih := tog_a (gs := gs) (l := l) (x := x) k
    constructor
    · intro h
      by_cases c : x < (tog gs l k).a
      · obtain ⟨j, hj, h2⟩ := ih.1 c; exact ⟨j, by omega, h2⟩
      · exact ⟨k + 1, Nat.le_refl _, by omega⟩
    · rintro ⟨j, hj, h⟩
      by_cases e : j = k + 1
      · subst e; omega
      · have := ih.2 ⟨j, by omega, h⟩; omega
theorem tog_u {gs : List G} {l : List Int} {x : Int} : ∀ k, ((tog gs l k).u < x ↔ ∃ j, j ≤ k ∧ (gat gs (l.getD j 0)).u < x)
  | 0 => by
    rw [tog]
    exact ⟨fun h => ⟨0, Nat.le_refl _, h⟩, fun ⟨j, hj, h⟩ => by obtain rfl : j = 0 := by omega
                                                                exact h⟩
  | k + 1 => by
    rw [tog]
    simp only [tg1]
    have ih := tog_u (gs := gs) (l := l) (x := x) k
    constructor
    · intro h
      by_cases c : (tog gs l k).u < x
      · obtain ⟨j, hj, h2⟩ := ih.1 c; exact ⟨j, by omega, h2⟩
      · exact ⟨k + 1, Nat.le_refl _, by omega⟩
    · rintro ⟨j, hj, h⟩
      by_cases e : j = k + 1
      · subst e; omega
      · have := ih.2 ⟨j, by omega, h⟩; omega
theorem tog_w {gs : List G} {l : List Int} {x : Int} : ∀ k, (rng (tog gs l k).n (tog gs l k).m x = false ↔ ∃ j, j ≤ k ∧ rng (gat gs (l.getD j 0)).n (gat gs (l.getD j 0)).m x = false)
  | 0 => by
    rw [tog]
    exact ⟨fun h => ⟨0, Nat.le_refl _, h⟩, fun ⟨j, hj, h⟩ => by obtain rfl : j = 0 := by omega
                                                                exact h⟩
  | k + 1 => by
    rw [tog]
    simp only [tg1]
    have ih := tog_w (gs := gs) (l := l) (x := x) k
    simp only [Bool.eq_false_iff, ne_eq, rng_iff] at ih ⊢
    constructor
    · intro h
      by_cases c : (tog gs l k).n ≤ x ∧ x ≤ (tog gs l k).m
      · exact ⟨k + 1, Nat.le_refl _, by omega⟩
      · obtain ⟨j, hj, h2⟩ := ih.1 c; exact ⟨j, by omega, h2⟩
    · rintro ⟨j, hj, h⟩
      by_cases e : j = k + 1
      · subst e; omega
      · have := ih.2 ⟨j, by omega, h⟩; omega

/-- The errors of a load by itself. -/
def end' (x : L) : Int := x.a + x.hs.length
def vLE (ls : List F) (gs : List G) (x : L) : Int :=
  if rng 0 ((ls.length : Int) - 1) x.l = true then (if (rng 0 60 x.a && (vHt x.hs && (decide (0 < x.gs.length) && stB x.gs gs.length))) = true then 0 else 1) else 5
def fat (ls : List F) (n : Int) : F := ls.getD n.toNat default
def ckE (r w e : Int) (x : L) (t : G) : Int := if r < t.p then 6 else if x.a < t.a then 7 else if rng t.n t.m w = true then (if t.u < e then 12 else 0) else 9
def slE (ls : List F) (gs : List G) (x : L) : Int :=
  if vLE ls gs x = 0 then ckE (fat ls x.l).p (wm (fat ls x.l).rs x.hs x.hs.length) (end' x) x (togA gs x.gs) else vLE ls gs x
/-- Whether two loads have common goods, or a common day in one loft. -/
def shr (x y : L) : Bool := x.gs.any fun n => y.gs.any fun m => decide (n = m)
def mts (x y : L) : Bool := decide (x.l = y.l) && (decide (x.a < end' y) && decide (y.a < end' x))
/-- The error of a load behind some others. -/
def ldE (ls : List F) (gs : List G) (pre : List L) (x : L) : Int :=
  if slE ls gs x = 0 then (if pre.any (shr x) = true then 8 else if pre.any (mts x) = true then 10 else 0) else slE ls gs x
def hsG (plan : List L) (n : Int) : Bool := plan.any fun x => x.gs.any fun m => decide (m = n)
def cov (gs : List G) (plan : List L) : Bool := (List.range gs.length).all fun (n : Nat) => hsG plan (n : Int)
/-- The first error of the loads from a number on. -/
def ckL (ls : List F) (gs : List G) (plan : List L) : Nat → Nat → Int
  | 0, _ => if cov gs plan = true then 0 else 11
  | n + 1, k => if ldE ls gs (plan.take k) (plan.getD k default) = 0 then ckL ls gs plan n (k + 1) else ldE ls gs (plan.take k) (plan.getD k default)
def chkE (ls : List F) (gs : List G) (plan : List L) : Int := if bthE ls gs = 0 then ckL ls gs plan plan.length 0 else bthE ls gs
end Lf
end Go.Proofs.Ytabfcnfddemblaa
