/- Cutting a band, in plain words: which pieces can be cut, what all beginnings of a band are worth, and the spans in which an article can be cut. Cuttings and what they are worth, in plain words: accepted cuttings, the greatest values of all beginnings, potentials. Places, bounds and best cuttings, in plain words. Parts of a band, fewer articles, the reversed band; greedy cuttings and waste, in plain words. -/
import Derived.Test.YtbmjjmpdlmbehaaBand46
namespace Go.Proofs.Ytbmjjmpdlmbehaa

namespace Ro
open Bd
structure A where
  l : Int
  la : Int
  mo : Int
  sh : Int
  fl : Int
  p : Int
instance : Inhabited A := ⟨⟨0, 0, 0, 0, 0, 0⟩⟩
structure X where
  f : Int
  a : Int
instance : Inhabited X := ⟨⟨0, 0⟩⟩
theorem X.ext' {a b : X} (h1 : a.f = b.f) (h2 : a.a = b.a) : a = b := by cases a; cases b; simp_all
def okA (a : A) : Bool := decide (1 ≤ a.l) && decide (a.l ≤ 300) && (decide (0 ≤ a.p) && decide (a.p ≤ 10000))
def valA (al : List A) : Int := if 5 < al.length then 4 else if al.all okA = false then 1 else 0
def layE (rs : List R) (al : List A) : Int := if valE rs = 0 then (if 300 < len rs then 4 else valA al) else valE rs
theorem layE_zero {rs : List R} {al : List A} : layE rs al = 0 ↔ valE rs = 0 ∧ len rs ≤ 300 ∧ al.length ≤ 5 ∧ ∀ a ∈ al, okA a = true := by
  unfold layE valA
  constructor
  · intro h
    split at h
    · split at h
      · omega
      · split at h
        · omega
        · split at h
          · omega
          · rename_i h1 h2 h3 h4
            refine ⟨h1, by omega, by omega, ?_⟩
            have : al.all okA = true := by cases h5 : al.all okA <;> simp_all
            exact List.all_eq_true.1 this
    · contradiction
  · rintro ⟨h1, h2, h3, h4⟩
    rw [if_pos h1, if_neg (by omega), if_neg (by omega), if_neg]
    have : al.all okA = true := List.all_eq_true.2 h4
    rw [this]; simp
theorem okA_iff {a : A} : okA a = true ↔ (1 ≤ a.l ∧ a.l ≤ 300) ∧ 0 ≤ a.p ∧ a.p ≤ 10000 := by simp [okA, and_assoc]
/-- The mark of a place. -/
def mk (ms : List M) (i : Nat) : M := ms.getD i default
def hd (a : A) (m : M) : Bool := holds a.la a.mo a.sh a.fl m
/-- Whether an article can be cut at a place, place by place. -/
def fit (ms : List M) (a : A) (f : Int) : Bool := decide (0 ≤ f) && decide (f + a.l ≤ ms.length) && (List.range a.l.toNat).all fun i => hd a (mk ms (f.toNat + i))
def fitX (ms : List M) (al : List A) (x : X) : Bool := decide (0 ≤ x.a) && decide (x.a < al.length) && fit ms (al.getD x.a.toNat default) x.f
/-- Whether it can be cut at a place, by spans. -/
def inS (l : Int) (ss : List S) (f : Int) : Bool := ss.any fun s => decide (s.f ≤ f) && decide (f ≤ s.t - l)
theorem fit_iff {ms : List M} {a : A} {f : Int} : fit ms a f = true ↔ 0 ≤ f ∧ f + a.l ≤ ms.length ∧ ∀ i : Nat, (i : Int) < a.l → hd a (mk ms (f.toNat + i)) = true := by
  simp only [fit, Bool.and_eq_true, decide_eq_true_eq, List.all_eq_true, List.mem_range]
  constructor
  · rintro ⟨⟨h1, h2⟩, h3⟩; exact ⟨h1, h2, fun i hi => h3 i (by omega)⟩
  · rintro ⟨h1, h2, h3⟩; exact ⟨⟨h1, h2⟩, fun i hi => h3 i (by omega)⟩
theorem inS_iff {l : Int} {ss : List S} {f : Int} : inS l ss f = true ↔ ∃ s ∈ ss, s.f ≤ f ∧ f + l ≤ s.t := by
  simp only [inS, List.any_eq_true, Bool.and_eq_true, decide_eq_true_eq]
  constructor
  · rintro ⟨s, h1, h2, h3⟩; exact ⟨s, h1, h2, by omega⟩
  · rintro ⟨s, h1, h2, h3⟩; exact ⟨s, h1, h2, by omega⟩
/-- Spans in order, with gaps between them. -/
def gaps : List S → Prop
  | [] => True
  | s :: ss => s.f < s.t ∧ (∀ r ∈ ss, s.t < r.f) ∧ gaps ss
theorem gaps_two {ss : List S} (h : gaps ss) : ∀ {x y : S}, x ∈ ss → y ∈ ss → x = y ∨ x.t < y.f ∨ y.t < x.f := by
  induction ss with
  | nil => intro x y hx; cases hx
  | cons s ss ih =>
    intro x y hx hy
    rcases List.mem_cons.1 hx with hx1 | hx1
    · rcases List.mem_cons.1 hy with hy1 | hy1
      · exact .inl (hx1.trans hy1.symm)
      · exact .inr (.inl (by rw [hx1]; exact h.2.1 y hy1))
    · rcases List.mem_cons.1 hy with hy1 | hy1
      · exact .inr (.inr (by rw [hy1]; exact h.2.1 x hx1))
      · exact ih h.2.2 hx1 hy1
theorem gaps_pos {ss : List S} (h : gaps ss) : ∀ x ∈ ss, x.f < x.t := by
  induction ss with
  | nil => intro x hx; cases hx
  | cons s ss ih =>
    intro x hx
    rcases List.mem_cons.1 hx with rfl | hx
    · exact h.1
    · exact ih h.2.2 x hx
theorem gaps_snoc {ss : List S} {s : S} : gaps (ss ++ [s]) ↔ gaps ss ∧ s.f < s.t ∧ ∀ r ∈ ss, r.t < s.f := by
  induction ss with
  | nil => simp [gaps]
  | cons r ss ih =>
    simp only [List.cons_append, gaps, ih]
    constructor
    · rintro ⟨h1, h2, h3, h4, h5⟩
      refine ⟨⟨h1, fun x hx => h2 x (by simp [hx]), h3⟩, h4, fun x hx => ?_⟩
      rcases List.mem_cons.1 hx with rfl | hx
      · exact h2 s (by simp)
      · exact h5 x hx
    · rintro ⟨⟨h1, h2, h3⟩, h4, h5⟩
      refine ⟨h1, fun x hx => ?_, h3, h4, fun x hx => h5 x (by simp [hx])⟩
      rcases List.mem_append.1 hx with hx | hx
      · exact h2 x hx
      · obtain rfl : x = s := by simpa using hx
        exact h5 r (by simp)
/-- The spans of what holds, up to a place. -/
def cov (Q : Nat → Bool) (L : Int) (ss : List S) : Prop :=
  gaps ss ∧ (∀ s ∈ ss, 0 ≤ s.f ∧ s.t ≤ L) ∧ ∀ i : Nat, (i : Int) < L → (Q i = true ↔ ∃ s ∈ ss, s.f ≤ i ∧ i < s.t)
theorem cov_zero (Q : Nat → Bool) : cov Q 0 [] := ⟨trivial, by simp, fun i h => by omega⟩
theorem cov_skip {Q : Nat → Bool} {L L' : Int} {ss : List S} (h : cov Q L ss) (hl : L ≤ L') (hm : ∀ i : Nat, L ≤ i → (i : Int) < L' → Q i = false) : cov Q L' ss := by
  obtain ⟨h1, h2, h3⟩ := h
  refine ⟨h1, fun s hs => ⟨(h2 s hs).1, by have := (h2 s hs).2; omega⟩, fun i hi => ?_⟩
  by_cases h4 : (i : Int) < L
  · exact h3 i h4
  · rw [hm i (by omega) hi]
    constructor
    · intro h; simp at h
    · rintro ⟨s, hs, _, h6⟩; have := (h2 s hs).2; omega
theorem cov_push {Q : Nat → Bool} {L L' : Int} {ss : List S} (h : cov Q L ss) (h0 : 0 ≤ L) (hl : L < L') (hm : ∀ i : Nat, L ≤ i → (i : Int) < L' → Q i = true) : cov Q L' (pushS ss ⟨L, L'⟩) := by
  obtain ⟨h1, h2, h3⟩ := h
  rcases snocS_cases ss with rfl | ⟨b, q, rfl⟩
  · rw [pushS_nil]
    refine ⟨⟨hl, by simp, trivial⟩, by simp; omega, fun i hi => ?_⟩
    by_cases h4 : (i : Int) < L
    · rw [h3 i h4]; simp; omega
    · rw [hm i (by omega) hi]; simp; omega
  · rw [pushS_snoc]
    obtain ⟨g1, g2, g3⟩ := gaps_snoc.1 h1
    have hq := h2 q (by simp)
    split
    · rename_i e
      have e : q.t = L := e
      refine ⟨gaps_snoc.2 ⟨g1, by dsimp only; omega, g3⟩, fun s hs => ?_, fun i hi => ?_⟩
      · rcases List.mem_append.1 hs with hs | hs
        · have := h2 s (by simp [hs]); omega
        · obtain rfl : s = ⟨q.f, L'⟩ := by simpa using hs
          dsimp only; omega
      · by_cases h4 : (i : Int) < L
        · rw [h3 i h4]
          constructor
          · rintro ⟨s, hs, h5, h6⟩
            rcases List.mem_append.1 hs with hs | hs
            · exact ⟨s, by simp [hs], h5, h6⟩
            · obtain rfl : s = q := by simpa using hs
              exact ⟨⟨s.f, L'⟩, by simp, h5, hi⟩
          · rintro ⟨s, hs, h5, h6⟩
            rcases List.mem_append.1 hs with hs | hs
            · exact ⟨s, by simp [hs], h5, h6⟩
            · obtain rfl : s = ⟨q.f, L'⟩ := by simpa using hs
              exact ⟨q, by simp, h5, by omega⟩
        · rw [hm i (by omega) hi]
          exact ⟨fun _ => ⟨⟨q.f, L'⟩, by simp, by dsimp only; omega, hi⟩, fun _ => rfl⟩
    · rename_i e
      have e : q.t ≠ L := e
      refine ⟨gaps_snoc.2 ⟨h1, hl, fun r hr => ?_⟩, fun s hs => ?_, fun i hi => ?_⟩
      · dsimp only
        rcases List.mem_append.1 hr with hr | hr
        · have := g3 r hr; omega
        · obtain rfl : r = q := by simpa using hr
          omega
      · rcases List.mem_append.1 hs with hs | hs
        · have := h2 s hs; omega
        · obtain rfl : s = ⟨L, L'⟩ := by simpa using hs
          dsimp only; omega
      · by_cases h4 : (i : Int) < L
        · rw [h3 i h4]
          constructor
          · rintro ⟨s, hs, h5, h6⟩; exact ⟨s, List.mem_append_left _ hs, h5, h6⟩
          · rintro ⟨s, hs, h5, h6⟩
            rcases List.mem_append.1 hs with hs | hs
            · exact ⟨s, hs, h5, h6⟩
            · obtain rfl : s = ⟨L, L'⟩ := by simpa using hs
              dsimp only at h5; omega
        · rw [hm i (by omega) hi]
          exact ⟨fun _ => ⟨⟨L, L'⟩, by simp, by dsimp only; omega, hi⟩, fun _ => rfl⟩
theorem mk_exp {rs : List R} (h : pos rs) {k : Nat} (hk : k < rs.length) {i : Nat} (h1 : len (rs.take k) ≤ i) (h2 : (i : Int) < len (rs.take (k + 1))) : mk (exp rs) i = rs[k].m := by
  have := exp_at h hk (p := (i : Int)) h1 (by rw [← len_take_succ hk]; exact h2)
  unfold mk
  simp only [Int.toNat_natCast] at this
  simp [List.getD, this]
theorem spa_cov {rs : List R} (hf : fine rs) (a : A) : ∀ k, k ≤ rs.length → cov (fun i => hd a (mk (exp rs) i)) (len (rs.take k)) (normS (whS a.la a.mo a.sh a.fl (upto rs k)))
  | 0, _ => by simpa [upto, whS, normS, len] using cov_zero _
  | k + 1, hk => by
    have ih := spa_cov hf a k (by omega)
    have hx := spk_eq hf (show k < rs.length by omega)
    have hp : pos rs := hf.2.1
    have hs := len_take_succ (show k < rs.length by omega)
    have hpk : 0 < rs[k].l := hp _ (List.getElem_mem (by omega))
    have h0 : 0 ≤ len (rs.take k) := len_nonneg (pos_take hp k)
    rw [normS_wh hx]
    dsimp only
    cases hh : holds a.la a.mo a.sh a.fl rs[k].m
    · rw [if_neg (by simp)]
      exact cov_skip ih (by omega) fun i h1 h2 => by dsimp only [hd]; rw [mk_exp hp (by omega) h1 h2]; exact hh
    · rw [if_pos rfl]
      exact cov_push ih h0 (by omega) fun i h1 h2 => by dsimp only [hd]; rw [mk_exp hp (by omega) h1 h2]; exact hh
theorem cov_fit {a : A} {ms : List M} {ss : List S} (h : cov (fun i => hd a (mk ms i)) ms.length ss) (ha : 1 ≤ a.l) (f : Int) : inS a.l ss f = fit ms a f := by
  obtain ⟨h1, h2, h3⟩ := h
  rw [Bool.eq_iff_iff, inS_iff, fit_iff]
  constructor
  · rintro ⟨s, hs, h4, h5⟩
    have := h2 s hs
    refine ⟨by omega, by omega, fun i hi => ?_⟩
    exact (h3 (f.toNat + i) (by omega)).2 ⟨s, hs, by omega, by omega⟩
  · rintro ⟨h4, h5, h6⟩
    obtain ⟨s, hs, h7, h8⟩ := (h3 f.toNat (by omega)).1 (by have := h6 0 (by omega); simpa using this)
    refine ⟨s, hs, by omega, ?_⟩
    by_cases h9 : f + a.l ≤ s.t
    · exact h9
    exfalso
    obtain ⟨r, hr, h10, h11⟩ := (h3 s.t.toNat (by omega)).1 (by have := h6 (s.t - f).toNat (by omega); rwa [show f.toNat + (s.t - f).toNat = s.t.toNat by omega] at this)
    rcases gaps_two h1 hs hr with rfl | h12 | h12
    · omega
    · omega
    · omega
theorem fit_spa {rs : List R} (hf : fine rs) {a : A} (ha : 1 ≤ a.l) (f : Int) : inS a.l (spa a.la a.mo a.sh a.fl rs) f = fit (exp rs) a f := by
  refine cov_fit ?_ ha f
  have := spa_cov hf a rs.length (Nat.le_refl _)
  rw [List.take_length, len_exp (hf.2.1)] at this
  exact this
end Ro
end Go.Proofs.Ytbmjjmpdlmbehaa
namespace Go.Proofs.Ytbmjjmpdlmbehaa

namespace Ro
open Bd
def art (al : List A) (n : Int) : A := al.getD n.toNat default
/-- The first error of a cutting whose places before a number are used. -/
def chk (ms : List M) (al : List A) : Int → List X → Int
  | _, [] => 0
  | lo, x :: xs => if fitX ms al x = true then (if x.f < lo then 7 else chk ms al (x.f + (art al x.a).l) xs) else 11
def val (al : List A) : List X → Int
  | [] => 0
  | x :: xs => (art al x.a).p + val al xs
theorem val_append (al : List A) (x y : List X) : val al (x ++ y) = val al x + val al y := by
  induction x with
  | nil => simp [val]
  | cons a x ih => simp only [List.cons_append, val, ih]; omega
theorem fitX_iff {ms : List M} {al : List A} {x : X} : fitX ms al x = true ↔ 0 ≤ x.a ∧ x.a < al.length ∧ fit ms (art al x.a) x.f = true := by
  simp only [fitX, Bool.and_eq_true, decide_eq_true_eq, art, and_assoc]
theorem art_mem {al : List A} {n : Int} (h1 : 0 ≤ n) (h2 : n < al.length) : art al n ∈ al := by
  unfold art
  rw [List.getD_eq_getElem?_getD, List.getElem?_eq_getElem (show n.toNat < al.length by omega)]
  exact List.getElem_mem _
theorem chk_cons {ms : List M} {al : List A} {lo : Int} {x : X} {xs : List X} : chk ms al lo (x :: xs) = 0 ↔ fitX ms al x = true ∧ lo ≤ x.f ∧ chk ms al (x.f + (art al x.a).l) xs = 0 := by
  rw [chk]
  split
  · split
    · constructor
      · intro h; omega
      · rintro ⟨_, h, _⟩; omega
    · constructor
      · intro h; exact ⟨by assumption, by omega, h⟩
      · rintro ⟨_, _, h⟩; exact h
  · constructor
    · intro h; omega
    · rintro ⟨h, _⟩; contradiction
theorem chk_mono {ms : List M} {al : List A} : ∀ {xs : List X} {lo lo' : Int}, chk ms al lo xs = 0 → lo' ≤ lo → chk ms al lo' xs = 0
  | [], _, _, _, _ => rfl
  | x :: xs, lo, lo', h, hl => by
    obtain ⟨h1, h2, h3⟩ := chk_cons.1 h
    exact chk_cons.2 ⟨h1, by omega, h3⟩
def upd (f : Nat → Int) (i : Nat) (v : Int) : Nat → Int := fun j => if j = i then v else f j
theorem upd_same (f : Nat → Int) (i : Nat) (v : Int) : upd f i v i = v := if_pos rfl
theorem upd_other {f : Nat → Int} {i j : Nat} (v : Int) (h : j ≠ i) : upd f i v j = f j := if_neg h
theorem upd_upd (f : Nat → Int) (i : Nat) (u v : Int) : upd (upd f i u) i v = upd f i v := by funext j; unfold upd; split <;> rfl
/-- What a last piece of one article that ends at a place makes of the best value so far. -/
def one (ms : List M) (f : Nat → Int) (e : Int) (b : Int) (a : A) : Int := if fit ms a (e - a.l) = true then max b (f (e - a.l).toNat + a.p) else b
def stp (ms : List M) (al : List A) (f : Nat → Int) (e : Nat) : Int := al.foldl (one ms f e) (f (e - 1))
/-- The greatest values of the beginnings, up to one. -/
def wf (ms : List M) (al : List A) : Nat → Nat → Int
  | 0 => fun _ => 0
  | k + 1 => upd (wf ms al k) (k + 1) (stp ms al (wf ms al k) (k + 1))
def W (ms : List M) (al : List A) (n : Nat) : Int := wf ms al n n
theorem wf_le (ms : List M) (al : List A) : ∀ (k i : Nat), i ≤ k → wf ms al k i = W ms al i
  | 0, i, h => by obtain rfl : i = 0 := by omega
                  rfl
  | k + 1, i, h => by
    by_cases e : i = k + 1
    · subst e; rfl
    · rw [wf, upd_other _ e, wf_le ms al k i (by omega)]
theorem W_zero (ms : List M) (al : List A) : W ms al 0 = 0 := rfl
theorem W_succ (ms : List M) (al : List A) (k : Nat) : W ms al (k + 1) = stp ms al (wf ms al k) (k + 1) := by unfold W; rw [wf, upd_same]
theorem fold_ge (ms : List M) (f : Nat → Int) (e : Int) : ∀ (al : List A) (b : Int), b ≤ al.foldl (one ms f e) b
  | [], b => Int.le_refl b
  | a :: al, b => by
    refine Int.le_trans ?_ (fold_ge ms f e al _)
    unfold one; split
    · exact Int.le_max_left _ _
    · exact Int.le_refl b
theorem fold_has (ms : List M) (f : Nat → Int) (e : Int) : ∀ (al : List A) (b : Int) (a : A), a ∈ al → fit ms a (e - a.l) = true → f (e - a.l).toNat + a.p ≤ al.foldl (one ms f e) b
  | c :: al, b, a, h, hf => by
    rcases List.mem_cons.1 h with rfl | h
    · refine Int.le_trans ?_ (fold_ge ms f e al _)
      unfold one; rw [if_pos hf]; exact Int.le_max_right _ _
    · exact fold_has ms f e al _ a h hf
theorem fold_is (ms : List M) (f : Nat → Int) (e : Int) : ∀ (al : List A) (b : Int), al.foldl (one ms f e) b = b ∨ ∃ a ∈ al, fit ms a (e - a.l) = true ∧ al.foldl (one ms f e) b = f (e - a.l).toNat + a.p
  | [], b => .inl rfl
  | c :: al, b => by
    rcases fold_is ms f e al (one ms f e b c) with h | ⟨a, h1, h2, h3⟩
    · rw [List.foldl_cons, h]
      by_cases hc : fit ms c (e - c.l) = true
      · rw [one, if_pos hc]
        rcases Int.le_total b (f (e - c.l).toNat + c.p) with h4 | h4
        · rw [Int.max_eq_right h4]; exact .inr ⟨c, by simp, hc, rfl⟩
        · rw [Int.max_eq_left h4]; exact .inl rfl
      · rw [one, if_neg hc]; exact .inl rfl
    · exact .inr ⟨a, by simp [h1], h2, h3⟩
def okAs (al : List A) : Prop := ∀ a ∈ al, okA a = true
theorem W_mono1 (ms : List M) (al : List A) (k : Nat) : W ms al k ≤ W ms al (k + 1) := by
  rw [W_succ]
  refine Int.le_trans ?_ (fold_ge _ _ _ _ _)
  rw [show k + 1 - 1 = k by omega, wf_le _ _ _ _ (Nat.le_refl k)]
  exact Int.le_refl _
theorem W_mono (ms : List M) (al : List A) {i j : Nat} (h : i ≤ j) : W ms al i ≤ W ms al j := by
  induction j with
  | zero => obtain rfl : i = 0 := by omega
            exact Int.le_refl _
  | succ j ih =>
    by_cases e : i = j + 1
    · subst e; exact Int.le_refl _
    · exact Int.le_trans (ih (by omega)) (W_mono1 ms al j)
theorem W_nonneg (ms : List M) (al : List A) (k : Nat) : 0 ≤ W ms al k := W_mono ms al (Nat.zero_le k)
theorem W_step {ms : List M} {al : List A} (ho : okAs al) {a : A} (ha : a ∈ al) {f : Int} (hf : fit ms a f = true) : W ms al f.toNat + a.p ≤ W ms al (f + a.l).toNat := by
  obtain ⟨h1, h2, _⟩ := fit_iff.1 hf
  obtain ⟨⟨h3, h4⟩, _⟩ := okA_iff.1 (ho a ha)
  obtain ⟨k, hk⟩ : ∃ k, (f + a.l).toNat = k + 1 := ⟨(f + a.l).toNat - 1, by omega⟩
  have e : ((k + 1 : Nat) : Int) - a.l = f := by omega
  rw [hk, W_succ]
  have := fold_has ms (wf ms al k) ((k + 1 : Nat) : Int) al (wf ms al k (k + 1 - 1)) a ha (by rw [e]; exact hf)
  rw [e, wf_le ms al k f.toNat (by omega)] at this
  exact this
theorem W_last {ms : List M} {al : List A} (ho : okAs al) (k : Nat) : W ms al (k + 1) = W ms al k ∨ ∃ a ∈ al, fit ms a ((k + 1 : Nat) - a.l) = true ∧ W ms al (k + 1) = W ms al ((k + 1 : Nat) - a.l).toNat + a.p := by
  rcases fold_is ms (wf ms al k) ((k + 1 : Nat) : Int) al (wf ms al k (k + 1 - 1)) with h | ⟨a, h1, h2, h3⟩
  · refine .inl ?_
    rw [W_succ, stp, h, show k + 1 - 1 = k by omega, wf_le _ _ _ _ (Nat.le_refl k)]
  · refine .inr ⟨a, h1, h2, ?_⟩
    obtain ⟨⟨h4, _⟩, _⟩ := okA_iff.1 (ho a h1)
    rw [W_succ, stp, h3, wf_le ms al k _ (by omega)]
theorem W_bound {ms : List M} {al : List A} (ho : okAs al) : ∀ k : Nat, W ms al k ≤ k * 10000
  | 0 => by simp [W_zero]
  | k + 1 => by
    have ih := W_bound (ms := ms) ho k
    rcases W_last (ms := ms) ho k with h | ⟨a, h1, h2, h3⟩
    · rw [h]; omega
    · obtain ⟨⟨h4, h5⟩, h6, h7⟩ := okA_iff.1 (ho a h1)
      have h8 := W_mono ms al (show ((k + 1 : Nat) - a.l : Int).toNat ≤ k by omega)
      rw [h3]; omega
/-- Numbers that bound the value: they begin with 0, never fall, and rise at least by the price over each piece. -/
def pot (ms : List M) (al : List A) (P : Nat → Int) : Prop :=
  (∀ i j, i ≤ j → j ≤ ms.length → P i ≤ P j) ∧ ∀ a ∈ al, ∀ f : Int, fit ms a f = true → P f.toNat + a.p ≤ P (f + a.l).toNat
theorem pot_chk {ms : List M} {al : List A} {P : Nat → Int} (h : pot ms al P) (ho : okAs al) : ∀ {xs : List X} {lo : Int}, 0 ≤ lo → lo ≤ ms.length → chk ms al lo xs = 0 → P lo.toNat + val al xs ≤ P ms.length
  | [], lo, h1, h2, _ => by simp only [val]; have := h.1 lo.toNat ms.length (by omega) (Nat.le_refl _); omega
  | x :: xs, lo, h1, h2, hc => by
    obtain ⟨h3, h4, h5⟩ := chk_cons.1 hc
    obtain ⟨h6, h7, h8⟩ := fitX_iff.1 h3
    obtain ⟨h9, h10, _⟩ := fit_iff.1 h8
    have hm := art_mem h6 h7
    obtain ⟨⟨h11, _⟩, _⟩ := okA_iff.1 (ho _ hm)
    have h12 := h.2 _ hm _ h8
    have ih := pot_chk h ho (by omega) h10 h5
    have h13 := h.1 lo.toNat x.f.toNat (by omega) (by omega)
    simp only [val]; omega
theorem W_pot {ms : List M} {al : List A} (ho : okAs al) : pot ms al (W ms al) := ⟨fun _ _ h _ => W_mono ms al h, fun _ ha _ hf => W_step ho ha hf⟩
theorem val_le_W {ms : List M} {al : List A} (ho : okAs al) {xs : List X} (h : chk ms al 0 xs = 0) : val al xs ≤ W ms al ms.length := by
  have := pot_chk (W_pot ho) ho (Int.le_refl 0) (by omega) h
  simpa [W_zero] using this
end Ro
end Go.Proofs.Ytbmjjmpdlmbehaa
namespace Go.Proofs.Ytbmjjmpdlmbehaa

namespace Ro
open Bd
def up : List Int → Prop
  | [] => True
  | x :: xs => (∀ y ∈ xs, x < y) ∧ up xs
theorem up_ext : ∀ {xs ys : List Int}, up xs → up ys → (∀ z, z ∈ xs ↔ z ∈ ys) → xs = ys
  | [], [], _, _, _ => rfl
  | [], y :: ys, _, _, h => by have := (h y).2 (by simp); cases this
  | x :: xs, [], _, _, h => by have := (h x).1 (by simp); cases this
  | x :: xs, y :: ys, hx, hy, h => by
    have e : x = y := by
      rcases List.mem_cons.1 ((h x).1 (by simp)) with h1 | h1
      · exact h1
      · rcases List.mem_cons.1 ((h y).2 (by simp)) with h2 | h2
        · exact h2.symm
        · have := hy.1 x h1; have := hx.1 y h2; omega
    subst e
    refine congrArg (x :: ·) (up_ext hx.2 hy.2 fun z => ?_)
    constructor
    · intro hz
      rcases List.mem_cons.1 ((h z).1 (by simp [hz])) with h1 | h1
      · have := hx.1 z hz; omega
      · exact h1
    · intro hz
      rcases List.mem_cons.1 ((h z).2 (by simp [hz])) with h1 | h1
      · have := hy.1 z hz; omega
      · exact h1
theorem up_append {xs ys : List Int} : up (xs ++ ys) ↔ up xs ∧ up ys ∧ ∀ x ∈ xs, ∀ y ∈ ys, x < y := by
  induction xs with
  | nil => simp [up]
  | cons x xs ih =>
    simp only [List.cons_append, up, ih]
    constructor
    · rintro ⟨h1, h2, h3, h4⟩
      refine ⟨⟨fun y hy => h1 y (by simp [hy]), h2⟩, h3, fun z hz y hy => ?_⟩
      rcases List.mem_cons.1 hz with e | hz
      · rw [e]; exact h1 y (by simp [hy])
      · exact h4 z hz y hy
    · rintro ⟨⟨h1, h2⟩, h3, h4⟩
      refine ⟨fun y hy => ?_, h2, h3, fun z hz y hy => h4 z (by simp [hz]) y hy⟩
      rcases List.mem_append.1 hy with hy | hy
      · exact h1 y hy
      · exact h4 x (by simp) y hy
/-- The numbers from one to another, up to so many. -/
def seg (f : Int) (n : Nat) : List Int := (List.range n).map fun (i : Nat) => f + (i : Int)
theorem seg_succ (f : Int) (n : Nat) : seg f (n + 1) = seg f n ++ [f + (n : Int)] := by simp [seg, List.range_succ]
theorem seg_len (f : Int) (n : Nat) : (seg f n).length = n := by simp [seg]
theorem seg_mem {f : Int} {n : Nat} {z : Int} : z ∈ seg f n ↔ f ≤ z ∧ z < f + n := by
  simp only [seg, List.mem_map, List.mem_range]
  constructor
  · rintro ⟨i, h1, h2⟩; omega
  · rintro ⟨h1, h2⟩; exact ⟨(z - f).toNat, by omega, by omega⟩
theorem seg_up (f : Int) : ∀ n, up (seg f n)
  | 0 => trivial
  | n + 1 => by
    rw [seg_succ]
    refine up_append.2 ⟨seg_up f n, ⟨by simp, trivial⟩, fun x hx y hy => ?_⟩
    have := (seg_mem.1 hx).2
    obtain rfl : y = f + n := by simpa using hy
    exact this
/-- The places of one span. -/
def pls (l : Int) (s : S) : List Int := seg s.f (s.t - l + 1 - s.f).toNat
def plS (l : Int) (ss : List S) : List Int := ss.flatMap (pls l)
theorem plS_snoc (l : Int) (ss : List S) (s : S) : plS l (ss ++ [s]) = plS l ss ++ pls l s := by simp [plS]
theorem pls_mem {l : Int} {s : S} {z : Int} : z ∈ pls l s ↔ s.f ≤ z ∧ z + l ≤ s.t := by
  unfold pls; rw [seg_mem]; omega
theorem plS_mem {l : Int} {ss : List S} {z : Int} : z ∈ plS l ss ↔ inS l ss z = true := by
  rw [inS_iff, plS, List.mem_flatMap]
  constructor
  · rintro ⟨s, h1, h2⟩; exact ⟨s, h1, pls_mem.1 h2⟩
  · rintro ⟨s, h1, h2⟩; exact ⟨s, h1, pls_mem.2 h2⟩
theorem plS_up {l : Int} (hl : 1 ≤ l) : ∀ {ss : List S}, gaps ss → up (plS l ss)
  | [], _ => trivial
  | s :: ss, h => by
    have e : plS l (s :: ss) = pls l s ++ plS l ss := by simp [plS]
    rw [e]
    refine up_append.2 ⟨seg_up _ _, plS_up hl h.2.2, fun x hx y hy => ?_⟩
    have h1 := pls_mem.1 hx
    obtain ⟨r, h2, h3⟩ := inS_iff.1 (plS_mem.1 hy)
    have := h.2.1 r h2
    omega
/-- The places at which an article can be cut, of the first ones. -/
def plc (ms : List M) (a : A) (n : Nat) : List Int := ((List.range n).filter fun (i : Nat) => fit ms a i).map fun (i : Nat) => (i : Int)
theorem plc_succ (ms : List M) (a : A) (n : Nat) : plc ms a (n + 1) = plc ms a n ++ (if fit ms a n = true then [(n : Int)] else []) := by
  unfold plc
  rw [List.range_succ, List.filter_append, List.map_append]
  congr 1
  by_cases h : fit ms a n = true
  · rw [if_pos h]; simp [h]
  · rw [if_neg h]; simp [h]
theorem plc_mem {ms : List M} {a : A} {n : Nat} {z : Int} : z ∈ plc ms a n ↔ 0 ≤ z ∧ z < n ∧ fit ms a z = true := by
  simp only [plc, List.mem_map, List.mem_filter, List.mem_range]
  constructor
  · rintro ⟨i, ⟨h1, h2⟩, rfl⟩; exact ⟨by omega, by omega, h2⟩
  · rintro ⟨h1, h2, h3⟩
    refine ⟨z.toNat, ⟨by omega, ?_⟩, by omega⟩
    rw [show ((z.toNat : Nat) : Int) = z by omega]; exact h3
theorem plc_up (ms : List M) (a : A) : ∀ n, up (plc ms a n)
  | 0 => trivial
  | n + 1 => by
    rw [plc_succ]
    refine up_append.2 ⟨plc_up ms a n, by split <;> simp [up], fun x hx y hy => ?_⟩
    have := (plc_mem.1 hx).2.1
    split at hy
    · obtain rfl : y = n := by simpa using hy
      exact this
    · cases hy
theorem plc_len (ms : List M) (a : A) (n : Nat) : (plc ms a n).length ≤ n := by
  unfold plc
  rw [List.length_map]
  exact Nat.le_trans (List.length_filter_le _ _) (by simp)
theorem plS_plc {rs : List R} (hf : fine rs) {a : A} (ha : 1 ≤ a.l) : plS a.l (spa a.la a.mo a.sh a.fl rs) = plc (exp rs) a (exp rs).length := by
  have hc := spa_cov hf a rs.length (Nat.le_refl _)
  rw [List.take_length, len_exp hf.2.1] at hc
  refine up_ext (plS_up ha hc.1) (plc_up _ _ _) fun z => ?_
  rw [plS_mem, plc_mem]
  have := fit_spa hf ha z
  rw [this]
  constructor
  · intro h; obtain ⟨h1, h2, _⟩ := fit_iff.1 h; exact ⟨h1, by omega, h⟩
  · rintro ⟨_, _, h⟩; exact h
/-- What is asked of numbers before they bound anything. -/
def right (n : Nat) (ps : List Int) : Bool := decide (ps.length = n + 1) && (decide (ps.getD 0 0 = 0) && (List.range n).all fun i => decide (ps.getD i 0 ≤ ps.getD (i + 1) 0) && decide (ps.getD (i + 1) 0 ≤ 1099511627776))
theorem right_iff {n : Nat} {ps : List Int} : right n ps = true ↔ ps.length = n + 1 ∧ ps.getD 0 0 = 0 ∧ ∀ i, i < n → ps.getD i 0 ≤ ps.getD (i + 1) 0 ∧ ps.getD (i + 1) 0 ≤ 1099511627776 := by
  simp only [right, Bool.and_eq_true, decide_eq_true_eq, List.all_eq_true, List.mem_range]
theorem right_range {n : Nat} {ps : List Int} (h : right n ps = true) : ∀ i, i ≤ n → 0 ≤ ps.getD i 0 ∧ ps.getD i 0 ≤ 1099511627776
  | 0, _ => by rw [(right_iff.1 h).2.1]; omega
  | i + 1, hi => by have h1 := (right_iff.1 h).2.2 i (by omega); have h2 := right_range h i (by omega); omega
theorem right_mono {n : Nat} {ps : List Int} (h : right n ps = true) {i : Nat} : ∀ j, i ≤ j → j ≤ n → ps.getD i 0 ≤ ps.getD j 0
  | 0, h1, _ => by obtain rfl : i = 0 := by omega
                   exact Int.le_refl _
  | j + 1, h1, h2 => by
    by_cases e : i = j + 1
    · rw [e]; exact Int.le_refl _
    · exact Int.le_trans (right_mono h j (by omega) (by omega)) ((right_iff.1 h).2.2 j (by omega)).1
/-- Whether they rise enough over a piece, if it can be cut. -/
def rise (ms : List M) (ps : List Int) (a : A) (f : Nat) : Bool := !(fit ms a f) || decide (ps.getD f 0 + a.p ≤ ps.getD (f + a.l.toNat) 0)
def steep (ms : List M) (al : List A) (ps : List Int) : Bool := al.all fun a => (List.range ms.length).all fun f => rise ms ps a f
theorem steep_iff {ms : List M} {al : List A} {ps : List Int} : steep ms al ps = true ↔ ∀ a ∈ al, ∀ f, f < ms.length → rise ms ps a f = true := by
  simp only [steep, List.all_eq_true, List.mem_range]
theorem rise_iff {ms : List M} {ps : List Int} {a : A} {f : Nat} : rise ms ps a f = true ↔ (fit ms a f = true → ps.getD f 0 + a.p ≤ ps.getD (f + a.l.toNat) 0) := by
  unfold rise
  cases fit ms a f <;> simp
def bndE (ms : List M) (al : List A) (ps : List Int) : Int := if right ms.length ps = true then (if steep ms al ps = true then 0 else 9) else 1
def bndV (ms : List M) (al : List A) (ps : List Int) : Int := if bndE ms al ps = 0 then ps.getD ms.length 0 else 0
theorem bndE_zero {ms : List M} {al : List A} {ps : List Int} : bndE ms al ps = 0 ↔ right ms.length ps = true ∧ steep ms al ps = true := by
  unfold bndE
  by_cases h1 : right ms.length ps = true
  · rw [if_pos h1]
    by_cases h2 : steep ms al ps = true
    · rw [if_pos h2]; simp [h1, h2]
    · rw [if_neg h2]; simp [h2]
  · rw [if_neg h1]; simp [h1]
theorem bnd_pot {ms : List M} {al : List A} {ps : List Int} (ho : okAs al) (h : bndE ms al ps = 0) : pot ms al (fun i => ps.getD i 0) := by
  obtain ⟨h1, h2⟩ := bndE_zero.1 h
  refine ⟨fun i j hi hj => right_mono h1 j hi hj, fun a ha f hf => ?_⟩
  obtain ⟨h3, h4, _⟩ := fit_iff.1 hf
  obtain ⟨⟨h5, _⟩, _⟩ := okA_iff.1 (ho a ha)
  have := rise_iff.1 (steep_iff.1 h2 a ha f.toNat (by omega)) (by rw [show ((f.toNat : Nat) : Int) = f by omega]; exact hf)
  rw [show (f + a.l).toNat = f.toNat + a.l.toNat by omega]
  exact this
/-- No accepted cutting is worth more than an accepted bound. -/
theorem bnd_holds {ms : List M} {al : List A} {ps : List Int} (ho : okAs al) (h : bndE ms al ps = 0) {xs : List X} (hc : chk ms al 0 xs = 0) : val al xs ≤ bndV ms al ps := by
  have := pot_chk (bnd_pot ho h) ho (Int.le_refl 0) (by omega) hc
  obtain ⟨h1, _⟩ := bndE_zero.1 h
  have h0 := (right_iff.1 h1).2.1
  rw [bndV, if_pos h]
  simp only [Int.toNat_zero] at this
  omega
/-- The greatest values as numbers that bound the value. -/
def wl (ms : List M) (al : List A) (n : Nat) : List Int := (List.range (n + 1)).map (W ms al)
theorem wl_get {ms : List M} {al : List A} {n i : Nat} (h : i ≤ n) : (wl ms al n).getD i 0 = W ms al i := by
  unfold wl
  rw [List.getD_eq_getElem?_getD, List.getElem?_map, List.getElem?_range (by omega)]
  rfl
theorem wl_len (ms : List M) (al : List A) (n : Nat) : (wl ms al n).length = n + 1 := by simp [wl]
theorem W_bnd {ms : List M} {al : List A} (ho : okAs al) (hl : ms.length ≤ 300) : bndE ms al (wl ms al ms.length) = 0 ∧ bndV ms al (wl ms al ms.length) = W ms al ms.length := by
  have h : bndE ms al (wl ms al ms.length) = 0 := by
    refine bndE_zero.2 ⟨right_iff.2 ⟨wl_len _ _ _, by rw [wl_get (by omega), W_zero], fun i hi => ?_⟩, steep_iff.2 fun a ha f hf => rise_iff.2 fun hfit => ?_⟩
    · rw [wl_get (by omega), wl_get (by omega)]
      have := W_bound (ms := ms) ho (i + 1)
      exact ⟨W_mono1 _ _ _, by omega⟩
    · obtain ⟨h3, h4, _⟩ := fit_iff.1 hfit
      obtain ⟨⟨h5, _⟩, _⟩ := okA_iff.1 (ho a ha)
      have := W_step ho ha hfit
      rw [wl_get (by omega), wl_get (by omega)]
      rw [show ((f : Int) + a.l).toNat = f + a.l.toNat by omega, Int.toNat_natCast] at this
      exact this
  exact ⟨h, by rw [bndV, if_pos h, wl_get (Nat.le_refl _)]⟩
/-- What a best cutting is while it is found from the end of the band: pieces from a place on, worth what is missing. -/
def tail (ms : List M) (al : List A) (e : Nat) (xs : List X) : Prop := chk ms al e xs = 0 ∧ val al xs + W ms al e = W ms al ms.length
theorem tail_start (ms : List M) (al : List A) : tail ms al ms.length [] := ⟨rfl, by simp [val]⟩
theorem tail_skip {ms : List M} {al : List A} {e : Nat} {xs : List X} (h : tail ms al (e + 1) xs) (hw : W ms al (e + 1) = W ms al e) : tail ms al e xs := ⟨chk_mono h.1 (by omega), by rw [← hw]; exact h.2⟩
theorem tail_take {ms : List M} {al : List A} {e : Nat} {xs : List X} (h : tail ms al e xs) {n : Int} (h1 : 0 ≤ n) (h2 : n < al.length) {f : Nat} (hf : (f : Int) = e - (art al n).l) (hfit : fit ms (art al n) f = true) (hw : W ms al f + (art al n).p = W ms al e) : tail ms al f (⟨f, n⟩ :: xs) := by
  refine ⟨chk_cons.2 ⟨fitX_iff.2 ⟨h1, h2, hfit⟩, Int.le_refl _, ?_⟩, ?_⟩
  · dsimp only
    rw [show (f : Int) + (art al n).l = e by omega]; exact h.1
  · have := h.2
    simp only [val]; omega
theorem tail_end {ms : List M} {al : List A} {xs : List X} (h : tail ms al 0 xs) : chk ms al 0 xs = 0 ∧ val al xs = W ms al ms.length := ⟨h.1, by have := h.2; rw [W_zero] at this; omega⟩
end Ro
end Go.Proofs.Ytbmjjmpdlmbehaa
namespace Go.Proofs.Ytbmjjmpdlmbehaa

namespace Ro
open Bd
/-- No numbers that bound the value rise by less than the greatest value. -/
theorem W_least {ms : List M} {al : List A} {P : Nat → Int} (ho : okAs al) (h : pot ms al P) : ∀ n, n ≤ ms.length → W ms al n ≤ P n - P 0
  | 0, _ => by rw [W_zero]; omega
  | k + 1, hk => by
    have h0 := h.1 k (k + 1) (by omega) hk
    -- all smaller ones
    rcases W_last (ms := ms) ho k with e | ⟨a, h1, h2, h3⟩
    · have := W_least ho h k (by omega); omega
    · obtain ⟨⟨h4, _⟩, _⟩ := okA_iff.1 (ho a h1)
      obtain ⟨h5, _⟩ := fit_iff.1 h2
      have h6 := W_least ho h ((k + 1 : Nat) - a.l : Int).toNat (by omega)
      have h7 := h.2 a h1 _ h2
      rw [show (((k + 1 : Nat) : Int) - a.l + a.l).toNat = k + 1 by omega] at h7
      omega
  termination_by n => n
  decreasing_by all_goals omega
theorem mk_take {ms : List M} {n i : Nat} (h : i < n) : mk (ms.take n) i = mk ms i := by
  unfold mk
  rw [List.getD_eq_getElem?_getD, List.getD_eq_getElem?_getD, List.getElem?_take_of_lt h]
theorem mk_drop (ms : List M) (n i : Nat) : mk (ms.drop n) i = mk ms (n + i) := by
  unfold mk
  rw [List.getD_eq_getElem?_getD, List.getD_eq_getElem?_getD, List.getElem?_drop]
theorem fit_take {ms : List M} {n : Nat} (hn : n ≤ ms.length) {a : A} {f : Int} (h : fit (ms.take n) a f = true) : fit ms a f = true ∧ f + a.l ≤ n := by
  obtain ⟨h1, h2, h3⟩ := fit_iff.1 h
  rw [List.length_take] at h2
  refine ⟨fit_iff.2 ⟨h1, by omega, fun i hi => ?_⟩, by omega⟩
  rw [← mk_take (n := n) (by omega)]; exact h3 i hi
theorem fit_drop {ms : List M} {n : Nat} (hn : n ≤ ms.length) {a : A} {f : Int} (h : fit (ms.drop n) a f = true) : fit ms a (n + f) = true := by
  obtain ⟨h1, h2, h3⟩ := fit_iff.1 h
  rw [List.length_drop] at h2
  refine fit_iff.2 ⟨by omega, by omega, fun i hi => ?_⟩
  have := h3 i hi
  rw [mk_drop] at this
  rw [show ((n : Int) + f).toNat + i = n + (f.toNat + i) by omega]; exact this
theorem W_parts {ms : List M} {al : List A} (ho : okAs al) {n : Nat} (hn : n ≤ ms.length) :
    W (ms.take n) al n + W (ms.drop n) al (ms.length - n) ≤ W ms al ms.length := by
  have h1 : pot (ms.take n) al (W ms al) := ⟨fun _ _ h _ => W_mono ms al h, fun a ha f hf => W_step ho ha (fit_take hn hf).1⟩
  have h2 : pot (ms.drop n) al (fun i => W ms al (n + i)) := ⟨fun _ _ h _ => W_mono ms al (by omega), fun a ha f hf => by
    have h3 := fit_drop hn hf
    obtain ⟨h4, _⟩ := fit_iff.1 hf
    obtain ⟨⟨h5, _⟩, _⟩ := okA_iff.1 (ho a ha)
    have := W_step ho ha h3
    rw [show ((n : Int) + f).toNat = n + f.toNat by omega, show ((n : Int) + f + a.l).toNat = n + (f + a.l).toNat by omega] at this
    exact this⟩
  have h3 := W_least ho h1 n (by rw [List.length_take]; omega)
  have h4 := W_least ho h2 (ms.length - n) (by rw [List.length_drop]; omega)
  simp only [Nat.add_zero] at h4
  rw [show n + (ms.length - n) = ms.length by omega] at h4
  rw [W_zero] at h3
  omega
theorem W_fewer {ms : List M} {al bs : List A} (ho : okAs al) (h : ∀ a ∈ bs, a ∈ al) : W ms bs ms.length ≤ W ms al ms.length := by
  have h1 : pot ms bs (W ms al) := ⟨fun _ _ h _ => W_mono ms al h, fun a ha f hf => W_step ho (h a ha) hf⟩
  have := W_least (fun a ha => ho a (h a ha)) h1 ms.length (Nat.le_refl _)
  rw [W_zero] at this; omega
theorem mk_rev {ms : List M} {i : Nat} (h : i < ms.length) : mk ms.reverse i = mk ms (ms.length - 1 - i) := by
  unfold mk
  rw [List.getD_eq_getElem?_getD, List.getD_eq_getElem?_getD, List.getElem?_reverse h]
theorem fit_rev {ms : List M} {a : A} {f : Int} (h : fit ms.reverse a f = true) : fit ms a (ms.length - (f + a.l)) = true := by
  obtain ⟨h1, h2, h3⟩ := fit_iff.1 h
  rw [List.length_reverse] at h2
  refine fit_iff.2 ⟨by omega, by omega, fun i hi => ?_⟩
  have := h3 (a.l - 1 - i).toNat (by omega)
  rw [mk_rev (by omega)] at this
  rw [show ((ms.length : Int) - (f + a.l)).toNat + i = ms.length - 1 - (f.toNat + (a.l - 1 - i).toNat) by omega]; exact this
theorem W_rev_le {ms : List M} {al : List A} (ho : okAs al) : W ms.reverse al ms.length ≤ W ms al ms.length := by
  have h : pot ms.reverse al (fun i => W ms al ms.length - W ms al (ms.length - i)) := ⟨fun i j hi hj => by
      have := W_mono ms al (show ms.length - j ≤ ms.length - i by omega)
      dsimp only
      omega, fun a ha f hf => by
      obtain ⟨h4, h5, _⟩ := fit_iff.1 hf
      rw [List.length_reverse] at h5
      obtain ⟨⟨h6, _⟩, _⟩ := okA_iff.1 (ho a ha)
      have := W_step ho ha (fit_rev hf)
      rw [show ((ms.length : Int) - (f + a.l)).toNat = ms.length - (f + a.l).toNat by omega, show ((ms.length : Int) - (f + a.l) + a.l).toNat = ms.length - f.toNat by omega] at this
      dsimp only
      omega⟩
  have := W_least ho h ms.length (by rw [List.length_reverse]; exact Nat.le_refl _)
  simp only [Nat.sub_self, Nat.sub_zero, W_zero] at this
  omega
theorem W_rev {ms : List M} {al : List A} (ho : okAs al) : W ms.reverse al ms.length = W ms al ms.length := by
  have h1 := W_rev_le (ms := ms) ho
  have h2 := W_rev_le (ms := ms.reverse) ho
  rw [List.reverse_reverse, List.length_reverse] at h2
  omega
/-- The best one of the first articles with a property: the greatest price, and of equal ones the smallest number; -1 if none. -/
def pk (Q : A → Bool) (al : List A) : Nat → Int
  | 0 => -1
  | k + 1 => if Q (art al k) = true ∧ (pk Q al k < 0 ∨ (art al (pk Q al k)).p < (art al k).p) then k else pk Q al k
/-- What the best one of all is. -/
def isPk (Q : A → Bool) (al : List A) (n : Int) : Prop := (n = -1 ∧ ∀ m : Nat, m < al.length → Q (art al m) = false) ∨
  (0 ≤ n ∧ n < al.length ∧ Q (art al n) = true ∧ ∀ m : Nat, m < al.length → Q (art al m) = true → (art al m).p < (art al n).p ∨ ((art al m).p = (art al n).p ∧ n ≤ m))
theorem pk_inv (Q : A → Bool) (al : List A) : ∀ k, (pk Q al k = -1 ∧ ∀ m : Nat, m < k → Q (art al m) = false) ∨
    (0 ≤ pk Q al k ∧ pk Q al k < k ∧ Q (art al (pk Q al k)) = true ∧ ∀ m : Nat, m < k → Q (art al m) = true → (art al m).p < (art al (pk Q al k)).p ∨ ((art al m).p = (art al (pk Q al k)).p ∧ pk Q al k ≤ m))
  | 0 => .inl ⟨rfl, fun m h => by omega⟩
  | k + 1 => by
    have ih := pk_inv Q al k
    rw [pk]
    split
    · rename_i h
      refine .inr ⟨by omega, by omega, h.1, fun m hm hq => ?_⟩
      by_cases e : m = k
      · subst e; exact .inr ⟨rfl, Int.le_refl _⟩
      · rcases ih with ⟨_, h2⟩ | ⟨h1, h2, h3, h4⟩
        · rw [h2 m (by omega)] at hq; cases hq
        · have h5 := h.2.resolve_left (by omega)
          rcases h4 m (by omega) hq with h6 | h6
          · exact .inl (by omega)
          · exact .inl (by omega)
    · rename_i h
      rcases ih with ⟨h1, h2⟩ | ⟨h1, h2, h3, h4⟩
      · refine .inl ⟨h1, fun m hm => ?_⟩
        by_cases e : m = k
        · subst e
          cases hq : Q (art al m)
          · rfl
          · exact absurd ⟨hq, .inl (by omega)⟩ h
        · exact h2 m (by omega)
      · refine .inr ⟨h1, by omega, h3, fun m hm hq => ?_⟩
        by_cases e : m = k
        · subst e
          have : ¬ (art al (pk Q al m)).p < (art al m).p := fun h5 => h ⟨hq, .inr h5⟩
          by_cases h6 : (art al m).p < (art al (pk Q al m)).p
          · exact .inl h6
          · exact .inr ⟨by omega, by omega⟩
        · exact h4 m (by omega) hq
theorem pk_is (Q : A → Bool) (al : List A) : isPk Q al (pk Q al al.length) := pk_inv Q al al.length
theorem isPk_one {Q : A → Bool} {al : List A} {a b : Int} (ha : isPk Q al a) (hb : isPk Q al b) : a = b := by
  rcases ha with ⟨h1, h2⟩ | ⟨h1, h2, h3, h4⟩
  · rcases hb with ⟨k1, _⟩ | ⟨k1, k2, k3, _⟩
    · omega
    · have := h2 b.toNat (by omega)
      rw [show ((b.toNat : Nat) : Int) = b by omega, k3] at this; cases this
  · rcases hb with ⟨k1, k2⟩ | ⟨k1, k2, k3, k4⟩
    · have := k2 a.toNat (by omega)
      rw [show ((a.toNat : Nat) : Int) = a by omega, h3] at this; cases this
    · have e1 := h4 b.toNat (by omega) (by rw [show ((b.toNat : Nat) : Int) = b by omega]; exact k3)
      have e2 := k4 a.toNat (by omega) (by rw [show ((a.toNat : Nat) : Int) = a by omega]; exact h3)
      rw [show ((b.toNat : Nat) : Int) = b by omega] at e1
      rw [show ((a.toNat : Nat) : Int) = a by omega] at e2
      omega
/-- Which article is cut greedily at a place. -/
def pkAt (ms : List M) (al : List A) (f : Int) : Int := pk (fun a => fit ms a f) al al.length
/-- The pieces that are cut greedily from a place on, of at most so many steps. -/
def grd (ms : List M) (al : List A) : Nat → Int → List X
  | 0, _ => []
  | k + 1, f => if f < ms.length then (if pkAt ms al f < 0 then grd ms al k (f + 1) else ⟨f, pkAt ms al f⟩ :: grd ms al k (f + (art al (pkAt ms al f)).l)) else []
theorem pkAt_fit {ms : List M} {al : List A} {f : Int} (h : ¬ pkAt ms al f < 0) : fitX ms al ⟨f, pkAt ms al f⟩ = true := by
  rcases pk_is (fun a => fit ms a f) al with ⟨h1, _⟩ | ⟨h1, h2, h3, _⟩
  · exact absurd (show pkAt ms al f < 0 by unfold pkAt; omega) h
  · exact fitX_iff.2 ⟨h1, h2, h3⟩
theorem grd_chk {ms : List M} {al : List A} (ho : okAs al) : ∀ (k : Nat) (f : Int), 0 ≤ f → chk ms al f (grd ms al k f) = 0
  | 0, f, _ => rfl
  | k + 1, f, h0 => by
    rw [grd]
    split
    · split
      · exact chk_mono (grd_chk ho k (f + 1) (by omega)) (by omega)
      · rename_i h
        have h1 := pkAt_fit h
        obtain ⟨h2, h3, h4⟩ := fitX_iff.1 h1
        obtain ⟨⟨h5, _⟩, _⟩ := okA_iff.1 (ho _ (art_mem h2 h3))
        exact chk_cons.2 ⟨h1, Int.le_refl _, grd_chk ho k _ (by dsimp only at h5 ⊢; omega)⟩
    · rfl
/-- The places in no piece, from a place on. -/
def wst (al : List A) (n : Int) : Int → List X → List S
  | f, [] => if f < n then [⟨f, n⟩] else []
  | f, x :: xs => (if f < x.f then [⟨f, x.f⟩] else []) ++ wst al n (x.f + (art al x.a).l) xs
def used (al : List A) (xs : List X) (i : Nat) : Bool := xs.any fun x => decide (x.f ≤ i) && decide ((i : Int) < x.f + (art al x.a).l)
theorem used_iff {al : List A} {xs : List X} {i : Nat} : used al xs i = true ↔ ∃ x ∈ xs, x.f ≤ i ∧ (i : Int) < x.f + (art al x.a).l := by simp [used]
theorem used_cons {al : List A} {x : X} {xs : List X} {i : Nat} : used al (x :: xs) i = true ↔ (x.f ≤ i ∧ (i : Int) < x.f + (art al x.a).l) ∨ used al xs i = true := by simp [used]
theorem chk_from {ms : List M} {al : List A} (ho : okAs al) : ∀ {xs : List X} {lo : Int}, chk ms al lo xs = 0 → ∀ i : Nat, used al xs i = true → lo ≤ i
  | [], _, _, i, h => by simp [used] at h
  | x :: xs, lo, hc, i, h => by
    obtain ⟨h1, h2, h3⟩ := chk_cons.1 hc
    obtain ⟨h4, h5, _⟩ := fitX_iff.1 h1
    obtain ⟨⟨h6, _⟩, _⟩ := okA_iff.1 (ho _ (art_mem h4 h5))
    rcases used_cons.1 h with h7 | h7
    · omega
    · have := chk_from ho h3 i h7; omega
theorem gaps_append {a b : List S} : gaps (a ++ b) ↔ gaps a ∧ gaps b ∧ ∀ r ∈ a, ∀ s ∈ b, r.t < s.f := by
  induction a with
  | nil => simp [gaps]
  | cons x a ih =>
    simp only [List.cons_append, gaps, ih]
    constructor
    · rintro ⟨h1, h2, h3, h4, h5⟩
      refine ⟨⟨h1, fun r hr => h2 r (by simp [hr]), h3⟩, h4, fun r hr s hs => ?_⟩
      rcases List.mem_cons.1 hr with e | hr
      · rw [e]; exact h2 s (by simp [hs])
      · exact h5 r hr s hs
    · rintro ⟨⟨h1, h2, h3⟩, h4, h5⟩
      refine ⟨h1, fun r hr => ?_, h3, h4, fun r hr s hs => h5 r (by simp [hr]) s hs⟩
      rcases List.mem_append.1 hr with hr | hr
      · exact h2 r hr
      · exact h5 x (by simp) r hr
theorem wst_cov {ms : List M} {al : List A} (ho : okAs al) : ∀ {xs : List X} {f : Int}, 0 ≤ f → f ≤ ms.length → chk ms al f xs = 0 →
    gaps (wst al ms.length f xs) ∧ (∀ s ∈ wst al ms.length f xs, f ≤ s.f ∧ s.t ≤ ms.length) ∧ ∀ i : Nat, f ≤ i → i < ms.length → (used al xs i = false ↔ ∃ s ∈ wst al ms.length f xs, s.f ≤ i ∧ i < s.t)
  | [], f, h0, h1, _ => by
    rw [wst]
    by_cases h : f < (ms.length : Int)
    · rw [if_pos h]
      refine ⟨⟨h, by simp, trivial⟩, by simp, fun i h2 h3 => ?_⟩
      simp [used]; omega
    · rw [if_neg h]
      exact ⟨trivial, by simp, fun i h2 h3 => by omega⟩
  | x :: xs, f, h0, h1, hc => by
    obtain ⟨c1, c2, c3⟩ := chk_cons.1 hc
    obtain ⟨h4, h5, h6⟩ := fitX_iff.1 c1
    obtain ⟨⟨h7, _⟩, _⟩ := okA_iff.1 (ho _ (art_mem h4 h5))
    obtain ⟨h8, h9, _⟩ := fit_iff.1 h6
    obtain ⟨i1, i2, i3⟩ := wst_cov ho (by omega) h9 c3
    have hb := chk_from ho c3
    rw [wst]
    generalize hw : wst al ms.length (x.f + (art al x.a).l) xs = ws at *
    have main : ∀ i : Nat, f ≤ i → i < ms.length → (used al (x :: xs) i = false ↔ ((f ≤ i ∧ (i : Int) < x.f) ∨ ∃ s ∈ ws, s.f ≤ i ∧ (i : Int) < s.t)) := by
      intro i h2 h3
      have e : used al (x :: xs) i = false ↔ ¬ ((x.f ≤ i ∧ (i : Int) < x.f + (art al x.a).l) ∨ used al xs i = true) := by
        rw [← used_cons]; simp
      rw [e]
      by_cases h10 : (i : Int) < x.f
      · constructor
        · intro _; exact .inl ⟨h2, h10⟩
        · intro _ h
          rcases h with h | h
          · omega
          · have := hb i h; omega
      · by_cases h11 : (i : Int) < x.f + (art al x.a).l
        · constructor
          · intro h; exact absurd (.inl ⟨by omega, h11⟩) h
          · rintro (h | ⟨s, hs, h, h'⟩)
            · omega
            · have := i2 s hs; omega
        · rw [← i3 i (by omega) h3] 
          constructor
          · intro h; right; cases hu : used al xs i
            · rfl
            · exact absurd (.inr hu) h
          · rintro (h | h)
            · omega
            · rintro (h' | h')
              · omega
              · rw [h] at h'; cases h'
    by_cases h : f < x.f
    · rw [if_pos h]
      refine ⟨gaps_append.2 ⟨⟨h, by simp, trivial⟩, i1, fun r hr s hs => ?_⟩, fun s hs => ?_, fun i h2 h3 => ?_⟩
      · obtain rfl : r = ⟨f, x.f⟩ := by simpa using hr
        have := i2 s hs; dsimp only; omega
      · rcases List.mem_append.1 hs with hs | hs
        · obtain rfl : s = ⟨f, x.f⟩ := by simpa using hs
          dsimp only; omega
        · have := i2 s hs; omega
      · rw [main i h2 h3]
        constructor
        · rintro (h' | ⟨s, hs, h'⟩)
          · exact ⟨⟨f, x.f⟩, by simp, h'⟩
          · exact ⟨s, List.mem_append_right _ hs, h'⟩
        · rintro ⟨s, hs, h'⟩
          rcases List.mem_append.1 hs with hs | hs
          · obtain rfl : s = ⟨f, x.f⟩ := by simpa using hs
            exact .inl h'
          · exact .inr ⟨s, hs, h'⟩
    · rw [if_neg h, List.nil_append]
      refine ⟨i1, fun s hs => by have := i2 s hs; omega, fun i h2 h3 => ?_⟩
      rw [main i h2 h3]
      constructor
      · rintro (h' | h')
        · omega
        · exact h'
      · exact .inr
/-- Two lists of spans with gaps that cover the same places are equal. -/
theorem gaps_ext : ∀ {a b : List S}, gaps a → gaps b → (∀ s ∈ a, 0 ≤ s.f) → (∀ s ∈ b, 0 ≤ s.f) → (∀ i : Nat, (∃ s ∈ a, s.f ≤ i ∧ (i : Int) < s.t) ↔ ∃ s ∈ b, s.f ≤ i ∧ (i : Int) < s.t) → a = b
  | [], [], _, _, _, _, _ => rfl
  | [], s :: b, _, hb, _, h0, h => by
    have := h0 s (by simp)
    obtain ⟨r, hr, _⟩ := (h s.f.toNat).2 ⟨s, by simp, by omega, by have := hb.1; omega⟩
    cases hr
  | s :: a, [], ha, _, h0, _, h => by
    have := h0 s (by simp)
    obtain ⟨r, hr, _⟩ := (h s.f.toNat).1 ⟨s, by simp, by omega, by have := ha.1; omega⟩
    cases hr
  | s :: a, r :: b, ha, hb, h0, k0, h => by
    have s0 := h0 s (by simp)
    have r0 := k0 r (by simp)
    have sp := ha.1
    have rp := hb.1
    have lowA : ∀ i : Nat, (∃ q ∈ s :: a, q.f ≤ i ∧ (i : Int) < q.t) → s.f ≤ i ∧ ((i : Int) < s.t ∨ s.t < i) := by
      rintro i ⟨q, hq, h1, h2⟩
      rcases List.mem_cons.1 hq with e | hq
      · rw [e] at h1 h2; exact ⟨h1, .inl h2⟩
      · have := ha.2.1 q hq; omega
    have lowB : ∀ i : Nat, (∃ q ∈ r :: b, q.f ≤ i ∧ (i : Int) < q.t) → r.f ≤ i ∧ ((i : Int) < r.t ∨ r.t < i) := by
      rintro i ⟨q, hq, h1, h2⟩
      rcases List.mem_cons.1 hq with e | hq
      · rw [e] at h1 h2; exact ⟨h1, .inl h2⟩
      · have := hb.2.1 q hq; omega
    have e1 : s.f = r.f := by
      have := (lowB _ ((h s.f.toNat).1 ⟨s, by simp, by omega, by omega⟩)).1
      have := (lowA _ ((h r.f.toNat).2 ⟨r, by simp, by omega, by omega⟩)).1
      omega
    have e2 : s.t = r.t := by
      by_cases h1 : s.t < r.t
      · have := lowA _ ((h s.t.toNat).2 ⟨r, by simp, by omega, by omega⟩); omega
      · by_cases h2 : r.t < s.t
        · have := lowB _ ((h r.t.toNat).1 ⟨s, by simp, by omega, by omega⟩); omega
        · omega
    have e : s = r := S.ext' e1 e2
    subst e
    refine congrArg (s :: ·) (gaps_ext ha.2.2 hb.2.2 (fun q hq => h0 q (by simp [hq])) (fun q hq => k0 q (by simp [hq])) fun i => ?_)
    constructor
    · rintro ⟨q, hq, h1, h2⟩
      obtain ⟨p, hp, h3, h4⟩ := (h i).1 ⟨q, by simp [hq], h1, h2⟩
      rcases List.mem_cons.1 hp with e | hp
      · have := ha.2.1 q hq; rw [e] at h4; omega
      · exact ⟨p, hp, h3, h4⟩
    · rintro ⟨q, hq, h1, h2⟩
      obtain ⟨p, hp, h3, h4⟩ := (h i).2 ⟨q, by simp [hq], h1, h2⟩
      rcases List.mem_cons.1 hp with e | hp
      · have := hb.2.1 q hq; rw [e] at h4; omega
      · exact ⟨p, hp, h3, h4⟩
/-- The unused places, joined. -/
def unu (al : List A) (xs : List X) : Nat → List S
  | 0 => []
  | n + 1 => if used al xs n = true then unu al xs n else pushS (unu al xs n) ⟨n, (n : Int) + 1⟩
theorem unu_cov (al : List A) (xs : List X) : ∀ n : Nat, cov (fun i => !(used al xs i)) n (unu al xs n)
  | 0 => cov_zero _
  | n + 1 => by
    have ih := unu_cov al xs n
    rw [unu]
    cases h : used al xs n
    · rw [if_neg (by simp)]
      have hm : ∀ i : Nat, (n : Int) ≤ i → (i : Int) < (n : Int) + 1 → (!(used al xs i)) = true := fun i h1 h2 => by
        have e : i = n := by omega
        rw [e, h]; rfl
      have := cov_push ih (by omega) (by omega) hm
      simpa using this
    · rw [if_pos rfl]
      refine cov_skip ih (by omega) fun i h1 h2 => ?_
      have e : i = n := by omega
      rw [e, h]; rfl
theorem unu_wst {ms : List M} {al : List A} (ho : okAs al) {xs : List X} (hc : chk ms al 0 xs = 0) : unu al xs ms.length = wst al ms.length 0 xs := by
  obtain ⟨h1, h2, h3⟩ := unu_cov al xs ms.length
  obtain ⟨k1, k2, k3⟩ := wst_cov ho (Int.le_refl 0) (by omega) hc
  refine gaps_ext h1 k1 (fun s hs => (h2 s hs).1) (fun s hs => (k2 s hs).1) fun i => ?_
  by_cases hi : i < ms.length
  · rw [← k3 i (by omega) hi, ← h3 i (by omega)]
    simp
  · constructor
    · rintro ⟨s, hs, h4, h5⟩; have := h2 s hs; omega
    · rintro ⟨s, hs, h4, h5⟩; have := k2 s hs; omega
end Ro
end Go.Proofs.Ytbmjjmpdlmbehaa
