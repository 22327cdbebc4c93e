/- Rooms in plain words: which are valid, their cells, their area. -/
namespace Go.Proofs.Ytpobkdbnldogcaa
namespace Fl
structure R where
  x : Int
  y : Int
  w : Int
  h : Int
instance : Inhabited R := ⟨⟨0, 0, 0, 0⟩⟩
structure D where
  a : Int
  b : Int
  y : Int
instance : Inhabited D := ⟨⟨0, 0, 0⟩⟩
structure S where
  x : Int
  f : Int
  t : Int
instance : Inhabited S := ⟨⟨0, 0, 0⟩⟩
structure L where
  l : Int
  p : Int
  c : Int
instance : Inhabited L := ⟨⟨0, 0, 0⟩⟩
structure C where
  s : Int
  r : Int
  a : Int
instance : Inhabited C := ⟨⟨0, 0, 0⟩⟩

def stretch (f s : Int) : Bool := (decide (0 ≤ f) && decide (f ≤ 60)) && (decide (1 ≤ s) && decide (s ≤ 60 - f))
theorem stretch_iff {f s : Int} : stretch f s = true ↔ 0 ≤ f ∧ f ≤ 60 ∧ 1 ≤ s ∧ s ≤ 60 - f := by simp [stretch, and_assoc]
def okR (r : R) : Bool := stretch r.x r.w && stretch r.y r.h
theorem okR_iff {r : R} : okR r = true ↔ (0 ≤ r.x ∧ r.x ≤ 60 ∧ 1 ≤ r.w ∧ r.w ≤ 60 - r.x) ∧ (0 ≤ r.y ∧ r.y ≤ 60 ∧ 1 ≤ r.h ∧ r.h ≤ 60 - r.y) := by
  unfold okR
  rw [Bool.and_eq_true, stretch_iff, stretch_iff]
def mt (a b c d : Int) : Bool := decide (a < d) && decide (c < b)
def hd (a b n : Int) : Bool := decide (a ≤ n) && decide (n < b)
def meets (r s : R) : Bool := mt r.x (r.x + r.w) s.x (s.x + s.w) && mt r.y (r.y + r.h) s.y (s.y + s.h)
def hasR (r : R) (x y : Int) : Bool := hd r.x (r.x + r.w) x && hd r.y (r.y + r.h) y
theorem hasR_iff {r : R} {x y : Int} : hasR r x y = true ↔ (r.x ≤ x ∧ x < r.x + r.w) ∧ (r.y ≤ y ∧ y < r.y + r.h) := by simp [hasR, hd]
theorem meets_iff {r s : R} : meets r s = true ↔ (r.x < s.x + s.w ∧ s.x < r.x + r.w) ∧ (r.y < s.y + s.h ∧ s.y < r.y + r.h) := by simp [meets, mt]
def hasB (rs : List R) (x y : Int) : Bool := rs.any fun r => hasR r x y
theorem hasB_iff {rs : List R} {x y : Int} : hasB rs x y = true ↔ ∃ k, ∃ h : k < rs.length, hasR rs[k] x y = true := by
  unfold hasB
  rw [List.any_eq_true]
  constructor
  · rintro ⟨r, hr, h⟩
    obtain ⟨k, hk, rfl⟩ := List.mem_iff_getElem.1 hr
    exact ⟨k, hk, h⟩
  · rintro ⟨k, hk, h⟩
    exact ⟨_, List.getElem_mem hk, h⟩
theorem hasB_no {rs : List R} {x y : Int} (h : ∀ k (hk : k < rs.length), hasR rs[k] x y = false) : hasB rs x y = false := by
  apply Bool.eq_false_iff.2
  intro hc
  obtain ⟨k, hk, h2⟩ := hasB_iff.1 hc
  rw [h k hk] at h2; cases h2
theorem hasB_yes {rs : List R} {x y : Int} {k : Nat} (hk : k < rs.length) (h : hasR rs[k] x y = true) : hasB rs x y = true := hasB_iff.2 ⟨k, hk, h⟩
/-- Two of the rectangles have a common cell. -/
def ov (rs : List R) : Bool := (List.range rs.length).any fun i => (List.range i).any fun k => meets (rs.getD i default) (rs.getD k default)
theorem ov_iff {rs : List R} : ov rs = true ↔ ∃ i k, ∃ (hi : i < rs.length) (hk : k < i), meets rs[i] (rs[k]'(by omega)) = true := by
  unfold ov
  rw [List.any_eq_true]
  constructor
  · rintro ⟨i, hi, h⟩
    obtain ⟨k, hk, h⟩ := List.any_eq_true.1 h
    have hi := List.mem_range.1 hi
    have hk := List.mem_range.1 hk
    refine ⟨i, k, hi, hk, ?_⟩
    rw [show rs.getD i default = rs[i] by simp [hi], show rs.getD k default = rs[k]'(by omega) by simp [show k < rs.length by omega]] at h
    exact h
  · rintro ⟨i, k, hi, hk, h⟩
    refine ⟨i, List.mem_range.2 hi, List.any_eq_true.2 ⟨k, List.mem_range.2 hk, ?_⟩⟩
    rw [show rs.getD i default = rs[i] by simp [hi], show rs.getD k default = rs[k]'(by omega) by simp [show k < rs.length by omega]]
    exact h
theorem ov_no {rs : List R} (h : ∀ i (hi : i < rs.length) k (hk : k < i), meets rs[i] (rs[k]'(by omega)) = false) : ov rs = false := by
  apply Bool.eq_false_iff.2
  intro hc
  obtain ⟨i, k, hi, hk, h2⟩ := ov_iff.1 hc
  rw [h i hi k hk] at h2; cases h2
def okD (d : D) : Bool := decide (0 ≤ d.a) && decide (d.a < d.b) && decide (d.b ≤ 60) && (decide (0 ≤ d.y) && decide (d.y ≤ 60))
theorem okD_iff {d : D} : okD d = true ↔ 0 ≤ d.a ∧ d.a < d.b ∧ d.b ≤ 60 ∧ 0 ≤ d.y ∧ d.y ≤ 60 := by simp [okD, and_assoc]
def rectsB (rs : List R) : Bool := (decide (1 ≤ rs.length) && decide (rs.length ≤ 8)) && rs.all okR
theorem rectsB_iff {rs : List R} : rectsB rs = true ↔ (1 ≤ rs.length ∧ rs.length ≤ 8) ∧ ∀ k (hk : k < rs.length), okR rs[k] = true := by
  unfold rectsB
  rw [Bool.and_eq_true, Bool.and_eq_true, decide_eq_true_eq, decide_eq_true_eq, List.all_eq_true]
  constructor
  · rintro ⟨h1, h2⟩
    exact ⟨h1, fun k hk => h2 _ (List.getElem_mem hk)⟩
  · rintro ⟨h1, h2⟩
    refine ⟨h1, fun r hr => ?_⟩
    obtain ⟨k, hk, rfl⟩ := List.mem_iff_getElem.1 hr
    exact h2 k hk
theorem rectsB_bad {rs : List R} {k : Nat} (hk : k < rs.length) (h : okR rs[k] = false) : rectsB rs = false := by
  apply Bool.eq_false_iff.2
  intro hc
  have := (rectsB_iff.1 hc).2 k hk
  rw [h] at this; cases this
def doorsB (ds : List D) : Bool := ds.all okD
theorem doorsB_iff {ds : List D} : doorsB ds = true ↔ ∀ k (hk : k < ds.length), okD ds[k] = true := by
  unfold doorsB
  rw [List.all_eq_true]
  constructor
  · exact fun h2 k hk => h2 _ (List.getElem_mem hk)
  · intro h2 r hr
    obtain ⟨k, hk, rfl⟩ := List.mem_iff_getElem.1 hr
    exact h2 k hk
theorem doorsB_bad {ds : List D} {k : Nat} (hk : k < ds.length) (h : okD ds[k] = false) : doorsB ds = false := by
  apply Bool.eq_false_iff.2
  intro hc
  have := doorsB_iff.1 hc k hk
  rw [h] at this; cases this
def valE (rs : List R) (ds : List D) : Int :=
  if rectsB rs then (if ov rs then 10 else if 4 < ds.length then 4 else if doorsB ds then 0 else 1) else 1
theorem valE_zero {rs : List R} {ds : List D} : valE rs ds = 0 ↔ rectsB rs = true ∧ ov rs = false ∧ ds.length ≤ 4 ∧ doorsB ds = true := by
  unfold valE
  cases h1 : rectsB rs <;> cases h2 : ov rs <;> cases h3 : doorsB ds <;> simp
  all_goals (split <;> omega)

/-- How many of the first k rectangles have a cell. -/
def cnt (rs : List R) (x y : Int) : Nat → Nat
  | 0 => 0
  | k + 1 => cnt rs x y k + (if hasR (rs.getD k default) x y then 1 else 0)
theorem cnt_yes {rs : List R} {x y : Int} {k : Nat} (hk : k < rs.length) (h : hasR rs[k] x y = true) : cnt rs x y (k + 1) = cnt rs x y k + 1 := by
  rw [cnt, show rs.getD k default = rs[k] by simp [hk], h]; rfl
theorem cnt_no {rs : List R} {x y : Int} {k : Nat} (hk : k < rs.length) (h : hasR rs[k] x y = false) : cnt rs x y (k + 1) = cnt rs x y k := by
  rw [cnt, show rs.getD k default = rs[k] by simp [hk], h]; rfl
theorem cnt_le (rs : List R) (x y : Int) : ∀ k, cnt rs x y k ≤ k
  | 0 => Nat.le_refl _
  | k + 1 => by
    have := cnt_le rs x y k
    rw [cnt]; split <;> omega
theorem cnt_pos {rs : List R} {x y : Int} : ∀ {n : Nat}, n ≤ rs.length → 0 < cnt rs x y n → ∃ k, ∃ (h : k < n) (h2 : n ≤ rs.length), hasR (rs[k]'(by omega)) x y = true
  | 0, _, h => absurd h (by simp [cnt])
  | n + 1, hn, h => by
    cases e : hasR rs[n] x y
    · rw [cnt_no (by omega) e] at h
      obtain ⟨k, hk, _, h2⟩ := cnt_pos (n := n) (by omega) h
      exact ⟨k, by omega, hn, h2⟩
    · exact ⟨n, by omega, hn, e⟩
theorem cnt_mono {rs : List R} {x y : Int} {n : Nat} : ∀ {m}, n ≤ m → cnt rs x y n ≤ cnt rs x y m
  | 0, h => by obtain rfl : n = 0 := by omega
               exact Nat.le_refl _
  | m + 1, h => by
    by_cases e : n = m + 1
    · subst e; exact Nat.le_refl _
    · have := cnt_mono (rs := rs) (x := x) (y := y) (n := n) (m := m) (by omega)
      rw [cnt]; omega
theorem cnt_two {rs : List R} {x y : Int} : ∀ {n : Nat}, n ≤ rs.length → 1 < cnt rs x y n → ∃ i k, ∃ (h : i < n) (hk : k < i) (h2 : n ≤ rs.length), hasR (rs[i]'(by omega)) x y = true ∧ hasR (rs[k]'(by omega)) x y = true
  | 0, _, h => absurd h (by simp [cnt])
  | n + 1, hn, h => by
    cases e : hasR rs[n] x y
    · rw [cnt_no (by omega) e] at h
      obtain ⟨i, k, hi, hk, _, h2⟩ := cnt_two (n := n) (by omega) h
      exact ⟨i, k, by omega, hk, hn, h2⟩
    · rw [cnt_yes (by omega) e] at h
      obtain ⟨k, hk, _, h2⟩ := cnt_pos (n := n) (rs := rs) (x := x) (y := y) (by omega) (by omega)
      exact ⟨n, k, by omega, hk, hn, e, h2⟩
theorem cnt_pair {rs : List R} {x y : Int} {i k : Nat} (hi : i < rs.length) (hk : k < i) (h1 : hasR rs[i] x y = true) (h2 : hasR (rs[k]'(by omega)) x y = true) : 1 < cnt rs x y rs.length := by
  have a := cnt_mono (rs := rs) (x := x) (y := y) (n := i + 1) (m := rs.length) (by omega)
  have b := cnt_mono (rs := rs) (x := x) (y := y) (n := k + 1) (m := i) (by omega)
  rw [cnt_yes hi h1] at a
  rw [cnt_yes (by omega) h2] at b
  omega
/-- Overlapping, cell by cell. -/
theorem ov_cells {rs : List R} (ho : ∀ k (hk : k < rs.length), okR rs[k] = true) : ov rs = true ↔ ∃ x y : Nat, x < 60 ∧ y < 60 ∧ 1 < cnt rs x y rs.length := by
  rw [ov_iff]
  constructor
  · rintro ⟨i, k, hi, hk, h⟩
    obtain ⟨⟨a1, a2⟩, ⟨a3, a4⟩⟩ := meets_iff.1 h
    obtain ⟨⟨b1, b2, b3, b4⟩, ⟨b5, b6, b7, b8⟩⟩ := okR_iff.1 (ho i hi)
    obtain ⟨⟨c1, c2, c3, c4⟩, ⟨c5, c6, c7, c8⟩⟩ := okR_iff.1 (ho k (by omega))
    generalize hr : rs[i] = r at *
    generalize hs : rs[k]'(by omega) = s at *
    obtain ⟨x, hx⟩ : ∃ x : Nat, (x : Int) = max r.x s.x := ⟨(max r.x s.x).toNat, by omega⟩
    obtain ⟨y, hy⟩ : ∃ y : Nat, (y : Int) = max r.y s.y := ⟨(max r.y s.y).toNat, by omega⟩
    refine ⟨x, y, by omega, by omega, cnt_pair hi hk ?_ ?_⟩
    · rw [hr]; exact hasR_iff.2 ⟨⟨by omega, by omega⟩, ⟨by omega, by omega⟩⟩
    · rw [hs]; exact hasR_iff.2 ⟨⟨by omega, by omega⟩, ⟨by omega, by omega⟩⟩
  · rintro ⟨x, y, _, _, h⟩
    obtain ⟨i, k, hi, hk, _, h1, h2⟩ := cnt_two (Nat.le_refl _) h
    refine ⟨i, k, hi, hk, ?_⟩
    obtain ⟨⟨a1, a2⟩, ⟨a3, a4⟩⟩ := hasR_iff.1 h1
    obtain ⟨⟨b1, b2⟩, ⟨b3, b4⟩⟩ := hasR_iff.1 h2
    exact meets_iff.2 ⟨⟨by omega, by omega⟩, ⟨by omega, by omega⟩⟩

/-- A sum of the first n. -/
def sm (f : Nat → Nat) : Nat → Nat
  | 0 => 0
  | n + 1 => sm f n + f n
theorem sm_congr {f g : Nat → Nat} : ∀ {n}, (∀ i, i < n → f i = g i) → sm f n = sm g n
  | 0, _ => rfl
  | n + 1, h => by rw [sm, sm, sm_congr (fun i hi => h i (by omega)), h n (by omega)]
theorem sm_add (f g : Nat → Nat) : ∀ n, sm (fun i => f i + g i) n = sm f n + sm g n
  | 0 => rfl
  | n + 1 => by simp only [sm, sm_add f g n]; omega
theorem sm_le {f : Nat → Nat} {c : Nat} (h : ∀ i, f i ≤ c) : ∀ n, sm f n ≤ n * c
  | 0 => by simp [sm]
  | n + 1 => by
    have := sm_le h n
    have := h n
    simp only [sm, Nat.succ_mul]; omega
theorem sm_zero : ∀ n, sm (fun _ => 0) n = 0
  | 0 => rfl
  | n + 1 => by simp only [sm, sm_zero n]
theorem sm_span (a b c : Nat) : ∀ n, sm (fun i => if a ≤ i ∧ i < b then c else 0) n = (min n b - a) * c
  | 0 => by simp [sm]
  | n + 1 => by
    rw [sm, sm_span a b c n]
    by_cases h : a ≤ n ∧ n < b
    · rw [if_pos h, show min (n + 1) b - a = (min n b - a) + 1 by omega, Nat.succ_mul]
    · rw [if_neg h, Nat.add_zero]
      congr 1; omega
/-- The cells of a floor that a test takes. -/
def grid (f : Nat → Nat → Nat) : Nat := sm (fun x => sm (fun y => f x y) 60) 60
theorem grid_congr {f g : Nat → Nat → Nat} (h : ∀ x y, x < 60 → y < 60 → f x y = g x y) : grid f = grid g := by
  unfold grid
  exact sm_congr fun x hx => sm_congr fun y hy => h x y hx hy
theorem grid_add (f g : Nat → Nat → Nat) : grid (fun x y => f x y + g x y) = grid f + grid g := by
  unfold grid
  rw [← sm_add]
  exact sm_congr fun x _ => sm_add (f x) (g x) 60
theorem grid_rect {r : R} (h : okR r = true) : (grid (fun x y => if hasR r x y then 1 else 0) : Int) = r.w * r.h := by
  obtain ⟨⟨b1, b2, b3, b4⟩, ⟨b5, b6, b7, b8⟩⟩ := okR_iff.1 h
  obtain ⟨x, hx⟩ : ∃ x : Nat, (x : Int) = r.x := ⟨r.x.toNat, by omega⟩
  obtain ⟨y, hy⟩ : ∃ x : Nat, (x : Int) = r.y := ⟨r.y.toNat, by omega⟩
  obtain ⟨w, hw⟩ : ∃ x : Nat, (x : Int) = r.w := ⟨r.w.toNat, by omega⟩
  obtain ⟨g, hg⟩ : ∃ x : Nat, (x : Int) = r.h := ⟨r.h.toNat, by omega⟩
  have e : grid (fun x y => if hasR r x y then 1 else 0) = sm (fun i => if x ≤ i ∧ i < x + w then g else 0) 60 := by
    unfold grid
    refine sm_congr fun i _ => ?_
    by_cases hi : x ≤ i ∧ i < x + w
    · rw [if_pos hi, sm_congr (g := fun j => if y ≤ j ∧ j < y + g then 1 else 0), sm_span]
      · omega
      · intro j _
        by_cases hj : y ≤ j ∧ j < y + g
        · dsimp only; rw [if_pos hj, if_pos (hasR_iff.2 ⟨⟨by omega, by omega⟩, ⟨by omega, by omega⟩⟩)]
        · dsimp only; rw [if_neg hj, if_neg]
          intro hc
          obtain ⟨⟨a1, a2⟩, ⟨a3, a4⟩⟩ := hasR_iff.1 hc
          exact hj ⟨by omega, by omega⟩
    · rw [if_neg hi, sm_congr (g := fun _ => 0), sm_zero]
      intro j _
      dsimp only; rw [if_neg]
      intro hc
      obtain ⟨⟨a1, a2⟩, ⟨a3, a4⟩⟩ := hasR_iff.1 hc
      exact hi ⟨by omega, by omega⟩
  rw [e, sm_span, show min 60 (x + w) - x = w by omega, ← hw, ← hg]
  simp
/-- The area of the first k rectangles. -/
def ar (rs : List R) : Nat → Int
  | 0 => 0
  | k + 1 => ar rs k + (rs.getD k default).w * (rs.getD k default).h
theorem ar_at {rs : List R} {k : Nat} (hk : k < rs.length) : ar rs (k + 1) = ar rs k + rs[k].w * rs[k].h := by
  rw [ar, show rs.getD k default = rs[k] by simp [hk]]
theorem ar_bd {rs : List R} (ho : ∀ k (hk : k < rs.length), okR rs[k] = true) : ∀ {k : Nat}, k ≤ rs.length → 0 ≤ ar rs k ∧ ar rs k ≤ 3600 * k
  | 0, _ => by simp [ar]
  | k + 1, h => by
    have ih := ar_bd ho (k := k) (by omega)
    rw [ar_at (by omega)]
    obtain ⟨⟨b1, b2, b3, b4⟩, ⟨b5, b6, b7, b8⟩⟩ := okR_iff.1 (ho k (by omega))
    have h0 : 0 ≤ rs[k].w * rs[k].h := Int.mul_nonneg (by omega) (by omega)
    have h1 : rs[k].w * rs[k].h ≤ 60 * 60 := Int.mul_le_mul (by omega) (by omega) (by omega) (by omega)
    constructor <;> omega
theorem grid_cnt {rs : List R} (ho : ∀ k (hk : k < rs.length), okR rs[k] = true) : ∀ {k : Nat}, k ≤ rs.length → (grid (fun x y => cnt rs x y k) : Int) = ar rs k
  | 0, _ => by
    have : grid (fun x y => cnt rs x y 0) = 0 := by
      unfold grid
      simp only [cnt]
      rw [sm_congr (g := fun _ => 0) (fun i _ => sm_zero 60), sm_zero]
    rw [this]; rfl
  | k + 1, h => by
    have ih := grid_cnt ho (k := k) (by omega)
    rw [ar_at (by omega), ← ih, ← grid_rect (ho k (by omega))]
    rw [show grid (fun x y => cnt rs x y (k + 1)) = grid (fun x y => cnt rs x y k) + grid (fun x y => if hasR rs[k] x y then 1 else 0) from ?_]
    · exact Int.natCast_add _ _
    rw [← grid_add]
    refine grid_congr fun x y _ _ => ?_
    rw [cnt, show rs.getD k default = rs[k] by simp [show k < rs.length by omega]]
theorem cnt_has {rs : List R} (ho : ∀ k (hk : k < rs.length), okR rs[k] = true) (hv : ov rs = false) {x y : Nat} (hx : x < 60) (hy : y < 60) : cnt rs x y rs.length = if hasB rs x y then 1 else 0 := by
  have h1 : ¬ 1 < cnt rs x y rs.length := by
    intro hc
    have := (ov_cells ho).2 ⟨x, y, hx, hy, hc⟩
    rw [hv] at this; cases this
  cases h : hasB rs x y
  · have : ¬ 0 < cnt rs x y rs.length := by
      intro hc
      obtain ⟨k, hk, _, h2⟩ := cnt_pos (Nat.le_refl _) hc
      rw [hasB_yes hk h2] at h; cases h
    simp; omega
  · obtain ⟨k, hk, h2⟩ := hasB_iff.1 h
    have a := cnt_mono (rs := rs) (x := x) (y := y) (n := k + 1) (m := rs.length) (by omega)
    rw [cnt_yes hk h2] at a
    simp; omega
/-- The area, cell by cell. -/
theorem grid_area {rs : List R} (ho : ∀ k (hk : k < rs.length), okR rs[k] = true) (hv : ov rs = false) : (grid (fun x y => if hasB rs x y then 1 else 0) : Int) = ar rs rs.length := by
  rw [← grid_cnt ho (Nat.le_refl _)]
  rw [show grid (fun x y => if hasB rs x y then 1 else 0) = grid (fun x y => cnt rs x y rs.length) from grid_congr fun x y hx hy => (cnt_has ho hv hx hy).symm]
end Fl
end Go.Proofs.Ytpobkdbnldogcaa
