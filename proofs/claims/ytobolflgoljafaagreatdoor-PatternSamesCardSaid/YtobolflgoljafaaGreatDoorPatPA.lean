/- Lattices of the plane: plain. Least repeats of functions of the plane: plain. -/

namespace Go.Proofs.YtobolflgoljafaaGreatDoor
namespace Pt

/-- A basis (a, 0), (b, c). -/
structure Lat where
  a : Int
  b : Int
  c : Int
  deriving DecidableEq
def Lat.ok (l : Lat) : Prop := 1 ≤ l.a ∧ 0 ≤ l.b ∧ l.b < l.a ∧ 1 ≤ l.c
def hx (l : Lat) (x y : Int) : Int := (x - y / l.c * l.b) % l.a
def hy (l : Lat) (y : Int) : Int := y % l.c
/-- What is closed under differences. -/
structure Grp (G : Int → Int → Prop) : Prop where
  zero : G 0 0
  sub : ∀ {a b c d : Int}, G a b → G c d → G (a - c) (b - d)
theorem Grp.neg {G : Int → Int → Prop} (h : Grp G) {a b : Int} (g : G a b) : G (-a) (-b) := by
  have := h.sub h.zero g; rwa [Int.zero_sub, Int.zero_sub] at this
theorem Grp.add {G : Int → Int → Prop} (h : Grp G) {a b c d : Int} (g : G a b) (k : G c d) : G (a + c) (b + d) := by
  have := h.sub g (h.neg k); rwa [Int.sub_neg, Int.sub_neg] at this
theorem Grp.nsm {G : Int → Int → Prop} (h : Grp G) {a b : Int} (g : G a b) : ∀ n : Nat, G (n * a) (n * b)
  | 0 => by simpa using h.zero
  | n + 1 => by
    have := h.add (h.nsm g n) g
    rwa [show ((n + 1 : Nat) : Int) * a = n * a + a by rw [Int.natCast_add, Int.add_mul]; simp, show ((n + 1 : Nat) : Int) * b = n * b + b by rw [Int.natCast_add, Int.add_mul]; simp]
theorem Grp.mul {G : Int → Int → Prop} (h : Grp G) {a b : Int} (g : G a b) (n : Int) : G (n * a) (n * b) := by
  by_cases hn : 0 ≤ n
  · have := h.nsm g n.toNat; rwa [show ((n.toNat : Nat) : Int) = n by omega] at this
  · have := h.neg (h.nsm g (-n).toNat)
    rwa [show (((-n).toNat : Nat) : Int) = -n by omega, Int.neg_mul, Int.neg_mul, Int.neg_neg, Int.neg_neg] at this
/-- The sums of the two. -/
def inL (l : Lat) (x y : Int) : Prop := ∃ m n : Int, x = m * l.a + n * l.b ∧ y = n * l.c
theorem inL_grp (l : Lat) : Grp (inL l) where
  zero := ⟨0, 0, by simp, by simp⟩
  sub := by
    rintro _ _ _ _ ⟨m, n, rfl, rfl⟩ ⟨p, q, rfl, rfl⟩
    exact ⟨m - p, n - q, by rw [Int.sub_mul, Int.sub_mul]; omega, by rw [Int.sub_mul]⟩
theorem inL_a (l : Lat) : inL l l.a 0 := ⟨1, 0, by simp, by simp⟩
theorem inL_b (l : Lat) : inL l l.b l.c := ⟨0, 1, by simp, by simp⟩
theorem inL_sub {l : Lat} {G : Int → Int → Prop} (hG : Grp G) (ha : G l.a 0) (hb : G l.b l.c) {x y : Int} (h : inL l x y) : G x y := by
  obtain ⟨m, n, rfl, rfl⟩ := h
  have := hG.add (hG.mul ha m) (hG.mul hb n)
  simpa using this
/-- A place and its home. -/
theorem home_in (l : Lat) (x y : Int) : inL l (x - hx l x y) (y - hy l y) := by
  refine ⟨(x - y / l.c * l.b) / l.a, y / l.c, ?_, ?_⟩
  · have := Int.mul_ediv_add_emod (x - y / l.c * l.b) l.a
    unfold hx
    rw [Int.mul_comm] at this
    omega
  · have := Int.mul_ediv_add_emod y l.c
    unfold hy
    rw [Int.mul_comm] at this
    omega
theorem home_bd {l : Lat} (h : l.ok) (x y : Int) : 0 ≤ hx l x y ∧ hx l x y < l.a ∧ 0 ≤ hy l y ∧ hy l y < l.c :=
  ⟨Int.emod_nonneg _ (by have := h.1; omega), Int.emod_lt_of_pos _ (by have := h.1; omega), Int.emod_nonneg _ (by have := h.2.2.2; omega), Int.emod_lt_of_pos _ (by have := h.2.2.2; omega)⟩
theorem home_self {l : Lat} {x y : Int} (h1 : 0 ≤ x) (h2 : x < l.a) (h3 : 0 ≤ y) (h4 : y < l.c) : hx l x y = x ∧ hy l y = y := by
  have hq : y / l.c = 0 := Int.ediv_eq_zero_of_lt h3 h4
  unfold hx hy
  rw [hq, Int.zero_mul, Int.sub_zero]
  exact ⟨Int.emod_eq_of_lt h1 h2, Int.emod_eq_of_lt h3 h4⟩
/-- A multiple of n strictly between -n and n is 0. -/
theorem mul_small {n k : Int} (h1 : -n < k * n) (h2 : k * n < n) : k = 0 := by
  have hn : 0 < n := by omega
  rcases Int.lt_trichotomy k 0 with h | h | h
  · have : k * n ≤ (-1) * n := Int.mul_le_mul_of_nonneg_right (by omega) (by omega)
    omega
  · exact h
  · have : 1 * n ≤ k * n := Int.mul_le_mul_of_nonneg_right (by omega) (by omega)
    omega
/-- Homes differ by no vector of the lattice. -/
theorem home_unique {l : Lat} {x y u v : Int} (hx1 : 0 ≤ x) (hx2 : x < l.a) (hy1 : 0 ≤ y) (hy2 : y < l.c) (hu1 : 0 ≤ u) (hu2 : u < l.a) (hv1 : 0 ≤ v) (hv2 : v < l.c) (h : inL l (x - u) (y - v)) : x = u ∧ y = v := by
  obtain ⟨m, n, e1, e2⟩ := h
  have hn : n = 0 := mul_small (n := l.c) (by omega) (by omega)
  subst hn
  have hm : m = 0 := mul_small (n := l.a) (by omega) (by omega)
  subst hm
  omega
theorem home_eq {l : Lat} (h : l.ok) {x y u v : Int} (hd : inL l (x - u) (y - v)) : hx l x y = hx l u v ∧ hy l y = hy l v := by
  obtain ⟨a1, a2, a3, a4⟩ := home_bd h x y
  obtain ⟨b1, b2, b3, b4⟩ := home_bd h u v
  refine home_unique a1 a2 a3 a4 b1 b2 b3 b4 ?_
  have := (inL_grp l).add ((inL_grp l).sub hd (home_in l x y)) (home_in l u v)
  rwa [show x - u - (x - hx l x y) + (u - hx l u v) = hx l x y - hx l u v by omega, show y - v - (y - hy l y) + (v - hy l v) = hy l y - hy l v by omega] at this
theorem inL_iff {l : Lat} (h : l.ok) (x y : Int) : inL l x y ↔ hx l x y = 0 ∧ hy l y = 0 := by
  constructor
  · intro hi
    have := home_eq h (x := x) (y := y) (u := 0) (v := 0) (by simpa using hi)
    have h0 := home_self (l := l) (x := 0) (y := 0) (by omega) (by have := h.1; omega) (by omega) (by have := h.2.2.2; omega)
    rw [this.1, this.2]; exact h0
  · rintro ⟨h1, h2⟩
    have := home_in l x y
    rwa [h1, h2, Int.sub_zero, Int.sub_zero] at this

/-- The basis of a group: its least vectors. -/
structure IsB (G : Int → Int → Prop) (l : Lat) : Prop where
  ok : l.ok
  ga : G l.a 0
  gb : G l.b l.c
  na : ∀ a, 1 ≤ a → a < l.a → ¬ G a 0
  nc : ∀ b c, 1 ≤ c → c < l.c → 0 ≤ b → b < l.a → ¬ G b c
theorem IsB.red {G : Int → Int → Prop} {l : Lat} (hG : Grp G) (h : IsB G l) {x y : Int} (hg : G x y) : G (hx l x y) (hy l y) := by
  have := hG.sub hg (inL_sub hG h.ga h.gb (home_in l x y))
  rwa [show x - (x - hx l x y) = hx l x y by omega, show y - (y - hy l y) = hy l y by omega] at this
theorem IsB.iff {G : Int → Int → Prop} {l : Lat} (hG : Grp G) (h : IsB G l) (x y : Int) : G x y ↔ inL l x y := by
  refine ⟨fun hg => ?_, inL_sub hG h.ga h.gb⟩
  obtain ⟨a1, a2, a3, a4⟩ := home_bd h.ok x y
  have hr := h.red hG hg
  have hy0 : hy l y = 0 := by
    apply Decidable.byContradiction; intro hc
    exact h.nc _ _ (by omega) a4 a1 a2 hr
  rw [hy0] at hr
  have hx0 : hx l x y = 0 := by
    apply Decidable.byContradiction; intro hc
    exact h.na _ (by omega) a2 hr
  exact (inL_iff h.ok x y).2 ⟨hx0, hy0⟩
theorem IsB.unique {G : Int → Int → Prop} {l k : Lat} (hG : Grp G) (h : IsB G l) (g : IsB G k) : l = k := by
  have ha : l.a = k.a := by
    rcases Int.lt_trichotomy l.a k.a with e | e | e
    · exact absurd h.ga (g.na _ h.ok.1 e)
    · exact e
    · exact absurd g.ga (h.na _ g.ok.1 e)
  have hc : l.c = k.c := by
    rcases Int.lt_trichotomy l.c k.c with e | e | e
    · exact absurd h.gb (g.nc _ _ h.ok.2.2.2 e h.ok.2.1 (by have := h.ok.2.2.1; omega))
    · exact e
    · exact absurd g.gb (h.nc _ _ g.ok.2.2.2 e g.ok.2.1 (by have := g.ok.2.2.1; omega))
  have hb : l.b = k.b := by
    have hd := hG.sub h.gb g.gb
    rw [hc, Int.sub_self] at hd
    have hd2 := hG.sub g.gb h.gb
    rw [hc, Int.sub_self] at hd2
    have h1 := h.ok
    have h2 := g.ok
    unfold Lat.ok at h1 h2
    apply Decidable.byContradiction
    intro hne
    rcases Int.lt_or_gt_of_ne hne with e | e
    · exact h.na _ (by omega) (by omega) hd2
    · exact h.na _ (by omega) (by omega) hd
  cases l; cases k; simp only at ha hb hc; subst ha; subst hb; subst hc; rfl

/-- An injection of the numbers below m into those below n. -/
theorem pigeon : ∀ (n m : Nat) (f : Nat → Nat), (∀ i, i < m → f i < n) → (∀ i j, i < m → j < m → f i = f j → i = j) → m ≤ n
  | 0, 0, _, _, _ => Nat.le_refl _
  | 0, m + 1, f, h, _ => absurd (h 0 (by omega)) (by omega)
  | n + 1, 0, _, _, _ => Nat.zero_le _
  | n + 1, m + 1, f, h, hi => by
    have := pigeon n m (fun i => if f i = n then f m else f i) (fun i hi1 => by
      have h1 := h i (by omega)
      have h2 := h m (by omega)
      show (if f i = n then f m else f i) < n
      split
      · rename_i e
        have : f m ≠ n := fun e2 => by have := hi i m (by omega) (by omega) (by omega); omega
        omega
      · omega) (fun i j hi1 hj1 e => by
      have e' : (if f i = n then f m else f i) = (if f j = n then f m else f j) := e
      split at e' <;> split at e'
      · exact hi i j (by omega) (by omega) (by omega)
      · have := hi m j (by omega) (by omega) e'; omega
      · have := hi i m (by omega) (by omega) e'; omega
      · exact hi i j (by omega) (by omega) e')
    omega
/-- A number for each place, below n, that tells places apart that differ by no vector of G. -/
structure Cells (G : Int → Int → Prop) (n : Nat) where
  at' : Int → Int → Nat
  lt : ∀ x y, at' x y < n
  same : ∀ x y u v, at' x y = at' u v → G (x - u) (y - v)
theorem least_pos (P : Int → Prop) [DecidablePred P] : ∀ (n : Nat), (∃ k : Int, 1 ≤ k ∧ k ≤ n ∧ P k) → ∃ k : Int, 1 ≤ k ∧ k ≤ n ∧ P k ∧ ∀ j, 1 ≤ j → j < k → ¬ P j
  | 0, ⟨k, h1, h2, _⟩ => absurd h2 (by omega)
  | n + 1, h => by
    by_cases hn : ∃ k : Int, 1 ≤ k ∧ k ≤ n ∧ P k
    · obtain ⟨k, h1, h2, h3, h4⟩ := least_pos P n hn
      exact ⟨k, h1, by omega, h3, h4⟩
    · obtain ⟨k, h1, h2, h3⟩ := h
      refine ⟨k, h1, h2, h3, fun j hj1 hj2 hj3 => hn ⟨j, hj1, by omega, hj3⟩⟩
open Classical in
theorem Cells.basis {G : Int → Int → Prop} (_hG : Grp G) {n : Nat} (hc : Cells G n) : ∃ l, IsB G l ∧ l.a ≤ n ∧ l.c ≤ n := by
  have hrep : ∀ (p : Nat → Int × Int), ∃ i j : Nat, i < j ∧ j ≤ n ∧ hc.at' (p i).1 (p i).2 = hc.at' (p j).1 (p j).2 := by
    intro p
    apply Decidable.byContradiction
    intro hne
    have := pigeon n (n + 1) (fun i => hc.at' (p i).1 (p i).2) (fun i _ => hc.lt _ _) (fun i j hi hj e => by
      rcases Nat.lt_trichotomy i j with h | h | h
      · exact absurd ⟨i, j, h, by omega, e⟩ hne
      · exact h
      · exact absurd ⟨j, i, h, by omega, e.symm⟩ hne)
    omega
  obtain ⟨i, j, hij, hj, e⟩ := hrep fun i => ((i : Int), 0)
  have ga := hc.same _ _ _ _ e.symm
  simp only [Int.sub_self] at ga
  obtain ⟨a, a1, a2, a3, a4⟩ := least_pos (fun a => G a 0) n ⟨(j : Int) - i, by omega, by omega, ga⟩
  obtain ⟨i, j, hij, hj, e⟩ := hrep fun i => (0, (i : Int))
  have gc := hc.same _ _ _ _ e.symm
  simp only [Int.sub_self] at gc
  obtain ⟨c, c1, c2, ⟨b, b1, b2, b3⟩, c4⟩ := least_pos (fun c => ∃ b, 0 ≤ b ∧ b < a ∧ G b c) n ⟨(j : Int) - i, by omega, by omega, 0, by omega, by omega, gc⟩
  exact ⟨⟨a, b, c⟩, ⟨⟨a1, b1, b2, c1⟩, a3, b3, a4, fun b' c' h1 h2 h3 h4 hg => c4 c' h1 h2 ⟨b', h3, h4, hg⟩⟩, a2, c2⟩
/-- As many homes as there are numbers, at most. -/
theorem Cells.size {G : Int → Int → Prop} (hG : Grp G) {n : Nat} (hc : Cells G n) {l : Lat} (h : IsB G l) : l.a * l.c ≤ n := by
  have h0 := h.ok
  unfold Lat.ok at h0
  obtain ⟨A, hA⟩ : ∃ A : Nat, l.a = A := ⟨l.a.toNat, by omega⟩
  obtain ⟨C, hC⟩ : ∃ C : Nat, l.c = C := ⟨l.c.toNat, by omega⟩
  have hA0 : 0 < A := by omega
  have := pigeon n (A * C) (fun i => hc.at' ((i % A : Nat) : Int) ((i / A : Nat) : Int)) (fun i _ => hc.lt _ _) (fun i j hi hj e => by
    have hg := (h.iff hG _ _).1 (hc.same _ _ _ _ e)
    have m1 := Nat.mod_lt i hA0
    have m2 := Nat.mod_lt j hA0
    have d1 : i / A < C := Nat.div_lt_of_lt_mul hi
    have d2 : j / A < C := Nat.div_lt_of_lt_mul hj
    have e1 := Nat.div_add_mod i A
    have e2 := Nat.div_add_mod j A
    generalize i / A = p at *
    generalize j / A = q at *
    generalize i % A = r at *
    generalize j % A = s at *
    have hu := home_unique (by omega) (by omega) (by omega) (by omega) (by omega) (by omega) (by omega) (by omega) hg
    obtain rfl : p = q := by omega
    omega)
  rw [hA, hC, ← Int.natCast_mul]
  omega
/-- The homes of a lattice. -/
def Cells.ofLat {l : Lat} (h : l.ok) {G : Int → Int → Prop} (hG : ∀ x y, inL l x y → G x y) : Cells G (l.a * l.c).toNat where
  at' x y := (hy l y * l.a + hx l x y).toNat
  lt x y := by
    obtain ⟨h1, h2, h3, h4⟩ := home_bd h x y
    have h5 : hy l y * l.a ≤ (l.c - 1) * l.a := Int.mul_le_mul_of_nonneg_right (by omega) (by omega)
    rw [Int.sub_mul, Int.one_mul, Int.mul_comm l.c] at h5
    have h6 : 0 ≤ hy l y * l.a := Int.mul_nonneg h3 (by omega)
    omega
  same x y u v e := by
    obtain ⟨h1, h2, h3, h4⟩ := home_bd h x y
    obtain ⟨g1, g2, g3, g4⟩ := home_bd h u v
    have h6 : 0 ≤ hy l y * l.a := Int.mul_nonneg h3 (by omega)
    have g6 : 0 ≤ hy l v * l.a := Int.mul_nonneg g3 (by omega)
    have e' : hy l y * l.a + hx l x y = hy l v * l.a + hx l u v := by omega
    have hd : (hy l y - hy l v) * l.a = hx l u v - hx l x y := by rw [Int.sub_mul]; omega
    have h0 := mul_small (n := l.a) (k := hy l y - hy l v) (by omega) (by omega)
    rw [h0, Int.zero_mul] at hd
    apply hG
    have := (inL_grp l).sub (home_in l x y) (home_in l u v)
    rwa [show x - hx l x y - (u - hx l u v) = x - u by omega, show y - hy l y - (v - hy l v) = y - v by omega] at this
theorem ofLat_isB {l : Lat} (h : l.ok) : IsB (inL l) l where
  ok := h
  ga := inL_a l
  gb := inL_b l
  na a h1 h2 hg := by
    have := home_unique (l := l) (x := a) (y := 0) (u := 0) (v := 0) (by omega) h2 (by omega) (by have := h.2.2.2; omega) (by omega) (by omega) (by omega) (by have := h.2.2.2; omega) (by simpa using hg)
    omega
  nc b c h1 h2 h3 h4 hg := by
    have := home_unique (l := l) (x := b) (y := c) (u := 0) (v := 0) h3 h4 (by omega) h2 (by omega) (by omega) (by omega) (by omega) (by simpa using hg)
    omega

/-! Functions of the plane. -/
def Per (f : Int → Int → Int) (dx dy : Int) : Prop := ∀ x y, f (x + dx) (y + dy) = f x y
theorem per_grp (f : Int → Int → Int) : Grp (Per f) where
  zero := fun x y => by rw [Int.add_zero, Int.add_zero]
  sub := by
    intro a b c d h1 h2 x y
    have := h2 (x + (a - c)) (y + (b - d))
    rw [show x + (a - c) + c = x + a by omega, show y + (b - d) + d = y + b by omega] at this
    rw [← this, h1]
/-- The plane of a repeat. -/
def col (l : Lat) (cs : Nat → Int) (x y : Int) : Int := cs (hy l y * l.a + hx l x y).toNat
theorem col_per {l : Lat} (h : l.ok) (cs : Nat → Int) {dx dy : Int} (hd : inL l dx dy) : Per (col l cs) dx dy := by
  intro x y
  have := home_eq h (x := x + dx) (y := y + dy) (u := x) (v := y) (by rwa [show x + dx - x = dx by omega, show y + dy - y = dy by omega])
  unfold col
  rw [this.1, this.2]
/-- The cells of a repeat of f. -/
def cellF (l : Lat) (f : Int → Int → Int) (i : Nat) : Int := f ((i : Int) % l.a) ((i : Int) / l.a)
theorem cellF_at {l : Lat} (f : Int → Int → Int) {x y : Int} (h1 : 0 ≤ x) (h2 : x < l.a) (h3 : 0 ≤ y) : cellF l f (y * l.a + x).toNat = f x y := by
  have h6 : 0 ≤ y * l.a := Int.mul_nonneg h3 (by omega)
  unfold cellF
  rw [show (((y * l.a + x).toNat : Nat) : Int) = y * l.a + x by omega, Int.add_comm, Int.add_mul_emod_self_right, Int.emod_eq_of_lt h1 h2, Int.add_mul_ediv_right _ _ (by omega), Int.ediv_eq_zero_of_lt h1 h2, Int.zero_add]
/-- A repeat of f with periods of f gives f. -/
theorem col_cell {l : Lat} (h : l.ok) {f : Int → Int → Int} (hp : ∀ x y, inL l x y → Per f x y) {cs : Nat → Int} (hcs : ∀ i : Nat, (i : Int) < l.a * l.c → cs i = cellF l f i) : col l cs = f := by
  funext x y
  obtain ⟨h1, h2, h3, h4⟩ := home_bd h x y
  have h5 : hy l y * l.a ≤ (l.c - 1) * l.a := Int.mul_le_mul_of_nonneg_right (by omega) (by omega)
  rw [Int.sub_mul, Int.one_mul, Int.mul_comm l.c] at h5
  have h6 : 0 ≤ hy l y * l.a := Int.mul_nonneg h3 (by omega)
  unfold col
  rw [hcs _ (by omega), cellF_at f h1 h2 h3]
  have := hp _ _ (home_in l x y) (hx l x y) (hy l y)
  rw [show hx l x y + (x - hx l x y) = x by omega, show hy l y + (y - hy l y) = y by omega] at this
  exact this.symm
/-- What holds on one repeat holds everywhere. -/
theorem on_repeat {l : Lat} (h : l.ok) {f g : Int → Int → Int} (hf : ∀ x y, inL l x y → Per f x y) (hg : ∀ x y, inL l x y → Per g x y) (dx dy : Int)
    (he : ∀ x y, 0 ≤ x → x < l.a → 0 ≤ y → y < l.c → f x y = g (x + dx) (y + dy)) (x y : Int) : f x y = g (x + dx) (y + dy) := by
  obtain ⟨h1, h2, h3, h4⟩ := home_bd h x y
  have e1 := hf _ _ (home_in l x y) (hx l x y) (hy l y)
  have e2 := hg _ _ (home_in l x y) (hx l x y + dx) (hy l y + dy)
  rw [show hx l x y + (x - hx l x y) = x by omega, show hy l y + (y - hy l y) = y by omega] at e1
  rw [show hx l x y + dx + (x - hx l x y) = x + dx by omega, show hy l y + dy + (y - hy l y) = y + dy by omega] at e2
  rw [e1, e2]
  exact he _ _ h1 h2 h3 h4
theorem per_repeat {l : Lat} (h : l.ok) {f : Int → Int → Int} (hf : ∀ x y, inL l x y → Per f x y) (dx dy : Int) (he : ∀ x y, 0 ≤ x → x < l.a → 0 ≤ y → y < l.c → f x y = f (x + dx) (y + dy)) : Per f dx dy :=
  fun x y => (on_repeat h hf hf dx dy he x y).symm
end Pt
end Go.Proofs.YtobolflgoljafaaGreatDoor
namespace Go.Proofs.YtobolflgoljafaaGreatDoor
namespace Pt

theorem IsB.of_iff {G H : Int → Int → Prop} (h : ∀ x y, G x y ↔ H x y) {l : Lat} (g : IsB G l) : IsB H l where
  ok := g.ok
  ga := (h _ _).1 g.ga
  gb := (h _ _).1 g.gb
  na a h1 h2 h3 := g.na a h1 h2 ((h _ _).2 h3)
  nc b c h1 h2 h3 h4 h5 := g.nc b c h1 h2 h3 h4 ((h _ _).2 h5)
open Classical in
/-- The basis of all periods. -/
noncomputable def bas (G : Int → Int → Prop) : Lat := if h : ∃ l, IsB G l then Classical.choose h else ⟨1, 0, 1⟩
theorem bas_is {G : Int → Int → Prop} (h : ∃ l, IsB G l) : IsB G (bas G) := by
  unfold bas; rw [dif_pos h]; exact Classical.choose_spec h
theorem bas_eq {G : Int → Int → Prop} (hG : Grp G) {l : Lat} (h : IsB G l) : bas G = l := (bas_is ⟨l, h⟩).unique hG h
theorem bas_lat {l : Lat} (h : l.ok) : bas (inL l) = l := bas_eq (inL_grp l) (ofLat_isB h)
/-- A function of the plane, some of its periods, and how many cells these leave. -/
structure Plane (G : Int → Int → Prop) (n : Nat) (f : Int → Int → Int) : Prop where
  grp : Grp G
  cells : Nonempty (Cells G n)
  per : ∀ x y, G x y → Per f x y
def Cells.up {G H : Int → Int → Prop} {n : Nat} (h : Cells G n) (g : ∀ x y, G x y → H x y) : Cells H n := ⟨h.at', h.lt, fun x y u v e => g _ _ (h.same x y u v e)⟩
theorem Plane.isG {G : Int → Int → Prop} {n : Nat} {f : Int → Int → Int} (h : Plane G n f) : IsB G (bas G) := by
  obtain ⟨c⟩ := h.cells
  obtain ⟨l, hl, _⟩ := c.basis h.grp
  exact bas_is ⟨l, hl⟩
theorem Plane.isP {G : Int → Int → Prop} {n : Nat} {f : Int → Int → Int} (h : Plane G n f) : IsB (Per f) (bas (Per f)) := by
  obtain ⟨c⟩ := h.cells
  obtain ⟨l, hl, _⟩ := (c.up h.per).basis (per_grp f)
  exact bas_is ⟨l, hl⟩
theorem Plane.sizeG {G : Int → Int → Prop} {n : Nat} {f : Int → Int → Int} (h : Plane G n f) : (bas G).a * (bas G).c ≤ n := by
  obtain ⟨c⟩ := h.cells
  exact c.size h.grp h.isG
theorem Plane.sizeP {G : Int → Int → Prop} {n : Nat} {f : Int → Int → Int} (h : Plane G n f) : (bas (Per f)).a * (bas (Per f)).c ≤ n := by
  obtain ⟨c⟩ := h.cells
  exact (c.up h.per).size (per_grp f) h.isP
/-- The basis that is found is one of periods of f. -/
theorem Plane.known {G : Int → Int → Prop} {n : Nat} {f : Int → Int → Int} (h : Plane G n f) {x y : Int} (hi : inL (bas G) x y) : Per f x y :=
  h.per _ _ ((h.isG.iff h.grp x y).2 hi)
/-- The given basis is a multiple of the least one. -/
theorem least_dvd {G : Int → Int → Prop} (hG : Grp G) {l k : Lat} (h : IsB G l) (ha : G k.a 0) (hb : G k.b k.c) : k.a % l.a = 0 ∧ k.c % l.c = 0 := by
  obtain ⟨m, n, e1, e2⟩ := (h.iff hG _ _).1 ha
  have hc := h.ok.2.2.2
  have hn : n = 0 := by
    rcases Int.mul_eq_zero.1 e2.symm with h1 | h1
    · exact h1
    · omega
  subst hn
  obtain ⟨p, q, _, e4⟩ := (h.iff hG _ _).1 hb
  exact ⟨by rw [e1]; simp, by rw [e4]; simp⟩
/-- The repeat of the plane of a repeat. -/
theorem Plane.ofLat {l : Lat} (h : l.ok) (cs : Nat → Int) : Plane (inL l) (l.a * l.c).toNat (col l cs) :=
  ⟨inL_grp l, ⟨Cells.ofLat h fun _ _ g => g⟩, fun _ _ g => col_per h cs g⟩
/-- The least repeat's cells give f again. -/
theorem Plane.col_least {G : Int → Int → Prop} {n : Nat} {f : Int → Int → Int} (h : Plane G n f) {cs : Nat → Int} (hcs : ∀ i : Nat, (i : Int) < (bas (Per f)).a * (bas (Per f)).c → cs i = cellF (bas (Per f)) f i) : col (bas (Per f)) cs = f :=
  col_cell h.isP.ok (fun x y hi => (h.isP.iff (per_grp f) x y).2 hi) hcs

/-! Changes. -/
def rotF (f : Int → Int → Int) (x y : Int) : Int := f y (-x)
def mirF (f : Int → Int → Int) (x y : Int) : Int := f (-x) y
def shiF (dx dy : Int) (f : Int → Int → Int) (x y : Int) : Int := f (x - dx) (y - dy)
def recF (g : Int → Int) (f : Int → Int → Int) (x y : Int) : Int := g (f x y)
def overF (f g : Int → Int → Int) (x y : Int) : Int := if f x y = 0 then g x y else f x y
def sweF (t : Int) (f : Int → Int → Int) (x y : Int) : Int := f (x / t) (y / t)
def rotG (G : Int → Int → Prop) (x y : Int) : Prop := G y (-x)
def mirG (G : Int → Int → Prop) (x y : Int) : Prop := G (-x) y
def bothG (G H : Int → Int → Prop) (x y : Int) : Prop := G x y ∧ H x y
def sweG (t : Int) (G : Int → Int → Prop) (x y : Int) : Prop := ∃ u v, x = t * u ∧ y = t * v ∧ G u v
theorem rot_grp {G : Int → Int → Prop} (h : Grp G) : Grp (rotG G) where
  zero := by simpa [rotG] using h.zero
  sub := by
    intro a b c d h1 h2
    have := h.sub h1 h2
    unfold rotG
    rwa [show -(a - c) = -a - -c by omega]
theorem mir_grp {G : Int → Int → Prop} (h : Grp G) : Grp (mirG G) where
  zero := by simpa [mirG] using h.zero
  sub := by
    intro a b c d h1 h2
    have := h.sub h1 h2
    unfold mirG
    rwa [show -(a - c) = -a - -c by omega]
theorem both_grp {G H : Int → Int → Prop} (h : Grp G) (g : Grp H) : Grp (bothG G H) where
  zero := ⟨h.zero, g.zero⟩
  sub h1 h2 := ⟨h.sub h1.1 h2.1, g.sub h1.2 h2.2⟩
theorem swe_grp {t : Int} {G : Int → Int → Prop} (h : Grp G) : Grp (sweG t G) where
  zero := ⟨0, 0, by simp, by simp, h.zero⟩
  sub := by
    rintro _ _ _ _ ⟨u, v, rfl, rfl, h1⟩ ⟨p, q, rfl, rfl, h2⟩
    exact ⟨u - p, v - q, by rw [Int.mul_sub], by rw [Int.mul_sub], h.sub h1 h2⟩
def Cells.rot {G : Int → Int → Prop} {n : Nat} (h : Cells G n) : Cells (rotG G) n where
  at' x y := h.at' y (-x)
  lt _ _ := h.lt _ _
  same x y u v e := by
    have := h.same _ _ _ _ e
    unfold rotG
    rwa [show -(x - u) = -x - -u by omega]
def Cells.mir {G : Int → Int → Prop} {n : Nat} (h : Cells G n) : Cells (mirG G) n where
  at' x y := h.at' (-x) y
  lt _ _ := h.lt _ _
  same x y u v e := by
    have := h.same _ _ _ _ e
    unfold mirG
    rwa [show -(x - u) = -x - -u by omega]
theorem pair_lt {i j n m : Nat} (hi : i < n) (hj : j < m) : i * m + j < n * m := by
  have : (i + 1) * m ≤ n * m := Nat.mul_le_mul_right _ hi
  rw [Nat.add_mul, Nat.one_mul] at this
  omega
theorem pair_eq {i j k l m : Nat} (hj : j < m) (hl : l < m) (h : i * m + j = k * m + l) : i = k ∧ j = l := by
  have h1 : (i * m + j) / m = i := by rw [Nat.add_comm, Nat.add_mul_div_right _ _ (by omega), Nat.div_eq_of_lt hj]; omega
  have h2 : (k * m + l) / m = k := by rw [Nat.add_comm, Nat.add_mul_div_right _ _ (by omega), Nat.div_eq_of_lt hl]; omega
  rw [h, h2] at h1
  subst h1
  exact ⟨rfl, by omega⟩
def Cells.both {G H : Int → Int → Prop} {n m : Nat} (h : Cells G n) (g : Cells H m) : Cells (bothG G H) (n * m) where
  at' x y := h.at' x y * m + g.at' x y
  lt x y := pair_lt (h.lt x y) (g.lt x y)
  same x y u v e := by
    obtain ⟨e1, e2⟩ := pair_eq (g.lt x y) (g.lt u v) e
    exact ⟨h.same _ _ _ _ e1, g.same _ _ _ _ e2⟩
def Cells.swe {G : Int → Int → Prop} {n : Nat} (h : Cells G n) {t : Int} (ht : 1 ≤ t) : Cells (sweG t G) (n * t.toNat * t.toNat) where
  at' x y := (h.at' (x / t) (y / t) * t.toNat + (x % t).toNat) * t.toNat + (y % t).toNat
  lt x y := by
    have h1 := Int.emod_nonneg x (show t ≠ 0 by omega)
    have h2 := Int.emod_lt_of_pos x (show 0 < t by omega)
    have h3 := Int.emod_nonneg y (show t ≠ 0 by omega)
    have h4 := Int.emod_lt_of_pos y (show 0 < t by omega)
    exact pair_lt (pair_lt (h.lt _ _) (by omega)) (by omega)
  same x y u v e := by
    have h1 := Int.emod_nonneg x (show t ≠ 0 by omega)
    have h2 := Int.emod_lt_of_pos x (show 0 < t by omega)
    have h3 := Int.emod_nonneg y (show t ≠ 0 by omega)
    have h4 := Int.emod_lt_of_pos y (show 0 < t by omega)
    have g1 := Int.emod_nonneg u (show t ≠ 0 by omega)
    have g2 := Int.emod_lt_of_pos u (show 0 < t by omega)
    have g3 := Int.emod_nonneg v (show t ≠ 0 by omega)
    have g4 := Int.emod_lt_of_pos v (show 0 < t by omega)
    obtain ⟨e1, e2⟩ := pair_eq (by omega) (by omega) e
    obtain ⟨e1, e3⟩ := pair_eq (by omega) (by omega) e1
    refine ⟨x / t - u / t, y / t - v / t, ?_, ?_, h.same _ _ _ _ e1⟩
    · rw [Int.mul_sub]; have := Int.mul_ediv_add_emod x t; have := Int.mul_ediv_add_emod u t; omega
    · rw [Int.mul_sub]; have := Int.mul_ediv_add_emod y t; have := Int.mul_ediv_add_emod v t; omega
theorem Plane.rot {G : Int → Int → Prop} {n : Nat} {f : Int → Int → Int} (h : Plane G n f) : Plane (rotG G) n (rotF f) :=
  ⟨rot_grp h.grp, h.cells.elim fun c => ⟨c.rot⟩, fun x y g u v => by
    have := h.per _ _ g v (-u)
    unfold rotF
    rwa [show -(u + x) = -u + -x by omega]⟩
theorem Plane.mir {G : Int → Int → Prop} {n : Nat} {f : Int → Int → Int} (h : Plane G n f) : Plane (mirG G) n (mirF f) :=
  ⟨mir_grp h.grp, h.cells.elim fun c => ⟨c.mir⟩, fun x y g u v => by
    have := h.per _ _ g (-u) v
    unfold mirF
    rwa [show -(u + x) = -u + -x by omega]⟩
theorem Plane.shi {G : Int → Int → Prop} {n : Nat} {f : Int → Int → Int} (h : Plane G n f) (dx dy : Int) : Plane G n (shiF dx dy f) :=
  ⟨h.grp, h.cells, fun x y g u v => by
    have := h.per _ _ g (u - dx) (v - dy)
    unfold shiF
    rwa [show u + x - dx = u - dx + x by omega, show v + y - dy = v - dy + y by omega]⟩
theorem Plane.rec' {G : Int → Int → Prop} {n : Nat} {f : Int → Int → Int} (h : Plane G n f) (g : Int → Int) : Plane G n (recF g f) :=
  ⟨h.grp, h.cells, fun x y k u v => by unfold recF; rw [h.per _ _ k]⟩
theorem Plane.over {G H : Int → Int → Prop} {n m : Nat} {f g : Int → Int → Int} (h : Plane G n f) (k : Plane H m g) : Plane (bothG G H) (n * m) (overF f g) :=
  ⟨both_grp h.grp k.grp, h.cells.elim fun c => k.cells.elim fun d => ⟨c.both d⟩, fun x y e u v => by
    unfold overF; rw [h.per _ _ e.1, k.per _ _ e.2]⟩
theorem Plane.swe {G : Int → Int → Prop} {n : Nat} {f : Int → Int → Int} (h : Plane G n f) {t : Int} (ht : 1 ≤ t) : Plane (sweG t G) (n * t.toNat * t.toNat) (sweF t f) :=
  ⟨swe_grp h.grp, h.cells.elim fun c => ⟨c.swe ht⟩, by
    rintro _ _ ⟨p, q, rfl, rfl, e⟩ u v
    unfold sweF
    rw [Int.add_mul_ediv_left _ _ (by omega), Int.add_mul_ediv_left _ _ (by omega)]
    exact h.per _ _ e _ _⟩
/-- Two lattices of which one is the other one turned have as many cells. -/
theorem size_le {G H : Int → Int → Prop} (hH : Grp H) {l k : Lat} (hl : IsB G l) (hG : Grp G) (hk : IsB H k) (c : ∀ n, Cells G n → Nonempty (Cells H n)) : k.a * k.c ≤ l.a * l.c := by
  obtain ⟨d⟩ := c _ (Cells.ofLat hl.ok (G := G) fun x y h => (hl.iff hG x y).2 h)
  have := d.size hH hk
  have h1 := hl.ok
  unfold Lat.ok at h1
  have : 0 ≤ l.a * l.c := Int.mul_nonneg (by omega) (by omega)
  omega
theorem rot_back {G : Int → Int → Prop} (hG : Grp G) (x y : Int) : rotG (rotG G) x y ↔ G x y := by
  unfold rotG
  constructor
  · intro h; simpa using hG.neg h
  · intro h; exact hG.neg h
theorem rot_size {G : Int → Int → Prop} (hG : Grp G) {l k : Lat} (hl : IsB G l) (hk : IsB (rotG G) k) : k.a * k.c = l.a * l.c := by
  have h1 := size_le (rot_grp hG) hl hG hk fun n c => ⟨c.rot⟩
  have h2 := size_le hG hk (rot_grp hG) hl fun n c => ⟨c.rot.up fun x y => (rot_back hG x y).1⟩
  omega
end Pt
end Go.Proofs.YtobolflgoljafaaGreatDoor
