/- Least repeats of functions of the plane: plain. -/
import Derived.Test.YtigigmjdockdeaaGreatDoorPatN
namespace Go.Proofs.YtigigmjdockdeaaGreatDoor
namespace Pt

theorem IsB.of_iff {G H : Int → Int → Prop} (h : ∀ x y, G x y ↔ H x y) {l : Lat} (g : IsB G l) : IsB H l where
  ok := g.ok
  ga := (h _ _).1 g.ga
  gb := (h _ _).1 g.gb
  na a h1 h2 h3 := g.na a h1 h2 ((h _ _).2 h3)
  nc b c h1 h2 h3 h4 h5 := g.nc b c h1 h2 h3 h4 ((h _ _).2 h5)
open Classical in
/-- The basis of all periods. -/
noncomputable def bas (G : Int → Int → Prop) : Lat := if h : ∃ l, IsB G l then Classical.choose h else ⟨1, 0, 1⟩
theorem bas_is {G : Int → Int → Prop} (h : ∃ l, IsB G l) : IsB G (bas G) := by
  unfold bas; rw [dif_pos h]; exact Classical.choose_spec h
theorem bas_eq {G : Int → Int → Prop} (hG : Grp G) {l : Lat} (h : IsB G l) : bas G = l := (bas_is ⟨l, h⟩).unique hG h
theorem bas_lat {l : Lat} (h : l.ok) : bas (inL l) = l := bas_eq (inL_grp l) (ofLat_isB h)
/-- A function of the plane, some of its periods, and how many cells these leave. -/
structure Plane (G : Int → Int → Prop) (n : Nat) (f : Int → Int → Int) : Prop where
  grp : Grp G
  cells : Nonempty (Cells G n)
  per : ∀ x y, G x y → Per f x y
def Cells.up {G H : Int → Int → Prop} {n : Nat} (h : Cells G n) (g : ∀ x y, G x y → H x y) : Cells H n := ⟨h.at', h.lt, fun x y u v e => g _ _ (h.same x y u v e)⟩
theorem Plane.isG {G : Int → Int → Prop} {n : Nat} {f : Int → Int → Int} (h : Plane G n f) : IsB G (bas G) := by
  obtain ⟨c⟩ := h.cells
  obtain ⟨l, hl, _⟩ := c.basis h.grp
  exact bas_is ⟨l, hl⟩
theorem Plane.isP {G : Int → Int → Prop} {n : Nat} {f : Int → Int → Int} (h : Plane G n f) : IsB (Per f) (bas (Per f)) := by
  obtain ⟨c⟩ := h.cells
  obtain ⟨l, hl, _⟩ := (c.up h.per).basis (per_grp f)
  exact bas_is ⟨l, hl⟩
theorem Plane.sizeG {G : Int → Int → Prop} {n : Nat} {f : Int → Int → Int} (h : Plane G n f) : (bas G).a * (bas G).c ≤ n := by
  obtain ⟨c⟩ := h.cells
  exact c.size h.grp h.isG
theorem Plane.sizeP {G : Int → Int → Prop} {n : Nat} {f : Int → Int → Int} (h : Plane G n f) : (bas (Per f)).a * (bas (Per f)).c ≤ n := by
  obtain ⟨c⟩ := h.cells
  exact (c.up h.per).size (per_grp f) h.isP
/-- The basis that is found is one of periods of f. -/
theorem Plane.known {G : Int → Int → Prop} {n : Nat} {f : Int → Int → Int} (h : Plane G n f) {x y : Int} (hi : inL (bas G) x y) : Per f x y :=
  h.per _ _ ((h.isG.iff h.grp x y).2 hi)
/-- The given basis is a multiple of the least one. -/
theorem least_dvd {G : Int → Int → Prop} (hG : Grp G) {l k : Lat} (h : IsB G l) (ha : G k.a 0) (hb : G k.b k.c) : k.a % l.a = 0 ∧ k.c % l.c = 0 := by
  obtain ⟨m, n, e1, e2⟩ := (h.iff hG _ _).1 ha
  have hc := h.ok.2.2.2
  have hn : n = 0 := by
    rcases Int.mul_eq_zero.1 e2.symm with h1 | h1
    · exact h1
    · omega
  subst hn
  obtain ⟨p, q, _, e4⟩ := (h.iff hG _ _).1 hb
  exact ⟨by rw [e1]; simp, by rw [e4]; simp⟩
/-- The repeat of the plane of a repeat. -/
theorem Plane.ofLat {l : Lat} (h : l.ok) (cs : Nat → Int) : Plane (inL l) (l.a * l.c).toNat (col l cs) :=
  ⟨inL_grp l, ⟨Cells.ofLat h fun _ _ g => g⟩, fun _ _ g => col_per h cs g⟩
/-- The least repeat's cells give f again. -/
theorem Plane.col_least {G : Int → Int → Prop} {n : Nat} {f : Int → Int → Int} (h : Plane G n f) {cs : Nat → Int} (hcs : ∀ i : Nat, (i : Int) < (bas (Per f)).a * (bas (Per f)).c → cs i = cellF (bas (Per f)) f i) : col (bas (Per f)) cs = f :=
  col_cell h.isP.ok (fun x y hi => (h.isP.iff (per_grp f) x y).2 hi) hcs

/-! Changes. -/
def rotF (f : Int → Int → Int) (x y : Int) : Int := f y (-x)
def mirF (f : Int → Int → Int) (x y : Int) : Int := f (-x) y
def shiF (dx dy : Int) (f : Int → Int → Int) (x y : Int) : Int := f (x - dx) (y - dy)
def recF (g : Int → Int) (f : Int → Int → Int) (x y : Int) : Int := g (f x y)
def overF (f g : Int → Int → Int) (x y : Int) : Int := if f x y = 0 then g x y else f x y
def sweF (t : Int) (f : Int → Int → Int) (x y : Int) : Int := f (x / t) (y / t)
def rotG (G : Int → Int → Prop) (x y : Int) : Prop := G y (-x)
def mirG (G : Int → Int → Prop) (x y : Int) : Prop := G (-x) y
def bothG (G H : Int → Int → Prop) (x y : Int) : Prop := G x y ∧ H x y
def sweG (t : Int) (G : Int → Int → Prop) (x y : Int) : Prop := ∃ u v, x = t * u ∧ y = t * v ∧ G u v
theorem rot_grp {G : Int → Int → Prop} (h : Grp G) : Grp (rotG G) where
  zero := by simpa [rotG] using h.zero
  sub := by
    intro a b c d h1 h2
    have := h.sub h1 h2
    unfold rotG
    rwa [show -(a - c) = -a - -c by omega]
theorem mir_grp {G : Int → Int → Prop} (h : Grp G) : Grp (mirG G) where
  zero := by simpa [mirG] using h.zero
  sub := by
    intro a b c d h1 h2
    have := h.sub h1 h2
    unfold mirG
    rwa [show -(a - c) = -a - -c by omega]
theorem both_grp {G H : Int → Int → Prop} (h : Grp G) (g : Grp H) : Grp (bothG G H) where
  zero := ⟨h.zero, g.zero⟩
  sub h1 h2 := ⟨h.sub h1.1 h2.1, g.sub h1.2 h2.2⟩
theorem swe_grp {t : Int} {G : Int → Int → Prop} (h : Grp G) : Grp (sweG t G) where
  zero := ⟨0, 0, by simp, by simp, h.zero⟩
  sub := by
    rintro _ _ _ _ ⟨u, v, rfl, rfl, h1⟩ ⟨p, q, rfl, rfl, h2⟩
    exact ⟨u - p, v - q, by rw [Int.mul_sub], by rw [Int.mul_sub], h.sub h1 h2⟩
def Cells.rot {G : Int → Int → Prop} {n : Nat} (h : Cells G n) : Cells (rotG G) n where
  at' x y := h.at' y (-x)
  lt _ _ := h.lt _ _
  same x y u v e := by
    have := h.same _ _ _ _ e
    unfold rotG
    rwa [show -(x - u) = -x - -u by omega]
def Cells.mir {G : Int → Int → Prop} {n : Nat} (h : Cells G n) : Cells (mirG G) n where
  at' x y := h.at' (-x) y
  lt _ _ := h.lt _ _
  same x y u v e := by
    have := h.same _ _ _ _ e
    unfold mirG
    rwa [show -(x - u) = -x - -u by omega]
theorem pair_lt {i j n m : Nat} (hi : i < n) (hj : j < m) : i * m + j < n * m := by
  have : (i + 1) * m ≤ n * m := Nat.mul_le_mul_right _ hi
  rw [Nat.add_mul, Nat.one_mul] at this
  omega
theorem pair_eq {i j k l m : Nat} (hj : j < m) (hl : l < m) (h : i * m + j = k * m + l) : i = k ∧ j = l := by
  have h1 : (i * m + j) / m = i := by rw [Nat.add_comm, Nat.add_mul_div_right _ _ (by omega), Nat.div_eq_of_lt hj]; omega
  have h2 : (k * m + l) / m = k := by rw [Nat.add_comm, Nat.add_mul_div_right _ _ (by omega), Nat.div_eq_of_lt hl]; omega
  rw [h, h2] at h1
  subst h1
  exact ⟨rfl, by omega⟩
def Cells.both {G H : Int → Int → Prop} {n m : Nat} (h : Cells G n) (g : Cells H m) : Cells (bothG G H) (n * m) where
  at' x y := h.at' x y * m + g.at' x y
  lt x y := pair_lt (h.lt x y) (g.lt x y)
  same x y u v e := by
    obtain ⟨e1, e2⟩ := pair_eq (g.lt x y) (g.lt u v) e
    exact ⟨h.same _ _ _ _ e1, g.same _ _ _ _ e2⟩
def Cells.swe {G : Int → Int → Prop} {n : Nat} (h : Cells G n) {t : Int} (ht : 1 ≤ t) : Cells (sweG t G) (n * t.toNat * t.toNat) where
  at' x y := (h.at' (x / t) (y / t) * t.toNat + (x % t).toNat) * t.toNat + (y % t).toNat
  lt x y := by
    have h1 := Int.emod_nonneg x (show t ≠ 0 by omega)
    have h2 := Int.emod_lt_of_pos x (show 0 < t by omega)
    have h3 := Int.emod_nonneg y (show t ≠ 0 by omega)
    have h4 := Int.emod_lt_of_pos y (show 0 < t by omega)
    exact pair_lt (pair_lt (h.lt _ _) (by omega)) (by omega)
  same x y u v e := by
    have h1 := Int.emod_nonneg x (show t ≠ 0 by omega)
    have h2 := Int.emod_lt_of_pos x (show 0 < t by omega)
    have h3 := Int.emod_nonneg y (show t ≠ 0 by omega)
    have h4 := Int.emod_lt_of_pos y (show 0 < t by omega)
    have g1 := Int.emod_nonneg u (show t ≠ 0 by omega)
    have g2 := Int.emod_lt_of_pos u (show 0 < t by omega)
    have g3 := Int.emod_nonneg v (show t ≠ 0 by omega)
    have g4 := Int.emod_lt_of_pos v (show 0 < t by omega)
    obtain ⟨e1, e2⟩ := pair_eq (by omega) (by omega) e
    obtain ⟨e1, e3⟩ := pair_eq (by omega) (by omega) e1
    refine ⟨x / t - u / t, y / t - v / t, ?_, ?_, h.same _ _ _ _ e1⟩
    · rw [Int.mul_sub]; have := Int.mul_ediv_add_emod x t; have := Int.mul_ediv_add_emod u t; omega
    · rw [Int.mul_sub]; have := Int.mul_ediv_add_emod y t; have := Int.mul_ediv_add_emod v t; omega
theorem Plane.rot {G : Int → Int → Prop} {n : Nat} {f : Int → Int → Int} (h : Plane G n f) : Plane (rotG G) n (rotF f) :=
  ⟨rot_grp h.grp, h.cells.elim fun c => ⟨c.rot⟩, fun x y g u v => by
    have := h.per _ _ g v (-u)
    unfold rotF
    rwa [show -(u + x) = -u + -x by omega]⟩
theorem Plane.mir {G : Int → Int → Prop} {n : Nat} {f : Int → Int → Int} (h : Plane G n f) : Plane (mirG G) n (mirF f) :=
  ⟨mir_grp h.grp, h.cells.elim fun c => ⟨c.mir⟩, fun x y g u v => by
    have := h.per _ _ g (-u) v
    unfold mirF
    rwa [show -(u + x) = -u + -x by omega]⟩
theorem Plane.shi {G : Int → Int → Prop} {n : Nat} {f : Int → Int → Int} (h : Plane G n f) (dx dy : Int) : Plane G n (shiF dx dy f) :=
  ⟨h.grp, h.cells, fun x y g u v => by
    have := h.per _ _ g (u - dx) (v - dy)
    unfold shiF
    rwa [show u + x - dx = u - dx + x by omega, show v + y - dy = v - dy + y by omega]⟩
theorem Plane.rec' {G : Int → Int → Prop} {n : Nat} {f : Int → Int → Int} (h : Plane G n f) (g : Int → Int) : Plane G n (recF g f) :=
  ⟨h.grp, h.cells, fun x y k u v => by unfold recF; rw [h.per _ _ k]⟩
theorem Plane.over {G H : Int → Int → Prop} {n m : Nat} {f g : Int → Int → Int} (h : Plane G n f) (k : Plane H m g) : Plane (bothG G H) (n * m) (overF f g) :=
  ⟨both_grp h.grp k.grp, h.cells.elim fun c => k.cells.elim fun d => ⟨c.both d⟩, fun x y e u v => by
    unfold overF; rw [h.per _ _ e.1, k.per _ _ e.2]⟩
theorem Plane.swe {G : Int → Int → Prop} {n : Nat} {f : Int → Int → Int} (h : Plane G n f) {t : Int} (ht : 1 ≤ t) : Plane (sweG t G) (n * t.toNat * t.toNat) (sweF t f) :=
  ⟨swe_grp h.grp, h.cells.elim fun c => ⟨c.swe ht⟩, by
    rintro _ _ ⟨p, q, rfl, rfl, e⟩ u v
    unfold sweF
    rw [Int.add_mul_ediv_left _ _ (by omega), Int.add_mul_ediv_left _ _ (by omega)]
    exact h.per _ _ e _ _⟩
/-- Two lattices of which one is the other one turned have as many cells. -/
theorem size_le {G H : Int → Int → Prop} (hH : Grp H) {l k : Lat} (hl : IsB G l) (hG : Grp G) (hk : IsB H k) (c : ∀ n, Cells G n → Nonempty (Cells H n)) : k.a * k.c ≤ l.a * l.c := by
  obtain ⟨d⟩ := c _ (Cells.ofLat hl.ok (G := G) fun x y h => (hl.iff hG x y).2 h)
  have := d.size hH hk
  have h1 := hl.ok
  unfold Lat.ok at h1
  have : 0 ≤ l.a * l.c := Int.mul_nonneg (by omega) (by omega)
  omega
theorem rot_back {G : Int → Int → Prop} (hG : Grp G) (x y : Int) : rotG (rotG G) x y ↔ G x y := by
  unfold rotG
  constructor
  · intro h; simpa using hG.neg h
  · intro h; exact hG.neg h
theorem rot_size {G : Int → Int → Prop} (hG : Grp G) {l k : Lat} (hl : IsB G l) (hk : IsB (rotG G) k) : k.a * k.c = l.a * l.c := by
  have h1 := size_le (rot_grp hG) hl hG hk fun n c => ⟨c.rot⟩
  have h2 := size_le hG hk (rot_grp hG) hl fun n c => ⟨c.rot.up fun x y => (rot_back hG x y).1⟩
  omega
end Pt
end Go.Proofs.YtigigmjdockdeaaGreatDoor
