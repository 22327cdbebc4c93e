/- Hangings, heats and lofts in plain words. Programs of heats in plain words: the sums that days can have, as bits, and the first heats of the fewest days. Hangings, heats and loads in plain words: what the reference reckons otherwise; two hangings that differ by a drop. Goods and plans in plain words: which are valid, and the first error of a plan. Days and proofs in plain words: a proof excludes every plan that is accepted. -/

namespace Go.Proofs.Ytabfcnfddemblaa
namespace Lf

def rng (lo hi n : Int) : Bool := decide (lo ≤ n) && decide (n ≤ hi)
theorem rng_iff {lo hi n : Int} : rng lo hi n = true ↔ lo ≤ n ∧ n ≤ hi := by simp [rng]
theorem rng_no {lo hi n : Int} (h : rng lo hi n = false) : ¬ (lo ≤ n ∧ n ≤ hi) := fun hc => by rw [rng_iff.2 hc] at h; cases h

/-- A hanging: drop, shift, days, rate, fall. -/
structure H where
  d : Int
  s : Int
  y : Int
  r : Int
  f : Int
instance : Inhabited H := ⟨⟨0, 0, 0, 0, 0⟩⟩
/-- A loft: poles, rates. -/
structure F where
  p : Int
  rs : List Int
instance : Inhabited F := ⟨⟨0, []⟩⟩
/-- Goods: poles, need, most, ready, due. -/
structure G where
  p : Int
  n : Int
  m : Int
  a : Int
  u : Int
instance : Inhabited G := ⟨⟨0, 0, 0, 0, 0⟩⟩
/-- A load: its loft, its first day, its heats, its goods. -/
structure L where
  l : Int
  a : Int
  hs : List Int
  gs : List Int
instance : Inhabited L := ⟨⟨0, 0, [], []⟩⟩

def vH (h : H) : Bool := rng 1 1000 h.d && (rng 0 (2 * h.d - 1) h.s && (rng 0 12 h.y && (rng 0 100000 h.r && rng 0 (h.r / h.d) h.f)))
theorem vH_iff {h : H} : vH h = true ↔ (1 ≤ h.d ∧ h.d ≤ 1000) ∧ (0 ≤ h.s ∧ h.s ≤ 2 * h.d - 1) ∧ (0 ≤ h.y ∧ h.y ≤ 12) ∧ (0 ≤ h.r ∧ h.r ≤ 100000) ∧ (0 ≤ h.f ∧ h.f ≤ h.r / h.d) := by
  unfold vH
  simp only [Bool.and_eq_true, rng_iff]

/-- How many poles lie below a length. -/
def np (h : H) (len : Int) : Nat := ((len - h.s + 2 * h.d - 1) / (2 * h.d)).toNat
theorem np_iff {h : H} {len : Int} (hd : 1 ≤ h.d) (k : Nat) : k < np h len ↔ h.s + 2 * h.d * (k : Int) < len := by
  unfold np
  have h2 : 0 < 2 * h.d := by omega
  have e1 : (k < ((len - h.s + 2 * h.d - 1) / (2 * h.d)).toNat) ↔ ((k : Int) + 1 ≤ (len - h.s + 2 * h.d - 1) / (2 * h.d)) := by omega
  rw [e1, Int.le_ediv_iff_mul_le h2, Int.mul_comm]
  rw [Int.mul_add]
  omega
/-- The first places of the poles. -/
def pl (h : H) (k : Nat) : List Int := (List.range k).map fun (i : Nat) => h.s + 2 * h.d * (i : Int)
theorem pl_len (h : H) (k : Nat) : (pl h k).length = k := by simp [pl]
theorem pl_succ (h : H) (k : Nat) : pl h (k + 1) = pl h k ++ [h.s + 2 * h.d * (k : Int)] := by
  unfold pl; rw [List.range_succ, List.map_append]; rfl
theorem pl_at {h : H} {k i : Nat} (hi : i < (pl h k).length) : (pl h k)[i] = h.s + 2 * h.d * (i : Int) := by simp [pl]
def polE (h : H) (len : Int) : Int := if (vH h && rng 0 1000000 len) = true then (if np h len ≤ 1000 then 0 else 4) else 1
def polL (h : H) (len : Int) : List Int := if polE h len = 0 then pl h (np h len) else []

/-- The height of a place. -/
def hgt (h : H) (p : Int) : Int := min ((p + 2 * h.d - h.s) % (2 * h.d)) (2 * h.d - (p + 2 * h.d - h.s) % (2 * h.d))
def hgtE (h : H) (p : Int) : Int := if (vH h && rng 0 1000000 p) = true then 0 else 1
def hgtR (h : H) (p : Int) : Int := if hgtE h p = 0 then hgt h p else 0
theorem hgt_bd {h : H} (hd : 1 ≤ h.d) (p : Int) : 0 ≤ hgt h p ∧ hgt h p ≤ h.d := by
  unfold hgt
  have := Int.emod_nonneg (p + 2 * h.d - h.s) (show 2 * h.d ≠ 0 by omega)
  have := Int.emod_lt_of_pos (p + 2 * h.d - h.s) (show 0 < 2 * h.d by omega)
  omega
/-- The ripeness of a place in one hanging. -/
def ri (h : H) (p : Int) : Int := h.y * (h.r - h.f * hgt h p)
theorem fh_bd {h : H} (hv : vH h = true) (p : Int) : 0 ≤ h.f * hgt h p ∧ h.f * hgt h p ≤ h.r := by
  obtain ⟨⟨d1, d2⟩, _, _, ⟨r1, r2⟩, ⟨f1, f2⟩⟩ := vH_iff.1 hv
  obtain ⟨g1, g2⟩ := hgt_bd (p := p) d1
  refine ⟨Int.mul_nonneg f1 g1, ?_⟩
  have a1 : h.f * hgt h p ≤ h.f * h.d := Int.mul_le_mul_of_nonneg_left g2 f1
  have a2 : h.f * h.d ≤ h.r / h.d * h.d := Int.mul_le_mul_of_nonneg_right f2 (by omega)
  have a3 : h.r / h.d * h.d ≤ h.r := Int.ediv_mul_le _ (by omega)
  omega
theorem ri_bd {h : H} (hv : vH h = true) (p : Int) : 0 ≤ ri h p ∧ ri h p ≤ 1200000 := by
  obtain ⟨_, _, ⟨y1, y2⟩, ⟨r1, r2⟩, _⟩ := vH_iff.1 hv
  obtain ⟨g1, g2⟩ := fh_bd hv p
  unfold ri
  have a1 : 0 ≤ h.r - h.f * hgt h p := by omega
  have a2 : h.r - h.f * hgt h p ≤ 100000 := by omega
  refine ⟨Int.mul_nonneg y1 a1, ?_⟩
  have b1 : h.y * (h.r - h.f * hgt h p) ≤ 12 * (h.r - h.f * hgt h p) := Int.mul_le_mul_of_nonneg_right y2 a1
  omega
/-- The ripeness of a place in the first hangings. -/
def rip (l : List H) (p : Int) : Nat → Int
  | 0 => 0
  | k + 1 => rip l p k + ri (l.getD k default) p
theorem rip_bd {l : List H} (hv : ∀ k (hk : k < l.length), vH l[k] = true) (p : Int) : ∀ k, k ≤ l.length → 0 ≤ rip l p k ∧ rip l p k ≤ 1200000 * k
  | 0, _ => by simp [rip]
  | k + 1, hk => by
    have a := rip_bd hv p k (by omega)
    have b := ri_bd (hv k (by omega)) p
    rw [rip, show l.getD k default = l[k] by simp [show k < l.length by omega]]
    omega
/-- The error of a list of hangings. -/
def vlE (l : List H) : Int := if 8 < l.length then 4 else if l.all vH = true then 0 else 1
theorem vlE_long {l : List H} (h : 8 < l.length) : vlE l = 4 := if_pos h
theorem vlE_ok {l : List H} (h : ¬ 8 < l.length) (hv : ∀ k (hk : k < l.length), vH l[k] = true) : vlE l = 0 := by
  rw [vlE, if_neg h, if_pos]
  rw [List.all_eq_true]
  intro x hx
  obtain ⟨k, hk, rfl⟩ := List.mem_iff_getElem.1 hx
  exact hv k hk
theorem vlE_bad {l : List H} (h : ¬ 8 < l.length) {k : Nat} (hk : k < l.length) (hv : vH l[k] = false) : vlE l = 1 := by
  rw [vlE, if_neg h, if_neg]
  rw [List.all_eq_true]
  intro hc
  rw [hc _ (List.getElem_mem hk)] at hv; cases hv
theorem vlE_zero {l : List H} (h : vlE l = 0) : l.length ≤ 8 ∧ ∀ k (hk : k < l.length), vH l[k] = true := by
  unfold vlE at h
  by_cases h8 : 8 < l.length
  · rw [if_pos h8] at h; omega
  · rw [if_neg h8] at h
    by_cases ha : l.all vH = true
    · exact ⟨by omega, fun k hk => List.all_eq_true.1 ha _ (List.getElem_mem hk)⟩
    · rw [if_neg ha] at h; omega
def ripE (l : List H) (p : Int) : Int := if vlE l = 0 then (if rng 0 1000000 p = true then 0 else 1) else vlE l
def ripR (l : List H) (p : Int) : Int := if ripE l p = 0 then rip l p l.length else 0
def ranE (l : List H) (n : Int) : Int := if vlE l = 0 then (if rng 1 4000 n = true then 0 else 1) else vlE l
/-- The least and the most of the ripeness of the first places. -/
def mnN (l : List H) : Nat → Int
  | 0 => rip l 0 l.length
  | n + 1 => min (mnN l n) (rip l n l.length)
def mxN (l : List H) : Nat → Int
  | 0 => rip l 0 l.length
  | n + 1 => max (mxN l n) (rip l n l.length)
def ranL (l : List H) (n : Int) : Int := if ranE l n = 0 then mnN l n.toNat else 0
def ranM (l : List H) (n : Int) : Int := if ranE l n = 0 then mxN l n.toNat else 0
theorem mn_bd {l : List H} (hv : ∀ k (hk : k < l.length), vH l[k] = true) (hl : l.length ≤ 8) : ∀ n, 0 ≤ mnN l n ∧ mnN l n ≤ 9600000
  | 0 => by have := rip_bd hv 0 l.length (Nat.le_refl _); rw [mnN]; omega
  | n + 1 => by have := rip_bd hv n l.length (Nat.le_refl _); have := mn_bd hv hl n; rw [mnN]; omega
theorem mx_bd {l : List H} (hv : ∀ k (hk : k < l.length), vH l[k] = true) (hl : l.length ≤ 8) : ∀ n, 0 ≤ mxN l n ∧ mxN l n ≤ 9600000
  | 0 => by have := rip_bd hv 0 l.length (Nat.le_refl _); rw [mxN]; omega
  | n + 1 => by have := rip_bd hv n l.length (Nat.le_refl _); have := mx_bd hv hl n; rw [mxN]; omega

/-- Heats: the heat before a day. -/
def lst (hs : List Int) : Nat → Int
  | 0 => 0
  | k + 1 => hs.getD k 0
def stp (a b : Int) : Bool := rng (max 0 (a - 1)) (min 4 (a + 1)) b
theorem stp_iff {a b : Int} : stp a b = true ↔ 0 ≤ b ∧ b ≤ 4 ∧ a - 1 ≤ b ∧ b ≤ a + 1 := by
  unfold stp; rw [rng_iff]; omega
def okHt (hs : List Int) (k : Nat) : Bool := stp (lst hs k) (hs.getD k 0)
def vHt (hs : List Int) : Bool := rng 1 12 (hs.length : Int) && (List.range hs.length).all (okHt hs)
theorem vHt_iff {hs : List Int} : vHt hs = true ↔ (1 ≤ hs.length ∧ hs.length ≤ 12) ∧ ∀ k, k < hs.length → okHt hs k = true := by
  unfold vHt
  rw [Bool.and_eq_true, rng_iff, List.all_eq_true]
  constructor
  · rintro ⟨h1, h2⟩; exact ⟨by omega, fun k hk => h2 k (List.mem_range.2 hk)⟩
  · rintro ⟨h1, h2⟩; exact ⟨by omega, fun k hk => h2 k (List.mem_range.1 hk)⟩
theorem vHt_len {hs : List Int} (h : rng 1 12 (hs.length : Int) = false) : vHt hs = false := by unfold vHt; rw [h]; rfl
theorem vHt_bad {hs : List Int} {k : Nat} (hk : k < hs.length) (h : okHt hs k = false) : vHt hs = false := by
  apply Bool.eq_false_iff.2
  intro hc
  rw [(vHt_iff.1 hc).2 k hk] at h; cases h
theorem vHt_ok {hs : List Int} (h : rng 1 12 (hs.length : Int) = true) (h2 : ∀ k, k < hs.length → okHt hs k = true) : vHt hs = true :=
  vHt_iff.2 ⟨by have := rng_iff.1 h; omega, h2⟩
theorem okHt_at {hs : List Int} {k : Nat} (h : okHt hs k = true) : 0 ≤ hs.getD k 0 ∧ hs.getD k 0 ≤ 4 := by
  have := stp_iff.1 h; omega

/-- Lofts. -/
def okRt (rs : List Int) (k : Nat) : Bool := rng (lst rs k) 9 (rs.getD k 0)
def okF (f : F) : Bool := rng 1 40 f.p && (decide (f.rs.length = 5) && (List.range 5).all (okRt f.rs))
theorem okF_iff {f : F} : okF f = true ↔ (1 ≤ f.p ∧ f.p ≤ 40) ∧ f.rs.length = 5 ∧ ∀ k, k < 5 → okRt f.rs k = true := by
  unfold okF
  rw [Bool.and_eq_true, Bool.and_eq_true, rng_iff, decide_eq_true_eq, List.all_eq_true]
  constructor
  · rintro ⟨h1, h2, h3⟩; exact ⟨h1, h2, fun k hk => h3 k (List.mem_range.2 hk)⟩
  · rintro ⟨h1, h2, h3⟩; exact ⟨h1, h2, fun k hk => h3 k (List.mem_range.1 hk)⟩
theorem okF_poles {f : F} (h : rng 1 40 f.p = false) : okF f = false := by unfold okF; rw [h]; rfl
theorem okF_len {f : F} (h : f.rs.length ≠ 5) : okF f = false := by
  apply Bool.eq_false_iff.2
  intro hc; exact h (okF_iff.1 hc).2.1
theorem okF_bad {f : F} {k : Nat} (hk : k < 5) (h : okRt f.rs k = false) : okF f = false := by
  apply Bool.eq_false_iff.2
  intro hc; rw [(okF_iff.1 hc).2.2 k hk] at h; cases h
theorem okF_ok {f : F} (h : rng 1 40 f.p = true) (h2 : f.rs.length = 5) (h3 : ∀ k, k < 5 → okRt f.rs k = true) : okF f = true := okF_iff.2 ⟨rng_iff.1 h, h2, h3⟩
theorem okRt_bd {rs : List Int} (h : ∀ k, k < 5 → okRt rs k = true) : ∀ k, k < 5 → 0 ≤ rs.getD k 0 ∧ rs.getD k 0 ≤ 9
  | 0, h0 => by have := rng_iff.1 (h 0 h0); simp only [lst] at this; omega
  | k + 1, hk => by
    have a := rng_iff.1 (h (k + 1) hk)
    have b := okRt_bd h k (by omega)
    simp only [lst] at a; omega
def valF (l : List F) : Int := if (rng 1 3 (l.length : Int) && l.all okF) = true then 0 else 1
theorem valF_len {l : List F} (h : rng 1 3 (l.length : Int) = false) : valF l = 1 := by unfold valF; rw [h]; rfl
theorem valF_ok {l : List F} (h : rng 1 3 (l.length : Int) = true) (hv : ∀ k (hk : k < l.length), okF l[k] = true) : valF l = 0 := by
  rw [valF, if_pos]
  rw [Bool.and_eq_true, List.all_eq_true]
  refine ⟨h, fun x hx => ?_⟩
  obtain ⟨k, hk, rfl⟩ := List.mem_iff_getElem.1 hx
  exact hv k hk
theorem valF_bad {l : List F} {k : Nat} (hk : k < l.length) (hv : okF l[k] = false) : valF l = 1 := by
  rw [valF, if_neg]
  rw [Bool.and_eq_true, List.all_eq_true]
  rintro ⟨_, hc⟩
  rw [hc _ (List.getElem_mem hk)] at hv; cases hv
theorem valF_zero {l : List F} (h : valF l = 0) : (1 ≤ l.length ∧ l.length ≤ 3) ∧ ∀ k (hk : k < l.length), okF l[k] = true := by
  unfold valF at h
  by_cases hc : (rng 1 3 (l.length : Int) && l.all okF) = true
  · rw [Bool.and_eq_true, List.all_eq_true, rng_iff] at hc
    exact ⟨by omega, fun k hk => hc.2 _ (List.getElem_mem hk)⟩
  · rw [if_neg hc] at h; omega
theorem valF_01 (l : List F) : valF l = 0 ∨ valF l = 1 := by unfold valF; split <;> simp
theorem valF_one {f : F} : valF [f] = 0 ↔ okF f = true := by
  constructor
  · intro h; exact (valF_zero h).2 0 (by simp)
  · intro h; exact valF_ok (by rfl) (fun k hk => by
      have e : k = 0 := by simpa using hk
      subst e
      exact h)

/-- The warmth of the first heats. -/
def wm (rs hs : List Int) : Nat → Int
  | 0 => 0
  | k + 1 => wm rs hs k + rs.getD (hs.getD k 0).toNat 0
theorem wm_bd {rs hs : List Int} (hr : ∀ k, k < 5 → 0 ≤ rs.getD k 0 ∧ rs.getD k 0 ≤ 9) (hv : ∀ k, k < hs.length → 0 ≤ hs.getD k 0 ∧ hs.getD k 0 ≤ 4) : ∀ k, k ≤ hs.length → 0 ≤ wm rs hs k ∧ wm rs hs k ≤ 9 * k
  | 0, _ => by simp [wm]
  | k + 1, hk => by
    have a := wm_bd hr hv k (by omega)
    have b := hv k (by omega)
    have c := hr (hs.getD k 0).toNat (by omega)
    rw [wm]; omega
def wE (f : F) (hs : List Int) : Int := if valF [f] = 0 then (if vHt hs = true then 0 else 1) else 1
def wR (f : F) (hs : List Int) : Int := if wE f hs = 0 then wm f.rs hs hs.length else 0
end Lf
end Go.Proofs.Ytabfcnfddemblaa
namespace Go.Proofs.Ytabfcnfddemblaa
namespace Lf

/-- The rate of a heat. -/
def rt (rs : List Int) (g : Nat) : Nat := (rs.getD g 0).toNat
def nr (b g : Nat) : Bool := decide (b ≤ g + 1) && decide (g ≤ b + 1)
theorem nr_iff {b g : Nat} : nr b g = true ↔ b ≤ g + 1 ∧ g ≤ b + 1 := by simp [nr]
/-- Some heats of so many days behind a day of a heat have just this warmth. -/
def sm (rs : List Int) : Nat → Nat → Nat → Bool
  | 0, _, s => decide (s = 0)
  | n + 1, b, s => (List.range 5).any fun g => nr b g && (decide (rt rs g ≤ s) && sm rs n g (s - rt rs g))
/-- .. of so many days and one more that begin with a heat. -/
def cn (rs : List Int) (n g s : Nat) : Bool := decide (rt rs g ≤ s) && sm rs n g (s - rt rs g)
theorem sm_succ {rs : List Int} {n b s : Nat} : sm rs (n + 1) b s = true ↔ ∃ g, g < 5 ∧ nr b g = true ∧ cn rs n g s = true := by
  rw [sm, List.any_eq_true]
  constructor
  · rintro ⟨g, hg, h⟩
    rw [Bool.and_eq_true] at h
    exact ⟨g, List.mem_range.1 hg, h.1, h.2⟩
  · rintro ⟨g, hg, h1, h2⟩
    exact ⟨g, List.mem_range.2 hg, by rw [Bool.and_eq_true]; exact ⟨h1, h2⟩⟩
/-- .. have a warmth within bounds. -/
def aft (rs : List Int) (n b : Nat) (lo hi : Int) : Bool := (List.range 61).any fun (s : Nat) => decide (lo ≤ (s : Int)) && (decide ((s : Int) ≤ hi) && sm rs n b s)
theorem aft_iff {rs : List Int} {n b : Nat} {lo hi : Int} : aft rs n b lo hi = true ↔ ∃ s : Nat, s ≤ 60 ∧ lo ≤ s ∧ (s : Int) ≤ hi ∧ sm rs n b s = true := by
  rw [aft, List.any_eq_true]
  constructor
  · rintro ⟨s, hs, h⟩
    simp only [Bool.and_eq_true, decide_eq_true_eq] at h
    exact ⟨s, by have := List.mem_range.1 hs; omega, h.1, h.2.1, h.2.2⟩
  · rintro ⟨s, hs, h1, h2, h3⟩
    exact ⟨s, List.mem_range.2 (by omega), by simp only [Bool.and_eq_true, decide_eq_true_eq]; exact ⟨h1, h2, h3⟩⟩
/-- Whether heats of so many days and one more that begin with a heat have a warmth within bounds. -/
def can (rs : List Int) (n g : Nat) (lo hi : Int) : Bool := aft rs n g (lo - rt rs g) (hi - rt rs g)
theorem can_iff {rs : List Int} {n g : Nat} {lo hi : Int} (hh : hi ≤ 60) : can rs n g lo hi = true ↔ ∃ s : Nat, lo ≤ s ∧ (s : Int) ≤ hi ∧ cn rs n g s = true := by
  unfold can
  rw [aft_iff]
  constructor
  · rintro ⟨s, _, h1, h2, h3⟩
    refine ⟨s + rt rs g, by omega, by omega, ?_⟩
    unfold cn
    rw [Bool.and_eq_true, decide_eq_true_eq]
    exact ⟨by omega, by rw [Nat.add_sub_cancel]; exact h3⟩
  · rintro ⟨s, h1, h2, h3⟩
    unfold cn at h3
    rw [Bool.and_eq_true, decide_eq_true_eq] at h3
    exact ⟨s - rt rs g, by omega, by omega, by omega, h3.2⟩
theorem aft_succ {rs : List Int} {n b : Nat} {lo hi : Int} (hh : hi ≤ 60) : aft rs (n + 1) b lo hi = true ↔ ∃ g, g < 5 ∧ nr b g = true ∧ can rs n g lo hi = true := by
  rw [aft_iff]
  constructor
  · rintro ⟨s, _, h1, h2, h3⟩
    obtain ⟨g, hg, h4, h5⟩ := sm_succ.1 h3
    exact ⟨g, hg, h4, (can_iff hh).2 ⟨s, h1, h2, h5⟩⟩
  · rintro ⟨g, hg, h4, h5⟩
    obtain ⟨s, h1, h2, h3⟩ := (can_iff hh).1 h5
    exact ⟨s, by omega, h1, h2, sm_succ.2 ⟨g, hg, h4, h3⟩⟩

/-- The bits of some heats in turn. -/
def afN (m : Nat → Nat) (lo : Nat) : Nat → Nat
  | 0 => 0
  | k + 1 => afN m lo k ||| m (lo + k)
theorem afN_bit {m : Nat → Nat} {lo s : Nat} : ∀ k, (afN m lo k).testBit s = true ↔ ∃ j, j < k ∧ (m (lo + j)).testBit s = true
  | 0 => by simp [afN]
  | k + 1 => by
    rw [afN, Nat.testBit_or, Bool.or_eq_true, afN_bit k]
    constructor
    · rintro (⟨j, hj, h⟩ | h)
      · exact ⟨j, by omega, h⟩
      · exact ⟨k, by omega, h⟩
    · rintro ⟨j, hj, h⟩
      by_cases e : j = k
      · subst e; exact .inr h
      · exact .inl ⟨j, by omega, h⟩
theorem afN_lt {m : Nat → Nat} {lo N : Nat} (h : ∀ g, m g < 2 ^ N) : ∀ k, afN m lo k < 2 ^ N
  | 0 => Nat.two_pow_pos N
  | k + 1 => Nat.or_lt_two_pow (afN_lt h k) (h _)
/-- The heats near one: how many. -/
def nN (b : Nat) : Nat := min 4 (b + 1) + 1 - (b - 1)
def af (m : Nat → Nat) (b : Nat) : Nat := afN m (b - 1) (nN b)
theorem af_bit {m : Nat → Nat} {b s : Nat} : (af m b).testBit s = true ↔ ∃ g, g < 5 ∧ nr b g = true ∧ (m g).testBit s = true := by
  unfold af
  rw [afN_bit]
  constructor
  · rintro ⟨j, hj, h⟩
    unfold nN at hj
    exact ⟨b - 1 + j, by omega, nr_iff.2 (by omega), h⟩
  · rintro ⟨g, hg, h1, h2⟩
    have := nr_iff.1 h1
    exact ⟨g - (b - 1), by unfold nN; omega, by rw [show b - 1 + (g - (b - 1)) = g by omega]; exact h2⟩
/-- The sums of days that begin with a heat, as bits. -/
def mk (rs : List Int) : Nat → Nat → Nat
  | 0, g => 2 ^ rt rs g % 2 ^ 64
  | n + 1, g => (af (mk rs n) g * 2 ^ rt rs g) % 2 ^ 64
theorem mk_lt (rs : List Int) : ∀ n g, mk rs n g < 2 ^ 64
  | 0, _ => Nat.mod_lt _ (Nat.two_pow_pos _)
  | _ + 1, _ => Nat.mod_lt _ (Nat.two_pow_pos _)
theorem mk_bit {rs : List Int} : ∀ n g s, (mk rs n g).testBit s = (decide (s < 64) && cn rs n g s)
  | 0, g, s => by
    rw [mk, Nat.testBit_mod_two_pow, Nat.testBit_two_pow]
    congr 1
    unfold cn
    rw [sm, Bool.eq_iff_iff]
    simp only [Bool.and_eq_true, decide_eq_true_eq]
    omega
  | n + 1, g, s => by
    rw [mk, Nat.testBit_mod_two_pow, Nat.testBit_mul_two_pow]
    by_cases h64 : s < 64
    · rw [decide_eq_true h64, Bool.true_and, Bool.true_and]
      unfold cn
      by_cases hr : rt rs g ≤ s
      · rw [decide_eq_true hr, Bool.true_and, Bool.true_and, Bool.eq_iff_iff, af_bit, sm_succ]
        constructor
        · rintro ⟨g', h1, h2, h3⟩
          rw [mk_bit n g' _, Bool.and_eq_true] at h3
          exact ⟨g', h1, h2, h3.2⟩
        · rintro ⟨g', h1, h2, h3⟩
          exact ⟨g', h1, h2, by rw [mk_bit n g' _, h3, Bool.and_true]; exact decide_eq_true (by omega)⟩
      · rw [decide_eq_false hr]; rfl
    · rw [decide_eq_false h64]; rfl
/-- Bits that tell the numbers within bounds. -/
def Wn (W : Nat) (lo hi : Int) : Prop := W < 2 ^ 64 ∧ ∀ s, s < 64 → W.testBit s = (decide (lo ≤ (s : Int)) && decide ((s : Int) ≤ hi))
theorem and_pos {a b : Nat} : (a &&& b ≠ 0) ↔ ∃ s, a.testBit s = true ∧ b.testBit s = true := by
  constructor
  · intro h
    obtain ⟨s, hs⟩ := Nat.exists_testBit_of_ne_zero h
    rw [Nat.testBit_and, Bool.and_eq_true] at hs
    exact ⟨s, hs⟩
  · rintro ⟨s, h1, h2⟩ e
    have : (a &&& b).testBit s = true := by rw [Nat.testBit_and, h1, h2]; rfl
    rw [e, Nat.zero_testBit] at this; cases this
theorem bit_lt {W s : Nat} (h : W < 2 ^ 64) (hs : W.testBit s = true) : s < 64 := by
  apply Decidable.byContradiction
  intro hc
  rw [Nat.testBit_lt_two_pow (Nat.lt_of_lt_of_le h (Nat.pow_le_pow_right (by decide) (by omega)))] at hs
  cases hs
theorem hit {rs : List Int} {n g W : Nat} {lo hi : Int} (hW : Wn W lo hi) (hh : hi ≤ 60) : (mk rs n g &&& W ≠ 0) ↔ can rs n g lo hi = true := by
  rw [and_pos, can_iff hh]
  constructor
  · rintro ⟨s, h1, h2⟩
    have hs := bit_lt hW.1 h2
    rw [mk_bit, Bool.and_eq_true] at h1
    rw [hW.2 s hs, Bool.and_eq_true, decide_eq_true_eq, decide_eq_true_eq] at h2
    exact ⟨s, h2.1, h2.2, h1.2⟩
  · rintro ⟨s, h1, h2, h3⟩
    have hs : s < 64 := by omega
    exact ⟨s, by rw [mk_bit, h3, decide_eq_true hs]; rfl, by rw [hW.2 s hs, decide_eq_true h1, decide_eq_true h2]; rfl⟩
theorem hits {rs : List Int} {n b W : Nat} {lo hi : Int} (hW : Wn W lo hi) (hh : hi ≤ 60) : (af (mk rs n) b &&& W ≠ 0) ↔ aft rs (n + 1) b lo hi = true := by
  rw [and_pos, aft_succ hh]
  constructor
  · rintro ⟨s, h1, h2⟩
    obtain ⟨g, hg, h3, h4⟩ := af_bit.1 h1
    exact ⟨g, hg, h3, (hit hW hh).1 (and_pos.2 ⟨s, h4, h2⟩)⟩
  · rintro ⟨g, hg, h3, h4⟩
    obtain ⟨s, h1, h2⟩ := and_pos.1 ((hit hW hh).2 h4)
    exact ⟨s, af_bit.2 ⟨g, hg, h3, h1⟩, h2⟩
theorem Wn_shift {W : Nat} {lo hi : Int} (h : Wn W lo hi) (hh : hi ≤ 60) (r : Nat) : Wn (W / 2 ^ r) (lo - r) (hi - r) := by
  refine ⟨Nat.lt_of_le_of_lt (Nat.div_le_self _ _) h.1, fun s hs => ?_⟩
  rw [Nat.testBit_div_two_pow]
  by_cases h64 : s + r < 64
  · rw [h.2 _ h64]
    congr 1 <;> (apply decide_eq_decide.2; omega)
  · rw [show decide ((s : Int) ≤ hi - r) = false from decide_eq_false (by omega), Bool.and_false]
    exact Nat.testBit_lt_two_pow (Nat.lt_of_lt_of_le h.1 (Nat.pow_le_pow_right (by decide) (by omega)))
/-- The bits from need to most. -/
theorem Wn_make {a b : Nat} (hab : a ≤ b) (hb : b ≤ 60) : Wn (2 ^ (b + 1) - 2 ^ a) a b := by
  have hle : 2 ^ a ≤ 2 ^ (b + 1) := Nat.pow_le_pow_right (by decide) (by omega)
  refine ⟨Nat.lt_of_le_of_lt (Nat.sub_le _ _) (Nat.pow_lt_pow_right (by decide) (by omega)), fun s _ => ?_⟩
  have e : 2 ^ (b + 1) - 2 ^ a = (2 ^ (b + 1 - a) - 1) * 2 ^ a := by
    rw [Nat.sub_mul, ← Nat.pow_add, Nat.one_mul, show b + 1 - a + a = b + 1 by omega]
  rw [e, Nat.testBit_mul_two_pow, Nat.testBit_two_pow_sub_one, Bool.eq_iff_iff]
  simp only [Bool.and_eq_true, decide_eq_true_eq]
  omega

/-- The first heat, near one, with which days begin that have a warmth within bounds. -/
def fg (rs : List Int) (n b : Nat) (lo hi : Int) : Nat := if can rs n (b - 1) lo hi = true then b - 1 else if can rs n b lo hi = true then b else b + 1
theorem fg_first {rs : List Int} {n b g : Nat} {lo hi : Int} (h0 : b - 1 ≤ g) (h1 : g ≤ b + 1) (hno : ∀ j, b - 1 ≤ j → j < g → can rs n j lo hi = false) (hg : can rs n g lo hi = true) : g = fg rs n b lo hi := by
  unfold fg
  by_cases c1 : can rs n (b - 1) lo hi = true
  · rw [if_pos c1]
    by_cases e : g = b - 1
    · exact e
    · rw [hno (b - 1) (Nat.le_refl _) (by omega)] at c1; cases c1
  · rw [if_neg c1]
    have h2 : g ≠ b - 1 := fun e => c1 (e ▸ hg)
    by_cases c2 : can rs n b lo hi = true
    · rw [if_pos c2]
      by_cases e : g = b
      · exact e
      · rw [hno b (by omega) (by omega)] at c2; cases c2
    · rw [if_neg c2]
      have h3 : g ≠ b := fun e => c2 (e ▸ hg)
      omega
theorem fg_can {rs : List Int} {n b : Nat} {lo hi : Int} (hh : hi ≤ 60) (h : aft rs (n + 1) b lo hi = true) : can rs n (fg rs n b lo hi) lo hi = true ∧ nr b (fg rs n b lo hi) = true ∧ fg rs n b lo hi < 5 := by
  obtain ⟨g, hg, h1, h2⟩ := (aft_succ hh).1 h
  have h3 := nr_iff.1 h1
  unfold fg
  by_cases c1 : can rs n (b - 1) lo hi = true
  · rw [if_pos c1]; exact ⟨c1, nr_iff.2 (by omega), by omega⟩
  · rw [if_neg c1]
    have e1 : g ≠ b - 1 := fun e => c1 (e ▸ h2)
    by_cases c2 : can rs n b lo hi = true
    · rw [if_pos c2]; exact ⟨c2, nr_iff.2 (by omega), by omega⟩
    · rw [if_neg c2]
      have e2 : g ≠ b := fun e => c2 (e ▸ h2)
      obtain rfl : g = b + 1 := by omega
      exact ⟨h2, h1, hg⟩
/-- The first heats of so many days behind a day of a heat that have a warmth within bounds. -/
def frs (rs : List Int) : Nat → Nat → Int → Int → List Int
  | 0, _, _, _ => []
  | n + 1, b, lo, hi => ((fg rs n b lo hi : Nat) : Int) :: frs rs n (fg rs n b lo hi) (lo - rt rs (fg rs n b lo hi)) (hi - rt rs (fg rs n b lo hi))
theorem frs_len (rs : List Int) : ∀ n b lo hi, (frs rs n b lo hi).length = n
  | 0, _, _, _ => rfl
  | n + 1, b, lo, hi => by rw [frs, List.length_cons, frs_len rs n]
/-- The first of some numbers that meets a test, or 0. -/
def fdd (c : Nat → Bool) : Nat → Nat → Nat
  | 0, _ => 0
  | n + 1, d => if c d = true then d else fdd c n (d + 1)
/-- The fewest days that have a warmth within bounds, or 0. -/
def dN (rs : List Int) (need most : Int) : Nat := fdd (fun d => aft rs d 0 need most) 12 1
def prg (rs : List Int) (need most : Int) : List Int := frs rs (dN rs need most) 0 need most
theorem fdd_le {c : Nat → Bool} : ∀ n d, fdd c n d = 0 ∨ (d ≤ fdd c n d ∧ fdd c n d < d + n ∧ c (fdd c n d) = true)
  | 0, _ => .inl rfl
  | n + 1, d => by
    rw [fdd]
    by_cases h : c d = true
    · rw [if_pos h]; exact .inr ⟨Nat.le_refl _, by omega, h⟩
    · rw [if_neg h]
      rcases fdd_le (c := c) n (d + 1) with e | ⟨h1, h2, h3⟩
      · exact .inl e
      · exact .inr ⟨by omega, by omega, h3⟩
theorem dN_le (rs : List Int) (need most : Int) : dN rs need most ≤ 12 := by
  have := fdd_le (c := fun d => aft rs d 0 need most) 12 1
  unfold dN; omega
theorem prg_len (rs : List Int) (need most : Int) : (prg rs need most).length = dN rs need most := frs_len _ _ _ _ _
def isRp (n m : Int) : Bool := rng 1 60 n && rng n 60 m
theorem isRp_iff {n m : Int} : isRp n m = true ↔ (1 ≤ n ∧ n ≤ 60) ∧ (n ≤ m ∧ m ≤ 60) := by unfold isRp; rw [Bool.and_eq_true, rng_iff, rng_iff]
def pE (f : F) (need most : Int) : Int := if valF [f] = 0 then (if isRp need most = true then 0 else 1) else 1
def pR (f : F) (need most : Int) : List Int := if pE f need most = 0 then prg f.rs need most else []
def pB (f : F) (need most : Int) : Bool := decide (pE f need most = 0) && decide (0 < dN f.rs need most)
/-- The chapter's example. -/
theorem ex_prg : prg [0, 1, 2, 4, 8] 7 10 = [1, 2, 3] := by decide +kernel
theorem ex_dN : dN [0, 1, 2, 4, 8] 7 10 = 3 := by decide +kernel
theorem ex_polL : polL ⟨10, 5, 0, 0, 0⟩ 50 = [5, 25, 45] := by decide +kernel
theorem ex_polE : polE ⟨10, 5, 0, 0, 0⟩ 50 = 0 := by decide +kernel
end Lf
end Go.Proofs.Ytabfcnfddemblaa
namespace Go.Proofs.Ytabfcnfddemblaa
namespace Lf

theorem emod_of {x m q r : Int} (h : x = r + m * q) (h0 : 0 ≤ r) (h1 : r < m) : x % m = r := by
  rw [h, Int.add_mul_emod_self_left, Int.emod_eq_of_lt h0 h1]
/-- The reference's height: the place behind the pole. -/
theorem beh_pos {h : H} {p : Int} (hd : 1 ≤ h.d) (h0 : 0 ≤ p - h.s) : ((p - h.s) % (2 * h.d) + 2 * h.d) % (2 * h.d) = (p + 2 * h.d - h.s) % (2 * h.d) := by
  rw [show p + 2 * h.d - h.s = (p - h.s) + 2 * h.d by omega, Int.add_emod_right, Int.add_emod_right, Int.emod_emod_of_dvd _ (Int.dvd_refl _)]
theorem beh_neg {h : H} {p : Int} (_h0 : ¬ 0 ≤ p - h.s) : ((p - h.s) + 2 * h.d) % (2 * h.d) = (p + 2 * h.d - h.s) % (2 * h.d) := by
  rw [show p + 2 * h.d - h.s = (p - h.s) + 2 * h.d by omega]
theorem tmod_neg {a m : Int} (h0 : a < 0) (h1 : -m < a) : a.tmod m = a := by
  have hm : 0 < m := by omega
  have e : (-a).tmod m = -a := by rw [Int.tmod_eq_emod_of_nonneg (by omega)]; exact Int.emod_eq_of_lt (by omega) (by omega)
  have := Int.neg_tmod (a := -a) (b := m)
  rw [Int.neg_neg] at this
  rw [this, e, Int.neg_neg]
/-- The hanging that differs by a drop. -/
def ev (h : H) : H := { h with s := (h.s + h.d) % (2 * h.d) }
theorem ev_s {h : H} (hv : vH h = true) : (ev h).s = if h.s < h.d then h.s + h.d else h.s - h.d := by
  obtain ⟨⟨d1, d2⟩, ⟨s1, s2⟩, _⟩ := vH_iff.1 hv
  show (h.s + h.d) % (2 * h.d) = _
  split
  · exact Int.emod_eq_of_lt (by omega) (by omega)
  · exact emod_of (q := 1) (by omega) (by omega) (by omega)
theorem ev_ok {h : H} (hv : vH h = true) : vH (ev h) = true := by
  obtain ⟨⟨d1, d2⟩, ⟨s1, s2⟩, h3⟩ := vH_iff.1 hv
  refine vH_iff.2 ⟨⟨d1, d2⟩, ?_, h3⟩
  rw [ev_s hv]
  show 0 ≤ _ ∧ _ ≤ 2 * h.d - 1
  split <;> omega
theorem ev_hgt {h : H} (hv : vH h = true) (p : Int) : hgt h p + hgt (ev h) p = h.d := by
  obtain ⟨⟨d1, d2⟩, ⟨s1, s2⟩, _⟩ := vH_iff.1 hv
  have hs := ev_s hv
  have hd : (ev h).d = h.d := rfl
  unfold hgt
  rw [hd]
  have e := Int.emod_add_mul_ediv (p + 2 * h.d - h.s) (2 * h.d)
  have a0 := Int.emod_nonneg (p + 2 * h.d - h.s) (show 2 * h.d ≠ 0 by omega)
  have a1 := Int.emod_lt_of_pos (p + 2 * h.d - h.s) (show 0 < 2 * h.d by omega)
  generalize (p + 2 * h.d - h.s) % (2 * h.d) = A at *
  generalize (p + 2 * h.d - h.s) / (2 * h.d) = q at *
  have eq1 : 2 * h.d * (q - 1) = 2 * h.d * q - 2 * h.d := by rw [Int.mul_sub, Int.mul_one]
  have eq2 : 2 * h.d * (q + 1) = 2 * h.d * q + 2 * h.d := by rw [Int.mul_add, Int.mul_one]
  by_cases c1 : h.s < h.d
  · rw [if_pos c1] at hs
    by_cases c2 : h.d ≤ A
    · rw [emod_of (x := p + 2 * h.d - (ev h).s) (m := 2 * h.d) (q := q) (r := A - h.d) (by omega) (by omega) (by omega)]
      omega
    · rw [emod_of (x := p + 2 * h.d - (ev h).s) (m := 2 * h.d) (q := q - 1) (r := A + h.d) (by omega) (by omega) (by omega)]
      omega
  · rw [if_neg c1] at hs
    by_cases c2 : h.d ≤ A
    · rw [emod_of (x := p + 2 * h.d - (ev h).s) (m := 2 * h.d) (q := q + 1) (r := A - h.d) (by omega) (by omega) (by omega)]
      omega
    · rw [emod_of (x := p + 2 * h.d - (ev h).s) (m := 2 * h.d) (q := q) (r := A + h.d) (by omega) (by omega) (by omega)]
      omega
def evR (h : H) : Int := h.y * (2 * h.r - h.f * h.d)
theorem ev_rip {h : H} (hv : vH h = true) (p : Int) : rip [h, ev h] p 2 = evR h := by
  show 0 + ri h p + ri (ev h) p = _
  unfold ri evR
  have e := ev_hgt hv p
  have e1 : (ev h).y = h.y := rfl
  have e2 : (ev h).r = h.r := rfl
  have e3 : (ev h).f = h.f := rfl
  rw [e1, e2, e3, ← e, Int.zero_add, ← Int.mul_add, Int.mul_add h.f]
  congr 1
  omega
theorem ev_mn {h : H} (hv : vH h = true) : ∀ n, mnN [h, ev h] n = evR h
  | 0 => ev_rip hv 0
  | n + 1 => by rw [mnN, ev_mn hv n, show rip [h, ev h] n [h, ev h].length = evR h from ev_rip hv n]; omega
theorem ev_mx {h : H} (hv : vH h = true) : ∀ n, mxN [h, ev h] n = evR h
  | 0 => ev_rip hv 0
  | n + 1 => by rw [mxN, ev_mx hv n, show rip [h, ev h] n [h, ev h].length = evR h from ev_rip hv n]; omega
theorem ev_vl {h : H} (hv : vH h = true) : vlE [h, ev h] = 0 := by
  refine vlE_ok (by simp) fun k hk => ?_
  have : k < 2 := hk
  match k, this with
  | 0, _ => exact hv
  | 1, _ => exact ev_ok hv
theorem ev_ran {h : H} {n : Int} (hv : vH h = true) (h1 : 1 ≤ n) (h2 : n ≤ 4000) : ranE [h, ev h] n = 0 ∧ ranL [h, ev h] n = evR h ∧ ranM [h, ev h] n = evR h := by
  have e : ranE [h, ev h] n = 0 := by rw [ranE, if_pos (ev_vl hv), if_pos (rng_iff.2 ⟨h1, h2⟩)]
  refine ⟨e, ?_, ?_⟩
  · rw [ranL, if_pos e]; exact ev_mn hv _
  · rw [ranM, if_pos e]; exact ev_mx hv _
theorem stp_ref (a b : Int) : (rng 0 4 b && rng (a - 1) (a + 1) b) = stp a b := by
  unfold stp rng
  rw [Bool.eq_iff_iff]
  simp only [Bool.and_eq_true, decide_eq_true_eq]
  omega
end Lf
end Go.Proofs.Ytabfcnfddemblaa
namespace Go.Proofs.Ytabfcnfddemblaa
namespace Lf

def okG (g : G) : Bool := rng 1 40 g.p && (isRp g.n g.m && (rng 0 60 g.a && rng g.a 60 g.u))
theorem okG_iff {g : G} : okG g = true ↔ (1 ≤ g.p ∧ g.p ≤ 40) ∧ ((1 ≤ g.n ∧ g.n ≤ 60) ∧ (g.n ≤ g.m ∧ g.m ≤ 60)) ∧ (0 ≤ g.a ∧ g.a ≤ 60) ∧ (g.a ≤ g.u ∧ g.u ≤ 60) := by
  unfold okG
  simp only [Bool.and_eq_true, rng_iff, isRp_iff]
def valG (l : List G) : Int := if 8 < l.length then 4 else if l.all okG = true then 0 else 1
theorem valG_long {l : List G} (h : 8 < l.length) : valG l = 4 := if_pos h
theorem valG_ok {l : List G} (h : ¬ 8 < l.length) (hv : ∀ k (hk : k < l.length), okG l[k] = true) : valG l = 0 := by
  rw [valG, if_neg h, if_pos]
  rw [List.all_eq_true]
  intro x hx
  obtain ⟨k, hk, rfl⟩ := List.mem_iff_getElem.1 hx
  exact hv k hk
theorem valG_bad {l : List G} (h : ¬ 8 < l.length) {k : Nat} (hk : k < l.length) (hv : okG l[k] = false) : valG l = 1 := by
  rw [valG, if_neg h, if_neg]
  rw [List.all_eq_true]
  intro hc
  rw [hc _ (List.getElem_mem hk)] at hv; cases hv
theorem valG_zero {l : List G} (h : valG l = 0) : l.length ≤ 8 ∧ ∀ k (hk : k < l.length), okG l[k] = true := by
  unfold valG at h
  by_cases h8 : 8 < l.length
  · rw [if_pos h8] at h; omega
  · rw [if_neg h8] at h
    by_cases ha : l.all okG = true
    · exact ⟨by omega, fun k hk => List.all_eq_true.1 ha _ (List.getElem_mem hk)⟩
    · rw [if_neg ha] at h; omega
theorem valG_one {g : G} : valG [g] = 0 ↔ okG g = true := by
  constructor
  · intro h; exact (valG_zero h).2 0 (by simp)
  · intro h; exact valG_ok (by simp) (fun k hk => by
      have e : k = 0 := by simpa using hk
      subst e
      exact h)
def bthE (ls : List F) (gs : List G) : Int := if valF ls = 0 then valG gs else valF ls
theorem bth_zero {ls : List F} {gs : List G} (h : bthE ls gs = 0) : valF ls = 0 ∧ valG gs = 0 := by
  unfold bthE at h
  by_cases c : valF ls = 0
  · rw [if_pos c] at h; exact ⟨c, h⟩
  · rw [if_neg c] at h; exact absurd h c

/-- A set of numbers below a limit. -/
def lsz (l : List Int) : Nat → Int
  | 0 => 0
  | k + 1 => l.getD k 0 + 1
def stAt (l : List Int) (n : Int) (k : Nat) : Bool := rng (lsz l k) (n - 1) (l.getD k 0)
def stB (l : List Int) (n : Int) : Bool := (List.range l.length).all (stAt l n)
theorem stB_iff {l : List Int} {n : Int} : stB l n = true ↔ ∀ k, k < l.length → stAt l n k = true := by
  unfold stB
  rw [List.all_eq_true]
  exact ⟨fun h k hk => h k (List.mem_range.2 hk), fun h k hk => h k (List.mem_range.1 hk)⟩
theorem stB_bad {l : List Int} {n : Int} {k : Nat} (hk : k < l.length) (h : stAt l n k = false) : stB l n = false := by
  apply Bool.eq_false_iff.2
  intro hc; rw [stB_iff.1 hc k hk] at h; cases h
theorem st_bd {l : List Int} {n : Int} (h : ∀ k, k < l.length → stAt l n k = true) : ∀ k, k < l.length → 0 ≤ l.getD k 0 ∧ l.getD k 0 < n
  | 0, h0 => by have := rng_iff.1 (h 0 h0); simp only [lsz] at this; omega
  | k + 1, hk => by
    have a := rng_iff.1 (h (k + 1) hk)
    have b := st_bd h k (by omega)
    simp only [lsz] at a; omega
theorem st_lt {l : List Int} {n : Int} (h : ∀ k, k < l.length → stAt l n k = true) : ∀ k j, j < k → k < l.length → l.getD j 0 < l.getD k 0
  | k + 1, j, hj, hk => by
    have a := rng_iff.1 (h (k + 1) hk)
    simp only [lsz] at a
    by_cases e : j = k
    · subst e; omega
    · have := st_lt h k j (by omega) (by omega); omega
/-- A set of numbers of goods is no longer than the goods. -/
theorem st_len {l : List Int} {n : Nat} (h : stB l n = true) : l.length ≤ n := by
  have h1 := stB_iff.1 h
  have : ∀ k, k < l.length → (k : Int) ≤ l.getD k 0 := by
    intro k
    induction k with
    | zero => intro hk; exact (st_bd h1 0 hk).1
    | succ k ih =>
      intro hk
      have a := ih (by omega)
      have b := st_lt h1 (k + 1) k (by omega) hk
      omega
  by_cases e : l.length = 0
  · omega
  · have a := this (l.length - 1) (by omega)
    have b := (st_bd h1 (l.length - 1) (by omega)).2
    omega

def gat (gs : List G) (n : Int) : G := gs.getD n.toNat default
theorem gat_at {gs : List G} {n : Int} (h : n.toNat < gs.length) : gat gs n = gs[n.toNat] := by unfold gat; simp [h]
def tg1 (a g : G) : G := ⟨a.p + g.p, max a.n g.n, min a.m g.m, max a.a g.a, min a.u g.u⟩
/-- What the first goods of a list need together, and one more. -/
def tog (gs : List G) (l : List Int) : Nat → G
  | 0 => gat gs (l.getD 0 0)
  | k + 1 => tg1 (tog gs l k) (gat gs (l.getD (k + 1) 0))
def togA (gs : List G) (l : List Int) : G := tog gs l (l.length - 1)
theorem tog_bd {gs : List G} (hg : ∀ k (hk : k < gs.length), okG gs[k] = true) {l : List Int} (hl : ∀ k, k < l.length → 0 ≤ l.getD k 0 ∧ l.getD k 0 < gs.length) :
    ∀ k, k < l.length → (k + 1 ≤ (tog gs l k).p ∧ (tog gs l k).p ≤ 40 * (k + 1)) ∧ (1 ≤ (tog gs l k).n ∧ (tog gs l k).n ≤ 60) ∧ (1 ≤ (tog gs l k).m ∧ (tog gs l k).m ≤ 60) ∧ (0 ≤ (tog gs l k).a ∧ (tog gs l k).a ≤ 60) ∧ (0 ≤ (tog gs l k).u ∧ (tog gs l k).u ≤ 60) := by
  intro k
  induction k with
  | zero =>
    intro hk
    have h1 := hl 0 hk
    have h2 : gat gs (l.getD 0 0) = gs[(l.getD 0 0).toNat]'(by omega) := gat_at (by omega)
    have h3 := okG_iff.1 (hg (l.getD 0 0).toNat (by omega))
    rw [tog, h2]
    omega
  | succ k ih =>
    intro hk
    have h0 := ih (by omega)
    have h1 := hl (k + 1) hk
    have h2 : gat gs (l.getD (k + 1) 0) = gs[(l.getD (k + 1) 0).toNat]'(by omega) := gat_at (by omega)
    have h3 := okG_iff.1 (hg (l.getD (k + 1) 0).toNat (by omega))
    rw [tog, h2]
    simp only [tg1]
    omega
/-- What the errors of a load by itself ask: its poles, and each goods. -/
theorem tog_a {gs : List G} {l : List Int} {x : Int} : ∀ k, (x < (tog gs l k).a ↔ ∃ j, j ≤ k ∧ x < (gat gs (l.getD j 0)).a)
  | 0 => by
    rw [tog]
    exact ⟨fun h => ⟨0, Nat.le_refl _, h⟩, fun ⟨j, hj, h⟩ => by obtain rfl : j = 0 := by omega
                                                                exact h⟩
  | k + 1 => by
    rw [tog]
    simp only [tg1]
    have ih := tog_a (gs := gs) (l := l) (x := x) k
    constructor
    · intro h
      by_cases c : x < (tog gs l k).a
      · obtain ⟨j, hj, h2⟩ := ih.1 c; exact ⟨j, by omega, h2⟩
      · exact ⟨k + 1, Nat.le_refl _, by omega⟩
    · rintro ⟨j, hj, h⟩
      by_cases e : j = k + 1
      · subst e; omega
      · have := ih.2 ⟨j, by omega, h⟩; omega
theorem tog_u {gs : List G} {l : List Int} {x : Int} : ∀ k, ((tog gs l k).u < x ↔ ∃ j, j ≤ k ∧ (gat gs (l.getD j 0)).u < x)
  | 0 => by
    rw [tog]
    exact ⟨fun h => ⟨0, Nat.le_refl _, h⟩, fun ⟨j, hj, h⟩ => by obtain rfl : j = 0 := by omega
                                                                exact h⟩
  | k + 1 => by
    rw [tog]
    simp only [tg1]
    have ih := tog_u (gs := gs) (l := l) (x := x) k
    constructor
    · intro h
      by_cases c : (tog gs l k).u < x
      · obtain ⟨j, hj, h2⟩ := ih.1 c; exact ⟨j, by omega, h2⟩
      · exact ⟨k + 1, Nat.le_refl _, by omega⟩
    · rintro ⟨j, hj, h⟩
      by_cases e : j = k + 1
      · subst e; omega
      · have := ih.2 ⟨j, by omega, h⟩; omega
theorem tog_w {gs : List G} {l : List Int} {x : Int} : ∀ k, (rng (tog gs l k).n (tog gs l k).m x = false ↔ ∃ j, j ≤ k ∧ rng (gat gs (l.getD j 0)).n (gat gs (l.getD j 0)).m x = false)
  | 0 => by
    rw [tog]
    exact ⟨fun h => ⟨0, Nat.le_refl _, h⟩, fun ⟨j, hj, h⟩ => by obtain rfl : j = 0 := by omega
                                                                exact h⟩
  | k + 1 => by
    rw [tog]
    simp only [tg1]
    have ih := tog_w (gs := gs) (l := l) (x := x) k
    simp only [Bool.eq_false_iff, ne_eq, rng_iff] at ih ⊢
    constructor
    · intro h
      by_cases c : (tog gs l k).n ≤ x ∧ x ≤ (tog gs l k).m
      · exact ⟨k + 1, Nat.le_refl _, by omega⟩
      · obtain ⟨j, hj, h2⟩ := ih.1 c; exact ⟨j, by omega, h2⟩
    · rintro ⟨j, hj, h⟩
      by_cases e : j = k + 1
      · subst e; omega
      · have := ih.2 ⟨j, by omega, h⟩; omega

/-- The errors of a load by itself. -/
def end' (x : L) : Int := x.a + x.hs.length
def vLE (ls : List F) (gs : List G) (x : L) : Int :=
  if rng 0 ((ls.length : Int) - 1) x.l = true then (if (rng 0 60 x.a && (vHt x.hs && (decide (0 < x.gs.length) && stB x.gs gs.length))) = true then 0 else 1) else 5
def fat (ls : List F) (n : Int) : F := ls.getD n.toNat default
def ckE (r w e : Int) (x : L) (t : G) : Int := if r < t.p then 6 else if x.a < t.a then 7 else if rng t.n t.m w = true then (if t.u < e then 12 else 0) else 9
def slE (ls : List F) (gs : List G) (x : L) : Int :=
  if vLE ls gs x = 0 then ckE (fat ls x.l).p (wm (fat ls x.l).rs x.hs x.hs.length) (end' x) x (togA gs x.gs) else vLE ls gs x
/-- Whether two loads have common goods, or a common day in one loft. -/
def shr (x y : L) : Bool := x.gs.any fun n => y.gs.any fun m => decide (n = m)
def mts (x y : L) : Bool := decide (x.l = y.l) && (decide (x.a < end' y) && decide (y.a < end' x))
/-- The error of a load behind some others. -/
def ldE (ls : List F) (gs : List G) (pre : List L) (x : L) : Int :=
  if slE ls gs x = 0 then (if pre.any (shr x) = true then 8 else if pre.any (mts x) = true then 10 else 0) else slE ls gs x
def hsG (plan : List L) (n : Int) : Bool := plan.any fun x => x.gs.any fun m => decide (m = n)
def cov (gs : List G) (plan : List L) : Bool := (List.range gs.length).all fun (n : Nat) => hsG plan (n : Int)
/-- The first error of the loads from a number on. -/
def ckL (ls : List F) (gs : List G) (plan : List L) : Nat → Nat → Int
  | 0, _ => if cov gs plan = true then 0 else 11
  | n + 1, k => if ldE ls gs (plan.take k) (plan.getD k default) = 0 then ckL ls gs plan n (k + 1) else ldE ls gs (plan.take k) (plan.getD k default)
def chkE (ls : List F) (gs : List G) (plan : List L) : Int := if bthE ls gs = 0 then ckL ls gs plan plan.length 0 else bthE ls gs
end Lf
end Go.Proofs.Ytabfcnfddemblaa
namespace Go.Proofs.Ytabfcnfddemblaa
namespace Lf

/-- Sums. -/
def S (f : Nat → Int) : Nat → Int
  | 0 => 0
  | n + 1 => S f n + f n
theorem S_le {f g : Nat → Int} : ∀ n, (∀ i, i < n → f i ≤ g i) → S f n ≤ S g n
  | 0, _ => Int.le_refl _
  | n + 1, h => by
    have a := S_le n (fun i hi => h i (by omega))
    have b := h n (by omega)
    rw [S, S]; omega
theorem S_congr {f g : Nat → Int} : ∀ n, (∀ i, i < n → f i = g i) → S f n = S g n
  | 0, _ => rfl
  | n + 1, h => by rw [S, S, S_congr n (fun i hi => h i (by omega)), h n (by omega)]
theorem S_zero : ∀ n, S (fun _ => 0) n = 0
  | 0 => rfl
  | n + 1 => by rw [S, S_zero n]; rfl
theorem S_add (f g : Nat → Int) : ∀ n, S (fun i => f i + g i) n = S f n + S g n
  | 0 => rfl
  | n + 1 => by rw [S, S, S, S_add f g n]; omega
theorem S_mul (c : Int) (f : Nat → Int) : ∀ n, S (fun i => c * f i) n = c * S f n
  | 0 => by simp [S]
  | n + 1 => by rw [S, S, S_mul c f n, Int.mul_add]
theorem S_comm (f : Nat → Nat → Int) (m : Nat) : ∀ n, S (fun i => S (f i) m) n = S (fun j => S (fun i => f i j) n) m
  | 0 => by simp only [S]; rw [S_zero]
  | n + 1 => by
    rw [S, S_comm f m n]
    simp only [S]
    rw [S_add]
theorem S_nn {f : Nat → Int} (n : Nat) (h : ∀ i, i < n → 0 ≤ f i) : 0 ≤ S f n := by
  have := S_le (f := fun _ => 0) n h
  rwa [S_zero] at this
theorem S_one {f : Nat → Int} : ∀ n i, i < n → (∀ j, j < n → 0 ≤ f j) → f i ≤ S f n
  | n + 1, i, hi, h => by
    rw [S]
    by_cases e : i = n
    · subst e; have := S_nn i (fun j hj => h j (by omega)); omega
    · have := S_one n i (by omega) (fun j hj => h j (by omega)); have := h n (by omega); omega
theorem S_ind (t : Nat) (v : Int) : ∀ n, S (fun i => if i = t then v else 0) n = if t < n then v else 0
  | 0 => rfl
  | n + 1 => by
    rw [S, S_ind t v n]
    by_cases e : n = t
    · rw [if_neg (by omega), if_pos e, if_pos (by omega)]; omega
    · rw [if_neg e]
      by_cases c : t < n
      · rw [if_pos c, if_pos (by omega)]; omega
      · rw [if_neg c, if_neg (by omega)]; rfl
theorem S_atmost {f : Nat → Int} : ∀ n, (∀ i, i < n → f i ≤ 1) → (∀ i j, i < n → j < n → i ≠ j → f i ≤ 0 ∨ f j ≤ 0) → (∀ i, i < n → 0 ≤ f i) → S f n ≤ 1
  | 0, _, _, _ => by simp [S]
  | n + 1, h1, h2, h3 => by
    rw [S]
    by_cases c : f n ≤ 0
    · have := S_atmost n (fun i hi => h1 i (by omega)) (fun i j hi hj => h2 i j (by omega) (by omega)) (fun i hi => h3 i (by omega)); omega
    · have hz : S f n ≤ S (fun _ => 0) n := S_le n fun i hi => by
        rcases h2 i n (by omega) (by omega) (by omega) with h | h
        · exact h
        · omega
      rw [S_zero] at hz
      have := h1 n (by omega); omega

/-- The fewest days of goods in the first lofts, or 0. -/
def dst (g : G) (s : Nat) (f : F) : Nat := if 0 < dN f.rs g.n g.m ∧ g.p ≤ f.p ∧ (s = 0 ∨ dN f.rs g.n g.m < s) then dN f.rs g.n g.m else s
def dyk (ls : List F) (g : G) : Nat → Nat
  | 0 => 0
  | k + 1 => dst g (dyk ls g k) (ls.getD k default)
def dyN (ls : List F) (g : G) : Nat := dyk ls g ls.length
theorem dyk_le (ls : List F) (g : G) : ∀ k, dyk ls g k ≤ 12
  | 0 => by simp [dyk]
  | k + 1 => by
    rw [dyk, dst]
    have := dN_le (ls.getD k default).rs g.n g.m
    have := dyk_le ls g k
    split <;> omega
theorem dyk_of {ls : List F} {g : G} : ∀ k j, j < k → 0 < dN (ls.getD j default).rs g.n g.m → g.p ≤ (ls.getD j default).p → 0 < dyk ls g k ∧ dyk ls g k ≤ dN (ls.getD j default).rs g.n g.m
  | k + 1, j, hj, h1, h2 => by
    rw [dyk, dst]
    by_cases e : j = k
    · subst e; split <;> omega
    · have := dyk_of k j (by omega) h1 h2; split <;> omega
/-- Whether goods lie in a window. -/
def inW (g : G) (a b : Int) : Bool := decide (a ≤ g.a) && decide (g.u ≤ b)
theorem inW_iff {g : G} {a b : Int} : inW g a b = true ↔ a ≤ g.a ∧ g.u ≤ b := by simp [inW]
def ndk (ls : List F) (gs : List G) (a b : Int) (i : Nat) : Int := if inW (gs.getD i default) a b = true then (gs.getD i default).p * dyN ls (gs.getD i default) else 0
def pls (ls : List F) (n : Nat) : Int := S (fun i => (ls.getD i default).p) n
/-- Some of the first goods that lie in a window never become ripe. -/
def nvr (ls : List F) (gs : List G) (a b : Int) (n : Nat) : Bool := (List.range n).any fun i => inW (gs.getD i default) a b && decide (dyN ls (gs.getD i default) = 0)
def wOk (a b : Int) : Bool := rng 0 b a && decide (b ≤ 60)
theorem wOk_iff {a b : Int} : wOk a b = true ↔ 0 ≤ a ∧ a ≤ b ∧ b ≤ 60 := by unfold wOk; rw [Bool.and_eq_true, rng_iff, decide_eq_true_eq, and_assoc]
def prf (ls : List F) (gs : List G) (a b : Int) : Bool := wOk a b && (nvr ls gs a b gs.length || decide (pls ls ls.length * (b - a) < S (ndk ls gs a b) gs.length))
def isP (ls : List F) (gs : List G) (a b : Int) : Bool := decide (bthE ls gs = 0) && prf ls gs a b

/-- Heats tell that their days can have their warmth. -/
theorem sm_of {rs hs : List Int} (hr : ∀ k, k < 5 → 0 ≤ rs.getD k 0 ∧ rs.getD k 0 ≤ 9) (hv : ∀ k, k < hs.length → okHt hs k = true) :
    ∀ n k, k + n = hs.length → sm rs n (lst hs k).toNat ((wm rs hs hs.length).toNat - (wm rs hs k).toNat) = true
  | 0, k, hk => by
    obtain rfl : k = hs.length := by omega
    rw [sm]; simp
  | n + 1, k, hk => by
    have hb := fun k hk => okHt_at (hv k hk)
    have w0 := wm_bd hr hb k (by omega)
    have w1 := wm_bd hr hb hs.length (Nat.le_refl _)
    have hk' : k < hs.length := by omega
    have hst := stp_iff.1 (hv k hk')
    have ih := sm_of hr hv n (k + 1) (by omega)
    have hmono : ∀ j, k + 1 + j ≤ hs.length → wm rs hs (k + 1) ≤ wm rs hs (k + 1 + j) := by
      intro j
      induction j with
      | zero => intro _; exact Int.le_refl _
      | succ j ih =>
        intro h
        have a := ih (by omega)
        have b := hb (k + 1 + j) (by omega)
        have c := hr (hs.getD (k + 1 + j) 0).toNat (by omega)
        have e : wm rs hs (k + 1 + (j + 1)) = wm rs hs (k + 1 + j) + rs.getD (hs.getD (k + 1 + j) 0).toNat 0 := rfl
        omega
    have w2 := hmono n (by omega)
    rw [show k + 1 + n = hs.length by omega] at w2
    have hrt := hr (hs.getD k 0).toNat (by omega)
    have hs1 : wm rs hs (k + 1) = wm rs hs k + rs.getD (hs.getD k 0).toNat 0 := rfl
    refine sm_succ.2 ⟨(hs.getD k 0).toNat, by omega, ?_, ?_⟩
    · rw [nr_iff]
      have : 0 ≤ lst hs k := by
        cases k with
        | zero => exact Int.le_refl _
        | succ k => exact (hb k (by omega)).1
      omega
    · unfold cn
      rw [Bool.and_eq_true, decide_eq_true_eq]
      have e : rt rs (hs.getD k 0).toNat = (rs.getD (hs.getD k 0).toNat 0).toNat := rfl
      refine ⟨by omega, ?_⟩
      have e2 : (wm rs hs hs.length).toNat - (wm rs hs k).toNat - rt rs (hs.getD k 0).toNat = (wm rs hs hs.length).toNat - (wm rs hs (k + 1)).toNat := by omega
      rw [e2]
      exact ih
theorem fdd_of {c : Nat → Bool} : ∀ n d k, d ≤ k → k < d + n → c k = true → 0 < d → 0 < fdd c n d ∧ fdd c n d ≤ k
  | 0, d, k, h1, h2, _, _ => by omega
  | n + 1, d, k, h1, h2, h3, h4 => by
    rw [fdd]
    by_cases h : c d = true
    · rw [if_pos h]; omega
    · rw [if_neg h]
      have : d ≠ k := fun e => h (e ▸ h3)
      exact fdd_of n (d + 1) k (by omega) (by omega) h3 (by omega)
/-- The fewest days are no more than those of valid heats with a right warmth. -/
theorem dN_of {f : F} {hs : List Int} {n m : Int} (hf : okF f = true) (hv : vHt hs = true) (hm : m ≤ 60) (hw : rng n m (wm f.rs hs hs.length) = true) : 0 < dN f.rs n m ∧ dN f.rs n m ≤ hs.length := by
  obtain ⟨⟨l1, l2⟩, hk⟩ := vHt_iff.1 hv
  have hr := okRt_bd (okF_iff.1 hf).2.2
  have h1 := sm_of hr hk hs.length 0 (by omega)
  have hb := wm_bd hr (fun k h => okHt_at (hk k h)) hs.length (Nat.le_refl _)
  have hw' := rng_iff.1 hw
  refine fdd_of 12 1 hs.length (by omega) (by omega) (aft_iff.2 ⟨(wm f.rs hs hs.length).toNat, by omega, by omega, by omega, ?_⟩) (by decide)
  simpa [lst, wm] using h1

/-- What an accepted plan keeps. -/
structure Kept (ls : List F) (gs : List G) (x : L) : Prop where
  loft : 0 ≤ x.l ∧ x.l < ls.length
  from0 : 0 ≤ x.a ∧ x.a ≤ 60
  heats : vHt x.hs = true
  some' : 0 < x.gs.length
  set' : stB x.gs gs.length = true
  poles : (togA gs x.gs).p ≤ (fat ls x.l).p
  each : ∀ j, j < x.gs.length → (gat gs (x.gs.getD j 0)).a ≤ x.a ∧ end' x ≤ (gat gs (x.gs.getD j 0)).u ∧ rng (gat gs (x.gs.getD j 0)).n (gat gs (x.gs.getD j 0)).m (wm (fat ls x.l).rs x.hs x.hs.length) = true
theorem kept_of {ls : List F} {gs : List G} {x : L} (h : slE ls gs x = 0) : Kept ls gs x := by
  unfold slE at h
  by_cases c : vLE ls gs x = 0
  · rw [if_pos c] at h
    unfold vLE at c
    by_cases c1 : rng 0 ((ls.length : Int) - 1) x.l = true
    · rw [if_pos c1] at c
      by_cases c2 : (rng 0 60 x.a && (vHt x.hs && (decide (0 < x.gs.length) && stB x.gs gs.length))) = true
      · simp only [Bool.and_eq_true, decide_eq_true_eq, rng_iff] at c1 c2
        obtain ⟨a1, a2, a3, a4⟩ := c2
        unfold ckE at h
        by_cases d1 : (fat ls x.l).p < (togA gs x.gs).p
        · rw [if_pos d1] at h; omega
        · rw [if_neg d1] at h
          by_cases d2 : x.a < (togA gs x.gs).a
          · rw [if_pos d2] at h; omega
          · rw [if_neg d2] at h
            by_cases d3 : rng (togA gs x.gs).n (togA gs x.gs).m (wm (fat ls x.l).rs x.hs x.hs.length) = true
            · rw [if_pos d3] at h
              by_cases d4 : (togA gs x.gs).u < end' x
              · rw [if_pos d4] at h; omega
              · refine ⟨⟨c1.1, by omega⟩, a1, a2, a3, a4, by omega, fun j hj => ⟨?_, ?_, ?_⟩⟩
                · apply Decidable.byContradiction
                  intro hc
                  exact d2 ((tog_a (x.gs.length - 1)).2 ⟨j, by omega, by omega⟩)
                · apply Decidable.byContradiction
                  intro hc
                  exact d4 ((tog_u (x.gs.length - 1)).2 ⟨j, by omega, by omega⟩)
                · cases hc : rng (gat gs (x.gs.getD j 0)).n (gat gs (x.gs.getD j 0)).m (wm (fat ls x.l).rs x.hs x.hs.length)
                  · have := (tog_w (gs := gs) (l := x.gs) (x := wm (fat ls x.l).rs x.hs x.hs.length) (x.gs.length - 1)).2 ⟨j, by omega, hc⟩
                    unfold togA at d3
                    rw [this] at d3; cases d3
                  · rfl
            · rw [if_neg d3] at h; omega
      · rw [if_neg c2] at c; omega
    · rw [if_neg c1] at c; omega
  · rw [if_neg c] at h; exact absurd h c
theorem ckL_all {ls : List F} {gs : List G} {plan : List L} : ∀ n k, ckL ls gs plan n k = 0 → (∀ j, k ≤ j → j < k + n → ldE ls gs (plan.take j) (plan.getD j default) = 0) ∧ cov gs plan = true
  | 0, k, h => by
    rw [ckL] at h
    by_cases c : cov gs plan = true
    · exact ⟨fun j h1 h2 => by omega, c⟩
    · rw [if_neg c] at h; omega
  | n + 1, k, h => by
    rw [ckL] at h
    by_cases c : ldE ls gs (plan.take k) (plan.getD k default) = 0
    · rw [if_pos c] at h
      obtain ⟨h1, h2⟩ := ckL_all n (k + 1) h
      refine ⟨fun j a b => ?_, h2⟩
      by_cases e : j = k
      · subst e; exact c
      · exact h1 j (by omega) (by omega)
    · rw [if_neg c] at h; exact absurd h c
theorem ldE_zero {ls : List F} {gs : List G} {pre : List L} {x : L} (h : ldE ls gs pre x = 0) : slE ls gs x = 0 ∧ pre.any (shr x) = false ∧ pre.any (mts x) = false := by
  unfold ldE at h
  by_cases c : slE ls gs x = 0
  · rw [if_pos c] at h
    by_cases d : pre.any (shr x) = true
    · rw [if_pos d] at h; omega
    · rw [if_neg d] at h
      by_cases e : pre.any (mts x) = true
      · rw [if_pos e] at h; omega
      · exact ⟨c, by simpa using d, by simpa using e⟩
  · rw [if_neg c] at h; exact absurd h c
/-- Two loads of an accepted plan don't meet. -/
theorem apart_of {ls : List F} {gs : List G} {plan : List L} (h : ∀ j, j < plan.length → ldE ls gs (plan.take j) (plan.getD j default) = 0) {i j : Nat} (hij : i < j) (hj : j < plan.length) : mts (plan.getD j default) (plan.getD i default) = false := by
  have h1 := (ldE_zero (h j hj)).2.2
  have h2 := List.any_eq_false.1 h1 (plan.getD i default) ?_
  · simpa using h2
  · rw [show plan.getD i default = plan[i] by simp [show i < plan.length by omega]]
    exact List.mem_iff_getElem.2 ⟨i, by rw [List.length_take]; omega, by simp⟩
theorem mts_no {x y : L} (h : mts x y = false) (hl : x.l = y.l) : end' y ≤ x.a ∨ end' x ≤ y.a := by
  unfold mts at h
  rw [decide_eq_true hl, Bool.true_and, Bool.and_eq_false_iff, decide_eq_false_iff_not, decide_eq_false_iff_not] at h
  omega
theorem getD_at {l : List Int} {j : Nat} (h : j < l.length) : l.getD j 0 = l[j] := by simp [h]
theorem S_span (c : Int) {u v : Int} (h0 : 0 ≤ u) (h1 : u ≤ v) : ∀ N : Nat, S (fun (d : Nat) => if u ≤ (d : Int) ∧ (d : Int) < v then c else 0) N = if (N : Int) ≤ u then 0 else if (N : Int) ≤ v then ((N : Int) - u) * c else (v - u) * c
  | 0 => by rw [S, if_pos (by omega)]
  | N + 1 => by
    rw [S, S_span c h0 h1 N]
    by_cases c1 : (N : Int) ≤ u
    · rw [if_pos c1]
      by_cases c2 : ((N + 1 : Nat) : Int) ≤ u
      · rw [if_neg (by omega), if_pos c2]; rfl
      · obtain hu : (N : Int) = u := by omega
        by_cases c3 : (N : Int) < v
        · rw [if_pos ⟨by omega, c3⟩, if_neg c2, if_pos (by omega), show ((N + 1 : Nat) : Int) - u = 1 by omega, Int.one_mul]; omega
        · rw [if_neg (by omega), if_neg c2, if_neg (by omega), show v - u = 0 by omega, Int.zero_mul]; rfl
    · rw [if_neg c1, if_neg (show ¬ ((N + 1 : Nat) : Int) ≤ u by omega)]
      by_cases c2 : ((N + 1 : Nat) : Int) ≤ v
      · rw [if_pos (by omega), if_pos ⟨by omega, by omega⟩, if_pos c2, show ((N + 1 : Nat) : Int) - u = ((N : Int) - u) + 1 by omega, Int.add_mul, Int.one_mul]
      · rw [if_neg c2, if_neg (show ¬ (u ≤ (N : Int) ∧ (N : Int) < v) by omega)]
        by_cases c3 : (N : Int) ≤ v
        · rw [if_pos c3, show (N : Int) - u = v - u by omega]; omega
        · rw [if_neg c3]; omega
/-- The goods of a load take no more poles than they need together. -/
def mem (x : L) (i : Nat) : Bool := x.gs.any fun m => decide (m = (i : Int))
def mek (l : List Int) (k i : Nat) : Bool := (List.range (k + 1)).any fun j => decide (l.getD j 0 = (i : Int))
theorem mek_succ (l : List Int) (k i : Nat) : mek l (k + 1) i = (mek l k i || decide (l.getD (k + 1) 0 = (i : Int))) := by
  unfold mek
  rw [List.range_succ (n := k + 1), List.any_append]; simp
theorem mem_mek {x : L} {i : Nat} (h : mem x i = true) : mek x.gs (x.gs.length - 1) i = true := by
  obtain ⟨m, hm, he⟩ := List.any_eq_true.1 h
  obtain ⟨j, hj, rfl⟩ := List.mem_iff_getElem.1 hm
  exact List.any_eq_true.2 ⟨j, List.mem_range.2 (by omega), by rw [show x.gs.getD j 0 = x.gs[j] by simp [hj]]; exact he⟩
theorem mek_poles {gs : List G} (hg : ∀ k (hk : k < gs.length), okG gs[k] = true) {l : List Int} (hl : ∀ k, k < l.length → 0 ≤ l.getD k 0 ∧ l.getD k 0 < gs.length) :
    ∀ k, k < l.length → S (fun i => if mek l k i = true then (gs.getD i default).p else 0) gs.length ≤ (tog gs l k).p
  | 0, hk => by
    have h1 := hl 0 hk
    have e : S (fun i => if mek l 0 i = true then (gs.getD i default).p else 0) gs.length = S (fun i => if i = (l.getD 0 0).toNat then (gat gs (l.getD 0 0)).p else 0) gs.length := by
      refine S_congr _ fun i hi => ?_
      have hm : mek l 0 i = decide (l.getD 0 0 = (i : Int)) := by unfold mek; simp
      rw [hm]
      by_cases c : l.getD 0 0 = (i : Int)
      · rw [if_pos (decide_eq_true c), if_pos (by omega)]
        unfold gat; rw [show (l.getD 0 0).toNat = i by omega]
      · rw [if_neg (by simpa using c), if_neg (by omega)]
    rw [e, S_ind, if_pos (by omega)]
    exact Int.le_refl _
  | k + 1, hk => by
    have h1 := hl (k + 1) hk
    have ih := mek_poles hg hl k (by omega)
    have hp : 0 ≤ (gat gs (l.getD (k + 1) 0)).p := by
      rw [gat_at (by omega)]
      have := okG_iff.1 (hg (l.getD (k + 1) 0).toNat (by omega)); omega
    have hpi : ∀ i, i < gs.length → 0 ≤ (gs.getD i default).p := fun i hi => by
      have := okG_iff.1 (hg i hi)
      rw [show gs.getD i default = gs[i] by simp [hi]]; omega
    have e : S (fun i => if mek l (k + 1) i = true then (gs.getD i default).p else 0) gs.length ≤ S (fun i => (if mek l k i = true then (gs.getD i default).p else 0) + (if i = (l.getD (k + 1) 0).toNat then (gat gs (l.getD (k + 1) 0)).p else 0)) gs.length := by
      refine S_le _ fun i hi => ?_
      rw [mek_succ]
      have hpi' := hpi i hi
      by_cases c1 : mek l k i = true
      · rw [c1, Bool.true_or, if_pos rfl]
        by_cases c : i = (l.getD (k + 1) 0).toNat
        · rw [if_pos c]; omega
        · rw [if_neg c]; omega
      · rw [Bool.eq_false_iff.2 c1, Bool.false_or, if_neg (show ¬ (false = true) by decide)]
        by_cases c : l.getD (k + 1) 0 = (i : Int)
        · rw [if_pos (decide_eq_true c), if_pos (by omega)]
          unfold gat; rw [show (l.getD (k + 1) 0).toNat = i by omega]; omega
        · rw [if_neg (by simpa using c), if_neg (by omega)]; omega
    rw [S_add, S_ind, if_pos (by omega)] at e
    rw [tog]
    show _ ≤ (tog gs l k).p + (gat gs (l.getD (k + 1) 0)).p
    omega
def inside (x : L) (a b : Int) : Bool := decide (a ≤ x.a) && decide (end' x ≤ b)
theorem excl {ls : List F} {gs : List G} {plan : List L} {a b : Int} (hv : bthE ls gs = 0) (hc : ckL ls gs plan plan.length 0 = 0) : prf ls gs a b = false := by
  by_cases hw : wOk a b = true
  case neg => unfold prf; rw [Bool.eq_false_iff.2 hw]; rfl
  obtain ⟨wa, wab, wb⟩ := wOk_iff.1 hw
  obtain ⟨hvF, hvG⟩ := bth_zero hv
  obtain ⟨_, hF⟩ := valF_zero hvF
  obtain ⟨_, hG⟩ := valG_zero hvG
  obtain ⟨hld, hcov⟩ := ckL_all plan.length 0 hc
  have hld' : ∀ j, j < plan.length → ldE ls gs (plan.take j) (plan.getD j default) = 0 := fun j hj => hld j (by omega) (by omega)
  have hK : ∀ j, j < plan.length → Kept ls gs (plan.getD j default) := fun j hj => kept_of (ldE_zero (hld' j hj)).1
  -- every goods lies in a load whose days are enough
  have hFa : ∀ n : Int, 0 ≤ n → n < ls.length → okF (fat ls n) = true := fun n h0 h1 => by
    unfold fat
    rw [show ls.getD n.toNat default = ls[n.toNat]'(by omega) by simp [show n.toNat < ls.length by omega]]
    exact hF _ _
  have hcv : ∀ i, i < gs.length → ∃ k, k < plan.length ∧ mem (plan.getD k default) i = true := fun i hi => by
    have h1 := List.all_eq_true.1 hcov i (List.mem_range.2 hi)
    obtain ⟨x, hx, h2⟩ := List.any_eq_true.1 h1
    obtain ⟨k, hk, rfl⟩ := List.mem_iff_getElem.1 hx
    exact ⟨k, hk, by rw [show plan.getD k default = plan[k] by simp [hk]]; exact h2⟩
  have hgo : ∀ i k, i < gs.length → k < plan.length → mem (plan.getD k default) i = true →
      (0 < dyN ls (gs.getD i default) ∧ (dyN ls (gs.getD i default) : Int) ≤ (plan.getD k default).hs.length) ∧ (gs.getD i default).a ≤ (plan.getD k default).a ∧ end' (plan.getD k default) ≤ (gs.getD i default).u := by
    intro i k hi hk hm
    have hKk := hK k hk
    obtain ⟨m, hm1, hm2⟩ := List.any_eq_true.1 hm
    obtain ⟨j, hj, hj2⟩ := List.mem_iff_getElem.1 hm1
    have hmi : m = (i : Int) := of_decide_eq_true hm2
    obtain ⟨e1, e2, e3⟩ := hKk.each j hj
    have hgi : gat gs ((plan.getD k default).gs.getD j 0) = gs.getD i default := by
      rw [show (plan.getD k default).gs.getD j 0 = (i : Int) by rw [getD_at hj, hj2, hmi]]
      unfold gat; simp
    rw [hgi] at e1 e2 e3
    have hgm : (gs.getD i default).m ≤ 60 := by
      have := okG_iff.1 (hG i hi)
      rw [show gs.getD i default = gs[i] by simp [hi]]; omega
    have hd := dN_of (hFa _ hKk.loft.1 hKk.loft.2) hKk.heats hgm e3
    have hpl : (gs.getD i default).p ≤ (fat ls (plan.getD k default).l).p := by
      have h1 := hKk.poles
      have hst := st_bd (stB_iff.1 hKk.set')
      have h2 := mek_poles hG hst ((plan.getD k default).gs.length - 1) (by have := hKk.some'; omega)
      have h3 := S_one (f := fun i => if mek (plan.getD k default).gs ((plan.getD k default).gs.length - 1) i = true then (gs.getD i default).p else 0) gs.length i hi (fun j hj => by
        split
        · have := okG_iff.1 (hG j hj)
          rw [show gs.getD j default = gs[j] by simp [hj]]; omega
        · exact Int.le_refl _)
      rw [if_pos (mem_mek hm)] at h3
      unfold togA at h1
      omega
    have hdy := dyk_of (ls := ls) (g := gs.getD i default) ls.length (plan.getD k default).l.toNat (by have := hKk.loft; omega) hd.1 hpl
    refine ⟨⟨hdy.1, ?_⟩, e1, e2⟩
    have h5 : dyN ls (gs.getD i default) ≤ dN (fat ls (plan.getD k default).l).rs (gs.getD i default).n (gs.getD i default).m := hdy.2
    omega
  unfold prf
  rw [hw, Bool.true_and, Bool.or_eq_false_iff]
  refine ⟨?_, ?_⟩
  · apply Bool.eq_false_iff.2
    intro hn
    obtain ⟨i, hi, h2⟩ := List.any_eq_true.1 hn
    rw [Bool.and_eq_true, decide_eq_true_eq] at h2
    obtain ⟨k, hk, hm⟩ := hcv i (List.mem_range.1 hi)
    have := (hgo i k (List.mem_range.1 hi) hk hm).1.1
    omega
  · apply decide_eq_false
    intro hlt
    have hpi : ∀ i, i < gs.length → 0 ≤ (gs.getD i default).p := fun i hi => by
      have := okG_iff.1 (hG i hi)
      rw [show gs.getD i default = gs[i] by simp [hi]]; omega
    have A : S (ndk ls gs a b) gs.length ≤ S (fun i => S (fun k => if (mem (plan.getD k default) i && inW (gs.getD i default) a b) = true then (gs.getD i default).p * ((plan.getD k default).hs.length : Int) else 0) plan.length) gs.length := by
      refine S_le _ fun i hi => ?_
      have hnn : ∀ k, k < plan.length → 0 ≤ (if (mem (plan.getD k default) i && inW (gs.getD i default) a b) = true then (gs.getD i default).p * ((plan.getD k default).hs.length : Int) else 0) := fun k hk => by
        split
        · exact Int.mul_nonneg (hpi i hi) (by omega)
        · exact Int.le_refl _
      unfold ndk
      by_cases c : inW (gs.getD i default) a b = true
      · rw [if_pos c]
        obtain ⟨k, hk, hm⟩ := hcv i hi
        have h1 := S_one (f := fun k => if (mem (plan.getD k default) i && inW (gs.getD i default) a b) = true then (gs.getD i default).p * ((plan.getD k default).hs.length : Int) else 0) plan.length k hk hnn
        rw [hm, c, Bool.true_and, if_pos rfl] at h1
        have h2 : (gs.getD i default).p * (dyN ls (gs.getD i default) : Int) ≤ (gs.getD i default).p * ((plan.getD k default).hs.length : Int) := Int.mul_le_mul_of_nonneg_left (hgo i k hi hk hm).1.2 (hpi i hi)
        rw [c] at *
        exact Int.le_trans h2 h1
      · rw [if_neg c]
        exact S_nn _ hnn
    rw [S_comm] at A
    have B : S (fun k => S (fun i => if (mem (plan.getD k default) i && inW (gs.getD i default) a b) = true then (gs.getD i default).p * ((plan.getD k default).hs.length : Int) else 0) gs.length) plan.length ≤
        S (fun k => if inside (plan.getD k default) a b = true then (fat ls (plan.getD k default).l).p * ((plan.getD k default).hs.length : Int) else 0) plan.length := by
      refine S_le _ fun k hk => ?_
      have hKk := hK k hk
      by_cases c : inside (plan.getD k default) a b = true
      · rw [if_pos c]
        have h1 : S (fun i => if (mem (plan.getD k default) i && inW (gs.getD i default) a b) = true then (gs.getD i default).p * ((plan.getD k default).hs.length : Int) else 0) gs.length ≤
            S (fun i => ((plan.getD k default).hs.length : Int) * (if mek (plan.getD k default).gs ((plan.getD k default).gs.length - 1) i = true then (gs.getD i default).p else 0)) gs.length := by
          refine S_le _ fun i hi => ?_
          by_cases c2 : (mem (plan.getD k default) i && inW (gs.getD i default) a b) = true
          · rw [if_pos c2]
            rw [Bool.and_eq_true] at c2
            rw [if_pos (mem_mek c2.1), Int.mul_comm]
            exact Int.le_refl _
          · rw [if_neg c2]
            refine Int.mul_nonneg (by omega) ?_
            split
            · exact hpi i hi
            · exact Int.le_refl _
        rw [S_mul] at h1
        have h2 := mek_poles hG (st_bd (stB_iff.1 hKk.set')) ((plan.getD k default).gs.length - 1) (by have := hKk.some'; omega)
        have h3 := hKk.poles
        unfold togA at h3
        have h4 := Int.mul_le_mul_of_nonneg_left (Int.le_trans h2 h3) (show (0 : Int) ≤ ((plan.getD k default).hs.length : Int) by omega)
        rw [Int.mul_comm (fat ls (plan.getD k default).l).p]
        exact Int.le_trans h1 h4
      · rw [if_neg c]
        rw [S_congr (g := fun _ => 0) _ (fun i hi => ?_), S_zero]
        · exact Int.le_refl _
        · refine if_neg fun c2 => c ?_
          rw [Bool.and_eq_true] at c2
          have h1 := hgo i k hi hk c2.1
          have h2 := inW_iff.1 c2.2
          unfold inside
          rw [Bool.and_eq_true, decide_eq_true_eq, decide_eq_true_eq]
          omega
    have C : S (fun k => if inside (plan.getD k default) a b = true then (fat ls (plan.getD k default).l).p * ((plan.getD k default).hs.length : Int) else 0) plan.length =
        S (fun k => S (fun f => (ls.getD f default).p * (if (inside (plan.getD k default) a b && decide (f = (plan.getD k default).l.toNat)) = true then ((plan.getD k default).hs.length : Int) else 0)) ls.length) plan.length := by
      refine S_congr _ fun k hk => ?_
      have hKk := hK k hk
      have e : S (fun f => (ls.getD f default).p * (if (inside (plan.getD k default) a b && decide (f = (plan.getD k default).l.toNat)) = true then ((plan.getD k default).hs.length : Int) else 0)) ls.length =
          S (fun f => if f = (plan.getD k default).l.toNat then (if inside (plan.getD k default) a b = true then (fat ls (plan.getD k default).l).p * ((plan.getD k default).hs.length : Int) else 0) else 0) ls.length := by
        refine S_congr _ fun f hf => ?_
        by_cases c : f = (plan.getD k default).l.toNat
        · rw [if_pos c, decide_eq_true c, Bool.and_true]
          unfold fat
          rw [c]
          split
          · rfl
          · rw [Int.mul_zero]
        · rw [if_neg c, decide_eq_false c, Bool.and_false, if_neg (by decide), Int.mul_zero]
      rw [e, S_ind, if_pos (show (plan.getD k default).l.toNat < ls.length by have := hKk.loft; omega)]
    have D : S (fun k => S (fun f => (ls.getD f default).p * (if (inside (plan.getD k default) a b && decide (f = (plan.getD k default).l.toNat)) = true then ((plan.getD k default).hs.length : Int) else 0)) ls.length) plan.length ≤ pls ls ls.length * (b - a) := by
      rw [S_comm]
      have h1 : S (fun f => S (fun k => (ls.getD f default).p * (if (inside (plan.getD k default) a b && decide (f = (plan.getD k default).l.toNat)) = true then ((plan.getD k default).hs.length : Int) else 0)) plan.length) ls.length ≤ S (fun f => (b - a) * (ls.getD f default).p) ls.length := by
        refine S_le _ fun f hf => ?_
        rw [S_mul, Int.mul_comm (b - a)]
        refine Int.mul_le_mul_of_nonneg_left ?_ (by
          have := (okF_iff.1 (hF f hf)).1
          rw [show ls.getD f default = ls[f] by simp [hf]]; omega)
        have e : S (fun k => if (inside (plan.getD k default) a b && decide (f = (plan.getD k default).l.toNat)) = true then ((plan.getD k default).hs.length : Int) else 0) plan.length =
            S (fun k => S (fun (d : Nat) => if (plan.getD k default).a ≤ (d : Int) ∧ (d : Int) < end' (plan.getD k default) then (if (inside (plan.getD k default) a b && decide (f = (plan.getD k default).l.toNat)) = true then 1 else 0) else 0) 80) plan.length := by
          refine S_congr _ fun k hk => ?_
          have hKk := hK k hk
          have hl := (vHt_iff.1 hKk.heats).1
          have he : end' (plan.getD k default) = (plan.getD k default).a + (plan.getD k default).hs.length := rfl
          have hf0 := hKk.from0
          have h9 : end' (plan.getD k default) - (plan.getD k default).a = ((plan.getD k default).hs.length : Int) := by omega
          rw [S_span _ hf0.1 (by omega), if_neg (show ¬ ((80 : Nat) : Int) ≤ (plan.getD k default).a by omega), if_neg (show ¬ ((80 : Nat) : Int) ≤ end' (plan.getD k default) by omega), h9]
          by_cases c9 : (inside (plan.getD k default) a b && decide (f = (plan.getD k default).l.toNat)) = true
          · rw [if_pos c9, if_pos c9, Int.mul_one]
          · rw [if_neg c9, if_neg c9, Int.mul_zero]
        rw [e, S_comm]
        have h2 : S (fun d => S (fun k => if (plan.getD k default).a ≤ (d : Int) ∧ (d : Int) < end' (plan.getD k default) then (if (inside (plan.getD k default) a b && decide (f = (plan.getD k default).l.toNat)) = true then 1 else 0) else 0) plan.length) 80 ≤ S (fun (d : Nat) => if a ≤ (d : Int) ∧ (d : Int) < b then 1 else 0) 80 := by
          refine S_le _ fun d hd => ?_
          have hone : ∀ k, k < plan.length → ¬ (if (plan.getD k default).a ≤ (d : Int) ∧ (d : Int) < end' (plan.getD k default) then (if (inside (plan.getD k default) a b && decide (f = (plan.getD k default).l.toNat)) = true then (1 : Int) else 0) else 0) ≤ 0 →
              ((plan.getD k default).a ≤ (d : Int) ∧ (d : Int) < end' (plan.getD k default)) ∧ (a ≤ (plan.getD k default).a ∧ end' (plan.getD k default) ≤ b) ∧ f = (plan.getD k default).l.toNat := by
            intro k hk hc
            by_cases c1 : (plan.getD k default).a ≤ (d : Int) ∧ (d : Int) < end' (plan.getD k default)
            · rw [if_pos c1] at hc
              by_cases c2 : (inside (plan.getD k default) a b && decide (f = (plan.getD k default).l.toNat)) = true
              · rw [Bool.and_eq_true, decide_eq_true_eq] at c2
                have c3 := c2.1
                unfold inside at c3
                rw [Bool.and_eq_true, decide_eq_true_eq, decide_eq_true_eq] at c3
                exact ⟨c1, c3, c2.2⟩
              · rw [if_neg c2] at hc; omega
            · rw [if_neg c1] at hc; omega
          by_cases hin : a ≤ (d : Int) ∧ (d : Int) < b
          · rw [if_pos hin]
            refine S_atmost _ (fun k hk => ?_) (fun i j hi hj hij => ?_) (fun k hk => ?_)
            · split
              · split <;> omega
              · omega
            · apply Decidable.byContradiction
              intro hn
              rw [not_or] at hn
              have h3 := hone i hi hn.1
              have h4 := hone j hj hn.2
              have hli := (hK i hi).loft
              have hlj := (hK j hj).loft
              have hll : (plan.getD j default).l = (plan.getD i default).l := by omega
              rcases Nat.lt_or_gt_of_ne hij with h | h
              · have := mts_no (apart_of hld' h hj) hll; omega
              · have := mts_no (apart_of hld' h hi) hll.symm; omega
            · split
              · split <;> omega
              · omega
          · rw [if_neg hin, S_congr (g := fun _ => 0) _ (fun k hk => ?_), S_zero]
            · exact Int.le_refl _
            · apply Decidable.byContradiction
              intro hn
              have h5 : ¬ (if (plan.getD k default).a ≤ (d : Int) ∧ (d : Int) < end' (plan.getD k default) then (if (inside (plan.getD k default) a b && decide (f = (plan.getD k default).l.toNat)) = true then (1 : Int) else 0) else 0) ≤ 0 := by
                intro h6
                apply hn
                have h7 : 0 ≤ (if (plan.getD k default).a ≤ (d : Int) ∧ (d : Int) < end' (plan.getD k default) then (if (inside (plan.getD k default) a b && decide (f = (plan.getD k default).l.toNat)) = true then (1 : Int) else 0) else 0) := by
                  split
                  · split <;> omega
                  · omega
                omega
              have h6 := hone k hk h5
              omega
        rw [S_span 1 wa wab, if_neg (by omega), if_neg (by omega), Int.mul_one] at h2
        exact h2
      rw [S_mul, Int.mul_comm] at h1
      exact h1
    have := Int.le_trans A B
    rw [C] at this
    have := Int.le_trans this D
    omega
end Lf
end Go.Proofs.Ytabfcnfddemblaa
