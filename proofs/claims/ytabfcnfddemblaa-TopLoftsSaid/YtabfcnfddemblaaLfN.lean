/- Hangings, heats and lofts in plain words. -/
namespace Go.Proofs.Ytabfcnfddemblaa
namespace Lf

def rng (lo hi n : Int) : Bool := decide (lo ≤ n) && decide (n ≤ hi)
theorem rng_iff {lo hi n : Int} : rng lo hi n = true ↔ lo ≤ n ∧ n ≤ hi := by simp [rng]
theorem rng_no {lo hi n : Int} (h : rng lo hi n = false) : ¬ (lo ≤ n ∧ n ≤ hi) := fun hc => by rw [rng_iff.2 hc] at h; cases h

/-- A hanging: drop, shift, days, rate, fall. -/
structure H where
  d : Int
  s : Int
  y : Int
  r : Int
  f : Int
instance : Inhabited H := ⟨⟨0, 0, 0, 0, 0⟩⟩
/-- A loft: poles, rates. -/
structure F where
  p : Int
  rs : List Int
instance : Inhabited F := ⟨⟨0, []⟩⟩
/-- Goods: poles, need, most, ready, due. -/
structure G where
  p : Int
  n : Int
  m : Int
  a : Int
  u : Int
instance : Inhabited G := ⟨⟨0, 0, 0, 0, 0⟩⟩
/-- A load: its loft, its first day, its heats, its goods. -/
structure L where
  l : Int
  a : Int
  hs : List Int
  gs : List Int
instance : Inhabited L := ⟨⟨0, 0, [], []⟩⟩

def vH (h : H) : Bool := rng 1 1000 h.d && (rng 0 (2 * h.d - 1) h.s && (rng 0 12 h.y && (rng 0 100000 h.r && rng 0 (h.r / h.d) h.f)))
theorem vH_iff {h : H} : vH h = true ↔ (1 ≤ h.d ∧ h.d ≤ 1000) ∧ (0 ≤ h.s ∧ h.s ≤ 2 * h.d - 1) ∧ (0 ≤ h.y ∧ h.y ≤ 12) ∧ (0 ≤ h.r ∧ h.r ≤ 100000) ∧ (0 ≤ h.f ∧ h.f ≤ h.r / h.d) := by
  unfold vH
  simp only [Bool.and_eq_true, rng_iff]

/-- How many poles lie below a length. -/
def np (h : H) (len : Int) : Nat := ((len - h.s + 2 * h.d - 1) / (2 * h.d)).toNat
theorem np_iff {h : H} {len : Int} (hd : 1 ≤ h.d) (k : Nat) : k < np h len ↔ h.s + 2 * h.d * (k : Int) < len := by
  unfold np
  have h2 : 0 < 2 * h.d := by omega
  have e1 : (k < ((len - h.s + 2 * h.d - 1) / (2 * h.d)).toNat) ↔ ((k : Int) + 1 ≤ (len - h.s + 2 * h.d - 1) / (2 * h.d)) := by omega
  rw [e1, Int.le_ediv_iff_mul_le h2, Int.mul_comm]
  rw [Int.mul_add]
  omega
/-- The first places of the poles. -/
def pl (h : H) (k : Nat) : List Int := (List.range k).map fun (i : Nat) => h.s + 2 * h.d * (i : Int)
theorem pl_len (h : H) (k : Nat) : (pl h k).length = k := by simp [pl]
theorem pl_succ (h : H) (k : Nat) : pl h (k + 1) = pl h k ++ [h.s + 2 * h.d * (k : Int)] := by
  unfold pl; rw [List.range_succ, List.map_append]; rfl
theorem pl_at {h : H} {k i : Nat} (hi : i < (pl h k).length) : (pl h k)[i] = h.s + 2 * h.d * (i : Int) := by simp [pl]
def polE (h : H) (len : Int) : Int := if (vH h && rng 0 1000000 len) = true then (if np h len ≤ 1000 then 0 else 4) else 1
def polL (h : H) (len : Int) : List Int := if polE h len = 0 then pl h (np h len) else []

/-- The height of a place. -/
def hgt (h : H) (p : Int) : Int := min ((p + 2 * h.d - h.s) % (2 * h.d)) (2 * h.d - (p + 2 * h.d - h.s) % (2 * h.d))
def hgtE (h : H) (p : Int) : Int := if (vH h && rng 0 1000000 p) = true then 0 else 1
def hgtR (h : H) (p : Int) : Int := if hgtE h p = 0 then hgt h p else 0
theorem hgt_bd {h : H} (hd : 1 ≤ h.d) (p : Int) : 0 ≤ hgt h p ∧ hgt h p ≤ h.d := by
  unfold hgt
  have := Int.emod_nonneg (p + 2 * h.d - h.s) (show 2 * h.d ≠ 0 by omega)
  have := Int.emod_lt_of_pos (p + 2 * h.d - h.s) (show 0 < 2 * h.d by omega)
  omega
/-- The ripeness of a place in one hanging. -/
def ri (h : H) (p : Int) : Int := h.y * (h.r - h.f * hgt h p)
theorem fh_bd {h : H} (hv : vH h = true) (p : Int) : 0 ≤ h.f * hgt h p ∧ h.f * hgt h p ≤ h.r := by
  obtain ⟨⟨d1, d2⟩, _, _, ⟨r1, r2⟩, ⟨f1, f2⟩⟩ := vH_iff.1 hv
  obtain ⟨g1, g2⟩ := hgt_bd (p := p) d1
  refine ⟨Int.mul_nonneg f1 g1, ?_⟩
  have a1 : h.f * hgt h p ≤ h.f * h.d := Int.mul_le_mul_of_nonneg_left g2 f1
  have a2 : h.f * h.d ≤ h.r / h.d * h.d := Int.mul_le_mul_of_nonneg_right f2 (by omega)
  have a3 : h.r / h.d * h.d ≤ h.r := Int.ediv_mul_le _ (by omega)
  omega
theorem ri_bd {h : H} (hv : vH h = true) (p : Int) : 0 ≤ ri h p ∧ ri h p ≤ 1200000 := by
  obtain ⟨_, _, ⟨y1, y2⟩, ⟨r1, r2⟩, _⟩ := vH_iff.1 hv
  obtain ⟨g1, g2⟩ := fh_bd hv p
  unfold ri
  have a1 : 0 ≤ h.r - h.f * hgt h p := by omega
  have a2 : h.r - h.f * hgt h p ≤ 100000 := by omega
  refine ⟨Int.mul_nonneg y1 a1, ?_⟩
  have b1 : h.y * (h.r - h.f * hgt h p) ≤ 12 * (h.r - h.f * hgt h p) := Int.mul_le_mul_of_nonneg_right y2 a1
  omega
/-- The ripeness of a place in the first hangings. -/
def rip (l : List H) (p : Int) : Nat → Int
  | 0 => 0
  | k + 1 => rip l p k + ri (l.getD k default) p
theorem rip_bd {l : List H} (hv : ∀ k (hk : k < l.length), vH l[k] = true) (p : Int) : ∀ k, k ≤ l.length → 0 ≤ rip l p k ∧ rip l p k ≤ 1200000 * k
  | 0, _ => by simp [rip]
  | k + 1, hk => by
    have a := rip_bd hv p k (by omega)
    have b := ri_bd (hv k (by omega)) p
    rw [rip, show l.getD k default = l[k] by simp [show k < l.length by omega]]
    omega
/-- The error of a list of hangings. -/
def vlE (l : List H) : Int := if 8 < l.length then 4 else if l.all vH = true then 0 else 1
theorem vlE_long {l : List H} (h : 8 < l.length) : vlE l = 4 := if_pos h
theorem vlE_ok {l : List H} (h : ¬ 8 < l.length) (hv : ∀ k (hk : k < l.length), vH l[k] = true) : vlE l = 0 := by
  rw [vlE, if_neg h, if_pos]
  rw [List.all_eq_true]
  intro x hx
  obtain ⟨k, hk, rfl⟩ := List.mem_iff_getElem.1 hx
  exact hv k hk
theorem vlE_bad {l : List H} (h : ¬ 8 < l.length) {k : Nat} (hk : k < l.length) (hv : vH l[k] = false) : vlE l = 1 := by
  rw [vlE, if_neg h, if_neg]
  rw [List.all_eq_true]
  intro hc
  rw [hc _ (List.getElem_mem hk)] at hv; cases hv
theorem vlE_zero {l : List H} (h : vlE l = 0) : l.length ≤ 8 ∧ ∀ k (hk : k < l.length), vH l[k] = true := by
  unfold vlE at h
  by_cases h8 : 8 < l.length
  · rw [if_pos h8] at h; omega
  · rw [if_neg h8] at h
    by_cases ha : l.all vH = true
    · exact ⟨by omega, fun k hk => List.all_eq_true.1 ha _ (List.getElem_mem hk)⟩
    · rw [if_neg ha] at h; omega
def ripE (l : List H) (p : Int) : Int := if vlE l = 0 then (if rng 0 1000000 p = true then 0 else 1) else vlE l
def ripR (l : List H) (p : Int) : Int := if ripE l p = 0 then rip l p l.length else 0
def ranE (l : List H) (n : Int) : Int := if vlE l = 0 then (if rng 1 4000 n = true then 0 else 1) else vlE l
/-- The least and the most of the ripeness of the first places. -/
def mnN (l : List H) : Nat → Int
  | 0 => rip l 0 l.length
  | n + 1 => min (mnN l n) (rip l n l.length)
def mxN (l : List H) : Nat → Int
  | 0 => rip l 0 l.length
  | n + 1 => max (mxN l n) (rip l n l.length)
def ranL (l : List H) (n : Int) : Int := if ranE l n = 0 then mnN l n.toNat else 0
def ranM (l : List H) (n : Int) : Int := if ranE l n = 0 then mxN l n.toNat else 0
theorem mn_bd {l : List H} (hv : ∀ k (hk : k < l.length), vH l[k] = true) (hl : l.length ≤ 8) : ∀ n, 0 ≤ mnN l n ∧ mnN l n ≤ 9600000
  | 0 => by have := rip_bd hv 0 l.length (Nat.le_refl _); rw [mnN]; omega
  | n + 1 => by have := rip_bd hv n l.length (Nat.le_refl _); have := mn_bd hv hl n; rw [mnN]; omega
theorem mx_bd {l : List H} (hv : ∀ k (hk : k < l.length), vH l[k] = true) (hl : l.length ≤ 8) : ∀ n, 0 ≤ mxN l n ∧ mxN l n ≤ 9600000
  | 0 => by have := rip_bd hv 0 l.length (Nat.le_refl _); rw [mxN]; omega
  | n + 1 => by have := rip_bd hv n l.length (Nat.le_refl _); have := mx_bd hv hl n; rw [mxN]; omega

/-- Heats: the heat before a day. -/
def lst (hs : List Int) : Nat → Int
  | 0 => 0
  | k + 1 => hs.getD k 0
def stp (a b : Int) : Bool := rng (max 0 (a - 1)) (min 4 (a + 1)) b
theorem stp_iff {a b : Int} : stp a b = true ↔ 0 ≤ b ∧ b ≤ 4 ∧ a - 1 ≤ b ∧ b ≤ a + 1 := by
  unfold stp; rw [rng_iff]; omega
def okHt (hs : List Int) (k : Nat) : Bool := stp (lst hs k) (hs.getD k 0)
def vHt (hs : List Int) : Bool := rng 1 12 (hs.length : Int) && (List.range hs.length).all (okHt hs)
theorem vHt_iff {hs : List Int} : vHt hs = true ↔ (1 ≤ hs.length ∧ hs.length ≤ 12) ∧ ∀ k, k < hs.length → okHt hs k = true := by
  unfold vHt
  rw [Bool.and_eq_true, rng_iff, List.all_eq_true]
  constructor
  · rintro ⟨h1, h2⟩; exact ⟨by omega, fun k hk => h2 k (List.mem_range.2 hk)⟩
  · rintro ⟨h1, h2⟩; exact ⟨by omega, fun k hk => h2 k (List.mem_range.1 hk)⟩
theorem vHt_len {hs : List Int} (h : rng 1 12 (hs.length : Int) = false) : vHt hs = false := by unfold vHt; rw [h]; rfl
theorem vHt_bad {hs : List Int} {k : Nat} (hk : k < hs.length) (h : okHt hs k = false) : vHt hs = false := by
  apply Bool.eq_false_iff.2
  intro hc
  rw [(vHt_iff.1 hc).2 k hk] at h; cases h
theorem vHt_ok {hs : List Int} (h : rng 1 12 (hs.length : Int) = true) (h2 : ∀ k, k < hs.length → okHt hs k = true) : vHt hs = true :=
  vHt_iff.2 ⟨by have := rng_iff.1 h; omega, h2⟩
theorem okHt_at {hs : List Int} {k : Nat} (h : okHt hs k = true) : 0 ≤ hs.getD k 0 ∧ hs.getD k 0 ≤ 4 := by
  have := stp_iff.1 h; omega

/-- Lofts. -/
def okRt (rs : List Int) (k : Nat) : Bool := rng (lst rs k) 9 (rs.getD k 0)
def okF (f : F) : Bool := rng 1 40 f.p && (decide (f.rs.length = 5) && (List.range 5).all (okRt f.rs))
theorem okF_iff {f : F} : okF f = true ↔ (1 ≤ f.p ∧ f.p ≤ 40) ∧ f.rs.length = 5 ∧ ∀ k, k < 5 → okRt f.rs k = true := by
  unfold okF
  rw [Bool.and_eq_true, Bool.and_eq_true, rng_iff, decide_eq_true_eq, List.all_eq_true]
  constructor
  · rintro ⟨h1, h2, h3⟩; exact ⟨h1, h2, fun k hk => h3 k (List.mem_range.2 hk)⟩
  · rintro ⟨h1, h2, h3⟩; exact ⟨h1, h2, fun k hk => h3 k (List.mem_range.1 hk)⟩
theorem okF_poles {f : F} (h : rng 1 40 f.p = false) : okF f = false := by unfold okF; rw [h]; rfl
theorem okF_len {f : F} (h : f.rs.length ≠ 5) : okF f = false := by
  apply Bool.eq_false_iff.2
  intro hc; exact h (okF_iff.1 hc).2.1
theorem okF_bad {f : F} {k : Nat} (hk : k < 5) (h : okRt f.rs k = false) : okF f = false := by
  apply Bool.eq_false_iff.2
  intro hc; rw [(okF_iff.1 hc).2.2 k hk] at h; cases h
theorem okF_ok {f : F} (h : rng 1 40 f.p = true) (h2 : f.rs.length = 5) (h3 : ∀ k, k < 5 → okRt f.rs k = true) : okF f = true := okF_iff.2 ⟨rng_iff.1 h, h2, h3⟩
theorem okRt_bd {rs : List Int} (h : ∀ k, k < 5 → okRt rs k = true) : ∀ k, k < 5 → 0 ≤ rs.getD k 0 ∧ rs.getD k 0 ≤ 9
  | 0, h0 => by have := rng_iff.1 (h 0 h0); simp only [lst] at this; omega
  | k + 1, hk => by
    have a := rng_iff.1 (h (k + 1) hk)
    have b := okRt_bd h k (by omega)
    simp only [lst] at a; omega
def valF (l : List F) : Int := if (rng 1 3 (l.length : Int) && l.all okF) = true then 0 else 1
theorem valF_len {l : List F} (h : rng 1 3 (l.length : Int) = false) : valF l = 1 := by unfold valF; rw [h]; rfl
theorem valF_ok {l : List F} (h : rng 1 3 (l.length : Int) = true) (hv : ∀ k (hk : k < l.length), okF l[k] = true) : valF l = 0 := by
  rw [valF, if_pos]
  rw [Bool.and_eq_true, List.all_eq_true]
  refine ⟨h, fun x hx => ?_⟩
  obtain ⟨k, hk, rfl⟩ := List.mem_iff_getElem.1 hx
  exact hv k hk
theorem valF_bad {l : List F} {k : Nat} (hk : k < l.length) (hv : okF l[k] = false) : valF l = 1 := by
  rw [valF, if_neg]
  rw [Bool.and_eq_true, List.all_eq_true]
  rintro ⟨_, hc⟩
  rw [hc _ (List.getElem_mem hk)] at hv; cases hv
theorem valF_zero {l : List F} (h : valF l = 0) : (1 ≤ l.length ∧ l.length ≤ 3) ∧ ∀ k (hk : k < l.length), okF l[k] = true := by
  unfold valF at h
  by_cases hc : (rng 1 3 (l.length : Int) && l.all okF) = true
  · rw [Bool.and_eq_true, List.all_eq_true, rng_iff] at hc
    exact ⟨by omega, fun k hk => hc.2 _ (List.getElem_mem hk)⟩
  · rw [if_neg hc] at h; omega
theorem valF_01 (l : List F) : valF l = 0 ∨ valF l = 1 := by unfold valF; split <;> simp
theorem valF_one {f : F} : valF [f] = 0 ↔ okF f = true := by
  constructor
  · intro h; exact (valF_zero h).2 0 (by simp)
  · intro h; exact valF_ok (by rfl) (fun k hk => by
      have e : k = 0 := by simpa using hk
      subst e
      exact h)

/-- The warmth of the first heats. -/
def wm (rs hs : List Int) : Nat → Int
  | 0 => 0
  | k + 1 => wm rs hs k + rs.getD (hs.getD k 0).toNat 0
theorem wm_bd {rs hs : List Int} (hr : ∀ k, k < 5 → 0 ≤ rs.getD k 0 ∧ rs.getD k 0 ≤ 9) (hv : ∀ k, k < hs.length → 0 ≤ hs.getD k 0 ∧ hs.getD k 0 ≤ 4) : ∀ k, k ≤ hs.length → 0 ≤ wm rs hs k ∧ wm rs hs k ≤ 9 * k
  | 0, _ => by simp [wm]
  | k + 1, hk => by
    have a := wm_bd hr hv k (by omega)
    have b := hv k (by omega)
    have c := hr (hs.getD k 0).toNat (by omega)
    rw [wm]; omega
def wE (f : F) (hs : List Int) : Int := if valF [f] = 0 then (if vHt hs = true then 0 else 1) else 1
def wR (f : F) (hs : List Int) : Int := if wE f hs = 0 then wm f.rs hs hs.length else 0
end Lf
end Go.Proofs.Ytabfcnfddemblaa
