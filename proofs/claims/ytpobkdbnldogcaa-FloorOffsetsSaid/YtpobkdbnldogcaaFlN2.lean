/- Strips, seams and doorways in plain words: by rectangles and cell by cell. -/
import Derived.Test.YtpobkdbnldogcaaFlN
namespace Go.Proofs.Ytpobkdbnldogcaa
namespace Fl
/-- From and To of a strip from x on, over the first k rectangles. -/
def sF (rs : List R) (x w : Int) : Nat → Int
  | 0 => 60
  | k + 1 => if mt x (x + w) (rs.getD k default).x ((rs.getD k default).x + (rs.getD k default).w) then min (sF rs x w k) (rs.getD k default).y else sF rs x w k
def sT (rs : List R) (x w : Int) : Nat → Int
  | 0 => 0
  | k + 1 => if mt x (x + w) (rs.getD k default).x ((rs.getD k default).x + (rs.getD k default).w) then max (sT rs x w k) ((rs.getD k default).y + (rs.getD k default).h) else sT rs x w k
theorem s_yes {rs : List R} {x w : Int} {k : Nat} (hk : k < rs.length) (h : mt x (x + w) rs[k].x (rs[k].x + rs[k].w) = true) :
    sF rs x w (k + 1) = min (sF rs x w k) rs[k].y ∧ sT rs x w (k + 1) = max (sT rs x w k) (rs[k].y + rs[k].h) := by
  rw [sF, sT, show rs.getD k default = rs[k] by simp [hk], h]; exact ⟨rfl, rfl⟩
theorem s_no {rs : List R} {x w : Int} {k : Nat} (hk : k < rs.length) (h : mt x (x + w) rs[k].x (rs[k].x + rs[k].w) = false) :
    sF rs x w (k + 1) = sF rs x w k ∧ sT rs x w (k + 1) = sT rs x w k := by
  rw [sF, sT, show rs.getD k default = rs[k] by simp [hk], h]; exact ⟨rfl, rfl⟩
theorem s_bd {rs : List R} (ho : ∀ k (hk : k < rs.length), okR rs[k] = true) (x w : Int) : ∀ {k : Nat}, k ≤ rs.length → (0 ≤ sF rs x w k ∧ sF rs x w k ≤ 60) ∧ (0 ≤ sT rs x w k ∧ sT rs x w k ≤ 60)
  | 0, _ => by simp [sF, sT]
  | k + 1, h => by
    have ih := s_bd ho x w (k := k) (by omega)
    obtain ⟨⟨b1, b2, b3, b4⟩, ⟨b5, b6, b7, b8⟩⟩ := okR_iff.1 (ho k (by omega))
    cases e : mt x (x + w) rs[k].x (rs[k].x + rs[k].w)
    · rw [(s_no (by omega) e).1, (s_no (by omega) e).2]; exact ih
    · rw [(s_yes (by omega) e).1, (s_yes (by omega) e).2]; omega
/-- The room has a cell of the columns from x on at a height. -/
def rowB (rs : List R) (x w y : Int) : Bool := rs.any fun r => mt x (x + w) r.x (r.x + r.w) && hd r.y (r.y + r.h) y
theorem rowB_iff {rs : List R} {x w y : Int} : rowB rs x w y = true ↔ ∃ k, ∃ h : k < rs.length, mt x (x + w) rs[k].x (rs[k].x + rs[k].w) = true ∧ hd rs[k].y (rs[k].y + rs[k].h) y = true := by
  unfold rowB
  rw [List.any_eq_true]
  constructor
  · rintro ⟨r, hr, h⟩
    obtain ⟨k, hk, rfl⟩ := List.mem_iff_getElem.1 hr
    exact ⟨k, hk, by simpa using h⟩
  · rintro ⟨k, hk, h⟩
    exact ⟨_, List.getElem_mem hk, by simpa using h⟩
theorem mt_iff {a b c d : Int} : mt a b c d = true ↔ a < d ∧ c < b := by simp [mt]
theorem hd_iff {a b n : Int} : hd a b n = true ↔ a ≤ n ∧ n < b := by simp [hd]
theorem rowB_cells {rs : List R} (ho : ∀ k (hk : k < rs.length), okR rs[k] = true) {x w y : Int} (hw : 1 ≤ w) : rowB rs x w y = true ↔ ∃ c : Nat, (c : Int) < w ∧ hasB rs (x + c) y = true := by
  rw [rowB_iff]
  constructor
  · rintro ⟨k, hk, h1, h2⟩
    obtain ⟨a1, a2⟩ := mt_iff.1 h1
    obtain ⟨⟨b1, b2, b3, b4⟩, _⟩ := okR_iff.1 (ho k hk)
    refine ⟨(max 0 (rs[k].x - x)).toNat, by omega, hasB_yes hk ?_⟩
    refine hasR_iff.2 ⟨⟨by omega, by omega⟩, hd_iff.1 h2⟩
  · rintro ⟨c, hc, h⟩
    obtain ⟨k, hk, h2⟩ := hasB_iff.1 h
    obtain ⟨⟨a1, a2⟩, a3⟩ := hasR_iff.1 h2
    exact ⟨k, hk, mt_iff.2 ⟨by omega, by omega⟩, hd_iff.2 a3⟩
theorem sF_least {rs : List R} {x w : Int} : ∀ {n : Nat}, n ≤ rs.length → (∀ k (hk : k < n) (hn : n ≤ rs.length), mt x (x + w) (rs[k]'(by omega)).x ((rs[k]'(by omega)).x + (rs[k]'(by omega)).w) = true → sF rs x w n ≤ (rs[k]'(by omega)).y ∧ (rs[k]'(by omega)).y + (rs[k]'(by omega)).h ≤ sT rs x w n) ∧
    ((sF rs x w n = 60 ∧ sT rs x w n = 0 ∧ ∀ k (hk : k < n) (hn : n ≤ rs.length), mt x (x + w) (rs[k]'(by omega)).x ((rs[k]'(by omega)).x + (rs[k]'(by omega)).w) = false) ∨
     ∃ i j, ∃ (hi : i < n) (hj : j < n) (hn : n ≤ rs.length), (mt x (x + w) (rs[i]'(by omega)).x ((rs[i]'(by omega)).x + (rs[i]'(by omega)).w) = true ∧ (sF rs x w n = 60 ∧ 60 ≤ (rs[i]'(by omega)).y ∨ sF rs x w n = (rs[i]'(by omega)).y)) ∧
      (mt x (x + w) (rs[j]'(by omega)).x ((rs[j]'(by omega)).x + (rs[j]'(by omega)).w) = true ∧ (sT rs x w n = 0 ∧ (rs[j]'(by omega)).y + (rs[j]'(by omega)).h ≤ 0 ∨ sT rs x w n = (rs[j]'(by omega)).y + (rs[j]'(by omega)).h)))
  | 0, _ => ⟨fun k hk => absurd hk (Nat.not_lt_zero _), .inl ⟨rfl, rfl, fun k hk => absurd hk (Nat.not_lt_zero _)⟩⟩
  | n + 1, h => by
    obtain ⟨ih1, ih2⟩ := sF_least (rs := rs) (x := x) (w := w) (n := n) (by omega)
    cases e : mt x (x + w) rs[n].x (rs[n].x + rs[n].w)
    · rw [(s_no (by omega) e).1, (s_no (by omega) e).2]
      refine ⟨fun k hk hn hm => ?_, ?_⟩
      · by_cases hkn : k = n
        · subst hkn; rw [e] at hm; cases hm
        · exact ih1 k (by omega) (by omega) hm
      · rcases ih2 with ⟨a, b, c⟩ | ⟨i, j, hi, hj, _, h1, h2⟩
        · refine .inl ⟨a, b, fun k hk hn => ?_⟩
          by_cases hkn : k = n
          · subst hkn; exact e
          · exact c k (by omega) (by omega)
        · exact .inr ⟨i, j, by omega, by omega, h, h1, h2⟩
    · rw [(s_yes (by omega) e).1, (s_yes (by omega) e).2]
      refine ⟨fun k hk hn hm => ?_, ?_⟩
      · by_cases hkn : k = n
        · subst hkn; omega
        · have := ih1 k (by omega) (by omega) hm; omega
      · rcases ih2 with ⟨a, b, c⟩ | ⟨i, j, hi, hj, _, h1, h2⟩
        · exact .inr ⟨n, n, by omega, by omega, h, ⟨e, by omega⟩, ⟨e, by omega⟩⟩
        · by_cases q1 : rs[n].y < sF rs x w n
          · by_cases q2 : sT rs x w n < rs[n].y + rs[n].h
            · exact .inr ⟨n, n, by omega, by omega, h, ⟨e, by omega⟩, ⟨e, by omega⟩⟩
            · exact .inr ⟨n, j, by omega, by omega, h, ⟨e, by omega⟩, ⟨h2.1, by omega⟩⟩
          · by_cases q2 : sT rs x w n < rs[n].y + rs[n].h
            · exact .inr ⟨i, n, by omega, by omega, h, ⟨h1.1, by omega⟩, ⟨e, by omega⟩⟩
            · exact .inr ⟨i, j, by omega, by omega, h, ⟨h1.1, by omega⟩, ⟨h2.1, by omega⟩⟩
/-- The same, height by height. -/
def rF (rs : List R) (x w : Int) : Nat → Int
  | 0 => -1
  | y + 1 => if rowB rs x w y = true ∧ rF rs x w y < 0 then y else rF rs x w y
def rT (rs : List R) (x w : Int) : Nat → Int
  | 0 => 0
  | y + 1 => if rowB rs x w y = true then y + 1 else rT rs x w y
theorem rF_bd (rs : List R) (x w : Int) : ∀ n, (-1 ≤ rF rs x w n ∧ rF rs x w n < n) ∧ (0 ≤ rT rs x w n ∧ rT rs x w n ≤ n)
  | 0 => by simp [rF, rT]
  | n + 1 => by
    have ih := rF_bd rs x w n
    rw [rF, rT]
    constructor <;> split <;> omega
theorem rF_is (rs : List R) (x w : Int) : ∀ n : Nat, (rF rs x w n < 0 ∧ rT rs x w n = 0 ∧ ∀ y : Nat, y < n → rowB rs x w y = false) ∨
    ∃ a b : Nat, a < n ∧ b < n ∧ rF rs x w n = a ∧ rT rs x w n = b + 1 ∧ rowB rs x w a = true ∧ rowB rs x w b = true ∧ (∀ y : Nat, y < n → rowB rs x w y = true → a ≤ y ∧ y ≤ b)
  | 0 => .inl ⟨by simp [rF], rfl, fun y h => absurd h (Nat.not_lt_zero _)⟩
  | n + 1 => by
    rw [rF, rT]
    rcases rF_is rs x w n with ⟨h1, h2, h3⟩ | ⟨a, b, h1, h2, h3, h4, h5, h6, h7⟩
    · cases e : rowB rs x w n
      · rw [if_neg (by simp), if_neg (by simp)]
        refine .inl ⟨h1, h2, fun y hy => ?_⟩
        by_cases hyn : y = n
        · subst hyn; exact e
        · exact h3 y (by omega)
      · rw [if_pos ⟨rfl, h1⟩, if_pos rfl]
        refine .inr ⟨n, n, by omega, by omega, rfl, rfl, e, e, fun y hy hr => ?_⟩
        by_cases hyn : y = n
        · omega
        · rw [h3 y (by omega)] at hr; cases hr
    · rw [if_neg (by omega)]
      cases e : rowB rs x w n
      · rw [if_neg (by simp)]
        refine .inr ⟨a, b, by omega, by omega, h3, h4, h5, h6, fun y hy hr => ?_⟩
        by_cases hyn : y = n
        · subst hyn; rw [e] at hr; cases hr
        · exact h7 y (by omega) hr
      · rw [if_pos rfl]
        refine .inr ⟨a, n, by omega, by omega, h3, rfl, h5, e, fun y hy hr => ?_⟩
        by_cases hyn : y = n
        · omega
        · have := h7 y (by omega) hr; omega
/-- Both ways find the same strip. -/
theorem strip_same {rs : List R} (ho : ∀ k (hk : k < rs.length), okR rs[k] = true) (x w : Int) :
    (rF rs x w 60 < 0 ∧ ¬ sF rs x w rs.length < sT rs x w rs.length) ∨ (0 ≤ rF rs x w 60 ∧ sF rs x w rs.length < sT rs x w rs.length ∧ rF rs x w 60 = sF rs x w rs.length ∧ rT rs x w 60 = sT rs x w rs.length) := by
  obtain ⟨L1, L2⟩ := sF_least (rs := rs) (x := x) (w := w) (Nat.le_refl _)
  rcases rF_is rs x w 60 with ⟨h1, h2, h3⟩ | ⟨a, b, h1, h2, h3, h4, h5, h6, h7⟩
  · rcases L2 with ⟨q1, q2, _⟩ | ⟨i, j, hi, hj, _, ⟨q1, q2⟩, _⟩
    · exact .inl ⟨h1, by omega⟩
    · exfalso
      obtain ⟨_, ⟨b5, b6, b7, b8⟩⟩ := okR_iff.1 (ho i hi)
      have := h3 (rs[i].y).toNat (by omega)
      have hy : rowB rs x w ((rs[i].y).toNat : Nat) = true := rowB_iff.2 ⟨i, hi, q1, hd_iff.2 ⟨by omega, by omega⟩⟩
      rw [this] at hy; cases hy
  · obtain ⟨ka, hka, m1, m2⟩ := rowB_iff.1 h5
    obtain ⟨kb, hkb, m3, m4⟩ := rowB_iff.1 h6
    have m2 := hd_iff.1 m2
    have m4 := hd_iff.1 m4
    have la := L1 ka hka (Nat.le_refl _) m1
    have lb := L1 kb hkb (Nat.le_refl _) m3
    rcases L2 with ⟨_, _, q⟩ | ⟨i, j, hi, hj, _, ⟨q1, q2⟩, ⟨q3, q4⟩⟩
    · rw [q ka hka (Nat.le_refl _)] at m1; cases m1
    obtain ⟨_, ⟨b5, b6, b7, b8⟩⟩ := okR_iff.1 (ho i hi)
    obtain ⟨_, ⟨c5, c6, c7, c8⟩⟩ := okR_iff.1 (ho j hj)
    have r1 : rowB rs x w ((rs[i].y).toNat : Nat) = true := rowB_iff.2 ⟨i, hi, q1, hd_iff.2 ⟨by omega, by omega⟩⟩
    have r2 : rowB rs x w ((rs[j].y + rs[j].h - 1).toNat : Nat) = true := rowB_iff.2 ⟨j, hj, q3, hd_iff.2 ⟨by omega, by omega⟩⟩
    have z1 := h7 _ (by omega) r1
    have z2 := h7 _ (by omega) r2
    exact .inr ⟨by omega, by omega, by omega, by omega⟩

/-- The strip from x on, if it has a cell. -/
def one (rs : List R) (w x : Int) : List S := if sF rs x w rs.length < sT rs x w rs.length then [⟨x, sF rs x w rs.length, sT rs x w rs.length⟩] else []
/-- The first i strips that may be. -/
def stk (rs : List R) (w o : Int) : Nat → List S
  | 0 => []
  | i + 1 => stk rs w o i ++ one rs w (o - w + i * w)
/-- How many borders there are. -/
def nS (w o : Int) : Nat := ((59 - (o - w)) / w + 1).toNat
theorem nS_iff {w o : Int} (hw : 1 ≤ w) (ho : o < w) (i : Nat) : i < nS w o ↔ o - w + i * w < 60 := by
  unfold nS
  have h0 : 0 ≤ (59 - (o - w)) / w := Int.ediv_nonneg (by omega) (by omega)
  have e : (i : Int) ≤ (59 - (o - w)) / w ↔ i * w ≤ 59 - (o - w) := Int.le_ediv_iff_mul_le (by omega)
  constructor
  · intro h
    have := e.1 (by omega)
    omega
  · intro h
    have := e.2 (by omega)
    omega
def stL (rs : List R) (w o : Int) : List S := stk rs w o (nS w o)
theorem stk_len (rs : List R) (w o : Int) : ∀ i, (stk rs w o i).length ≤ i
  | 0 => Nat.le_refl _
  | i + 1 => by
    have := stk_len rs w o i
    rw [stk, List.length_append]
    unfold one
    split <;> simp <;> omega
/-- The room has the cells on both sides of a line at a height. -/
def jn (rs : List R) (x y : Int) : Bool := hasB rs (x - 1) y && hasB rs x y
def seam (rs : List R) (x : Int) : Bool := (List.range 60).any fun y => jn rs x y
theorem seam_iff {rs : List R} {x : Int} : seam rs x = true ↔ ∃ y : Nat, y < 60 ∧ jn rs x y = true := by
  unfold seam
  rw [List.any_eq_true]
  constructor
  · rintro ⟨y, hy, h⟩; exact ⟨y, List.mem_range.1 hy, h⟩
  · rintro ⟨y, hy, h⟩; exact ⟨y, List.mem_range.2 hy, h⟩
theorem seam_no {rs : List R} {x : Int} (h : ∀ y : Nat, y < 60 → jn rs x y = false) : seam rs x = false := by
  apply Bool.eq_false_iff.2
  intro hc
  obtain ⟨y, hy, h2⟩ := seam_iff.1 hc
  rw [h y hy] at h2; cases h2
/-- The seams, border by border. -/
def smk (rs : List R) (w o : Int) : Nat → List Int
  | 0 => []
  | i + 1 => smk rs w o i ++ (if seam rs (o + i * w) then [o + i * w] else [])
theorem smk_len (rs : List R) (w o : Int) : ∀ i, (smk rs w o i).length ≤ i
  | 0 => Nat.le_refl _
  | i + 1 => by
    have := smk_len rs w o i
    rw [smk, List.length_append]
    split <;> simp <;> omega
def smL (rs : List R) (w o : Int) : List Int := smk rs w o (nS w o - 1)
/-- The seams among some strips. -/
def smOf (rs : List R) (l : List S) : List Int := (l.filter fun s => seam rs s.x).map (·.x)
theorem one_seam {rs : List R} (ho : ∀ k (hk : k < rs.length), okR rs[k] = true) {w x : Int} (hw : 1 ≤ w) : smOf rs (one rs w x) = if seam rs x then [x] else [] := by
  unfold one smOf
  by_cases h : sF rs x w rs.length < sT rs x w rs.length
  · rw [if_pos h]
    cases e : seam rs x <;> simp [e]
  · rw [if_neg h]
    cases e : seam rs x
    · simp
    · exfalso
      obtain ⟨y, hy, h2⟩ := seam_iff.1 e
      unfold jn at h2
      rw [Bool.and_eq_true] at h2
      have hr : rowB rs x w y = true := (rowB_cells ho hw).2 ⟨0, by omega, by simpa using h2.2⟩
      rcases rF_is rs x w 60 with ⟨_, _, h3⟩ | ⟨a, b, h1, h2, h3, _⟩
      · rw [h3 y hy] at hr; cases hr
      · rcases strip_same ho x w with ⟨q, _⟩ | ⟨_, q, _⟩
        · omega
        · exact h q
theorem smOf_stk {rs : List R} (ho : ∀ k (hk : k < rs.length), okR rs[k] = true) {w o : Int} (hw : 1 ≤ w) (h2 : o < w) : ∀ i, smOf rs (stk rs w o (i + 1)) = smk rs w o i
  | 0 => by
    rw [stk, stk, List.nil_append, one_seam ho hw, smk]
    rw [if_neg]
    rw [Bool.not_eq_true]
    refine seam_no fun y _ => ?_
    have : hasB rs (o - w + ((0 : Nat) : Int) * w - 1) y = false := hasB_no fun k hk => by
      apply Bool.eq_false_iff.2
      intro hc
      obtain ⟨⟨a1, _⟩, _⟩ := hasR_iff.1 hc
      obtain ⟨⟨b1, _⟩, _⟩ := okR_iff.1 (ho k hk)
      simp at a1
      omega
    unfold jn
    rw [this]; rfl
  | i + 1 => by
    rw [stk, smk, ← smOf_stk ho hw h2 i]
    have e : o - w + ((i + 1 : Nat) : Int) * w = o + i * w := by
      rw [Int.natCast_add, Int.add_mul]
      simp
      omega
    rw [e, ← one_seam ho hw]
    unfold smOf
    rw [List.filter_append, List.map_append]
theorem smOf_stL {rs : List R} (ho : ∀ k (hk : k < rs.length), okR rs[k] = true) {w o : Int} (hw : 1 ≤ w) (_h1 : 0 ≤ o) (h2 : o < w) : smOf rs (stL rs w o) = smL rs w o := by
  unfold stL smL
  have h : 0 < nS w o := (nS_iff hw h2 0).2 (by simp; omega)
  rw [← smOf_stk ho hw h2, show nS w o - 1 + 1 = nS w o by omega]
def indoorX (rs : List R) (x : Int) (d : D) : Bool := (decide (d.a < x) && decide (x < d.b)) && (jn rs x d.y || jn rs x (d.y - 1))
def indoor (rs : List R) (ds : List D) (l : List Int) : Bool := l.any fun x => ds.any fun d => indoorX rs x d
theorem indoor_yes {rs : List R} {ds : List D} {l : List Int} {i k : Nat} (hi : i < l.length) (hk : k < ds.length) (h : indoorX rs l[i] ds[k] = true) : indoor rs ds l = true := by
  unfold indoor
  exact List.any_eq_true.2 ⟨_, List.getElem_mem hi, List.any_eq_true.2 ⟨_, List.getElem_mem hk, h⟩⟩
theorem indoor_no {rs : List R} {ds : List D} {l : List Int} (h : ∀ i (hi : i < l.length) k (hk : k < ds.length), indoorX rs l[i] ds[k] = false) : indoor rs ds l = false := by
  apply Bool.eq_false_iff.2
  intro hc
  unfold indoor at hc
  obtain ⟨x, hx, hc⟩ := List.any_eq_true.1 hc
  obtain ⟨d, hd, hc⟩ := List.any_eq_true.1 hc
  obtain ⟨i, hi, rfl⟩ := List.mem_iff_getElem.1 hx
  obtain ⟨k, hk, rfl⟩ := List.mem_iff_getElem.1 hd
  rw [h i hi k hk] at hc; cases hc
def offE (rs : List R) (ds : List D) (w o : Int) : Int := if valE rs ds = 0 then (if (1 ≤ w ∧ w ≤ 20) ∧ (0 ≤ o ∧ o ≤ w - 1) then 0 else 1) else valE rs ds
theorem offE_zero {rs : List R} {ds : List D} {w o : Int} : offE rs ds w o = 0 ↔ valE rs ds = 0 ∧ (1 ≤ w ∧ w ≤ 20) ∧ (0 ≤ o ∧ o ≤ w - 1) := by
  unfold offE
  constructor
  · intro h
    split at h
    · rename_i h1
      split at h
      · rename_i h2; exact ⟨h1, h2⟩
      · omega
    · omega
  · rintro ⟨h1, h2⟩
    rw [if_pos h1, if_pos h2]
/-- The sum of the lengths of the first k strips. -/
def tot (l : List S) : Nat → Int
  | 0 => 0
  | k + 1 => tot l k + ((l.getD k default).t - (l.getD k default).f)
theorem tot_at {l : List S} {k : Nat} (hk : k < l.length) : tot l (k + 1) = tot l k + (l[k].t - l[k].f) := by
  rw [tot, show l.getD k default = l[k] by simp [hk]]
end Fl
end Go.Proofs.Ytpobkdbnldogcaa
