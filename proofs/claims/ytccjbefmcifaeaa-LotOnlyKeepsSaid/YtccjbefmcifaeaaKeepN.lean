/- What is kept of a genealogy is one itself, with the same shares and paths. Plain. -/
import Derived.Test.YtccjbefmcifaeaaOnly2
import Derived.Test.YtccjbefmcifaeaaShN
import Derived.Test.YtccjbefmcifaeaaRedN
import Derived.Test.YtccjbefmcifaeaaRShare
namespace Go.Proofs.Ytccjbefmcifaeaa
namespace Kp

def nu (K : Nat → Bool) (i : Nat) : Nat := (selK K i).length
theorem nu_succ (K : Nat → Bool) (i : Nat) : nu K (i + 1) = nu K i + (if K i = true then 1 else 0) := by
  unfold nu
  rw [selK_succ]
  cases h : K i <;> simp
theorem nu_mono (K : Nat → Bool) {i j : Nat} (h : i ≤ j) : nu K i ≤ nu K j := by
  induction j with
  | zero => obtain rfl : i = 0 := by omega
            exact Nat.le_refl _
  | succ j ih =>
    by_cases e : i = j + 1
    · subst e; exact Nat.le_refl _
    · have := ih (by omega); rw [nu_succ]; omega
theorem nu_lt {K : Nat → Bool} {i j : Nat} (h : i < j) (hi : K i = true) : nu K i < nu K j := by
  have := nu_mono K (show i + 1 ≤ j by omega)
  rw [nu_succ, if_pos hi] at this
  omega
theorem nu_inj {K : Nat → Bool} {i j : Nat} (hi : K i = true) (hj : K j = true) (h : nu K i = nu K j) : i = j := by
  rcases Nat.lt_trichotomy i j with h1 | h1 | h1
  · have := nu_lt h1 hi; omega
  · exact h1
  · have := nu_lt h1 hj; omega
theorem only_len (ls : List Lt.L) (K : Nat → Bool) : ∀ i, (onlyL ls K i).length = nu K i
  | 0 => rfl
  | i + 1 => by
    rw [nu_succ, ← only_len ls K i]
    show (if K i = true then onlyL ls K i ++ [_] else onlyL ls K i).length = _
    split <;> simp
theorem nf_at {K : Nat → Bool} {p : Nat} (hp : K p = true) : ∀ {i : Nat}, p < i → nf K i p = (nu K p : Int)
  | i + 1, h => by
    show (if K i = true then upd (nf K i) i ((selK K i).length : Int) else nf K i) p = _
    by_cases e : p = i
    · subst e; rw [if_pos hp]; unfold upd; rw [if_pos rfl]; rfl
    · split
      · unfold upd; rw [if_neg e]; exact nf_at hp (by omega)
      · exact nf_at hp (by omega)
/-- The list of parts with the new numbers. -/
def ren (K : Nat → Bool) (ps : List Lt.P) : List Lt.P := renP (fun q => (nu K q : Int)) ps
theorem ren_eq {K : Nat → Bool} {i : Nat} {ps : List Lt.P} (h : ∀ p ∈ ps, K p.l.toNat = true ∧ p.l.toNat < i) : renP (nf K i) ps = ren K ps := by
  unfold ren renP
  exact List.map_congr_left fun p hp => by rw [nf_at (h p hp).1 (h p hp).2]
theorem only_at {ls : List Lt.L} {K : Nat → Bool} {i : Nat} (hK : K i = true) : ∀ {n : Nat}, i < n → (onlyL ls K n).getD (nu K i) default = ⟨(ls.getD i default).k, (ls.getD i default).m, renP (nf K (i + 1)) (ls.getD i default).ps⟩
  | n + 1, h => by
    show (if K n = true then onlyL ls K n ++ [_] else onlyL ls K n).getD (nu K i) default = _
    by_cases e : i = n
    · subst e
      rw [if_pos hK, ← only_len ls K i]
      simp
    · have ih := only_at (ls := ls) hK (show i < n by omega)
      have hl : nu K i < (onlyL ls K n).length := by rw [only_len]; exact nu_lt (by omega) hK
      split
      · rw [List.getD_eq_getElem?_getD, List.getElem?_append_left hl, ← List.getD_eq_getElem?_getD]; exact ih
      · exact ih
theorem nu_hit {K : Nat → Bool} : ∀ {n a : Nat}, a < nu K n → ∃ i, i < n ∧ K i = true ∧ nu K i = a
  | 0, a, h => absurd h (Nat.not_lt_zero _)
  | n + 1, a, h => by
    rw [nu_succ] at h
    by_cases e : a < nu K n
    · obtain ⟨i, h1, h2, h3⟩ := nu_hit e
      exact ⟨i, by omega, h2, h3⟩
    · by_cases hK : K n = true
      · rw [if_pos hK] at h
        exact ⟨n, by omega, hK, by omega⟩
      · rw [if_neg hK] at h; omega
theorem sel_at {K : Nat → Bool} {i : Nat} (hK : K i = true) : ∀ {n : Nat}, i < n → (selK K n)[nu K i]? = some (i : Int)
  | n + 1, h => by
    rw [selK_succ]
    by_cases e : i = n
    · subst e
      rw [if_pos hK]
      show (selK K i ++ [(i : Int)])[(selK K i).length]? = _
      simp
    · have ih := sel_at hK (show i < n by omega)
      have hl : nu K i < (selK K n).length := nu_lt (show i < n by omega) hK
      split
      · rw [List.getElem?_append_left hl]; exact ih
      · exact ih

theorem takes_ren (K : Nat → Bool) : ∀ ps : List Lt.P, Lt.takes (ren K ps) = Lt.takes ps
  | [] => rfl
  | p :: r => by
    show p.m + Lt.takes (ren K r) = p.m + Lt.takes r
    rw [takes_ren K r]
theorem ren_getD (K : Nat → Bool) {ps : List Lt.P} {j : Nat} (hj : j < ps.length) : (ren K ps).getD j default = ⟨(nu K (ps.getD j default).l.toNat : Int), (ps.getD j default).m⟩ := by
  unfold ren renP; simp [hj]
theorem ren_len (K : Nat → Bool) (ps : List Lt.P) : (ren K ps).length = ps.length := renP_len _ _

/-- A genealogy of which some lots are kept, with all that they come from. -/
structure Sub (ls : List Lt.L) (K : Nat → Bool) : Prop where
  le : ls.length ≤ 24
  err : ∀ j, j < ls.length → Lt.errAt ls j = 0
  left : ∀ j, j < ls.length → 0 ≤ Lt.left ls j
  clo : ∀ c, c < ls.length → K c = true → ∀ p ∈ (ls.getD c default).ps, K p.l.toNat = true
variable {ls : List Lt.L} {K : Nat → Bool}
abbrev RR (ls : List Lt.L) (K : Nat → Bool) : List Lt.L := onlyL ls K ls.length
theorem Sub.at (h : Sub ls K) {i : Nat} (hi : i < ls.length) (hK : K i = true) : (RR ls K).getD (nu K i) default = ⟨(ls.getD i default).k, (ls.getD i default).m, ren K (ls.getD i default).ps⟩ := by
  rw [only_at hK hi, ren_eq]
  intro p hp
  exact ⟨h.clo i hi hK p hp, by have := (part_in (h.err i hi) hp).2; omega⟩
theorem Sub.len (_ : Sub ls K) : (RR ls K).length = nu K ls.length := only_len ls K _

theorem Sub.errAt (h : Sub ls K) {i : Nat} (hi : i < ls.length) (hK : K i = true) : Lt.errAt (RR ls K) (nu K i) = 0 := by
  obtain ⟨⟨h1, h1'⟩, h2, h3, h4⟩ := Lt.errAt_parts (h.err i hi)
  have hin := fun p hp => part_in (h.err i hi) (p := p) hp
  have hcl := h.clo i hi hK
  have hat := h.at hi hK
  unfold Lt.errAt
  dsimp only
  rw [hat]
  have hok : Lt.okPs (nu K i) (ren K (ls.getD i default).ps) = true := by
    rw [Lt.okPs_iff] at h3 ⊢
    intro j hj
    rw [ren_len] at hj
    have h5 := Lt.okPart_iff.1 (h3 j hj)
    rw [ren_getD K hj]
    have hm : (ls.getD i default).ps.getD j default ∈ (ls.getD i default).ps := by rw [getD_P hj]; exact List.getElem_mem hj
    have hin1 := hin _ hm
    have hK1 := hcl _ hm
    refine Lt.okPart_iff.2 ⟨⟨by show (0 : Int) ≤ (nu K _ : Int); omega, by show (nu K _ : Int) < (nu K i : Int); have := nu_lt hin1.2 hK1; omega, h5.1.2.2⟩, ?_⟩
    intro q hq
    have hq : q ∈ ren K ((ls.getD i default).ps.take j) := by unfold ren renP at hq ⊢; rw [List.map_take]; exact hq
    unfold ren renP at hq
    rw [List.mem_map] at hq
    obtain ⟨q', hq', rfl⟩ := hq
    have hne := h5.2 q' hq'
    have hm' := List.mem_of_mem_take hq'
    have hin2 := hin _ hm'
    intro e
    have e : nu K q'.l.toNat = nu K ((ls.getD i default).ps.getD j default).l.toNat := by
      have : (nu K q'.l.toNat : Int) = (nu K ((ls.getD i default).ps.getD j default).l.toNat : Int) := e
      omega
    have := nu_inj (hcl _ hm') hK1 e
    exact hne (by omega)
  have hrule : Lt.ruleOk (RR ls K) ⟨(ls.getD i default).k, (ls.getD i default).m, ren K (ls.getD i default).ps⟩ = Lt.ruleOk ls (ls.getD i default) := by
    have hoil : Lt.oil (RR ls K) (ren K (ls.getD i default).ps) = Lt.oil ls (ls.getD i default).ps := by
      unfold Lt.oil ren renP
      rw [List.any_map]
      refine Bool.eq_iff_iff.2 ?_
      rw [List.any_eq_true, List.any_eq_true]
      have hkd : ∀ p ∈ (ls.getD i default).ps, Lt.kindAt (RR ls K) (nu K p.l.toNat : Int) = Lt.kindAt ls p.l := by
        intro p hp
        unfold Lt.kindAt
        rw [Int.toNat_natCast, h.at (by have := (hin p hp).2; omega) (hcl p hp)]
      constructor
      · rintro ⟨p, hp, e⟩
        exact ⟨p, hp, by rw [← hkd p hp]; exact e⟩
      · rintro ⟨p, hp, e⟩
        exact ⟨p, hp, by show (Lt.kindAt (RR ls K) (nu K p.l.toNat : Int) == 0) = true; rw [hkd p hp]; exact e⟩
    unfold Lt.ruleOk
    simp only [ren_len, takes_ren, hoil]
  rw [hok, hrule, h4]
  simp only [h1, h1', ren_len, Bool.and_self]
  rw [if_neg (by decide), if_neg (by omega), if_neg (by decide), if_neg (by decide)]

theorem usedP_ren {i : Nat} (hi : K i = true) : ∀ {ps : List Lt.P}, (∀ p ∈ ps, 0 ≤ p.l ∧ K p.l.toNat = true) → Lt.usedP (nu K i) (ren K ps) = Lt.usedP i ps
  | [], _ => rfl
  | p :: r, h => by
    have ih := usedP_ren hi (ps := r) fun q hq => h q (by simp [hq])
    have hp := h p (by simp)
    show (if (nu K p.l.toNat : Int) = (nu K i : Int) then p.m else 0) + Lt.usedP (nu K i) (ren K r) = (if p.l = (i : Int) then p.m else 0) + Lt.usedP i r
    rw [ih]
    by_cases e : p.l = (i : Int)
    · rw [if_pos e, if_pos (by rw [e, Int.toNat_natCast])]
    · rw [if_neg e, if_neg (fun h2 => e (by have := nu_inj hp.2 hi (by omega); omega))]
theorem Sub.used (h : Sub ls K) {i : Nat} (hi : K i = true) : ∀ n, n ≤ ls.length → Lt.used (nu K i) (onlyL ls K n) ≤ Lt.used i (ls.take n)
  | 0, _ => by simp [onlyL, Lt.used]
  | n + 1, hn => by
    have ih := h.used hi n (by omega)
    have hnl : n < ls.length := by omega
    rw [Lt.used_succ _ hnl]
    have hfine := Lt.fine_of (h.err n hnl)
    rw [getD_L hnl] at hfine
    have hbd := (Lt.usedP_bd i hfine.2.2).1
    show Lt.used (nu K i) (if K n = true then onlyL ls K n ++ [⟨(ls.getD n default).k, (ls.getD n default).m, renP (nf K (n + 1)) (ls.getD n default).ps⟩] else onlyL ls K n) ≤ _
    split
    · rename_i hKn
      rw [Lt.used_append]
      have hin := fun p hp => part_in (h.err n hnl) (p := p) hp
      rw [ren_eq fun p hp => ⟨h.clo n hnl hKn p hp, by have := (hin p hp).2; omega⟩]
      have := usedP_ren (i := i) hi (ps := (ls.getD n default).ps) fun p hp => ⟨(hin p hp).1, h.clo n hnl hKn p hp⟩
      simp only [Lt.used]
      rw [this, getD_L hnl]
      omega
    · omega
/-- What is kept is a valid genealogy. -/
theorem Sub.valE (h : Sub ls K) : Lt.valE (RR ls K) = 0 := by
  refine Lt.valE_ok (by show ¬ 24 < (onlyL ls K ls.length).length; have := onlyL_len ls K ls.length; have := h.le; omega) (fun j hj => ?_) (fun j hj => ?_)
  · rw [h.len] at hj
    obtain ⟨i, h1, h2, rfl⟩ := nu_hit hj
    exact h.errAt h1 h2
  · rw [h.len] at hj
    obtain ⟨i, h1, h2, rfl⟩ := nu_hit hj
    have h3 := h.left i h1
    have h4 := h.used h2 ls.length (Nat.le_refl _)
    rw [List.take_length] at h4
    unfold Lt.left at h3 ⊢
    rw [h.at h1 h2]
    show 0 ≤ (ls.getD i default).m - Lt.used (nu K i) (RR ls K)
    have : Lt.used (nu K i) (RR ls K) ≤ Lt.used i ls := h4
    omega

theorem Sub.be (h : Sub ls K) {i : Nat} (hi : i < ls.length) (hK : K i = true) : Sh.be (RR ls K) (nu K i) = Sh.be ls i := by
  unfold Sh.be Sh.beI
  rw [h.at hi hK]
  simp only [takes_ren]
theorem early_of {ls : List Lt.L} (herr : ∀ j, j < ls.length → Lt.errAt ls j = 0) : Sh.early ls := by
  intro i hi p hp
  obtain ⟨_, _, h3, _⟩ := Lt.errAt_parts (herr i hi)
  exact Lt.okPs_mem h3 p hp
theorem pr_split0 (ls : List Lt.L) {a i : Nat} (h : a < i) : Sh.D ls i = Sh.D ls (a + 1) * Sh.pr (Sh.be ls) (a + 1) (i - (a + 1)) := Sh.pr_split ls h
theorem sum_scale {i : Nat} (S S' : Nat → Nat) : ∀ {ps : List Lt.P}, (∀ p ∈ ps, p.l.toNat < i ∧ K p.l.toNat = true ∧ S' (nu K p.l.toNat) * Sh.D ls (p.l.toNat + 1) = S p.l.toNat * Sh.D (RR ls K) (nu K p.l.toNat + 1)) →
    Sh.sumS (RR ls K) (nu K i) S' (ren K ps) * Sh.D ls i = Sh.sumS ls i S ps * Sh.D (RR ls K) (nu K i)
  | [], _ => by show 0 * _ = 0 * _; rw [Nat.zero_mul, Nat.zero_mul]
  | p :: r, h => by
    have ih := sum_scale S S' (ps := r) fun q hq => h q (by simp [hq])
    obtain ⟨h1, h2, h3⟩ := h p (by simp)
    have d1 := Sh.pr_split ls h1
    have d2 := Sh.pr_split (RR ls K) (nu_lt h1 h2)
    show (S' ((nu K p.l.toNat : Int)).toNat * p.m.toNat * Sh.pr (Sh.be (RR ls K)) (((nu K p.l.toNat : Int)).toNat + 1) (nu K i - (((nu K p.l.toNat : Int)).toNat + 1)) + Sh.sumS (RR ls K) (nu K i) S' (ren K r)) * Sh.D ls i = (S p.l.toNat * p.m.toNat * Sh.pr (Sh.be ls) (p.l.toNat + 1) (i - (p.l.toNat + 1)) + Sh.sumS ls i S r) * Sh.D (RR ls K) (nu K i)
    rw [Int.toNat_natCast, Nat.add_mul, Nat.add_mul, ih]
    congr 1
    generalize Sh.pr (Sh.be (RR ls K)) (nu K p.l.toNat + 1) (nu K i - (nu K p.l.toNat + 1)) = a at *
    generalize Sh.pr (Sh.be ls) (p.l.toNat + 1) (i - (p.l.toNat + 1)) = b at *
    rw [d1, d2]
    generalize Sh.D ls (p.l.toNat + 1) = x at *
    generalize Sh.D (RR ls K) (nu K p.l.toNat + 1) = y at *
    generalize S' (nu K p.l.toNat) = s' at *
    generalize S p.l.toNat = s at *
    generalize p.m.toNat = m
    calc s' * m * a * (x * b) = (s' * x) * (m * (a * b)) := by simp only [Nat.mul_assoc, Nat.mul_comm, Nat.mul_left_comm]
      _ = (s * y) * (m * (a * b)) := by rw [h3]
      _ = s * m * b * (y * a) := by simp only [Nat.mul_assoc, Nat.mul_comm, Nat.mul_left_comm]
/-- The value of a share is as before. -/
theorem Sub.share (h : Sub ls K) {o : Nat} (ho : o < ls.length) (hKo : K o = true) : ∀ i, i < ls.length → K i = true →
    Sh.S (RR ls K) (oneO (nu K o)) (nu K i) * Sh.D ls (i + 1) = Sh.S ls (oneO o) i * Sh.D (RR ls K) (nu K i + 1) := by
  have hE := early_of h.err
  have hE2 := early_of (Lt.valE_zero h.valE).2.1
  intro i
  induction i using Nat.strongRecOn with
  | ind i ih =>
    intro hi hK
    have hil : nu K i < (RR ls K).length := by rw [h.len]; exact nu_lt hi hK
    rw [Sh.S_eq hE _ hi, Sh.S_eq hE2 _ hil]
    have hone : oneO (nu K o) (nu K i) = oneO o i := by
      unfold oneO
      by_cases e : i = o
      · subst e; simp
      · have : nu K i ≠ nu K o := fun h2 => e (nu_inj hK hKo h2)
        simp [e, this]
    rw [hone]
    by_cases he : oneO o i = true
    · rw [if_pos he, if_pos he, Nat.mul_comm]
    · rw [if_neg he, if_neg he, h.at hi hK, Sh.D_succ, Sh.D_succ, h.be hi hK, ← Nat.mul_assoc, ← Nat.mul_assoc]
      congr 1
      refine sum_scale _ _ fun p hp => ?_
      have h1 := (part_in (h.err i hi) hp).2
      have h2 := h.clo i hi hK p hp
      exact ⟨h1, h2, ih _ h1 (by omega) h2⟩
theorem red_eq {s d s' d' : Nat} (hd : 0 < d) (hd' : 0 < d') (h : s' * d = s * d') : s' / Nat.gcd s' d' = s / Nat.gcd s d ∧ d' / Nat.gcd s' d' = d / Nat.gcd s d := by
  have hg : 0 < Nat.gcd s' d' := Nat.gcd_pos_of_pos_right _ hd'
  refine Rd.parts hd (Nat.div_pos (Nat.le_of_dvd hd' (Nat.gcd_dvd_right _ _)) hg) (Nat.gcd_div_gcd_div_gcd_of_pos_right hd') ?_
  have h1 := Nat.div_mul_cancel (Nat.gcd_dvd_left s' d')
  have h2 := Nat.div_mul_cancel (Nat.gcd_dvd_right s' d')
  generalize Nat.gcd s' d' = g at *
  generalize s' / g = x at *
  generalize d' / g = y at *
  refine Nat.eq_of_mul_eq_mul_right hg ?_
  calc x * d * g = x * g * d := by simp only [Nat.mul_assoc, Nat.mul_comm, Nat.mul_left_comm]
    _ = s' * d := by rw [h1]
    _ = s * d' := h
    _ = s * (y * g) := by rw [h2]
    _ = s * y * g := by rw [Nat.mul_assoc]
theorem num_ok {ls : List Lt.L} (hv : Lt.valE ls = 0) {o i : Nat} (ho : o < ls.length) (hi : i < ls.length) : numE ls [(o : Int), (i : Int)] = 0 := by
  rw [numE_two, if_pos hv, if_pos]
  unfold inR
  simp [ho, hi]
theorem Sub.ok (h : Sub ls K) : Lt.valE ls = 0 := Lt.valE_ok (by have := h.le; omega) h.err h.left
theorem Sub.num (h : Sub ls K) {o i : Nat} (ho : o < ls.length) (hi : i < ls.length) : numE ls [(o : Int), (i : Int)] = 0 := num_ok h.ok ho hi
theorem Sub.numR (h : Sub ls K) {o i : Nat} (ho : o < ls.length) (hKo : K o = true) (hi : i < ls.length) (hK : K i = true) : numE (RR ls K) [(nu K o : Int), (nu K i : Int)] = 0 :=
  num_ok h.valE (by rw [h.len]; exact nu_lt ho hKo) (by rw [h.len]; exact nu_lt hi hK)
theorem Sub.shares (h : Sub ls K) {o i : Nat} (ho : o < ls.length) (hKo : K o = true) (hi : i < ls.length) (hK : K i = true) :
    shE (RR ls K) (nu K o) (nu K i) = shE ls o i ∧ shN (RR ls K) (nu K o) (nu K i) = shN ls o i ∧ shD (RR ls K) (nu K o) (nu K i) = shD ls o i := by
  have h1 := h.num ho hi
  have h2 := h.numR ho hKo hi hK
  have hr := red_eq (Sh.D_pos ls (i + 1)) (Sh.D_pos (RR ls K) (nu K i + 1)) (h.share ho hKo i hi hK)
  unfold shE shN shD Rd.rE Rd.rN Rd.rD
  simp only [h1, h2, if_true, Int.toNat_natCast, hr.1, hr.2, and_self]

theorem sumP_congr {f g : Nat → Int} : ∀ {ps : List Lt.P}, (∀ p ∈ ps, f p.l.toNat = g p.l.toNat) → sumP f ps = sumP g ps
  | [], _ => rfl
  | p :: r, h => by
    simp only [sumP]
    rw [h p (by simp), sumP_congr (ps := r) fun q hq => h q (by simp [hq])]
theorem paths_low {ls : List Lt.L} {i j : Nat} (h : j ≤ i) : pathsF ls i j = if j = i then 1 else 0 := by
  unfold pathsF
  have := runL_stay ad ls (upd (fun _ => 0) i 1) (i + 1) (k := 0) (j := j) (by omega) (ls.length - (i + 1))
  rw [Nat.zero_add] at this
  rw [this]
  show upd (fun _ => 0) i 1 j = _
  unfold upd
  rfl
theorem paths_rec {ls : List Lt.L} (hl : ls.length ≤ 24) (herr : ∀ j, j < ls.length → Lt.errAt ls j = 0) {i j : Nat} (hi : i < ls.length) (hij : i < j) (hj : j < ls.length) : pathsF ls i j = sumP (pathsF ls i) (ls.getD j default).ps := by
  obtain ⟨k, rfl⟩ : ∃ k, j = i + 1 + k := ⟨j - (i + 1), by omega⟩
  have hstay : ∀ a, a < i + 1 + k → runL ad ls (upd (fun _ => 0) i 1) (i + 1) k a = pathsF ls i a := by
    intro a ha
    have := runL_stay ad ls (upd (fun _ => 0) i 1) (i + 1) (k := k) (j := a) ha (ls.length - (i + 1) - k)
    rw [show k + (ls.length - (i + 1) - k) = ls.length - (i + 1) by omega] at this
    exact this.symm
  have h1 := runL_stay ad ls (upd (fun _ => 0) i 1) (i + 1) (k := k + 1) (j := i + 1 + k) (by omega) (ls.length - (i + 1) - (k + 1))
  rw [show k + 1 + (ls.length - (i + 1) - (k + 1)) = ls.length - (i + 1) by omega] at h1
  show runL ad ls (upd (fun _ => 0) i 1) (i + 1) (ls.length - (i + 1)) (i + 1 + k) = _
  rw [h1]
  obtain ⟨ih1, ih2⟩ := runP_pos hl herr hi k (by omega)
  have hR : runL ad ls (upd (fun _ => 0) i 1) (i + 1) (k + 1) = (ls.getD (i + 1 + k) default).ps.foldl (stepP ad (i + 1 + k)) (runL ad ls (upd (fun _ => 0) i 1) (i + 1) k) := rfl
  rw [hR]
  have h6 := (Lt.errAt_parts (herr _ hj)).2.1
  have hin := fun p hp => part_in (herr _ hj) (p := p) hp
  have h0 := ih2 (i + 1 + k) (Nat.le_refl _)
  obtain ⟨s1, _, _⟩ := foldP_sum (f := runL ad ls (upd (fun _ => 0) i 1) (i + 1) k) (i := i + 1 + k) (n := 0) (by omega) (ls.getD (i + 1 + k) default).ps 0 _ (fun _ _ => rfl) (fun p hp => by
    obtain ⟨_, h2⟩ := hin p hp
    obtain ⟨⟨a, b⟩, _⟩ := ih1 _ h2
    have := pow6_le (show p.l.toNat ≤ i + 1 + k - 1 by omega)
    exact ⟨h2, a, by omega⟩) (by omega) (by rw [h0]; simp) (by omega)
  rw [s1, h0, Int.zero_add]
  exact sumP_congr fun p hp => hstay _ (hin p hp).2
theorem sumP_ren {f g : Nat → Int} : ∀ {ps : List Lt.P}, (∀ p ∈ ps, f (nu K p.l.toNat) = g p.l.toNat) → sumP f (ren K ps) = sumP g ps
  | [], _ => rfl
  | p :: r, h => by
    show f ((nu K p.l.toNat : Int)).toNat + sumP f (ren K r) = g p.l.toNat + sumP g r
    rw [Int.toNat_natCast, h p (by simp), sumP_ren (ps := r) fun q hq => h q (by simp [hq])]
theorem Sub.paths (h : Sub ls K) {o : Nat} (ho : o < ls.length) (hKo : K o = true) : ∀ i, i < ls.length → K i = true → pathsF (RR ls K) (nu K o) (nu K i) = pathsF ls o i := by
  have hv := Lt.valE_zero h.valE
  intro i
  induction i using Nat.strongRecOn with
  | ind i ih =>
    intro hi hK
    by_cases hio : o < i
    · rw [paths_rec hv.1 hv.2.1 (by rw [h.len]; exact nu_lt ho hKo) (nu_lt hio hKo) (by rw [h.len]; exact nu_lt hi hK), paths_rec h.le h.err ho hio hi, h.at hi hK]
      exact sumP_ren fun p hp => ih _ (part_in (h.err i hi) hp).2 (by have := (part_in (h.err i hi) hp).2; omega) (h.clo i hi hK p hp)
    · rw [paths_low (nu_mono K (by omega)), paths_low (by omega)]
      by_cases e : i = o
      · subst e; rw [if_pos rfl, if_pos rfl]
      · rw [if_neg e, if_neg fun h2 => e (nu_inj hK hKo h2)]
/-- What leads to the lots of a set is closed. -/
theorem sub_lead {ls : List Lt.L} {ks : List Int} (hv : Lt.valE ls = 0) (hs : setB ls.length ks = true) : Sub ls (leadP ls ks) := by
  obtain ⟨hl, herr, hleft⟩ := Lt.valE_zero hv
  refine ⟨hl, herr, hleft, fun c hc hK p hp => ?_⟩
  have hin := part_in (herr c hc) hp
  unfold leadP at hK ⊢
  rw [List.any_eq_true] at hK ⊢
  obtain ⟨k, hk, hd⟩ := hK
  refine ⟨k, hk, ?_⟩
  obtain ⟨j, hj, rfl⟩ := List.getElem_of_mem hk
  have hb := setB_at hs hj
  rw [show ks.getD j 0 = ks[j] by simp [hj]] at hb
  have h1 := (paths_pos hl herr hc (by omega)).1 (of_decide_eq_true hd)
  exact decide_eq_true ((paths_pos hl herr (by omega) (by omega)).2 (reach_first.2 (.inr ⟨c, ⟨p, hp, rfl⟩, h1⟩)))
theorem onlyL_ps (ls : List Lt.L) (K : Nat → Bool) (h : ∀ j, (ls.getD j default).ps.length ≤ 20) : ∀ i, ∀ x ∈ onlyL ls K i, x.ps.length ≤ 20
  | 0 => fun x hx => by cases hx
  | i + 1 => by
    intro x hx
    unfold onlyL at hx
    split at hx
    · rw [List.mem_append, List.mem_singleton] at hx
      rcases hx with hx | rfl
      · exact onlyL_ps ls K h i x hx
      · show (renP _ _).length ≤ 20
        rw [renP_len]; exact h i
    · exact onlyL_ps ls K h i x hx
theorem onlyR_short {ls : List Lt.L} (ks : List Int) (h : short ls) : short (onlyR ls ks) := by
  unfold onlyR
  split
  · refine ⟨Nat.le_trans (onlyL_len _ _ _) h.1, fun j hj => ?_⟩
    rw [show (onlyL ls (leadP ls ks) ls.length).getD j default = (onlyL ls (leadP ls ks) ls.length)[j] by simp [hj]]
    refine onlyL_ps ls _ (fun j => ?_) _ _ (List.getElem_mem hj)
    by_cases hj : j < ls.length
    · exact h.2 j hj
    · rw [getD_out (by omega)]; simp
  · exact ⟨by simp, fun j hj => absurd hj (by simp)⟩
theorem onlyO_len {ls : List Lt.L} (ks : List Int) (h : short ls) : (onlyO ls ks).length ≤ 1000 := by
  unfold onlyO
  split
  · exact Nat.le_trans (selK_len _ _) h.1
  · simp

end Kp
end Go.Proofs.Ytccjbefmcifaeaa
