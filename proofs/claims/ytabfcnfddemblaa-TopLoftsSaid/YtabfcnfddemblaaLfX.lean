/- Days and proofs in plain words: a proof excludes every plan that is accepted. -/
import Derived.Test.YtabfcnfddemblaaLfC
namespace Go.Proofs.Ytabfcnfddemblaa
namespace Lf

/-- Sums. -/
def S (f : Nat → Int) : Nat → Int
  | 0 => 0
  | n + 1 => S f n + f n
theorem S_le {f g : Nat → Int} : ∀ n, (∀ i, i < n → f i ≤ g i) → S f n ≤ S g n
  | 0, _ => Int.le_refl _
  | n + 1, h => by
    have a := S_le n (fun i hi => h i (by omega))
    have b := h n (by omega)
    rw [S, S]; omega
theorem S_congr {f g : Nat → Int} : ∀ n, (∀ i, i < n → f i = g i) → S f n = S g n
  | 0, _ => rfl
  | n + 1, h => by rw [S, S, S_congr n (fun i hi => h i (by omega)), h n (by omega)]
theorem S_zero : ∀ n, S (fun _ => 0) n = 0
  | 0 => rfl
  | n + 1 => by rw [S, S_zero n]; rfl
theorem S_add (f g : Nat → Int) : ∀ n, S (fun i => f i + g i) n = S f n + S g n
  | 0 => rfl
  | n + 1 => by rw [S, S, S, S_add f g n]; omega
theorem S_mul (c : Int) (f : Nat → Int) : ∀ n, S (fun i => c * f i) n = c * S f n
  | 0 => by simp [S]
  | n + 1 => by rw [S, S, S_mul c f n, Int.mul_add]
theorem S_comm (f : Nat → Nat → Int) (m : Nat) : ∀ n, S (fun i => S (f i) m) n = S (fun j => S (fun i => f i j) n) m
  | 0 => by simp only [S]; rw [S_zero]
  | n + 1 => by
    rw [S, S_comm f m n]
    simp only [S]
    rw [S_add]
theorem S_nn {f : Nat → Int} (n : Nat) (h : ∀ i, i < n → 0 ≤ f i) : 0 ≤ S f n := by
  have := S_le (f := fun _ => 0) n h
  rwa [S_zero] at this
theorem S_one {f : Nat → Int} : ∀ n i, i < n → (∀ j, j < n → 0 ≤ f j) → f i ≤ S f n
  | n + 1, i, hi, h => by
    rw [S]
    by_cases e : i = n
    · subst e; have := S_nn i (fun j hj => h j (by omega)); omega
    · have := S_one n i (by omega) (fun j hj => h j (by omega)); have := h n (by omega); omega
theorem S_ind (t : Nat) (v : Int) : ∀ n, S (fun i => if i = t then v else 0) n = if t < n then v else 0
  | 0 => rfl
  | n + 1 => by
    rw [S, S_ind t v n]
    by_cases e : n = t
    · rw [if_neg (by omega), if_pos e, if_pos (by omega)]; omega
    · rw [if_neg e]
      by_cases c : t < n
      · rw [if_pos c, if_pos (by omega)]; omega
      · rw [if_neg c, if_neg (by omega)]; rfl
theorem S_atmost {f : Nat → Int} : ∀ n, (∀ i, i < n → f i ≤ 1) → (∀ i j, i < n → j < n → i ≠ j → f i ≤ 0 ∨ f j ≤ 0) → (∀ i, i < n → 0 ≤ f i) → S f n ≤ 1
  | 0, _, _, _ => by simp [S]
  | n + 1, h1, h2, h3 => by
    rw [S]
    by_cases c : f n ≤ 0
    · have := S_atmost n (fun i hi => h1 i (by omega)) (fun i j hi hj => h2 i j (by omega) (by omega)) (fun i hi => h3 i (by omega)); omega
    · have hz : S f n ≤ S (fun _ => 0) n := S_le n fun i hi => by
        rcases h2 i n (by omega) (by omega) (by omega) with h | h
        · exact h
        · omega
      rw [S_zero] at hz
      have := h1 n (by omega); omega

/-- The fewest days of goods in the first lofts, or 0. -/
def dst (g : G) (s : Nat) (f : F) : Nat := if 0 < dN f.rs g.n g.m ∧ g.p ≤ f.p ∧ (s = 0 ∨ dN f.rs g.n g.m < s) then dN f.rs g.n g.m else s
def dyk (ls : List F) (g : G) : Nat → Nat
  | 0 => 0
  | k + 1 => dst g (dyk ls g k) (ls.getD k default)
def dyN (ls : List F) (g : G) : Nat := dyk ls g ls.length
theorem dyk_le (ls : List F) (g : G) : ∀ k, dyk ls g k ≤ 12
  | 0 => by simp [dyk]
  | k + 1 => by
    rw [dyk, dst]
    have := dN_le (ls.getD k default).rs g.n g.m
    have := dyk_le ls g k
    split <;> omega
theorem dyk_of {ls : List F} {g : G} : ∀ k j, j < k → 0 < dN (ls.getD j default).rs g.n g.m → g.p ≤ (ls.getD j default).p → 0 < dyk ls g k ∧ dyk ls g k ≤ dN (ls.getD j default).rs g.n g.m
  | k + 1, j, hj, h1, h2 => by
    rw [dyk, dst]
    by_cases e : j = k
    · subst e; split <;> omega
    · have := dyk_of k j (by omega) h1 h2; split <;> omega
/-- Whether goods lie in a window. -/
def inW (g : G) (a b : Int) : Bool := decide (a ≤ g.a) && decide (g.u ≤ b)
theorem inW_iff {g : G} {a b : Int} : inW g a b = true ↔ a ≤ g.a ∧ g.u ≤ b := by simp [inW]
def ndk (ls : List F) (gs : List G) (a b : Int) (i : Nat) : Int := if inW (gs.getD i default) a b = true then (gs.getD i default).p * dyN ls (gs.getD i default) else 0
def pls (ls : List F) (n : Nat) : Int := S (fun i => (ls.getD i default).p) n
/-- Some of the first goods that lie in a window never become ripe. -/
def nvr (ls : List F) (gs : List G) (a b : Int) (n : Nat) : Bool := (List.range n).any fun i => inW (gs.getD i default) a b && decide (dyN ls (gs.getD i default) = 0)
def wOk (a b : Int) : Bool := rng 0 b a && decide (b ≤ 60)
theorem wOk_iff {a b : Int} : wOk a b = true ↔ 0 ≤ a ∧ a ≤ b ∧ b ≤ 60 := by unfold wOk; rw [Bool.and_eq_true, rng_iff, decide_eq_true_eq, and_assoc]
def prf (ls : List F) (gs : List G) (a b : Int) : Bool := wOk a b && (nvr ls gs a b gs.length || decide (pls ls ls.length * (b - a) < S (ndk ls gs a b) gs.length))
def isP (ls : List F) (gs : List G) (a b : Int) : Bool := decide (bthE ls gs = 0) && prf ls gs a b

/-- Heats tell that their days can have their warmth. -/
theorem sm_of {rs hs : List Int} (hr : ∀ k, k < 5 → 0 ≤ rs.getD k 0 ∧ rs.getD k 0 ≤ 9) (hv : ∀ k, k < hs.length → okHt hs k = true) :
    ∀ n k, k + n = hs.length → sm rs n (lst hs k).toNat ((wm rs hs hs.length).toNat - (wm rs hs k).toNat) = true
  | 0, k, hk => by
    obtain rfl : k = hs.length := by omega
    rw [sm]; simp
  | n + 1, k, hk => by
    have hb := fun k hk => okHt_at (hv k hk)
    have w0 := wm_bd hr hb k (by omega)
    have w1 := wm_bd hr hb hs.length (Nat.le_refl _)
    have hk' : k < hs.length := by omega
    have hst := stp_iff.1 (hv k hk')
    have ih := sm_of hr hv n (k + 1) (by omega)
    have hmono : ∀ j, k + 1 + j ≤ hs.length → wm rs hs (k + 1) ≤ wm rs hs (k + 1 + j) := by
      intro j
      induction j with
      | zero => intro _; exact Int.le_refl _
      | succ j ih =>
        intro h
        have a := ih (by omega)
        have b := hb (k + 1 + j) (by omega)
        have c := hr (hs.getD (k + 1 + j) 0).toNat (by omega)
        have e : wm rs hs (k + 1 + (j + 1)) = wm rs hs (k + 1 + j) + rs.getD (hs.getD (k + 1 + j) 0).toNat 0 := rfl
        omega
    have w2 := hmono n (by omega)
    rw [show k + 1 + n = hs.length by omega] at w2
    have hrt := hr (hs.getD k 0).toNat (by omega)
    have hs1 : wm rs hs (k + 1) = wm rs hs k + rs.getD (hs.getD k 0).toNat 0 := rfl
    refine sm_succ.2 ⟨(hs.getD k 0).toNat, by omega, ?_, ?_⟩
    · rw [nr_iff]
      have : 0 ≤ lst hs k := by
        cases k with
        | zero => exact Int.le_refl _
        | succ k => exact (hb k (by omega)).1
      omega
    · unfold cn
      rw [Bool.and_eq_true, decide_eq_true_eq]
      have e : rt rs (hs.getD k 0).toNat = (rs.getD (hs.getD k 0).toNat 0).toNat := rfl
      refine ⟨by omega, ?_⟩
      have e2 : (wm rs hs hs.length).toNat - (wm rs hs k).toNat - rt rs (hs.getD k 0).toNat = (wm rs hs hs.length).toNat - (wm rs hs (k + 1)).toNat := by omega
      rw [e2]
      exact ih
theorem fdd_of {c : Nat → Bool} : ∀ n d k, d ≤ k → k < d + n → c k = true → 0 < d → 0 < fdd c n d ∧ fdd c n d ≤ k
  | 0, d, k, h1, h2, _, _ => by omega
  | n + 1, d, k, h1, h2, h3, h4 => by
    rw [fdd]
    by_cases h : c d = true
    · rw [if_pos h]; omega
    · rw [if_neg h]
      have : d ≠ k := fun e => h (e ▸ h3)
      exact fdd_of n (d + 1) k (by omega) (by omega) h3 (by omega)
/-- The fewest days are no more than those of valid heats with a right warmth. -/
theorem dN_of {f : F} {hs : List Int} {n m : Int} (hf : okF f = true) (hv : vHt hs = true) (hm : m ≤ 60) (hw : rng n m (wm f.rs hs hs.length) = true) : 0 < dN f.rs n m ∧ dN f.rs n m ≤ hs.length := by
  obtain ⟨⟨l1, l2⟩, hk⟩ := vHt_iff.1 hv
  have hr := okRt_bd (okF_iff.1 hf).2.2
  have h1 := sm_of hr hk hs.length 0 (by omega)
  have hb := wm_bd hr (fun k h => okHt_at (hk k h)) hs.length (Nat.le_refl _)
  have hw' := rng_iff.1 hw
  refine fdd_of 12 1 hs.length (by omega) (by omega) (aft_iff.2 ⟨(wm f.rs hs hs.length).toNat, by omega, by omega, by omega, ?_⟩) (by decide)
  simpa [lst, wm] using h1

/-- What an accepted plan keeps. -/
structure Kept (ls : List F) (gs : List G) (x : L) : Prop where
  loft : 0 ≤ x.l ∧ x.l < ls.length
  from0 : 0 ≤ x.a ∧ x.a ≤ 60
  heats : vHt x.hs = true
  some' : 0 < x.gs.length
  set' : stB x.gs gs.length = true
  poles : (togA gs x.gs).p ≤ (fat ls x.l).p
  each : ∀ j, j < x.gs.length → (gat gs (x.gs.getD j 0)).a ≤ x.a ∧ end' x ≤ (gat gs (x.gs.getD j 0)).u ∧ rng (gat gs (x.gs.getD j 0)).n (gat gs (x.gs.getD j 0)).m (wm (fat ls x.l).rs x.hs x.hs.length) = true
theorem kept_of {ls : List F} {gs : List G} {x : L} (h : slE ls gs x = 0) : Kept ls gs x := by
  unfold slE at h
  by_cases c : vLE ls gs x = 0
  · rw [if_pos c] at h
    unfold vLE at c
    by_cases c1 : rng 0 ((ls.length : Int) - 1) x.l = true
    · rw [if_pos c1] at c
      by_cases c2 : (rng 0 60 x.a && (vHt x.hs && (decide (0 < x.gs.length) && stB x.gs gs.length))) = true
      · simp only [Bool.and_eq_true, decide_eq_true_eq, rng_iff] at c1 c2
        obtain ⟨a1, a2, a3, a4⟩ := c2
        unfold ckE at h
        by_cases d1 : (fat ls x.l).p < (togA gs x.gs).p
        · rw [if_pos d1] at h; omega
        · rw [if_neg d1] at h
          by_cases d2 : x.a < (togA gs x.gs).a
          · rw [if_pos d2] at h; omega
          · rw [if_neg d2] at h
            by_cases d3 : rng (togA gs x.gs).n (togA gs x.gs).m (wm (fat ls x.l).rs x.hs x.hs.length) = true
            · rw [if_pos d3] at h
              by_cases d4 : (togA gs x.gs).u < end' x
              · rw [if_pos d4] at h; omega
              · refine ⟨⟨c1.1, by omega⟩, a1, a2, a3, a4, by omega, fun j hj => ⟨?_, ?_, ?_⟩⟩
                · apply Decidable.byContradiction
                  intro hc
                  exact d2 ((tog_a (x.gs.length - 1)).2 ⟨j, by omega, by omega⟩)
                · apply Decidable.byContradiction
                  intro hc
                  exact d4 ((tog_u (x.gs.length - 1)).2 ⟨j, by omega, by omega⟩)
                · cases hc : rng (gat gs (x.gs.getD j 0)).n (gat gs (x.gs.getD j 0)).m (wm (fat ls x.l).rs x.hs x.hs.length)
                  · have := (tog_w (gs := gs) (l := x.gs) (x := wm (fat ls x.l).rs x.hs x.hs.length) (x.gs.length - 1)).2 ⟨j, by omega, hc⟩
                    unfold togA at d3
                    rw [this] at d3; cases d3
                  · rfl
            · rw [if_neg d3] at h; omega
      · rw [if_neg c2] at c; omega
    · rw [if_neg c1] at c; omega
  · rw [if_neg c] at h; exact absurd h c
theorem ckL_all {ls : List F} {gs : List G} {plan : List L} : ∀ n k, ckL ls gs plan n k = 0 → (∀ j, k ≤ j → j < k + n → ldE ls gs (plan.take j) (plan.getD j default) = 0) ∧ cov gs plan = true
  | 0, k, h => by
    rw [ckL] at h
    by_cases c : cov gs plan = true
    · exact ⟨fun j h1 h2 => by omega, c⟩
    · rw [if_neg c] at h; omega
  | n + 1, k, h => by
    rw [ckL] at h
    by_cases c : ldE ls gs (plan.take k) (plan.getD k default) = 0
    · rw [if_pos c] at h
      obtain ⟨h1, h2⟩ := ckL_all n (k + 1) h
      refine ⟨fun j a b => ?_, h2⟩
      by_cases e : j = k
      · subst e; exact c
      · exact h1 j (by omega) (by omega)
    · rw [if_neg c] at h; exact absurd h c
theorem ldE_zero {ls : List F} {gs : List G} {pre : List L} {x : L} (h : ldE ls gs pre x = 0) : slE ls gs x = 0 ∧ pre.any (shr x) = false ∧ pre.any (mts x) = false := by
  unfold ldE at h
  by_cases c : slE ls gs x = 0
  · rw [if_pos c] at h
    by_cases d : pre.any (shr x) = true
    · rw [if_pos d] at h; omega
    · rw [if_neg d] at h
      by_cases e : pre.any (mts x) = true
      · rw [if_pos e] at h; omega
      · exact ⟨c, by simpa using d, by simpa using e⟩
  · rw [if_neg c] at h; exact absurd h c
/-- Two loads of an accepted plan don't meet. -/
theorem apart_of {ls : List F} {gs : List G} {plan : List L} (h : ∀ j, j < plan.length → ldE ls gs (plan.take j) (plan.getD j default) = 0) {i j : Nat} (hij : i < j) (hj : j < plan.length) : mts (plan.getD j default) (plan.getD i default) = false := by
  have h1 := (ldE_zero (h j hj)).2.2
  have h2 := List.any_eq_false.1 h1 (plan.getD i default) ?_
  · simpa using h2
  · rw [show plan.getD i default = plan[i] by simp [show i < plan.length by omega]]
    exact List.mem_iff_getElem.2 ⟨i, by rw [List.length_take]; omega, by simp⟩
theorem mts_no {x y : L} (h : mts x y = false) (hl : x.l = y.l) : end' y ≤ x.a ∨ end' x ≤ y.a := by
  unfold mts at h
  rw [decide_eq_true hl, Bool.true_and, Bool.and_eq_false_iff, decide_eq_false_iff_not, decide_eq_false_iff_not] at h
  omega
theorem getD_at {l : List Int} {j : Nat} (h : j < l.length) : l.getD j 0 = l[j] := by simp [h]
theorem S_span (c : Int) {u v : Int} (h0 : 0 ≤ u) (h1 : u ≤ v) : ∀ N : Nat, S (fun (d : Nat) => if u ≤ (d : Int) ∧ (d : Int) < v then c else 0) N = if (N : Int) ≤ u then 0 else if (N : Int) ≤ v then ((N : Int) - u) * c else (v - u) * c
  | 0 => by rw [S, if_pos (by omega)]
  | N + 1 => by
    rw [S, S_span c h0 h1 N]
    by_cases c1 : (N : Int) ≤ u
    · rw [if_pos c1]
      by_cases c2 : ((N + 1 : Nat) : Int) ≤ u
      · rw [if_neg (by omega), if_pos c2]; rfl
      · obtain hu : (N : Int) = u := by omega
        by_cases c3 : (N : Int) < v
        · rw [if_pos ⟨by omega, c3⟩, if_neg c2, if_pos (by omega), show ((N + 1 : Nat) : Int) - u = 1 by omega, Int.one_mul]; omega
        · rw [if_neg (by omega), if_neg c2, if_neg (by omega), show v - u = 0 by omega, Int.zero_mul]; rfl
    · rw [if_neg c1, if_neg (show ¬ ((N + 1 : Nat) : Int) ≤ u by omega)]
      by_cases c2 : ((N + 1 : Nat) : Int) ≤ v
      · rw [if_pos (by omega), if_pos ⟨by omega, by omega⟩, if_pos c2, show ((N + 1 : Nat) : Int) - u = ((N : Int) - u) + 1 by omega, Int.add_mul, Int.one_mul]
      · rw [if_neg c2, if_neg (show ¬ (u ≤ (N : Int) ∧ (N : Int) < v) by omega)]
        by_cases c3 : (N : Int) ≤ v
        · rw [if_pos c3, show (N : Int) - u = v - u by omega]; omega
        · rw [if_neg c3]; omega
/-- The goods of a load take no more poles than they need together. -/
def mem (x : L) (i : Nat) : Bool := x.gs.any fun m => decide (m = (i : Int))
def mek (l : List Int) (k i : Nat) : Bool := (List.range (k + 1)).any fun j => decide (l.getD j 0 = (i : Int))
theorem mek_succ (l : List Int) (k i : Nat) : mek l (k + 1) i = (mek l k i || decide (l.getD (k + 1) 0 = (i : Int))) := by
  unfold mek
  rw [List.range_succ (n := k + 1), List.any_append]; simp
theorem mem_mek {x : L} {i : Nat} (h : mem x i = true) : mek x.gs (x.gs.length - 1) i = true := by
  obtain ⟨m, hm, he⟩ := List.any_eq_true.1 h
  obtain ⟨j, hj, rfl⟩ := List.mem_iff_getElem.1 hm
  exact List.any_eq_true.2 ⟨j, List.mem_range.2 (by omega), by rw [show x.gs.getD j 0 = x.gs[j] by simp [hj]]; exact he⟩
theorem mek_poles {gs : List G} (hg : ∀ k (hk : k < gs.length), okG gs[k] = true) {l : List Int} (hl : ∀ k, k < l.length → 0 ≤ l.getD k 0 ∧ l.getD k 0 < gs.length) :
    ∀ k, k < l.length → S (fun i => if mek l k i = true then (gs.getD i default).p else 0) gs.length ≤ (tog gs l k).p
  | 0, hk => by
    have h1 := hl 0 hk
    have e : S (fun i => if mek l 0 i = true then (gs.getD i default).p else 0) gs.length = S (fun i => if i = (l.getD 0 0).toNat then (gat gs (l.getD 0 0)).p else 0) gs.length := by
      refine S_congr _ fun i hi => ?_
      have hm : mek l 0 i = decide (l.getD 0 0 = (i : Int)) := by unfold mek; simp
      rw [hm]
      by_cases c : l.getD 0 0 = (i : Int)
      · rw [if_pos (decide_eq_true c), if_pos (by omega)]
        unfold gat; rw [show (l.getD 0 0).toNat = i by omega]
      · rw [if_neg (by simpa using c), if_neg (by omega)]
    rw [e, S_ind, if_pos (by omega)]
    exact Int.le_refl _
  | k + 1, hk => by
    have h1 := hl (k + 1) hk
    have ih := mek_poles hg hl k (by omega)
    have hp : 0 ≤ (gat gs (l.getD (k + 1) 0)).p := by
      rw [gat_at (by omega)]
      have := okG_iff.1 (hg (l.getD (k + 1) 0).toNat (by omega)); omega
    have hpi : ∀ i, i < gs.length → 0 ≤ (gs.getD i default).p := fun i hi => by
      have := okG_iff.1 (hg i hi)
      rw [show gs.getD i default = gs[i] by simp [hi]]; omega
    have e : S (fun i => if mek l (k + 1) i = true then (gs.getD i default).p else 0) gs.length ≤ S (fun i => (if mek l k i = true then (gs.getD i default).p else 0) + (if i = (l.getD (k + 1) 0).toNat then (gat gs (l.getD (k + 1) 0)).p else 0)) gs.length := by
      refine S_le _ fun i hi => ?_
      rw [mek_succ]
      have hpi' := hpi i hi
      by_cases c1 : mek l k i = true
      · rw [c1, Bool.true_or, if_pos rfl]
        by_cases c : i = (l.getD (k + 1) 0).toNat
        · rw [if_pos c]; omega
        · rw [if_neg c]; omega
      · rw [Bool.eq_false_iff.2 c1, Bool.false_or, if_neg (show ¬ (false = true) by decide)]
        by_cases c : l.getD (k + 1) 0 = (i : Int)
        · rw [if_pos (decide_eq_true c), if_pos (by omega)]
          unfold gat; rw [show (l.getD (k + 1) 0).toNat = i by omega]; omega
        · rw [if_neg (by simpa using c), if_neg (by omega)]; omega
    rw [S_add, S_ind, if_pos (by omega)] at e
    rw [tog]
    show _ ≤ (tog gs l k).p + (gat gs (l.getD (k + 1) 0)).p
    omega
def inside (x : L) (a b : Int) : Bool := decide (a ≤ x.a) && decide (end' x ≤ b)
theorem excl {ls : List F} {gs : List G} {plan : List L} {a b : Int} (hv : bthE ls gs = 0) (hc : ckL ls gs plan plan.length 0 = 0) : prf ls gs a b = false := by
  by_cases hw : wOk a b = true
  case neg => unfold prf; rw [Bool.eq_false_iff.2 hw]; rfl
  obtain ⟨wa, wab, wb⟩ := wOk_iff.1 hw
  obtain ⟨hvF, hvG⟩ := bth_zero hv
  obtain ⟨_, hF⟩ := valF_zero hvF
  obtain ⟨_, hG⟩ := valG_zero hvG
  obtain ⟨hld, hcov⟩ := ckL_all plan.length 0 hc
  have hld' : ∀ j, j < plan.length → ldE ls gs (plan.take j) (plan.getD j default) = 0 := fun j hj => hld j (by omega) (by omega)
  have hK : ∀ j, j < plan.length → Kept ls gs (plan.getD j default) := fun j hj => kept_of (ldE_zero (hld' j hj)).1
  -- every goods lies in a load whose days are enough
  have hFa : ∀ n : Int, 0 ≤ n → n < ls.length → okF (fat ls n) = true := fun n h0 h1 => by
    unfold fat
    rw [show ls.getD n.toNat default = ls[n.toNat]'(by omega) by simp [show n.toNat < ls.length by omega]]
    exact hF _ _
  have hcv : ∀ i, i < gs.length → ∃ k, k < plan.length ∧ mem (plan.getD k default) i = true := fun i hi => by
    have h1 := List.all_eq_true.1 hcov i (List.mem_range.2 hi)
    obtain ⟨x, hx, h2⟩ := List.any_eq_true.1 h1
    obtain ⟨k, hk, rfl⟩ := List.mem_iff_getElem.1 hx
    exact ⟨k, hk, by rw [show plan.getD k default = plan[k] by simp [hk]]; exact h2⟩
  have hgo : ∀ i k, i < gs.length → k < plan.length → mem (plan.getD k default) i = true →
      (0 < dyN ls (gs.getD i default) ∧ (dyN ls (gs.getD i default) : Int) ≤ (plan.getD k default).hs.length) ∧ (gs.getD i default).a ≤ (plan.getD k default).a ∧ end' (plan.getD k default) ≤ (gs.getD i default).u := by
    intro i k hi hk hm
    have hKk := hK k hk
    obtain ⟨m, hm1, hm2⟩ := List.any_eq_true.1 hm
    obtain ⟨j, hj, hj2⟩ := List.mem_iff_getElem.1 hm1
    have hmi : m = (i : Int) := of_decide_eq_true hm2
    obtain ⟨e1, e2, e3⟩ := hKk.each j hj
    have hgi : gat gs ((plan.getD k default).gs.getD j 0) = gs.getD i default := by
      rw [show (plan.getD k default).gs.getD j 0 = (i : Int) by rw [getD_at hj, hj2, hmi]]
      unfold gat; simp
    rw [hgi] at e1 e2 e3
    have hgm : (gs.getD i default).m ≤ 60 := by
      have := okG_iff.1 (hG i hi)
      rw [show gs.getD i default = gs[i] by simp [hi]]; omega
    have hd := dN_of (hFa _ hKk.loft.1 hKk.loft.2) hKk.heats hgm e3
    have hpl : (gs.getD i default).p ≤ (fat ls (plan.getD k default).l).p := by
      have h1 := hKk.poles
      have hst := st_bd (stB_iff.1 hKk.set')
      have h2 := mek_poles hG hst ((plan.getD k default).gs.length - 1) (by have := hKk.some'; omega)
      have h3 := S_one (f := fun i => if mek (plan.getD k default).gs ((plan.getD k default).gs.length - 1) i = true then (gs.getD i default).p else 0) gs.length i hi (fun j hj => by
        split
        · have := okG_iff.1 (hG j hj)
          rw [show gs.getD j default = gs[j] by simp [hj]]; omega
        · exact Int.le_refl _)
      rw [if_pos (mem_mek hm)] at h3
      unfold togA at h1
      omega
    have hdy := dyk_of (ls := ls) (g := gs.getD i default) ls.length (plan.getD k default).l.toNat (by have := hKk.loft; omega) hd.1 hpl
    refine ⟨⟨hdy.1, ?_⟩, e1, e2⟩
    have h5 : dyN ls (gs.getD i default) ≤ dN (fat ls (plan.getD k default).l).rs (gs.getD i default).n (gs.getD i default).m := hdy.2
    omega
  unfold prf
  rw [hw, Bool.true_and, Bool.or_eq_false_iff]
  refine ⟨?_, ?_⟩
  · apply Bool.eq_false_iff.2
    intro hn
    obtain ⟨i, hi, h2⟩ := List.any_eq_true.1 hn
    rw [Bool.and_eq_true, decide_eq_true_eq] at h2
    obtain ⟨k, hk, hm⟩ := hcv i (List.mem_range.1 hi)
    have := (hgo i k (List.mem_range.1 hi) hk hm).1.1
    omega
  · apply decide_eq_false
    intro hlt
    have hpi : ∀ i, i < gs.length → 0 ≤ (gs.getD i default).p := fun i hi => by
      have := okG_iff.1 (hG i hi)
      rw [show gs.getD i default = gs[i] by simp [hi]]; omega
    have A : S (ndk ls gs a b) gs.length ≤ S (fun i => S (fun k => if (mem (plan.getD k default) i && inW (gs.getD i default) a b) = true then (gs.getD i default).p * ((plan.getD k default).hs.length : Int) else 0) plan.length) gs.length := by
      refine S_le _ fun i hi => ?_
      have hnn : ∀ k, k < plan.length → 0 ≤ (if (mem (plan.getD k default) i && inW (gs.getD i default) a b) = true then (gs.getD i default).p * ((plan.getD k default).hs.length : Int) else 0) := fun k hk => by
        split
        · exact Int.mul_nonneg (hpi i hi) (by omega)
        · exact Int.le_refl _
      unfold ndk
      by_cases c : inW (gs.getD i default) a b = true
      · rw [if_pos c]
        obtain ⟨k, hk, hm⟩ := hcv i hi
        have h1 := S_one (f := fun k => if (mem (plan.getD k default) i && inW (gs.getD i default) a b) = true then (gs.getD i default).p * ((plan.getD k default).hs.length : Int) else 0) plan.length k hk hnn
        rw [hm, c, Bool.true_and, if_pos rfl] at h1
        have h2 : (gs.getD i default).p * (dyN ls (gs.getD i default) : Int) ≤ (gs.getD i default).p * ((plan.getD k default).hs.length : Int) := Int.mul_le_mul_of_nonneg_left (hgo i k hi hk hm).1.2 (hpi i hi)
        rw [c] at *
        exact Int.le_trans h2 h1
      · rw [if_neg c]
        exact S_nn _ hnn
    rw [S_comm] at A
    have B : S (fun k => S (fun i => if (mem (plan.getD k default) i && inW (gs.getD i default) a b) = true then (gs.getD i default).p * ((plan.getD k default).hs.length : Int) else 0) gs.length) plan.length ≤
        S (fun k => if inside (plan.getD k default) a b = true then (fat ls (plan.getD k default).l).p * ((plan.getD k default).hs.length : Int) else 0) plan.length := by
      refine S_le _ fun k hk => ?_
      have hKk := hK k hk
      by_cases c : inside (plan.getD k default) a b = true
      · rw [if_pos c]
        have h1 : S (fun i => if (mem (plan.getD k default) i && inW (gs.getD i default) a b) = true then (gs.getD i default).p * ((plan.getD k default).hs.length : Int) else 0) gs.length ≤
            S (fun i => ((plan.getD k default).hs.length : Int) * (if mek (plan.getD k default).gs ((plan.getD k default).gs.length - 1) i = true then (gs.getD i default).p else 0)) gs.length := by
          refine S_le _ fun i hi => ?_
          by_cases c2 : (mem (plan.getD k default) i && inW (gs.getD i default) a b) = true
          · rw [if_pos c2]
            rw [Bool.and_eq_true] at c2
            rw [if_pos (mem_mek c2.1), Int.mul_comm]
            exact Int.le_refl _
          · rw [if_neg c2]
            refine Int.mul_nonneg (by omega) ?_
            split
            · exact hpi i hi
            · exact Int.le_refl _
        rw [S_mul] at h1
        have h2 := mek_poles hG (st_bd (stB_iff.1 hKk.set')) ((plan.getD k default).gs.length - 1) (by have := hKk.some'; omega)
        have h3 := hKk.poles
        unfold togA at h3
        have h4 := Int.mul_le_mul_of_nonneg_left (Int.le_trans h2 h3) (show (0 : Int) ≤ ((plan.getD k default).hs.length : Int) by omega)
        rw [Int.mul_comm (fat ls (plan.getD k default).l).p]
        exact Int.le_trans h1 h4
      · rw [if_neg c]
        rw [S_congr (g := fun _ => 0) _ (fun i hi => ?_), S_zero]
        · exact Int.le_refl _
        · refine if_neg fun c2 => c ?_
          rw [Bool.and_eq_true] at c2
          have h1 := hgo i k hi hk c2.1
          have h2 := inW_iff.1 c2.2
          unfold inside
          rw [Bool.and_eq_true, decide_eq_true_eq, decide_eq_true_eq]
          omega
    have C : S (fun k => if inside (plan.getD k default) a b = true then (fat ls (plan.getD k default).l).p * ((plan.getD k default).hs.length : Int) else 0) plan.length =
        S (fun k => S (fun f => (ls.getD f default).p * (if (inside (plan.getD k default) a b && decide (f = (plan.getD k default).l.toNat)) = true then ((plan.getD k default).hs.length : Int) else 0)) ls.length) plan.length := by
      refine S_congr _ fun k hk => ?_
      have hKk := hK k hk
      have e : S (fun f => (ls.getD f default).p * (if (inside (plan.getD k default) a b && decide (f = (plan.getD k default).l.toNat)) = true then ((plan.getD k default).hs.length : Int) else 0)) ls.length =
          S (fun f => if f = (plan.getD k default).l.toNat then (if inside (plan.getD k default) a b = true then (fat ls (plan.getD k default).l).p * ((plan.getD k default).hs.length : Int) else 0) else 0) ls.length := by
        refine S_congr _ fun f hf => ?_
        by_cases c : f = (plan.getD k default).l.toNat
        · rw [if_pos c, decide_eq_true c, Bool.and_true]
          unfold fat
          rw [c]
          split
          · rfl
          · rw [Int.mul_zero]
        · rw [if_neg c, decide_eq_false c, Bool.and_false, if_neg (by decide), Int.mul_zero]
      rw [e, S_ind, if_pos (show (plan.getD k default).l.toNat < ls.length by have := hKk.loft; omega)]
    have D : S (fun k => S (fun f => (ls.getD f default).p * (if (inside (plan.getD k default) a b && decide (f = (plan.getD k default).l.toNat)) = true then ((plan.getD k default).hs.length : Int) else 0)) ls.length) plan.length ≤ pls ls ls.length * (b - a) := by
      rw [S_comm]
      have h1 : S (fun f => S (fun k => (ls.getD f default).p * (if (inside (plan.getD k default) a b && decide (f = (plan.getD k default).l.toNat)) = true then ((plan.getD k default).hs.length : Int) else 0)) plan.length) ls.length ≤ S (fun f => (b - a) * (ls.getD f default).p) ls.length := by
        refine S_le _ fun f hf => ?_
        rw [S_mul, Int.mul_comm (b - a)]
        refine Int.mul_le_mul_of_nonneg_left ?_ (by
          have := (okF_iff.1 (hF f hf)).1
          rw [show ls.getD f default = ls[f] by simp [hf]]; omega)
        have e : S (fun k => if (inside (plan.getD k default) a b && decide (f = (plan.getD k default).l.toNat)) = true then ((plan.getD k default).hs.length : Int) else 0) plan.length =
            S (fun k => S (fun (d : Nat) => if (plan.getD k default).a ≤ (d : Int) ∧ (d : Int) < end' (plan.getD k default) then (if (inside (plan.getD k default) a b && decide (f = (plan.getD k default).l.toNat)) = true then 1 else 0) else 0) 80) plan.length := by
          refine S_congr _ fun k hk => ?_
          have hKk := hK k hk
          have hl := (vHt_iff.1 hKk.heats).1
          have he : end' (plan.getD k default) = (plan.getD k default).a + (plan.getD k default).hs.length := rfl
          have hf0 := hKk.from0
          have h9 : end' (plan.getD k default) - (plan.getD k default).a = ((plan.getD k default).hs.length : Int) := by omega
          rw [S_span _ hf0.1 (by omega), if_neg (show ¬ ((80 : Nat) : Int) ≤ (plan.getD k default).a by omega), if_neg (show ¬ ((80 : Nat) : Int) ≤ end' (plan.getD k default) by omega), h9]
          by_cases c9 : (inside (plan.getD k default) a b && decide (f = (plan.getD k default).l.toNat)) = true
          · rw [if_pos c9, if_pos c9, Int.mul_one]
          · rw [if_neg c9, if_neg c9, Int.mul_zero]
        rw [e, S_comm]
        have h2 : S (fun d => S (fun k => if (plan.getD k default).a ≤ (d : Int) ∧ (d : Int) < end' (plan.getD k default) then (if (inside (plan.getD k default) a b && decide (f = (plan.getD k default).l.toNat)) = true then 1 else 0) else 0) plan.length) 80 ≤ S (fun (d : Nat) => if a ≤ (d : Int) ∧ (d : Int) < b then 1 else 0) 80 := by
          refine S_le _ fun d hd => ?_
          have hone : ∀ k, k < plan.length → ¬ (if (plan.getD k default).a ≤ (d : Int) ∧ (d : Int) < end' (plan.getD k default) then (if (inside (plan.getD k default) a b && decide (f = (plan.getD k default).l.toNat)) = true then (1 : Int) else 0) else 0) ≤ 0 →
              ((plan.getD k default).a ≤ (d : Int) ∧ (d : Int) < end' (plan.getD k default)) ∧ (a ≤ (plan.getD k default).a ∧ end' (plan.getD k default) ≤ b) ∧ f = (plan.getD k default).l.toNat := by
            intro k hk hc
            by_cases c1 : (plan.getD k default).a ≤ (d : Int) ∧ (d : Int) < end' (plan.getD k default)
            · rw [if_pos c1] at hc
              by_cases c2 : (inside (plan.getD k default) a b && decide (f = (plan.getD k default).l.toNat)) = true
              · rw [Bool.and_eq_true, decide_eq_true_eq] at c2
                have c3 := c2.1
                unfold inside at c3
                rw [Bool.and_eq_true, decide_eq_true_eq, decide_eq_true_eq] at c3
                exact ⟨c1, c3, c2.2⟩
              · rw [if_neg c2] at hc; omega
            · rw [if_neg c1] at hc; omega
          by_cases hin : a ≤ (d : Int) ∧ (d : Int) < b
          · rw [if_pos hin]
            refine S_atmost _ (fun k hk => ?_) (fun i j hi hj hij => ?_) (fun k hk => ?_)
            · split
              · split <;> omega
              · omega
            · apply Decidable.byContradiction
              intro hn
              rw [not_or] at hn
              have h3 := hone i hi hn.1
              have h4 := hone j hj hn.2
              have hli := (hK i hi).loft
              have hlj := (hK j hj).loft
              have hll : (plan.getD j default).l = (plan.getD i default).l := by omega
              rcases Nat.lt_or_gt_of_ne hij with h | h
              · have := mts_no (apart_of hld' h hj) hll; omega
              · have := mts_no (apart_of hld' h hi) hll.symm; omega
            · split
              · split <;> omega
              · omega
          · rw [if_neg hin, S_congr (g := fun _ => 0) _ (fun k hk => ?_), S_zero]
            · exact Int.le_refl _
            · apply Decidable.byContradiction
              intro hn
              have h5 : ¬ (if (plan.getD k default).a ≤ (d : Int) ∧ (d : Int) < end' (plan.getD k default) then (if (inside (plan.getD k default) a b && decide (f = (plan.getD k default).l.toNat)) = true then (1 : Int) else 0) else 0) ≤ 0 := by
                intro h6
                apply hn
                have h7 : 0 ≤ (if (plan.getD k default).a ≤ (d : Int) ∧ (d : Int) < end' (plan.getD k default) then (if (inside (plan.getD k default) a b && decide (f = (plan.getD k default).l.toNat)) = true then (1 : Int) else 0) else 0) := by
                  split
                  · split <;> omega
                  · omega
                omega
              have h6 := hone k hk h5
              omega
        rw [S_span 1 wa wab, if_neg (by omega), if_neg (by omega), Int.mul_one] at h2
        exact h2
      rw [S_mul, Int.mul_comm] at h1
      exact h1
    have := Int.le_trans A B
    rw [C] at this
    have := Int.le_trans this D
    omega
end Lf
end Go.Proofs.Ytabfcnfddemblaa
