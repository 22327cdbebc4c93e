/- The sums of rates as the reference finds them, in plain words. The first heats of the fewest days are valid and have a warmth within the bounds. The planned loads in plain words: a plan without rest is accepted, one with a rest is not. -/
import Derived.Test.YtabfcnfddemblaaLfMa
namespace Go.Proofs.Ytabfcnfddemblaa
namespace Lf

def pr (rs : List Int) (n h G s : Nat) : Bool := (List.range G).any fun g => decide (h ≤ g + 1) && cn rs n g s
theorem pr_iff {rs : List Int} {n h G s : Nat} : pr rs n h G s = true ↔ ∃ g, g < G ∧ h ≤ g + 1 ∧ cn rs n g s = true := by
  unfold pr
  rw [List.any_eq_true]
  constructor
  · rintro ⟨g, hg, h⟩
    rw [Bool.and_eq_true, decide_eq_true_eq] at h
    exact ⟨g, List.mem_range.1 hg, h⟩
  · rintro ⟨g, hg, h⟩
    exact ⟨g, List.mem_range.2 hg, by rw [Bool.and_eq_true, decide_eq_true_eq]; exact h⟩
theorem pr_start (rs : List Int) (n h s : Nat) : pr rs n h (h - 1) s = false := by
  apply Bool.eq_false_iff.2
  intro hc
  obtain ⟨g, h1, h2, _⟩ := pr_iff.1 hc
  omega
theorem pr_succ {rs : List Int} {n h G s : Nat} (hG : h ≤ G + 1) : pr rs n h (G + 1) s = (pr rs n h G s || cn rs n G s) := by
  unfold pr
  rw [List.range_succ, List.any_append]
  simp [hG]
theorem pr_end (rs : List Int) (n h s : Nat) (_h4 : h ≤ 4) : pr rs n h (min 4 (h + 1) + 1) s = sm rs (n + 1) h s := by
  rw [Bool.eq_iff_iff, pr_iff, sm_succ]
  constructor
  · rintro ⟨g, h1, h2, h3⟩
    exact ⟨g, by omega, nr_iff.2 (by omega), h3⟩
  · rintro ⟨g, h1, h2, h3⟩
    have := nr_iff.1 h2
    exact ⟨g, by omega, by omega, h3⟩
def pq (rs : List Int) (n h G t s : Nat) : Bool := pr rs n h G s || (cn rs n G s && decide (s < t + rt rs G))
theorem pq_zero (rs : List Int) (n h G s : Nat) : pq rs n h G 0 s = pr rs n h G s := by
  unfold pq cn
  by_cases c : rt rs G ≤ s
  · rw [decide_eq_false (show ¬ s < 0 + rt rs G by omega), Bool.and_false, Bool.or_false]
  · rw [decide_eq_false c, Bool.false_and, Bool.false_and, Bool.or_false]
theorem pq_at (rs : List Int) (n h G t : Nat) : pq rs n h G (t + 1) (t + rt rs G) = (pq rs n h G t (t + rt rs G) || sm rs n G t) := by
  unfold pq cn
  rw [decide_eq_true (show t + rt rs G < t + 1 + rt rs G by omega), decide_eq_false (show ¬ t + rt rs G < t + rt rs G by omega), decide_eq_true (show rt rs G ≤ t + rt rs G by omega), Nat.add_sub_cancel, Bool.and_true, Bool.and_false, Bool.or_false, Bool.true_and]
theorem pq_other {rs : List Int} {n h G t s : Nat} (hs : s ≠ t + rt rs G) : pq rs n h G (t + 1) s = pq rs n h G t s := by
  unfold pq
  rw [show decide (s < t + 1 + rt rs G) = decide (s < t + rt rs G) from decide_eq_decide.2 (by omega)]
theorem pq_end {rs : List Int} {n h G t s : Nat} (hG : h ≤ G + 1) (ht : 109 ≤ t + rt rs G) (hs : s < 109) : pq rs n h G t s = pr rs n h (G + 1) s := by
  rw [pr_succ hG]
  unfold pq
  rw [decide_eq_true (show s < t + rt rs G by omega), Bool.and_true]
/-- A row for so many days behind a heat, up to a heat. -/
def pF (rs : List Int) (d h G s : Nat) : Bool := if d = 0 then decide (s = 0) else pr rs (d - 1) h G s
theorem pF_zero (rs : List Int) (h G s : Nat) : pF rs 0 h G s = sm rs 0 h s := by unfold pF; rw [if_pos rfl, sm]
theorem pF_succ (rs : List Int) (n h G s : Nat) : pF rs (n + 1) h G s = pr rs n h G s := by unfold pF; rw [if_neg (by omega), Nat.add_sub_cancel]
end Lf
end Go.Proofs.Ytabfcnfddemblaa
namespace Go.Proofs.Ytabfcnfddemblaa
namespace Lf

def chn (b : Int) : List Int → Prop
  | [] => True
  | x :: xs => stp b x = true ∧ chn x xs
def lstB (b : Int) (l : List Int) : Nat → Int
  | 0 => b
  | k + 1 => l.getD k 0
theorem chn_at : ∀ (l : List Int) (b : Int), chn b l → ∀ k, k < l.length → stp (lstB b l k) (l.getD k 0) = true
  | x :: xs, b, h, 0, _ => h.1
  | x :: xs, b, h, k + 1, hk => by
    have := chn_at xs x h.2 k (by simpa using hk)
    cases k with
    | zero => simpa [lstB] using this
    | succ k => simpa [lstB] using this
def sumL (rs : List Int) : List Int → Int
  | [] => 0
  | x :: xs => rs.getD x.toNat 0 + sumL rs xs
theorem wm_cons (rs : List Int) (x : Int) (xs : List Int) : ∀ k, wm rs (x :: xs) (k + 1) = rs.getD x.toNat 0 + wm rs xs k
  | 0 => by simp [wm]
  | k + 1 => by
    rw [wm, wm_cons rs x xs k, wm]
    simp only [List.getD_cons_succ]
    omega
theorem wm_sum (rs : List Int) : ∀ l : List Int, wm rs l l.length = sumL rs l
  | [] => rfl
  | x :: xs => by rw [List.length_cons, wm_cons, wm_sum rs xs, sumL]
theorem frs_ok {rs : List Int} (hr : ∀ k, k < 5 → 0 ≤ rs.getD k 0 ∧ rs.getD k 0 ≤ 9) : ∀ (n b : Nat) (lo hi : Int), hi ≤ 60 → aft rs n b lo hi = true → chn (b : Int) (frs rs n b lo hi) ∧ lo ≤ sumL rs (frs rs n b lo hi) ∧ sumL rs (frs rs n b lo hi) ≤ hi
  | 0, b, lo, hi, _, h => by
    obtain ⟨s, _, h1, h2, h3⟩ := aft_iff.1 h
    have h4 : s = 0 := of_decide_eq_true h3
    subst h4
    exact ⟨trivial, h1, h2⟩
  | n + 1, b, lo, hi, hh, h => by
    have hc := fg_can hh h
    have ih := frs_ok hr n (fg rs n b lo hi) (lo - rt rs (fg rs n b lo hi)) (hi - rt rs (fg rs n b lo hi)) (by omega) hc.1
    rw [frs]
    generalize fg rs n b lo hi = g at *
    have h1 := nr_iff.1 hc.2.1
    have h2 := hr g hc.2.2
    have h3 : rs.getD ((g : Int)).toNat 0 = (rt rs g : Int) := by
      show rs.getD g 0 = _
      unfold rt; omega
    refine ⟨⟨stp_iff.2 (by omega), ih.1⟩, ?_, ?_⟩
    · rw [sumL, h3]; omega
    · rw [sumL, h3]; omega
theorem prg_ok {p : Int} {rs : List Int} {n m : Int} (hF : okF ⟨p, rs⟩ = true) (hm : isRp n m = true) (hd : 0 < dN rs n m) : vHt (prg rs n m) = true ∧ n ≤ wm rs (prg rs n m) (prg rs n m).length ∧ wm rs (prg rs n m) (prg rs n m).length ≤ m := by
  obtain ⟨_, ⟨_, m2⟩⟩ := isRp_iff.1 hm
  have h1 := fdd_le (c := fun d => aft rs d 0 n m) 12 1
  have h2 : aft rs (dN rs n m) 0 n m = true := by
    rcases h1 with h | ⟨_, _, h⟩
    · unfold dN at hd; omega
    · exact h
  have h3 := frs_ok (okRt_bd (okF_iff.1 hF).2.2) (dN rs n m) 0 n m m2 h2
  have h4 := prg_len rs n m
  have h5 := dN_le rs n m
  refine ⟨vHt_iff.2 ⟨⟨by omega, by omega⟩, fun k hk => ?_⟩, ?_, ?_⟩
  · have := chn_at _ _ h3.1 k hk
    unfold okHt
    cases k with
    | zero => exact this
    | succ k => exact this
  · rw [wm_sum]; exact h3.2.1
  · rw [wm_sum]; exact h3.2.2
theorem pB_ok {p : Int} {rs : List Int} {n m : Int} (h : pB ⟨p, rs⟩ n m = true) : wE ⟨p, rs⟩ (pR ⟨p, rs⟩ n m) = 0 ∧ n ≤ wR ⟨p, rs⟩ (pR ⟨p, rs⟩ n m) ∧ wR ⟨p, rs⟩ (pR ⟨p, rs⟩ n m) ≤ m := by
  unfold pB at h
  rw [Bool.and_eq_true, decide_eq_true_eq, decide_eq_true_eq] at h
  obtain ⟨h1, h2⟩ := h
  have hz : valF [(⟨p, rs⟩ : F)] = 0 ∧ isRp n m = true := by
    unfold pE at h1
    by_cases c : valF [(⟨p, rs⟩ : F)] = 0
    · rw [if_pos c] at h1
      by_cases c2 : isRp n m = true
      · exact ⟨c, c2⟩
      · rw [if_neg c2] at h1; omega
    · rw [if_neg c] at h1; omega
  have hp : pR ⟨p, rs⟩ n m = prg rs n m := by unfold pR; rw [if_pos h1]
  rw [hp]
  have h3 := prg_ok (valF_one.1 hz.1) hz.2 h2
  have hw : wE ⟨p, rs⟩ (prg rs n m) = 0 := by unfold wE; rw [if_pos hz.1, if_pos h3.1]
  refine ⟨hw, ?_, ?_⟩
  · unfold wR; rw [if_pos hw]; exact h3.2.1
  · unfold wR; rw [if_pos hw]; exact h3.2.2
theorem pR_len (f : F) (n m : Int) : (pR f n m).length ≤ 12 := by
  unfold pR
  split
  · rw [prg_len]; exact dN_le _ _ _
  · simp
end Lf
end Go.Proofs.Ytabfcnfddemblaa
namespace Go.Proofs.Ytabfcnfddemblaa
namespace Lf

def ckx (ls : List F) (gs : List G) (x : L) : Int := ckE (fat ls x.l).p (wm (fat ls x.l).rs x.hs x.hs.length) (end' x) x (togA gs x.gs)
theorem slE_of {ls : List F} {gs : List G} {x : L} (h : vLE ls gs x = 0) : slE ls gs x = ckx ls gs x := by unfold slE; rw [if_pos h]; rfl
/-- A number put into a set. -/
def insS (n : Int) : List Int → List Int
  | [] => [n]
  | x :: r => if x < n then x :: insS n r else n :: x :: r
theorem insS_mem {n m : Int} : ∀ {l : List Int}, m ∈ insS n l ↔ m = n ∨ m ∈ l
  | [] => by simp [insS]
  | x :: r => by
    unfold insS
    by_cases c : x < n
    · rw [if_pos c, List.mem_cons, insS_mem, List.mem_cons]
      constructor
      · rintro (h | h | h)
        · exact .inr (.inl h)
        · exact .inl h
        · exact .inr (.inr h)
      · rintro (h | h | h)
        · exact .inr (.inl h)
        · exact .inl h
        · exact .inr (.inr h)
    · rw [if_neg c, List.mem_cons]
theorem insS_len (n : Int) : ∀ l : List Int, (insS n l).length = l.length + 1
  | [] => rfl
  | x :: r => by
    unfold insS
    by_cases c : x < n
    · rw [if_pos c, List.length_cons, insS_len n r, List.length_cons]
    · rw [if_neg c, List.length_cons, List.length_cons]
theorem insS_lt {n : Int} : ∀ {l : List Int}, l.Pairwise (· < ·) → n ∉ l → (insS n l).Pairwise (· < ·)
  | [], _, _ => by simp [insS]
  | x :: r, h, hn => by
    obtain ⟨h1, h2⟩ := List.pairwise_cons.1 h
    unfold insS
    by_cases c : x < n
    · rw [if_pos c]
      refine List.pairwise_cons.2 ⟨fun y hy => ?_, insS_lt h2 (fun hc => hn (List.mem_cons_of_mem _ hc))⟩
      rcases insS_mem.1 hy with e | e
      · rw [e]; exact c
      · exact h1 y e
    · rw [if_neg c]
      have hx : n < x := by
        have : n ≠ x := fun e => hn (by rw [e]; exact List.mem_cons_self)
        omega
      refine List.pairwise_cons.2 ⟨fun y hy => ?_, h⟩
      rcases List.mem_cons.1 hy with e | e
      · rw [e]; exact hx
      · have := h1 y e; omega
theorem stB_set {l : List Int} {n : Int} : stB l n = true ↔ l.Pairwise (· < ·) ∧ ∀ x ∈ l, 0 ≤ x ∧ x < n := by
  rw [stB_iff]
  constructor
  · intro h
    refine ⟨List.pairwise_iff_getElem.2 fun i j hi hj hij => ?_, fun x hx => ?_⟩
    · have := st_lt h j i hij hj
      rwa [getD_at hi, getD_at hj] at this
    · obtain ⟨k, hk, rfl⟩ := List.mem_iff_getElem.1 hx
      have := st_bd h k hk
      rwa [getD_at hk] at this
  · rintro ⟨h1, h2⟩ k hk
    have h3 := h2 _ (List.getElem_mem hk)
    unfold stAt
    rw [getD_at hk, rng_iff]
    cases k with
    | zero => simp only [lsz]; omega
    | succ k =>
      have h4 := List.pairwise_iff_getElem.1 h1 k (k + 1) (by omega) hk (by omega)
      simp only [lsz]
      rw [getD_at (by omega)]; omega
/-- A load with one more goods. -/
def full (x : L) (n : Int) : L := ⟨x.l, x.a, x.hs, insS n x.gs⟩
/-- The goods put into the first load in which they fit. -/
def putF (ls : List F) (gs : List G) (n : Int) : List L → Option (List L)
  | [] => none
  | x :: r => if ckx ls gs (full x n) = 0 then some (full x n :: r) else (putF ls gs n r).map (x :: ·)
/-- The first day from a day on on which a condition does not hold. -/
def fr (c : Int → Bool) : Nat → Int → Int
  | 0, a => a
  | k + 1, a => if c a = true then fr c k (a + 1) else a
def mC (P : List L) (lo : Int) (hs gl : List Int) (a : Int) : Bool := P.any (mts ⟨lo, a, hs, gl⟩)
def nhs (ls : List F) (gs : List G) (n lo : Int) : List Int := prg (fat ls lo).rs (gat gs n).n (gat gs n).m
def newL (ls : List F) (gs : List G) (P : List L) (n lo : Int) : L := ⟨lo, fr (mC P lo (nhs ls gs n lo) [n]) 61 (gat gs n).a, nhs ls gs n lo, [n]⟩
/-- The new load in a loft. -/
def bgI (ls : List F) (gs : List G) (P : List L) (n lo : Int) : Option L :=
  if 0 < dN (fat ls lo).rs (gat gs n).n (gat gs n).m ∧ ckx ls gs (newL ls gs P n lo) = 0 then some (newL ls gs P n lo) else none
def bet (b : Option L) (c : Option L) : Option L :=
  match c with
  | none => b
  | some l => match b with
    | none => some l
    | some o => if end' l < end' o then some l else some o
/-- The best one of the first lofts. -/
def bgB (ls : List F) (gs : List G) (P : List L) (n : Int) : Nat → Option L
  | 0 => none
  | k + 1 => bet (bgB ls gs P n k) (bgI ls gs P n k)
def stP (ls : List F) (gs : List G) (s : List L × List Int) (n : Int) : List L × List Int :=
  match putF ls gs n s.1 with
  | some q => (q, s.2)
  | none => match bgB ls gs s.1 n ls.length with
    | some l => (s.1 ++ [l], s.2)
    | none => (s.1, s.2 ++ [n])

theorem shr_no {x y : L} : shr x y = false ↔ ∀ a ∈ x.gs, a ∉ y.gs := by
  constructor
  · intro h a ha hb
    have : shr x y = true := List.any_eq_true.2 ⟨a, ha, List.any_eq_true.2 ⟨a, hb, by simp⟩⟩
    rw [this] at h; cases h
  · intro h
    apply Bool.eq_false_iff.2
    intro hc
    obtain ⟨a, ha, h2⟩ := List.any_eq_true.1 hc
    obtain ⟨b, hb, h3⟩ := List.any_eq_true.1 h2
    exact h a ha (by rw [of_decide_eq_true h3]; exact hb)
theorem mts_full (x y : L) (n : Int) : mts (full x n) y = mts x y ∧ mts y (full x n) = mts y x := ⟨rfl, rfl⟩
/-- What holds of the loads, of what is left and of what was taken so far. -/
structure PI (ls : List F) (gs : List G) (P : List L) (lf dn : List Int) : Prop where
  ok : ∀ x ∈ P, vLE ls gs x = 0 ∧ ckx ls gs x = 0
  apart : P.Pairwise fun y x => (∀ a ∈ x.gs, a ∉ y.gs) ∧ mts x y = false
  all : ∀ n, n ∈ dn ↔ n ∈ lf ∨ ∃ x ∈ P, n ∈ x.gs
  left : ∀ n ∈ lf, ∀ x ∈ P, n ∉ x.gs
theorem vLE_iff {ls : List F} {gs : List G} {x : L} : vLE ls gs x = 0 ↔ (0 ≤ x.l ∧ x.l ≤ (ls.length : Int) - 1) ∧ (0 ≤ x.a ∧ x.a ≤ 60) ∧ vHt x.hs = true ∧ 0 < x.gs.length ∧ stB x.gs gs.length = true := by
  unfold vLE
  by_cases c : rng 0 ((ls.length : Int) - 1) x.l = true
  · rw [if_pos c]
    by_cases c2 : (rng 0 60 x.a && (vHt x.hs && (decide (0 < x.gs.length) && stB x.gs gs.length))) = true
    · rw [if_pos c2]
      simp only [Bool.and_eq_true, decide_eq_true_eq] at c2
      exact ⟨fun _ => ⟨rng_iff.1 c, rng_iff.1 c2.1, c2.2.1, c2.2.2.1, c2.2.2.2⟩, fun _ => rfl⟩
    · rw [if_neg c2]
      refine ⟨fun h => by omega, fun h => absurd ?_ c2⟩
      simp only [Bool.and_eq_true, decide_eq_true_eq]
      exact ⟨rng_iff.2 h.2.1, h.2.2.1, h.2.2.2.1, h.2.2.2.2⟩
  · rw [if_neg c]
    exact ⟨fun h => by omega, fun h => absurd (rng_iff.2 h.1) c⟩
theorem vLE_full {ls : List F} {gs : List G} {x : L} {n : Int} (h : vLE ls gs x = 0) (h0 : 0 ≤ n) (hn : n < gs.length) (hx : n ∉ x.gs) : vLE ls gs (full x n) = 0 := by
  obtain ⟨h1, h2, h3, h4, h5⟩ := vLE_iff.1 h
  obtain ⟨h6, h7⟩ := stB_set.1 h5
  refine vLE_iff.2 ⟨h1, h2, h3, by show 0 < (insS n x.gs).length; rw [insS_len]; omega, stB_set.2 ⟨insS_lt h6 hx, fun m hm => ?_⟩⟩
  rcases insS_mem.1 hm with e | e
  · rw [e]; exact ⟨h0, hn⟩
  · exact h7 m e
/-- What the putting changes: one load gets the goods. -/
theorem putF_some {ls : List F} {gs : List G} {n : Int} : ∀ {P q : List L}, putF ls gs n P = some q → ∃ A x B, P = A ++ x :: B ∧ q = A ++ full x n :: B ∧ ckx ls gs (full x n) = 0
  | [], _, h => by cases h
  | x :: r, q, h => by
    unfold putF at h
    by_cases c : ckx ls gs (full x n) = 0
    · rw [if_pos c] at h
      injection h with h
      exact ⟨[], x, r, rfl, h.symm, c⟩
    · rw [if_neg c] at h
      cases hp : putF ls gs n r with
      | none => rw [hp] at h; cases h
      | some q2 =>
        rw [hp] at h
        injection h with h
        obtain ⟨A, y, B, e1, e2, e3⟩ := putF_some hp
        exact ⟨x :: A, y, B, by rw [e1]; rfl, by rw [← h, e2]; rfl, e3⟩
theorem putF_none {ls : List F} {gs : List G} {n : Int} : ∀ {P : List L}, putF ls gs n P = none → ∀ x ∈ P, ckx ls gs (full x n) ≠ 0
  | [], _, x, hx => by cases hx
  | y :: r, h, x, hx => by
    unfold putF at h
    by_cases c : ckx ls gs (full y n) = 0
    · rw [if_pos c] at h; cases h
    · rw [if_neg c] at h
      rcases List.mem_cons.1 hx with e | e
      · rw [e]; exact c
      · refine putF_none (Option.map_eq_none_iff.1 h) x e
theorem PI.put {ls : List F} {gs : List G} {P q : List L} {lf dn : List Int} {n : Int} (h : PI ls gs P lf dn) (h0 : 0 ≤ n) (hn : n < gs.length) (hd : n ∉ dn) (hp : putF ls gs n P = some q) : PI ls gs q lf (dn ++ [n]) := by
  obtain ⟨A, x, B, rfl, rfl, hc⟩ := putF_some hp
  have hfr : ∀ y ∈ A ++ x :: B, n ∉ y.gs := fun y hy hm => hd ((h.all n).2 (.inr ⟨y, hy, hm⟩))
  have hxm : x ∈ A ++ x :: B := by simp
  have hsub : ∀ y, y ∈ A ++ full x n :: B → y = full x n ∨ y ∈ A ++ x :: B := by
    intro y hy
    rcases List.mem_append.1 hy with e | e
    · exact .inr (List.mem_append_left _ e)
    · rcases List.mem_cons.1 e with e | e
      · exact .inl e
      · exact .inr (List.mem_append_right _ (List.mem_cons_of_mem _ e))
  refine ⟨fun y hy => ?_, ?_, fun m => ?_, fun m hm y hy => ?_⟩
  · rcases hsub y hy with e | e
    · rw [e]; exact ⟨vLE_full (h.ok x hxm).1 h0 hn (hfr x hxm), hc⟩
    · exact h.ok y e
  · have hp := h.apart
    rw [List.pairwise_append, List.pairwise_cons] at hp ⊢
    obtain ⟨p1, ⟨p2, p3⟩, p4⟩ := hp
    refine ⟨p1, ⟨fun y hy => ?_, p3⟩, fun y hy z hz => ?_⟩
    · have h1 := p2 y hy
      refine ⟨fun a ha hm => ?_, h1.2⟩
      rcases insS_mem.1 hm with e | e
      · exact hfr y (List.mem_append_right _ (List.mem_cons_of_mem _ hy)) (by rw [← e]; exact ha)
      · exact h1.1 a ha e
    · rcases List.mem_cons.1 hz with e | e
      · subst e
        have h1 := p4 y hy x List.mem_cons_self
        refine ⟨fun a ha hm => ?_, h1.2⟩
        rcases insS_mem.1 ha with e | e
        · exact hfr y (List.mem_append_left _ hy) (by rw [← e]; exact hm)
        · exact h1.1 a e hm
      · exact p4 y hy z (List.mem_cons_of_mem _ e)
  · rw [List.mem_append, List.mem_singleton, h.all m]
    constructor
    · rintro ((e | ⟨y, hy, hm⟩) | e)
      · exact .inl e
      · rcases List.mem_append.1 hy with e | e
        · exact .inr ⟨y, List.mem_append_left _ e, hm⟩
        · rcases List.mem_cons.1 e with e | e
          · subst e; exact .inr ⟨full y n, by simp, insS_mem.2 (.inr hm)⟩
          · exact .inr ⟨y, List.mem_append_right _ (List.mem_cons_of_mem _ e), hm⟩
      · exact .inr ⟨full x n, by simp, insS_mem.2 (.inl e)⟩
    · rintro (e | ⟨y, hy, hm⟩)
      · exact .inl (.inl e)
      · rcases hsub y hy with e | e
        · subst e
          rcases insS_mem.1 hm with e | e
          · exact .inr e
          · exact .inl (.inr ⟨x, hxm, e⟩)
        · exact .inl (.inr ⟨y, e, hm⟩)
  · intro hc2
    rcases hsub y hy with e | e
    · subst e
      rcases insS_mem.1 hc2 with e | e
      · exact hd ((h.all n).2 (.inl (by rw [← e]; exact hm)))
      · exact h.left m hm x hxm e
    · exact h.left m hm y e hc2
theorem fr_no {c : Int → Bool} : ∀ (k : Nat) (a : Int), c (a + k) = false → c (fr c k a) = false
  | 0, a, h => by simpa [fr] using h
  | k + 1, a, h => by
    unfold fr
    by_cases e : c a = true
    · rw [if_pos e]
      exact fr_no k (a + 1) (by rw [show a + 1 + (k : Int) = a + ((k + 1 : Nat) : Int) by omega]; exact h)
    · rw [if_neg e]; exact Bool.eq_false_iff.2 e
theorem fr_le {c : Int → Bool} : ∀ (k : Nat) (a : Int), a ≤ fr c k a ∧ fr c k a ≤ a + k
  | 0, a => by simp [fr]
  | k + 1, a => by
    unfold fr
    by_cases e : c a = true
    · rw [if_pos e]; have := fr_le (c := c) k (a + 1); omega
    · rw [if_neg e]; omega
theorem fr_more {c : Int → Bool} : ∀ (k : Nat) (a : Int), c a = true → fr c (k + 1) a = fr c k (a + 1)
  | k, a, h => by rw [fr, if_pos h]
/-- No load meets one that begins late. -/
theorem late_no {ls : List F} {gs : List G} {P : List L} (hG : ∀ k (hk : k < gs.length), okG gs[k] = true) (h : ∀ x ∈ P, vLE ls gs x = 0 ∧ ckx ls gs x = 0) {lo a : Int} {hs gl : List Int} (ha : 60 ≤ a) : mC P lo hs gl a = false := by
  apply Bool.eq_false_iff.2
  intro hc
  obtain ⟨y, hy, h2⟩ := List.any_eq_true.1 hc
  have hk := kept_of (by rw [slE_of (h y hy).1]; exact (h y hy).2)
  obtain ⟨_, _, _, hn, hst⟩ := vLE_iff.1 (h y hy).1
  have h3 := (stB_set.1 hst).2 _ (List.getElem_mem hn)
  obtain ⟨_, e2, _⟩ := hk.each 0 hn
  rw [getD_at hn] at e2
  have h4 := okG_iff.1 (hG (y.gs[0]).toNat (by omega))
  have h5 : gat gs y.gs[0] = gs[(y.gs[0]).toNat]'(by omega) := gat_at (by omega)
  rw [h5] at e2
  unfold mts at h2
  rw [Bool.and_eq_true, Bool.and_eq_true, decide_eq_true_eq, decide_eq_true_eq, decide_eq_true_eq] at h2
  have h6 : a < end' y := h2.2.1
  omega
theorem ckx_due {ls : List F} {gs : List G} {x : L} (h : ckx ls gs x = 0) : end' x ≤ (togA gs x.gs).u := by
  unfold ckx ckE at h
  by_cases c1 : (fat ls x.l).p < (togA gs x.gs).p
  · rw [if_pos c1] at h; omega
  · rw [if_neg c1] at h
    by_cases c2 : x.a < (togA gs x.gs).a
    · rw [if_pos c2] at h; omega
    · rw [if_neg c2] at h
      by_cases c3 : rng (togA gs x.gs).n (togA gs x.gs).m (wm (fat ls x.l).rs x.hs x.hs.length) = true
      · rw [if_pos c3] at h
        by_cases c4 : (togA gs x.gs).u < end' x
        · rw [if_pos c4] at h; omega
        · omega
      · rw [if_neg c3] at h; omega
theorem bgI_ok {ls : List F} {gs : List G} {P : List L} {lf dn : List Int} {n : Int} {lo : Nat} {l : L} (hF : ∀ k (hk : k < ls.length), okF ls[k] = true) (hG : ∀ k (hk : k < gs.length), okG gs[k] = true) (h : PI ls gs P lf dn) (h0 : 0 ≤ n) (hn : n < gs.length) (hlo : lo < ls.length) (hb : bgI ls gs P n lo = some l) :
    (vLE ls gs l = 0 ∧ ckx ls gs l = 0) ∧ l.gs = [n] ∧ ∀ y ∈ P, mts l y = false := by
  unfold bgI at hb
  by_cases c : 0 < dN (fat ls lo).rs (gat gs n).n (gat gs n).m ∧ ckx ls gs (newL ls gs P n lo) = 0
  · rw [if_pos c] at hb
    injection hb with hb
    subst hb
    have hg := okG_iff.1 (hG n.toNat (by omega))
    have hgat : gat gs n = gs[n.toNat]'(by omega) := gat_at (by omega)
    have hfat : fat ls (lo : Int) = ls[lo] := by unfold fat; simp [hlo]
    have hpr := prg_ok (p := ls[lo].p) (rs := ls[lo].rs) (n := (gat gs n).n) (m := (gat gs n).m) (hF lo hlo) (isRp_iff.2 (by rw [hgat]; omega)) (by rw [← hfat]; exact c.1)
    have hfl := fr_le (c := mC P lo (nhs ls gs n lo) [n]) 61 (gat gs n).a
    have hdue := ckx_due c.2
    have htog : togA gs [n] = gat gs n := rfl
    have hend : end' (newL ls gs P n lo) = (newL ls gs P n lo).a + ((nhs ls gs n lo).length : Int) := rfl
    have hhs : vHt (nhs ls gs n lo) = true := by unfold nhs; rw [hfat]; exact hpr.1
    have hlen := (vHt_iff.1 hhs).1
    have hA : (newL ls gs P n lo).a = fr (mC P lo (nhs ls gs n lo) [n]) 61 (gat gs n).a := rfl
    have hdu2 : (togA gs (newL ls gs P n lo).gs).u = (gat gs n).u := rfl
    rw [hdu2] at hdue
    refine ⟨⟨vLE_iff.2 ⟨⟨by show (0 : Int) ≤ (lo : Int); omega, by show (lo : Int) ≤ _; omega⟩, ⟨by rw [hA, hgat] at *; omega, by rw [hgat] at *; omega⟩, hhs, by show 0 < [n].length; simp, stB_set.2 ⟨by show [n].Pairwise _; simp, fun m hm => ?_⟩⟩, c.2⟩, rfl, fun y hy => ?_⟩
    · have : m = n := by simpa [newL] using hm
      rw [this]; exact ⟨h0, hn⟩
    · have hno := fr_no (c := mC P lo (nhs ls gs n lo) [n]) 61 (gat gs n).a (late_no hG h.ok (by rw [hgat]; omega))
      apply Bool.eq_false_iff.2
      intro hc
      have : mC P lo (nhs ls gs n lo) [n] (fr (mC P lo (nhs ls gs n lo) [n]) 61 (gat gs n).a) = true := List.any_eq_true.2 ⟨y, hy, hc⟩
      rw [this] at hno; cases hno
  · rw [if_neg c] at hb; cases hb
theorem bet_cases {b c : Option L} {l : L} (h : bet b c = some l) : b = some l ∨ c = some l := by
  unfold bet at h
  cases c with
  | none => exact .inl h
  | some x =>
    cases b with
    | none => exact .inr h
    | some o =>
      dsimp only at h
      by_cases e : end' x < end' o
      · rw [if_pos e] at h; exact .inr h
      · rw [if_neg e] at h; exact .inl h
theorem bgB_from {ls : List F} {gs : List G} {P : List L} {n : Int} {l : L} : ∀ k, bgB ls gs P n k = some l → ∃ lo : Nat, lo < k ∧ bgI ls gs P n lo = some l
  | 0, h => by cases h
  | k + 1, h => by
    rcases bet_cases h with e | e
    · obtain ⟨lo, h1, h2⟩ := bgB_from k e
      exact ⟨lo, by omega, h2⟩
    · exact ⟨k, by omega, e⟩
theorem PI.add {ls : List F} {gs : List G} {P : List L} {lf dn : List Int} {n : Int} {l : L} (h : PI ls gs P lf dn) (hd : n ∉ dn) (hl : (vLE ls gs l = 0 ∧ ckx ls gs l = 0) ∧ l.gs = [n] ∧ ∀ y ∈ P, mts l y = false) : PI ls gs (P ++ [l]) lf (dn ++ [n]) := by
  have hfr : ∀ y ∈ P, n ∉ y.gs := fun y hy hm => hd ((h.all n).2 (.inr ⟨y, hy, hm⟩))
  refine ⟨fun y hy => ?_, ?_, fun m => ?_, fun m hm y hy => ?_⟩
  · rcases List.mem_append.1 hy with e | e
    · exact h.ok y e
    · rw [List.mem_singleton.1 e]; exact hl.1
  · rw [List.pairwise_append]
    refine ⟨h.apart, by simp, fun y hy z hz => ?_⟩
    rw [List.mem_singleton.1 hz, hl.2.1]
    exact ⟨fun a ha hm => hfr y hy (by rw [← List.mem_singleton.1 ha]; exact hm), hl.2.2 y hy⟩
  · rw [List.mem_append, List.mem_singleton, h.all m]
    constructor
    · rintro ((e | ⟨y, hy, hm⟩) | e)
      · exact .inl e
      · exact .inr ⟨y, List.mem_append_left _ hy, hm⟩
      · exact .inr ⟨l, by simp, by rw [hl.2.1, e]; simp⟩
    · rintro (e | ⟨y, hy, hm⟩)
      · exact .inl (.inl e)
      · rcases List.mem_append.1 hy with e | e
        · exact .inl (.inr ⟨y, e, hm⟩)
        · rw [List.mem_singleton.1 e, hl.2.1] at hm
          exact .inr (List.mem_singleton.1 hm)
  · rcases List.mem_append.1 hy with e | e
    · exact h.left m hm y e
    · rw [List.mem_singleton.1 e, hl.2.1]
      intro hc
      exact hd ((h.all n).2 (.inl (by rw [← List.mem_singleton.1 hc]; exact hm)))
theorem PI.rest {ls : List F} {gs : List G} {P : List L} {lf dn : List Int} {n : Int} (h : PI ls gs P lf dn) (hd : n ∉ dn) : PI ls gs P (lf ++ [n]) (dn ++ [n]) := by
  refine ⟨h.ok, h.apart, fun m => ?_, fun m hm y hy => ?_⟩
  · rw [List.mem_append, List.mem_singleton, h.all m, List.mem_append, List.mem_singleton]
    constructor
    · rintro ((e | e) | e)
      · exact .inl (.inl e)
      · exact .inr e
      · exact .inl (.inr e)
    · rintro ((e | e) | e)
      · exact .inl (.inl e)
      · exact .inr e
      · exact .inl (.inr e)
  · rcases List.mem_append.1 hm with e | e
    · exact h.left m e y hy
    · rw [List.mem_singleton.1 e]
      exact fun hc => hd ((h.all n).2 (.inr ⟨y, hy, hc⟩))
theorem PI.step {ls : List F} {gs : List G} {s : List L × List Int} {dn : List Int} {n : Int} (hF : ∀ k (hk : k < ls.length), okF ls[k] = true) (hG : ∀ k (hk : k < gs.length), okG gs[k] = true) (h : PI ls gs s.1 s.2 dn) (h0 : 0 ≤ n) (hn : n < gs.length) (hd : n ∉ dn) : PI ls gs (stP ls gs s n).1 (stP ls gs s n).2 (dn ++ [n]) := by
  unfold stP
  cases hp : putF ls gs n s.1 with
  | some q => exact h.put h0 hn hd hp
  | none =>
    cases hb : bgB ls gs s.1 n ls.length with
    | some l =>
      obtain ⟨lo, h1, h2⟩ := bgB_from _ hb
      exact h.add hd (bgI_ok hF hG h h0 hn h1 h2)
    | none => exact h.rest hd
theorem PI.fold {ls : List F} {gs : List G} (hF : ∀ k (hk : k < ls.length), okF ls[k] = true) (hG : ∀ k (hk : k < gs.length), okG gs[k] = true) : ∀ (l : List Int) (s : List L × List Int) (dn : List Int), PI ls gs s.1 s.2 dn → (∀ n ∈ l, 0 ≤ n ∧ n < gs.length) → (dn ++ l).Nodup → PI ls gs (l.foldl (stP ls gs) s).1 (l.foldl (stP ls gs) s).2 (dn ++ l)
  | [], s, dn, h, _, _ => by simpa using h
  | n :: l, s, dn, h, hr, hnd => by
    rw [List.foldl_cons]
    have hd : n ∉ dn := fun hc => by
      rw [List.nodup_append] at hnd
      exact hnd.2.2 n hc n List.mem_cons_self rfl
    have h1 := h.step hF hG (hr n List.mem_cons_self).1 (hr n List.mem_cons_self).2 hd
    have := PI.fold hF hG l _ (dn ++ [n]) h1 (fun m hm => hr m (List.mem_cons_of_mem _ hm)) (by rw [List.append_assoc]; exact hnd)
    rw [List.append_assoc] at this
    exact this
theorem PI.start (ls : List F) (gs : List G) : PI ls gs [] [] [] := ⟨fun x hx => absurd hx List.not_mem_nil, List.Pairwise.nil, fun n => by simp, fun n hn => absurd hn List.not_mem_nil⟩
theorem ckL_of {ls : List F} {gs : List G} {P : List L} (h : ∀ j (hj : j < P.length), ldE ls gs (P.take j) P[j] = 0) : ∀ n k, n + k = P.length → ckL ls gs P n k = if cov gs P = true then 0 else 11
  | 0, _, _ => by rw [ckL]
  | n + 1, k, e => by
    rw [ckL, show P.getD k default = P[k]'(by omega) by simp [show k < P.length by omega], if_pos (h k (by omega))]
    exact ckL_of h n (k + 1) (by omega)
theorem PI.loads {ls : List F} {gs : List G} {P : List L} {lf dn : List Int} (h : PI ls gs P lf dn) (j : Nat) (hj : j < P.length) : ldE ls gs (P.take j) P[j] = 0 := by
  have h1 := h.ok _ (List.getElem_mem hj)
  unfold ldE
  rw [slE_of h1.1, if_pos h1.2]
  have h2 : (P.take j).any (shr P[j]) = false := by
    apply Bool.eq_false_iff.2
    intro hc
    obtain ⟨y, hy, h3⟩ := List.any_eq_true.1 hc
    obtain ⟨i, hi, rfl⟩ := List.mem_iff_getElem.1 hy
    rw [List.length_take] at hi
    rw [List.getElem_take] at h3
    have := (List.pairwise_iff_getElem.1 h.apart i j (by omega) hj (by omega)).1
    rw [shr_no.2 this] at h3; cases h3
  have h4 : (P.take j).any (mts P[j]) = false := by
    apply Bool.eq_false_iff.2
    intro hc
    obtain ⟨y, hy, h3⟩ := List.any_eq_true.1 hc
    obtain ⟨i, hi, rfl⟩ := List.mem_iff_getElem.1 hy
    rw [List.length_take] at hi
    rw [List.getElem_take] at h3
    have := (List.pairwise_iff_getElem.1 h.apart i j (by omega) hj (by omega)).2
    rw [this] at h3; cases h3
  rw [h2, h4]; rfl
theorem cov_iff {gs : List G} {P : List L} : cov gs P = true ↔ ∀ n : Nat, n < gs.length → ∃ x ∈ P, (n : Int) ∈ x.gs := by
  unfold cov hsG
  rw [List.all_eq_true]
  constructor
  · intro h n hn
    obtain ⟨x, hx, h2⟩ := List.any_eq_true.1 (h n (List.mem_range.2 hn))
    obtain ⟨m, hm, h3⟩ := List.any_eq_true.1 h2
    exact ⟨x, hx, by rw [← of_decide_eq_true h3]; exact hm⟩
  · intro h n hn
    obtain ⟨x, hx, h2⟩ := h n (List.mem_range.1 hn)
    exact List.any_eq_true.2 ⟨x, hx, List.any_eq_true.2 ⟨_, h2, by simp⟩⟩
/-- The plan and what is left: accepted exactly if nothing is left. -/
theorem plan_ok {ls : List F} {gs : List G} (hv : bthE ls gs = 0) {l : List Int} (hr : ∀ n, n ∈ l ↔ 0 ≤ n ∧ n < (gs.length : Int)) (hnd : l.Nodup) : (chkE ls gs (l.foldl (stP ls gs) ([], [])).1 = 0 ↔ (l.foldl (stP ls gs) ([], [])).2 = []) ∧ PI ls gs (l.foldl (stP ls gs) ([], [])).1 (l.foldl (stP ls gs) ([], [])).2 l := by
  have h := PI.fold (valF_zero (bth_zero hv).1).2 (valG_zero (bth_zero hv).2).2 l ([], []) [] (PI.start ls gs) (fun n hn => (hr n).1 hn) (by simpa using hnd)
  rw [List.nil_append] at h
  refine ⟨?_, h⟩
  generalize (l.foldl (stP ls gs) ([], [])).1 = P at *
  generalize (l.foldl (stP ls gs) ([], [])).2 = lf at *
  rw [chkE, if_pos hv, ckL_of h.loads P.length 0 (by omega)]
  constructor
  · intro hc
    by_cases c : cov gs P = true
    · apply List.eq_nil_iff_forall_not_mem.2
      intro n hn
      have h1 := (hr n).1 ((h.all n).2 (.inl hn))
      obtain ⟨x, hx, h2⟩ := cov_iff.1 c n.toNat (by omega)
      exact h.left n hn x hx (by rw [show n = ((n.toNat : Nat) : Int) by omega]; exact h2)
    · rw [if_neg c] at hc; omega
  · intro hl
    rw [if_pos]
    refine cov_iff.2 fun n hn => ?_
    rcases (h.all (n : Int)).1 ((hr n).2 ⟨by omega, by omega⟩) with e | e
    · rw [hl] at e; cases e
    · exact e
end Lf
end Go.Proofs.Ytabfcnfddemblaa
