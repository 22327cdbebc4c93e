/- What is known of a load, and the errors of it by itself: of the program. -/
import Derived.Test.YtabfcnfddemblaaLf42
namespace Go.Proofs.Ytabfcnfddemblaa.Lo
open Go.RowKit

set_option maxRecDepth 100000 in
set_option maxHeartbeats 2000000 in
theorem checkK_any (l a : Int) (ua : Option Addr) (n uc : Nat) (v : Value) (r m : Int) (t : Lf.G) (w : World) (ha : 0 ≤ a ∧ a ≤ 1000) (hn : n ≤ 1000) :
    Calls Try.prog 87 #[kvV l a (.slice ua n uc) v r m t] w fun e w' => e = .returned (.int .i64 (if r < t.p then 6 else if a < t.a then 7 else if Lf.rng t.n t.m m = true then (if t.u < a + (n : Int) then 12 else 0) else 9)) ∧ Below w.heap.size w w' := by
  have HX := Lib.hid (And.intro (BlockAt.new w (kvA l a (.slice ua n uc) v r m t) KvT) (below_alloc2 (Below.refl w.heap.size w) (.cells (kvA l a (.slice ua n uc) v r m t) KvT)))
  have CE := Lib.hid (fun W => endK_any l a ua n uc v r m t W ha hn)
  have CF := Lib.hid (fun W => isFrom_any t.n t.m m W)
  obtain ⟨tp, tn, tm, ta, tu⟩ := t
  dsimp only at *
  have x0 : World.cell? _ _ = some (.int .i64 l) := HX.out.1.cell 0
  have x1 : World.cell? _ _ = some (.int .i64 a) := HX.out.1.cell 1
  have x2 : World.cell? _ _ = some (.slice ua n uc) := HX.out.1.cell 2
  have x3 : World.cell? _ _ = some (v) := HX.out.1.cell 3
  have x4 : World.cell? _ _ = some (.int .i64 r) := HX.out.1.cell 4
  have x5 : World.cell? _ _ = some (.int .i64 m) := HX.out.1.cell 5
  have x6 : World.cell? _ _ = some (.int .i64 tp) := HX.out.1.cell 6
  have x7 : World.cell? _ _ = some (.int .i64 tn) := HX.out.1.cell 7
  have x8 : World.cell? _ _ = some (.int .i64 tm) := HX.out.1.cell 8
  have x9 : World.cell? _ _ = some (.int .i64 ta) := HX.out.1.cell 9
  have x10 : World.cell? _ _ = some (.int .i64 tu) := HX.out.1.cell 10
  by_cases h1 : r < tp
  · rw [if_pos h1]
    have d1 : decide (r < tp) = true := decide_eq_true h1
    have d2 : decide (tp > r) = true := decide_eq_true h1
    clear h1 CE CF
    go_enter Try.func87, Try.ntmps87
    go_wp2
    go_ret
    exact ⟨rfl, HX.out.2⟩
  rw [if_neg h1]
  have d1 : decide (r < tp) = false := decide_eq_false h1
  have d2 : decide (tp > r) = false := decide_eq_false h1
  clear h1
  by_cases h1 : a < ta
  · rw [if_pos h1]
    have d3 : decide (a < ta) = true := decide_eq_true h1
    clear h1 CE CF
    go_enter Try.func87, Try.ntmps87
    go_wp2
    go_ret
    exact ⟨rfl, HX.out.2⟩
  rw [if_neg h1]
  have d3 : decide (a < ta) = false := decide_eq_false h1
  clear h1
  cases hr : Lf.rng tn tm m
  · rw [if_neg (by decide)]
    rw [hr] at CF
    clear hr CE
    go_enter Try.func87, Try.ntmps87
    go_wp2_with fail
    refine (CF.out _).mono ?_
    rintro e w7 ⟨rfl, rfl⟩
    go_wp2
    go_ret
    exact ⟨rfl, HX.out.2⟩
  rw [if_pos rfl]
  rw [hr] at CF
  clear hr
  obtain ⟨E, hE⟩ : ∃ E, E = a + (n : Int) := ⟨_, rfl⟩
  rw [← hE] at CE ⊢
  obtain ⟨b, hb⟩ : ∃ b, b = decide (tu < E) := ⟨_, rfl⟩
  have d4 : decide (tu < E) = b := hb.symm
  have d5 : decide (E > tu) = b := hb.symm
  have HE : Hid ((if tu < E then (12 : Int) else 0) = if b = true then 12 else 0) := Lib.hid (by rw [hb]; by_cases c : tu < E; rw [if_pos c, if_pos (decide_eq_true c)]; rw [if_neg c, if_neg (by simpa using c)])
  rw [HE.out]
  clear hE hb HE
  go_enter Try.func87, Try.ntmps87
  go_wp2_with fail
  refine (CF.out _).mono ?_
  rintro e w7 ⟨rfl, rfl⟩
  have HS0 := Lib.hid (show (fun W => W.cell? ⟨w.heap.size, 0, none⟩ = some (.int .i64 l) ∧ W.cell? ⟨w.heap.size, 1, none⟩ = some (.int .i64 a) ∧ W.cell? ⟨w.heap.size, 2, none⟩ = some (.slice ua n uc) ∧ W.cell? ⟨w.heap.size, 3, none⟩ = some v ∧ W.cell? ⟨w.heap.size, 4, none⟩ = some (.int .i64 r) ∧ W.cell? ⟨w.heap.size, 5, none⟩ = some (.int .i64 m) ∧ W.cell? ⟨w.heap.size, 6, none⟩ = some (.int .i64 tp) ∧ W.cell? ⟨w.heap.size, 7, none⟩ = some (.int .i64 tn) ∧ W.cell? ⟨w.heap.size, 8, none⟩ = some (.int .i64 tm) ∧ W.cell? ⟨w.heap.size, 9, none⟩ = some (.int .i64 ta) ∧ W.cell? ⟨w.heap.size, 10, none⟩ = some (.int .i64 tu)) (w.alloc (.cells (kvA l a (.slice ua n uc) v r m ⟨tp, tn, tm, ta, tu⟩) KvT)).drew from ⟨(HX.out.1.drew).cell 0, (HX.out.1.drew).cell 1, (HX.out.1.drew).cell 2, (HX.out.1.drew).cell 3, (HX.out.1.drew).cell 4, (HX.out.1.drew).cell 5, (HX.out.1.drew).cell 6, (HX.out.1.drew).cell 7, (HX.out.1.drew).cell 8, (HX.out.1.drew).cell 9, (HX.out.1.drew).cell 10⟩)
  have HX2 := Lib.hid (And.intro HX.out.1.drew (below_drewN HX.out.2 1))
  clear CF
  go_wp2_with fail
  clear x0 x1 x2 x3 x4 x5 x6 x7 x8 x9 x10
  refine wp_region_seq [(0, true), (2, true), (3, true), (4, true), (1, false), (5, true), (6, true)] (fun W => W.cell? ⟨w.heap.size, 0, none⟩ = some (.int .i64 l) ∧ W.cell? ⟨w.heap.size, 1, none⟩ = some (.int .i64 a) ∧ W.cell? ⟨w.heap.size, 2, none⟩ = some (.slice ua n uc) ∧ W.cell? ⟨w.heap.size, 3, none⟩ = some v ∧ W.cell? ⟨w.heap.size, 4, none⟩ = some (.int .i64 r) ∧ W.cell? ⟨w.heap.size, 5, none⟩ = some (.int .i64 m) ∧ W.cell? ⟨w.heap.size, 6, none⟩ = some (.int .i64 tp) ∧ W.cell? ⟨w.heap.size, 7, none⟩ = some (.int .i64 tn) ∧ W.cell? ⟨w.heap.size, 8, none⟩ = some (.int .i64 tm) ∧ W.cell? ⟨w.heap.size, 9, none⟩ = some (.int .i64 ta) ∧ W.cell? ⟨w.heap.size, 10, none⟩ = some (.int .i64 tu))
    (by kernel_rfl) (by kernel_rfl) (by kernel_rfl) (by kernel_rfl) (fun d _ _ _ _ h => by cases d <;> exact h) HS0.out (fun _ => ?_)
  repeat (first | (refine SeqH.take (v := ?_) rfl (by rfl) ?_ ?_; rotate_left; (· intro w hSw; (try dsimp only at hSw); obtain ⟨q0, q1, q2, q3, q4, q5, q6, q7, q8, q9, q10⟩ := hSw; go_simp; (try with_reducible rfl)); simp only [Act.put, List.setIfInBounds_toArray, List.set_cons_zero, List.set_cons_succ]) | (refine SeqH.skip rfl (by rfl) ?_; simp only [Act.put, List.setIfInBounds_toArray, List.set_cons_zero, List.set_cons_succ]))
  refine SeqH.step rfl (by rfl) (fun K hK => ?_)
  go_simp
  go_at_call 127
  refine (CE.out _).mono ?_
  rintro e w7 ⟨rfl, hb1⟩
  try dsimp only
  have HX3 := Lib.hid (And.intro (HX2.out.1.below hb1 HX2.out.1.lt) (below_step HX2.out.2 hb1))
  have HS1 := Lib.hid (show (fun W => W.cell? ⟨w.heap.size, 0, none⟩ = some (.int .i64 l) ∧ W.cell? ⟨w.heap.size, 1, none⟩ = some (.int .i64 a) ∧ W.cell? ⟨w.heap.size, 2, none⟩ = some (.slice ua n uc) ∧ W.cell? ⟨w.heap.size, 3, none⟩ = some v ∧ W.cell? ⟨w.heap.size, 4, none⟩ = some (.int .i64 r) ∧ W.cell? ⟨w.heap.size, 5, none⟩ = some (.int .i64 m) ∧ W.cell? ⟨w.heap.size, 6, none⟩ = some (.int .i64 tp) ∧ W.cell? ⟨w.heap.size, 7, none⟩ = some (.int .i64 tn) ∧ W.cell? ⟨w.heap.size, 8, none⟩ = some (.int .i64 tm) ∧ W.cell? ⟨w.heap.size, 9, none⟩ = some (.int .i64 ta) ∧ W.cell? ⟨w.heap.size, 10, none⟩ = some (.int .i64 tu)) w7 from ⟨(HX3.out.1).cell 0, (HX3.out.1).cell 1, (HX3.out.1).cell 2, (HX3.out.1).cell 3, (HX3.out.1).cell 4, (HX3.out.1).cell 5, (HX3.out.1).cell 6, (HX3.out.1).cell 7, (HX3.out.1).cell 8, (HX3.out.1).cell 9, (HX3.out.1).cell 10⟩)
  clear hb1 HX2 HS0
  refine hK.out _ _ (HS1.out) (fun _ => ?_)
  clear hK K
  try simp only [Act.put, List.setIfInBounds_toArray, List.set_cons_zero, List.set_cons_succ]
  repeat (first | (refine SeqH.take (v := ?_) rfl (by rfl) ?_ ?_; rotate_left; (· intro w hSw; (try dsimp only at hSw); obtain ⟨q0, q1, q2, q3, q4, q5, q6, q7, q8, q9, q10⟩ := hSw; go_simp; (try with_reducible rfl)); simp only [Act.put, List.setIfInBounds_toArray, List.set_cons_zero, List.set_cons_succ]) | (refine SeqH.skip rfl (by rfl) ?_; simp only [Act.put, List.setIfInBounds_toArray, List.set_cons_zero, List.set_cons_succ]))
  refine SeqH.done ?_
  cases b
  · go_wp2
    go_ret
    exact ⟨rfl, HX3.out.2⟩
  · go_wp2
    go_ret
    exact ⟨rfl, HX3.out.2⟩
theorem vLE_zero {ls : List Lf.F} {gs : List Lf.G} {x : Lf.L} (h : Lf.vLE ls gs x = 0) : (0 ≤ x.l ∧ x.l ≤ (ls.length : Int) - 1) ∧ (0 ≤ x.a ∧ x.a ≤ 60) ∧ Lf.vHt x.hs = true ∧ 0 < x.gs.length ∧ Lf.stB x.gs gs.length = true := by
  unfold Lf.vLE at h
  by_cases c : Lf.rng 0 ((ls.length : Int) - 1) x.l = true
  · rw [if_pos c] at h
    by_cases c2 : (Lf.rng 0 60 x.a && (Lf.vHt x.hs && (decide (0 < x.gs.length) && Lf.stB x.gs gs.length))) = true
    · simp only [Bool.and_eq_true, decide_eq_true_eq] at c2
      exact ⟨Lf.rng_iff.1 c, Lf.rng_iff.1 c2.1, c2.2.1, c2.2.2.1, c2.2.2.2⟩
    · rw [if_neg c2] at h; omega
  · rw [if_neg c] at h; omega
theorem rt_bd {l : List Int} (h : ∀ k, k < 5 → Lf.okRt l k = true) : ∀ k, k < 5 → 0 ≤ l.getD k 0 ∧ l.getD k 0 ≤ 9 := by
  have low : ∀ k, k ≤ 5 → 0 ≤ Lf.lst l k := by
    intro k
    induction k with
    | zero => intro _; exact Int.le_refl _
    | succ k ih =>
      intro hk
      have a := ih (by omega)
      have b := Lf.rng_iff.1 (h k (by omega))
      rw [lst_succ]; omega
  intro k hk
  have a := low k (by omega)
  have b := Lf.rng_iff.1 (h k hk)
  omega
theorem lofts_row {w : World} {a : Option Addr} {n c : Nat} {ls : List Lf.F} (h : Lofts w (.slice a n c) ls) : ∀ k (hk : k < ls.length), ∃ b off, a = some ⟨b, off, none⟩ ∧ b < w.heap.size ∧ LofAt w b (off + k * 2) ls[k] := by
  obtain ⟨a2, c2, e, _, hk⟩ := h
  injection e with e1 e2 e3
  subst e1
  exact hk
/-- Stores one after another into a block. -/
def setsW (W : World) (B : Nat) : Nat → List Value → World
  | _, [] => W
  | i, v :: r => setsW (W.setCell ⟨B, i, none⟩ v) B (i + 1) r
def setsA (cs : Array Value) : Nat → List Value → Array Value
  | _, [] => cs
  | i, v :: r => setsA (cs.setIfInBounds i v) (i + 1) r
theorem setsW_block {B : Nat} {t : TypeId} : ∀ (vs : List Value) (i : Nat) (W : World) (cs : Array Value), BlockAt W B cs t → BlockAt (setsW W B i vs) B (setsA cs i vs) t
  | [], _, _, _, h => h
  | v :: r, i, _, _, h => setsW_block r (i + 1) _ _ (h.set i v)
theorem setsW_below {B N : Nat} {A : World} (hN : N ≤ B) : ∀ (vs : List Value) (i : Nat) (W : World), Below N A W → Below N A (setsW W B i vs)
  | [], _, _, h => h
  | v :: r, i, _, h => setsW_below hN r (i + 1) _ (h.setCell (p := ⟨B, i, none⟩) hN v)
theorem setsW_other {B B2 : Nat} {cs : Array Value} {t : TypeId} (hne : B2 ≠ B) : ∀ (vs : List Value) (i : Nat) (W : World), BlockAt W B2 cs t → BlockAt (setsW W B i vs) B2 cs t
  | [], _, _, h => h
  | v :: r, i, _, h => setsW_other hne r (i + 1) _ (h.other (i := i) hne v)
theorem setsA11 (a0 a1 a2 a3 a4 a5 a6 a7 a8 a9 a10 : Value) : setsA kvZ 0 [a0, a1, a2, a3, a4, a5, a6, a7, a8, a9, a10] = #[a0, a1, a2, a3, a4, a5, a6, a7, a8, a9, a10] := by simp [setsA]
theorem store11 {W Y : World} {B : Nat} {a0 a1 a2 a3 a4 a5 a6 a7 a8 a9 a10 : Value} (h : BlockAt W B kvZ KvT) (hY : setsW W B 0 [a0, a1, a2, a3, a4, a5, a6, a7, a8, a9, a10] = Y) :
    BlockAt Y B #[a0, a1, a2, a3, a4, a5, a6, a7, a8, a9, a10] KvT ∧ (∀ N A, Below N A W → N ≤ B → Below N A Y) ∧ ∀ B2 cs t, BlockAt W B2 cs t → B2 ≠ B → BlockAt Y B2 cs t := by
  subst hY
  refine ⟨?_, fun N A hA hN => setsW_below hN _ 0 W hA, fun B2 cs t h2 hne => setsW_other hne _ 0 W h2⟩
  have := setsW_block [a0, a1, a2, a3, a4, a5, a6, a7, a8, a9, a10] 0 W kvZ h
  rw [setsA11] at this
  exact this
/-- What lies in memory while a load gets known. -/
def KnS (w : World) (u v : Value) (l a : Int) (p q : Value) (fp : Int) (fv : Value) (W : World) : Prop := BlockAt W w.heap.size #[u, v] DemT ∧ BlockAt W (w.heap.size + 1) (ldA l a p q) LoadT ∧ BlockAt W (w.heap.size + 2) kvZ KvT ∧ BlockAt W (w.heap.size + 3) (loftA fp fv) LoftT ∧ Below w.heap.size w W
theorem KnS.step {w : World} {u v p q fv : Value} {l a fp : Int} {W W2 : World} (h : KnS w u v l a p q fp fv W) (hb : Below W.heap.size W W2) : KnS w u v l a p q fp fv W2 := ⟨h.1.below hb h.1.lt, h.2.1.below hb h.2.1.lt, h.2.2.1.below hb h.2.2.1.lt, h.2.2.2.1.below hb h.2.2.2.1.lt, below_step h.2.2.2.2 hb⟩
def KnC (w : World) (u v : Value) (l a : Int) (p q : Value) (fp : Int) (fv : Value) (W : World) : Prop := W.cell? ⟨w.heap.size, 0, none⟩ = some u ∧ W.cell? ⟨w.heap.size, 1, none⟩ = some v ∧ W.cell? ⟨w.heap.size + 1, 0, none⟩ = some (.int .i64 l) ∧ W.cell? ⟨w.heap.size + 1, 1, none⟩ = some (.int .i64 a) ∧ W.cell? ⟨w.heap.size + 1, 2, none⟩ = some p ∧ W.cell? ⟨w.heap.size + 1, 3, none⟩ = some q ∧ W.cell? ⟨w.heap.size + 3, 0, none⟩ = some (.int .i64 fp) ∧ W.cell? ⟨w.heap.size + 3, 1, none⟩ = some fv
theorem KnS.cells {w : World} {u v p q fv : Value} {l a fp : Int} {W : World} (h : KnS w u v l a p q fp fv W) : KnC w u v l a p q fp fv W := ⟨h.1.cell 0, h.1.cell 1, h.2.1.cell 0, h.2.1.cell 1, h.2.1.cell 2, h.2.1.cell 3, h.2.2.2.1.cell 0, h.2.2.2.1.cell 1⟩
set_option maxRecDepth 100000 in
set_option maxHeartbeats 4000000 in
theorem know_any (u v p q : Value) (ls : List Lf.F) (gs : List Lf.G) (x : Lf.L) (w : World) (hu : Lofts w u ls) (hv : Goods w v gs) (hp : Ints w p x.hs) (hq : Ints w q x.gs) (hb0 : Lf.bthE ls gs = 0) (hx : Lf.vLE ls gs x = 0) :
    Calls Try.prog 86 #[.agg #[u, v], ldV x.l x.a p q] w fun e w' => e = .returned (kvV x.l x.a p q (Lf.fat ls x.l).p (Lf.wm (Lf.fat ls x.l).rs x.hs x.hs.length) (Lf.togA gs x.gs)) ∧ Below w.heap.size w w' := by
  obtain ⟨hF, h3, hG, h8⟩ := bth_ok hb0
  obtain ⟨hl, ha, hh, hn, hs⟩ := vLE_zero hx
  have CT := Lib.hid (fun W (hW : Below w.heap.size w W) (ua : Option Addr) (n1 uc : Nat) (va : Option Addr) (vc : Nat) (hvf : Goods W (.slice va gs.length vc) gs) => together_any ua va n1 uc vc q gs x.gs W hvf (hq.all hW) hn hG h8 hs)
  obtain ⟨k, hk⟩ : ∃ k : Nat, x.l = (k : Int) := ⟨x.l.toNat, by omega⟩
  have hkl : k < ls.length := by omega
  have hfat : Lf.fat ls x.l = ls[k] := by unfold Lf.fat; rw [hk]; simp [hkl]
  rw [hfat]
  have hok := Lf.okF_iff.1 (hF k hkl)
  have CW := Lib.hid (fun W (hW : Below w.heap.size w W) (fp : Int) (fv : Value) (hfv : Ints W fv (ls[k]'hkl).rs) => warm_any fp fv p (ls[k]'hkl).rs x.hs W hfv (hp.all hW) hok.2.1 (rt_bd hok.2.2) (fun j hj => Lf.okHt_at ((Lf.vHt_iff.1 hh).2 j hj)) (Lf.vHt_iff.1 hh).1.2)
  have HV := Lib.hid (fun W (hW : Below w.heap.size w W) => hv.all hW)
  obtain ⟨ua, uc, rfl⟩ := hu.form
  obtain ⟨va, vc, rfl⟩ := hv.form
  obtain ⟨fb, fo, rfl, hfb, hfc⟩ := lofts_row hu k hkl
  obtain ⟨fv, ⟨c0, c1⟩, hI⟩ := hfc
  obtain ⟨fa, fc, rfl⟩ := hI.form
  obtain ⟨pa, pc, rfl⟩ := hp.form
  obtain ⟨qa, qc, rfl⟩ := hq.form
  obtain ⟨gl', hgl'⟩ : ∃ z, z = gs.length := ⟨_, rfl⟩
  obtain ⟨W1, hW1⟩ : ∃ W, W = (((w.alloc (.cells #[.slice (some ⟨fb, fo, none⟩) ls.length uc, .slice va gs.length vc] DemT)).alloc (.cells (ldA x.l x.a (.slice pa x.hs.length pc) (.slice qa x.gs.length qc)) LoadT)).alloc (.cells kvZ KvT)).alloc (.cells (loftA ls[k].p (.slice fa ls[k].rs.length fc)) LoftT) := ⟨_, rfl⟩
  have hT1 : KnS w (.slice (some ⟨fb, fo, none⟩) ls.length uc) (.slice va gs.length vc) x.l x.a (.slice pa x.hs.length pc) (.slice qa x.gs.length qc) ls[k].p (.slice fa ls[k].rs.length fc) W1 := by
    rw [hW1]
    refine ⟨(((BlockAt.new w _ DemT).alloc _).alloc _).alloc _, ?_, ?_, ?_, below_alloc2 (below_alloc2 (below_alloc2 (below_alloc2 (Below.refl w.heap.size w) _) _) _) _⟩
    · have := ((BlockAt.new (w.alloc (.cells #[.slice (some ⟨fb, fo, none⟩) ls.length uc, .slice va gs.length vc] DemT)) (ldA x.l x.a (.slice pa x.hs.length pc) (.slice qa x.gs.length qc)) LoadT).alloc (.cells kvZ KvT)).alloc (.cells (loftA ls[k].p (.slice fa ls[k].rs.length fc)) LoftT)
      simpa using this
    · have := (BlockAt.new ((w.alloc (.cells #[.slice (some ⟨fb, fo, none⟩) ls.length uc, .slice va gs.length vc] DemT)).alloc (.cells (ldA x.l x.a (.slice pa x.hs.length pc) (.slice qa x.gs.length qc)) LoadT)) kvZ KvT).alloc (.cells (loftA ls[k].p (.slice fa ls[k].rs.length fc)) LoftT)
      simpa using this
    · have := BlockAt.new (((w.alloc (.cells #[.slice (some ⟨fb, fo, none⟩) ls.length uc, .slice va gs.length vc] DemT)).alloc (.cells (ldA x.l x.a (.slice pa x.hs.length pc) (.slice qa x.gs.length qc)) LoadT)).alloc (.cells kvZ KvT)) (loftA ls[k].p (.slice fa ls[k].rs.length fc)) LoftT
      simpa using this
  have HT := Lib.hid (And.intro hW1 hT1)
  have HI := Lib.hid (fun W (hW : Below w.heap.size w W) => hI.all hW)
  have HVV := Lib.hid (fun W (hW : Below w.heap.size w W) => HV.out W hW)
  clear hu hv hp hq hI hW1 hT1 hb0 hx hF hG hh hs hok hfat HV hgl' gl'
  generalize Lf.wm ls[k].rs x.hs x.hs.length = M at *
  generalize Lf.togA gs x.gs = T at *
  generalize ls[k] = f at *
  obtain ⟨fp, fr⟩ := f
  obtain ⟨xl, xa, xh, xg⟩ := x
  obtain ⟨tp, tn, tm, ta, tu⟩ := T
  dsimp only at *
  subst hk
  have hk0 : decide ((k : Int) < 0) = false := decide_eq_false (by omega)
  go_enter Try.func86, Try.ntmps86
  have b3 := below_alloc2 (below_alloc2 (below_alloc2 (Below.refl w.heap.size w) (.cells #[.slice (some ⟨fb, fo, none⟩) ls.length uc, .slice va gs.length vc] DemT)) (.cells (ldA (k : Int) xa (.slice pa xh.length pc) (.slice qa xg.length qc)) LoadT)) (.cells kvZ KvT)
  have y0 := (b3.cell (p := ⟨fb, fo + k * 2, none⟩) hfb).trans c0
  have y1 := (b3.cell (p := ⟨fb, fo + k * 2 + 1, none⟩) hfb).trans c1
  clear b3 c0 c1
  have HC := Lib.hid (fun W (h : KnS w (.slice (some ⟨fb, fo, none⟩) ls.length uc) (.slice va gs.length vc) k xa (.slice pa xh.length pc) (.slice qa xg.length qc) fp (.slice fa fr.length fc) W) => KnS.cells h)
  go_wp2_with fail
  clear y0 y1
  rw [show (((w.alloc (.cells #[.slice (some ⟨fb, fo, none⟩) ls.length uc, .slice va gs.length vc] DemT)).alloc (.cells (ldA (k : Int) xa (.slice pa xh.length pc) (.slice qa xg.length qc)) LoadT)).alloc (.cells kvZ KvT)).alloc (.cells (loftA fp (.slice fa fr.length fc)) LoftT) = W1 from HT.out.1.symm]
  have H1 := Lib.hid (show KnS w (.slice (some ⟨fb, fo, none⟩) ls.length uc) (.slice va gs.length vc) k xa (.slice pa xh.length pc) (.slice qa xg.length qc) fp (.slice fa fr.length fc) W1.drew from ⟨HT.out.2.1.drew, HT.out.2.2.1.drew, HT.out.2.2.2.1.drew, HT.out.2.2.2.2.1.drew, below_drewN HT.out.2.2.2.2.2 1⟩)
  clear HT
  refine wp_region_seq [(0, true), (1, true), (2, true), (3, true), (4, true), (5, true), (7, true), (8, true), (9, true), (6, false), (10, false), (11, true), (12, false)] (KnC w (.slice (some ⟨fb, fo, none⟩) ls.length uc) (.slice va gs.length vc) k xa (.slice pa xh.length pc) (.slice qa xg.length qc) fp (.slice fa fr.length fc))
    (by kernel_rfl) (by kernel_rfl) (by kernel_rfl) (by kernel_rfl) (fun d _ _ _ _ h => by cases d <;> exact h) (HC.out _ H1.out) (fun _ => ?_)
  repeat (first | (refine SeqH.take (v := ?_) rfl (by rfl) ?_ ?_; rotate_left; (· intro w hSw; (try dsimp only at hSw); obtain ⟨q0, q1, q2, q3, q4, q5, q6, q7⟩ := hSw; go_simp; (try with_reducible rfl)); simp only [Act.put, List.setIfInBounds_toArray, List.set_cons_zero, List.set_cons_succ]) | (refine SeqH.skip rfl (by rfl) ?_; simp only [Act.put, List.setIfInBounds_toArray, List.set_cons_zero, List.set_cons_succ]))
  refine SeqH.step rfl (by rfl) (fun K hK => ?_)
  go_simp
  go_at_call 74
  refine (CW.out _ H1.out.2.2.2.2 fp (.slice fa fr.length fc) (HI.out _ H1.out.2.2.2.2)).mono ?_
  rintro e w7 ⟨rfl, hb1⟩
  try dsimp only
  have H2 := Lib.hid (H1.out.step hb1)
  clear hb1 H1 CW HI
  refine hK.out _ _ (HC.out _ H2.out) (fun _ => ?_)
  clear hK K
  try simp only [Act.put, List.setIfInBounds_toArray, List.set_cons_zero, List.set_cons_succ]
  repeat (first | (refine SeqH.take (v := ?_) rfl (by rfl) ?_ ?_; rotate_left; (· intro w hSw; (try dsimp only at hSw); obtain ⟨q0, q1, q2, q3, q4, q5, q6, q7⟩ := hSw; go_simp; (try with_reducible rfl)); simp only [Act.put, List.setIfInBounds_toArray, List.set_cons_zero, List.set_cons_succ]) | (refine SeqH.skip rfl (by rfl) ?_; simp only [Act.put, List.setIfInBounds_toArray, List.set_cons_zero, List.set_cons_succ]))
  refine SeqH.step rfl (by rfl) (fun K hK => ?_)
  go_simp
  go_at_call 126
  refine (CT.out _ H2.out.2.2.2.2 _ _ _ _ _ (HVV.out _ H2.out.2.2.2.2)).mono ?_
  rintro e w7 ⟨rfl, hb1⟩
  try dsimp only
  have H3 := Lib.hid (H2.out.step hb1)
  clear hb1 H2 CT HVV
  refine hK.out _ _ (HC.out _ H3.out) (fun _ => ?_)
  clear hK K
  try simp only [Act.put, List.setIfInBounds_toArray, List.set_cons_zero, List.set_cons_succ]
  repeat (first | (refine SeqH.take (v := ?_) rfl (by rfl) ?_ ?_; rotate_left; (· intro w hSw; (try dsimp only at hSw); obtain ⟨q0, q1, q2, q3, q4, q5, q6, q7⟩ := hSw; go_simp; (try with_reducible rfl)); simp only [Act.put, List.setIfInBounds_toArray, List.set_cons_zero, List.set_cons_succ]) | (refine SeqH.skip rfl (by rfl) ?_; simp only [Act.put, List.setIfInBounds_toArray, List.set_cons_zero, List.set_cons_succ]))
  have z0 : World.cell? _ ⟨w.heap.size + 1 + 1, 0, none⟩ = some (.int .i64 0) := H3.out.2.2.1.cell 0
  have f0 : World.frozen? _ ⟨w.heap.size + 1 + 1, 0, none⟩ = false := H3.out.2.2.1.frozen 0
  have z1 : World.cell? _ ⟨w.heap.size + 1 + 1, 1, none⟩ = some (.int .i64 0) := H3.out.2.2.1.cell 1
  have f1 : World.frozen? _ ⟨w.heap.size + 1 + 1, 1, none⟩ = false := H3.out.2.2.1.frozen 1
  have z2 : World.cell? _ ⟨w.heap.size + 1 + 1, 2, none⟩ = some (.slice none 0 0) := H3.out.2.2.1.cell 2
  have f2 : World.frozen? _ ⟨w.heap.size + 1 + 1, 2, none⟩ = false := H3.out.2.2.1.frozen 2
  have z3 : World.cell? _ ⟨w.heap.size + 1 + 1, 3, none⟩ = some (.slice none 0 0) := H3.out.2.2.1.cell 3
  have f3 : World.frozen? _ ⟨w.heap.size + 1 + 1, 3, none⟩ = false := H3.out.2.2.1.frozen 3
  have z4 : World.cell? _ ⟨w.heap.size + 1 + 1, 4, none⟩ = some (.int .i64 0) := H3.out.2.2.1.cell 4
  have f4 : World.frozen? _ ⟨w.heap.size + 1 + 1, 4, none⟩ = false := H3.out.2.2.1.frozen 4
  have z5 : World.cell? _ ⟨w.heap.size + 1 + 1, 5, none⟩ = some (.int .i64 0) := H3.out.2.2.1.cell 5
  have f5 : World.frozen? _ ⟨w.heap.size + 1 + 1, 5, none⟩ = false := H3.out.2.2.1.frozen 5
  have z6 : World.cell? _ ⟨w.heap.size + 1 + 1, 6, none⟩ = some (.int .i64 0) := H3.out.2.2.1.cell 6
  have f6 : World.frozen? _ ⟨w.heap.size + 1 + 1, 6, none⟩ = false := H3.out.2.2.1.frozen 6
  have z7 : World.cell? _ ⟨w.heap.size + 1 + 1, 7, none⟩ = some (.int .i64 0) := H3.out.2.2.1.cell 7
  have f7 : World.frozen? _ ⟨w.heap.size + 1 + 1, 7, none⟩ = false := H3.out.2.2.1.frozen 7
  have z8 : World.cell? _ ⟨w.heap.size + 1 + 1, 8, none⟩ = some (.int .i64 0) := H3.out.2.2.1.cell 8
  have f8 : World.frozen? _ ⟨w.heap.size + 1 + 1, 8, none⟩ = false := H3.out.2.2.1.frozen 8
  have z9 : World.cell? _ ⟨w.heap.size + 1 + 1, 9, none⟩ = some (.int .i64 0) := H3.out.2.2.1.cell 9
  have f9 : World.frozen? _ ⟨w.heap.size + 1 + 1, 9, none⟩ = false := H3.out.2.2.1.frozen 9
  have z10 : World.cell? _ ⟨w.heap.size + 1 + 1, 10, none⟩ = some (.int .i64 0) := H3.out.2.2.1.cell 10
  have f10 : World.frozen? _ ⟨w.heap.size + 1 + 1, 10, none⟩ = false := H3.out.2.2.1.frozen 10
  have hlt1 : w.heap.size + 1 + 1 < _ := H3.out.2.2.1.lt
  refine SeqH.step rfl (by rfl) (fun K hK => ?_)
  go_simp
  obtain ⟨Y, hY⟩ : ∃ Z, (((((((((((w7.setCell ⟨w.heap.size + 1 + 1, 0, none⟩ (.int .i64 k)).setCell ⟨w.heap.size + 1 + 1, 1, none⟩ (.int .i64 xa)).setCell ⟨w.heap.size + 1 + 1, 2, none⟩ (.slice pa xh.length pc)).setCell ⟨w.heap.size + 1 + 1, 3, none⟩ (.slice qa xg.length qc)).setCell ⟨w.heap.size + 1 + 1, 4, none⟩ (.int .i64 fp)).setCell ⟨w.heap.size + 1 + 1, 5, none⟩ (.int .i64 M)).setCell ⟨w.heap.size + 1 + 1, 6, none⟩ (.int .i64 tp)).setCell ⟨w.heap.size + 1 + 1, 7, none⟩ (.int .i64 tn)).setCell ⟨w.heap.size + 1 + 1, 8, none⟩ (.int .i64 tm)).setCell ⟨w.heap.size + 1 + 1, 9, none⟩ (.int .i64 ta)).setCell ⟨w.heap.size + 1 + 1, 10, none⟩ (.int .i64 tu)) = Z := ⟨_, rfl⟩
  obtain ⟨hY1, hYb, hYk⟩ := store11 (W := w7) (Y := Y) (B := w.heap.size + 1 + 1) (a0 := .int .i64 k) (a1 := .int .i64 xa) (a2 := .slice pa xh.length pc) (a3 := .slice qa xg.length qc) (a4 := .int .i64 fp) (a5 := .int .i64 M) (a6 := .int .i64 tp) (a7 := .int .i64 tn) (a8 := .int .i64 tm) (a9 := .int .i64 ta) (a10 := .int .i64 tu) H3.out.2.2.1 hY
  have hY2 : Below w.heap.size w Y := hYb _ _ H3.out.2.2.2.2 (by omega)
  have hYo : KnC w (.slice (some ⟨fb, fo, none⟩) ls.length uc) (.slice va gs.length vc) k xa (.slice pa xh.length pc) (.slice qa xg.length qc) fp (.slice fa fr.length fc) Y := by
    have d0 := hYk _ _ _ H3.out.1 (by omega)
    have d1 := hYk _ _ _ H3.out.2.1 (by omega)
    have d3 := hYk _ _ _ H3.out.2.2.2.1 (by omega)
    exact ⟨d0.cell 0, d0.cell 1, d1.cell 0, d1.cell 1, d1.cell 2, d1.cell 3, d3.cell 0, d3.cell 1⟩
  rw [hY]
  try dsimp only
  refine hK.out _ _ hYo (fun _ => ?_)
  have HY := Lib.hid (And.intro hY1 hY2)
  clear hK K hY hYo hY1 hY2 hYb hYk hlt1 z0 f0 z1 f1 z2 f2 z3 f3 z4 f4 z5 f5 z6 f6 z7 f7 z8 f8 z9 f9 z10 f10
  try simp only [Act.put, List.setIfInBounds_toArray, List.set_cons_zero, List.set_cons_succ]
  refine SeqH.done ?_
  have v0 : World.cell? _ ⟨w.heap.size + 1 + 1, 0, none⟩ = some (.int .i64 k) := HY.out.1.cell 0
  have v1 : World.cell? _ ⟨w.heap.size + 1 + 1, 1, none⟩ = some (.int .i64 xa) := HY.out.1.cell 1
  have v2 : World.cell? _ ⟨w.heap.size + 1 + 1, 2, none⟩ = some (.slice pa xh.length pc) := HY.out.1.cell 2
  have v3 : World.cell? _ ⟨w.heap.size + 1 + 1, 3, none⟩ = some (.slice qa xg.length qc) := HY.out.1.cell 3
  have v4 : World.cell? _ ⟨w.heap.size + 1 + 1, 4, none⟩ = some (.int .i64 fp) := HY.out.1.cell 4
  have v5 : World.cell? _ ⟨w.heap.size + 1 + 1, 5, none⟩ = some (.int .i64 M) := HY.out.1.cell 5
  have v6 : World.cell? _ ⟨w.heap.size + 1 + 1, 6, none⟩ = some (.int .i64 tp) := HY.out.1.cell 6
  have v7 : World.cell? _ ⟨w.heap.size + 1 + 1, 7, none⟩ = some (.int .i64 tn) := HY.out.1.cell 7
  have v8 : World.cell? _ ⟨w.heap.size + 1 + 1, 8, none⟩ = some (.int .i64 tm) := HY.out.1.cell 8
  have v9 : World.cell? _ ⟨w.heap.size + 1 + 1, 9, none⟩ = some (.int .i64 ta) := HY.out.1.cell 9
  have v10 : World.cell? _ ⟨w.heap.size + 1 + 1, 10, none⟩ = some (.int .i64 tu) := HY.out.1.cell 10
  go_wp2
  refine bodyPost_ret (v := kvV k xa (.slice pa xh.length pc) (.slice qa xg.length qc) fp M ⟨tp, tn, tm, ta, tu⟩) (by simp [results, Try.results86, go_sem, v0, v1, v2, v3, v4, v5, v6, v7, v8, v9, v10]) rfl ⟨rfl, HY.out.2⟩
end Go.Proofs.Ytabfcnfddemblaa.Lo
