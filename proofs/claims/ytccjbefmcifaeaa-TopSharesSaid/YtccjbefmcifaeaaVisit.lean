/- The program's visit of a lot: the numerator of a share, found once and kept. -/
import Derived.Test.YtccjbefmcifaeaaMapN
import Derived.Test.YtccjbefmcifaeaaSeq3
import Derived.Deep.Cut
namespace Go.Proofs.Ytccjbefmcifaeaa
open Go.RowKit

abbrev ptr (b : Nat) : Value := .pointer (some ⟨b, 0, none⟩)
/-- What the visits share. -/
structure VE (w0 w : World) (bl bo bb bf bv bd bof bm : Nat) (v : Value) (ls : List Lt.L) (of : Nat) : Prop where
  l : BlockAt w bl #[v] 22
  o : BlockAt w bo #[.func (.func 99) #[] #[ptr bof]] 80
  f : BlockAt w bof #[.int .i64 of] 3
  b : BlockAt w bb #[.slice (some ⟨bd, 0, none⟩) ls.length ls.length] 54
  d : BlockAt w bd (intsC (dens ls)) 3
  m : BlockAt w bf #[.map (some bm)] 111
  vis : BlockAt w bv #[.func (.func 95) #[] #[ptr bf, ptr bo, ptr bb, ptr bl, ptr bv]] 112
  ne : bl ≠ bm ∧ bo ≠ bm ∧ bof ≠ bm ∧ bb ≠ bm ∧ bd ≠ bm ∧ bf ≠ bm ∧ bv ≠ bm
  lots : Lots w0 v ls
  below : Below w0.heap.size w0 w
  base : w0.heap.size ≤ bm
theorem below_kb {w0 w w' : World} {bm : Nat} (h : Below w0.heap.size w0 w) (hb : w0.heap.size ≤ bm) (k : Kb bm w w') : Below w0.heap.size w0 w' :=
  ⟨k.os.trans h.os, k.tape.trans h.tape, k.output.trans h.output, Nat.le_trans h.size k.size, fun i hi => (k.block i (Nat.lt_of_lt_of_le hi h.size) (fun e => by have := Option.some.inj e; omega)).trans (h.block i hi)⟩
theorem VE.kb {w0 w w' : World} {bl bo bb bf bv bd bof bm : Nat} {v : Value} {ls : List Lt.L} {of : Nat} (h : VE w0 w bl bo bb bf bv bd bof bm v ls of) (k : Kb bm w w') : VE w0 w' bl bo bb bf bv bd bof bm v ls of := by
  obtain ⟨n1, n2, n3, n4, n5, n6, n7⟩ := h.ne
  exact ⟨h.l.kb k n1, h.o.kb k n2, h.f.kb k n3, h.b.kb k n4, h.d.kb k n5, h.m.kb k n6, h.vis.kb k n7, h.ne, h.lots, below_kb h.below h.base k, h.base⟩
/-- What a visit leaves. -/
def Vis (w w' : World) (bm : Nat) (T : Nat → Nat) (D : DataW Value) (i : Nat) : Prop := ∃ D', VM w' bm T D' ∧ (∀ j, i < j → Maps.has D' (keyL j) = Maps.has D (keyL j)) ∧ Kb bm w w'

theorem alone1_any (i of bof : Nat) (w : World) (h : w.cell? ⟨bof, 0, none⟩ = some (.int .i64 of)) :
    Calls Try.prog 99 #[.int .i64 i, ptr bof] w fun e w' => e = .returned (.bool (decide (i = of))) ∧ w = w' := by
  by_cases e : i = of
  · subst e
    go_enter Try.func99, Try.ntmps99
    go_wp2
    go_ret
    exact ⟨by simp, rfl⟩
  · have h0 : ((i : Int) == (of : Int)) = false := by simp; omega
    have h1 : decide (i = of) = false := by simpa using e
    rw [h1]
    clear e h1
    go_enter Try.func99, Try.ntmps99
    go_wp2
    go_ret
    exact ⟨rfl, rfl⟩

theorem natV_zero : natV 0 = .agg zero8 := by
  unfold natV wV Wd.wd; simp
theorem natV_one : natV 1 = .agg #[.int .u64 1, .int .u64 0, .int .u64 0, .int .u64 0, .int .u64 0, .int .u64 0, .int .u64 0, .int .u64 0] := by
  unfold natV wV Wd.wd Wd.B; simp
theorem zero_nat (w : World) : (zeroValue 85).run Try.prog w = .ok (natV 0) w := by
  rw [natV_zero]; kernel_rfl

set_option maxRecDepth 100000 in
set_option maxHeartbeats 1000000 in
theorem visit_found (w0 : World) (bl bo bb bf bv bd bof bm : Nat) (v : Value) (ls : List Lt.L) (of : Nat) (T : Nat → Nat) (i : Nat) (hi : i < 24) (w : World) (D : DataW Value) (hE : VE w0 w bl bo bb bf bv bd bof bm v ls of) (hM : VM w bm T D)
    (hh : Maps.has D (keyL i) = true) :
    Calls Try.prog 95 #[.int .i64 i, ptr bf, ptr bo, ptr bb, ptr bl, ptr bv] w fun e w' => e = .returned (natV (T i)) ∧ Hid (Vis w w' bm T D i) := by
  have hM1 := hM.kept ((Below.refl w.heap.size w).alloc (Nat.le_refl _) (.cells zero8 85))
  obtain ⟨⟨m, ho, _⟩, hgd⟩ := hM1
  obtain ⟨x, ps, hrun, hx⟩ := ho.look_ok key_law Try.underlying111 (zero_nat _) (zd := .held (natV 0)) (zp := []) rfl (key_of i (by omega))
  rw [hgd.2 i hh] at hx
  simp only [Option.some.injEq, Prod.mk.injEq, DataW.held.injEq] at hx
  obtain ⟨rfl, _⟩ := hx
  rw [hh] at hrun
  have c0 := (hE.m.alloc (.cells zero8 85)).cell 0
  have HM := Lib.hid (And.intro hM hE)
  clear hE hM ho hgd hh
  generalize T i = n at *
  go_enter Try.func95, Try.ntmps95
  go_wp2
  obtain ⟨hM, hE⟩ := HM.out
  have hb := below_alloc (below_alloc (Below.refl w.heap.size w) (.cells #[wV n 0, wV n 1, wV n 2, wV n 3, wV n 4, wV n 5, wV n 6, wV n 7] 85)) (.cells #[wV n 0, wV n 1, wV n 2, wV n 3, wV n 4, wV n 5, wV n 6, wV n 7] 85)
  exact bodyPost_ret (v := natV n) (by simp [results, Try.results95, go_sem]) rfl ⟨rfl, Lib.hid ⟨D, hM.kept hb, fun _ _ => rfl, Kb.of hb⟩⟩

/-- The divisors from one lot on. -/
def segN (ls : List Lt.L) (a n : Nat) : List Nat := (List.range n).map fun j => Sh.be ls (a + j)
theorem prodL_seg (ls : List Lt.L) (a : Nat) : ∀ n, prodL (segN ls a n) = Sh.pr (Sh.be ls) a n
  | 0 => rfl
  | n + 1 => by
    have ih := prodL_seg ls a n
    unfold segN at ih ⊢
    rw [List.range_succ, List.map_append, prodL_append, ih]
    simp [prodL, Sh.pr]
theorem nums_seg {W : World} {bd a n cap : Nat} {ls : List Lt.L} (h : BlockAt W bd (intsC (dens ls)) 3) (hn : a + n ≤ ls.length) (hc : n ≤ cap) : Nums W (.slice (some ⟨bd, a, none⟩) n cap) (segN ls a n) := by
  refine .inr ⟨bd, a, cap, by simp [segN], by simpa [segN] using hc, h.lt, fun k hk => ?_⟩
  have hk' : k < n := by simpa [segN] using hk
  refine (h.cell (a + k)).trans ((intsC_at (by simp [dens]; omega)).trans ?_)
  have h1 : (dens ls).getD (a + k) 0 = (Sh.be ls (a + k) : Nat) := by
    unfold dens Sh.be Sh.beI
    simp [show a + k < ls.length by omega]; omega
  rw [h1]
  simp [segN, hk']

/-- The contract of a visit. -/
def VisitOk (w0 : World) (bl bo bb bf bv bd bof bm : Nat) (v : Value) (ls : List Lt.L) (of : Nat) (T : Nat → Nat) (i : Nat) : Prop :=
  ∀ (w : World) (D : DataW Value), VE w0 w bl bo bb bf bv bd bof bm v ls of → VM w bm T D →
    Calls Try.prog 95 #[.int .i64 i, ptr bf, ptr bo, ptr bb, ptr bl, ptr bv] w fun e w' => e = .returned (natV (T i)) ∧ Hid (Vis w w' bm T D i)
/-- What holds where the two ways of a visit meet. -/
def Meet (w0 w X : World) (bl bo bb bf bv bd bof bm : Nat) (v : Value) (ls : List Lt.L) (of : Nat) (T : Nat → Nat) (D : DataW Value) (i n : Nat) : Prop :=
  ∃ D', VM X bm T D' ∧ VE w0 X bl bo bb bf bv bd bof bm v ls of ∧ (∀ j, i ≤ j → Maps.has D' (keyL j) = Maps.has D (keyL j)) ∧ Kb bm w X ∧ BlockAt X w.heap.size zero8 85 ∧
    BlockAt X (w.heap.size + 1 + 1) #[wV n 0, wV n 1, wV n 2, wV n 3, wV n 4, wV n 5, wV n 6, wV n 7] 85 ∧ bm < w.heap.size
theorem visit_tail {w0 w X : World} {bl bo bb bf bv bd bof bm : Nat} {v : Value} {ls : List Lt.L} {of : Nat} {T : Nat → Nat} {D : DataW Value} {i : Nat} (hi : i < 24) (hh : Maps.has D (keyL i) = false)
    (h : Meet w0 w X bl bo bb bf bv bd bof bm v ls of T D i (T i)) : ∃ X2, (Instr.mapUpdate 111 (.map (some bm)) (.int .i64 i) (natV (T i))).run Try.prog X = .ok () X2 ∧ X.cell? ⟨bf, 0, none⟩ = some (.map (some bm)) ∧
      BlockAt X2 w.heap.size zero8 85 ∧ BlockAt X2 (w.heap.size + 1 + 1) #[wV (T i) 0, wV (T i) 1, wV (T i) 2, wV (T i) 3, wV (T i) 4, wV (T i) 5, wV (T i) 6, wV (T i) 7] 85 ∧
      ∀ X3, storeN X2 w.heap.size (T i) = X3 → Vis w X3 bm T D i := by
  obtain ⟨D', hM, hE, hD, hk, z7, z10, hlt⟩ := h
  obtain ⟨⟨m5, ho5, hm5⟩, hgd5⟩ := hM
  obtain ⟨X2, hrun2, ho6, hg6⟩ := ho5.update key_law Try.underlying111 (by have := cnt_le D'; unfold maxLen; omega) (key_of i (by omega)) (val := natV (T i)) (d := .held (natV (T i))) (ps := []) rfl
  have hM6 : VM X2 bm T (D'.put (keyL i) (.held (natV (T i)))) := ⟨⟨m5 + 1, ho6, by rw [cnt_put hgd5.1 hi (by rw [hD i (Nat.le_refl _)]; exact hh)]; omega⟩, good_put hgd5⟩
  refine ⟨X2, hrun2, hE.m.cell 0, z7.kb hg6 (by omega), z10.kb hg6 (by omega), fun X3 e => ?_⟩
  subst e
  exact ⟨_, hM6.storeN (by omega), fun j hj => (Maps.has_put_other (keyL_ne (by omega)) _).trans (hD j (by omega)), (hk.trans hg6).storeN (Nat.le_refl _)⟩

theorem Meet.below {w0 w X X2 : World} {bl bo bb bf bv bd bof bm : Nat} {v : Value} {ls : List Lt.L} {of : Nat} {T : Nat → Nat} {D : DataW Value} {i n : Nat} (h : Meet w0 w X bl bo bb bf bv bd bof bm v ls of T D i n) (hb : Below X.heap.size X X2) :
    Meet w0 w X2 bl bo bb bf bv bd bof bm v ls of T D i n := by
  obtain ⟨D', hM, hE, hD, hk, z7, z10, hlt⟩ := h
  exact ⟨D', hM.kept hb, hE.kb (Kb.of hb), hD, hk.below hb, z7.below hb z7.lt, z10.below hb z10.lt, hlt⟩
theorem Meet.vis {w0 w X X2 : World} {bl bo bb bf bv bd bof bm : Nat} {v : Value} {ls : List Lt.L} {of : Nat} {T : Nat → Nat} {D D1 : DataW Value} {i n j : Nat} (h : Meet w0 w X bl bo bb bf bv bd bof bm v ls of T D i n)
    (hD1 : ∀ j, i ≤ j → Maps.has D1 (keyL j) = Maps.has D (keyL j)) (hv : Vis X X2 bm T D1 j) (hj : j < i) : Meet w0 w X2 bl bo bb bf bv bd bof bm v ls of T D i n := by
  obtain ⟨D', hM, hE, hD, hk, z7, z10, hlt⟩ := h
  have hsz := hk.size
  obtain ⟨D2, hM2, hD2, hk2⟩ := hv
  exact ⟨D2, hM2, hE.kb hk2, fun l hl => (hD2 l (by omega)).trans (hD1 l hl), hk.trans hk2, z7.kb hk2 (by omega), z10.kb hk2 (by omega), hlt⟩
theorem Meet.szlt {w0 w X : World} {bl bo bb bf bv bd bof bm : Nat} {v : Value} {ls : List Lt.L} {of : Nat} {T : Nat → Nat} {D : DataW Value} {i n : Nat} (h : Meet w0 w X bl bo bb bf bv bd bof bm v ls of T D i n) : w.heap.size + 1 + 1 < X.heap.size := by
  obtain ⟨D', hM, hE, hD, hk, z7, z10, hlt⟩ := h
  exact z10.lt
theorem Meet.store {w0 w X : World} {bl bo bb bf bv bd bof bm : Nat} {v : Value} {ls : List Lt.L} {of : Nat} {T : Nat → Nat} {D : DataW Value} {i n p : Nat} (hE0 : VE w0 w bl bo bb bf bv bd bof bm v ls of) (h : Meet w0 w X bl bo bb bf bv bd bof bm v ls of T D i n) :
    Meet w0 w (storeN X (w.heap.size + 1 + 1) p) bl bo bb bf bv bd bof bm v ls of T D i p := by
  obtain ⟨D', hM, hE, hD, hk, z7, z10, hlt⟩ := h
  exact ⟨D', hM.storeN (by omega), hE0.kb (hk.storeN (by omega)), hD, hk.storeN (by omega), store_other z7 (by omega), set8 z10 _ _ _ _ _ _ _ _, hlt⟩
theorem Meet.drew {w0 w X : World} {bl bo bb bf bv bd bof bm : Nat} {v : Value} {ls : List Lt.L} {of : Nat} {T : Nat → Nat} {D : DataW Value} {i n : Nat} (h : Meet w0 w X bl bo bb bf bv bd bof bm v ls of T D i n) :
    Meet w0 w X.drew bl bo bb bf bv bd bof bm v ls of T D i n := h.below (Below.refl _ _).drew
/-- What the second region of a round reads. -/
def S11 (X : World) (b13 B12 bb bd n p j : Nat) : Prop := (X.cell? ⟨b13, 0, none⟩ = some (wV p 0) ∧ X.cell? ⟨b13, 1, none⟩ = some (wV p 1) ∧ X.cell? ⟨b13, 2, none⟩ = some (wV p 2) ∧ X.cell? ⟨b13, 3, none⟩ = some (wV p 3) ∧ X.cell? ⟨b13, 4, none⟩ = some (wV p 4) ∧ X.cell? ⟨b13, 5, none⟩ = some (wV p 5) ∧ X.cell? ⟨b13, 6, none⟩ = some (wV p 6) ∧ X.cell? ⟨b13, 7, none⟩ = some (wV p 7)) ∧
  X.cell? ⟨bb, 0, none⟩ = some (.slice (some ⟨bd, 0, none⟩) n n) ∧ X.cell? ⟨B12, 0, none⟩ = some (.int .i64 j)
theorem S11.mk {X : World} {b13 B12 bb bd n p j q : Nat} (h1 : BlockAt X b13 #[wV p 0, wV p 1, wV p 2, wV p 3, wV p 4, wV p 5, wV p 6, wV p 7] 85) (h2 : BlockAt X bb #[.slice (some ⟨bd, 0, none⟩) n n] 54) (h3 : BlockAt X B12 #[.int .i64 j, .int .i64 q] 35) :
    S11 X b13 B12 bb bd n p j := ⟨nat_cells h1, h2.cell 0, h3.cell 0⟩
/-- In a round: the part at hand lies in a block of its own. -/
def StK (w0 w X : World) (bl bo bb bf bv bd bof bm : Nat) (v : Value) (ls : List Lt.L) (of : Nat) (T : Nat → Nat) (D : DataW Value) (i n B : Nat) (j q : Nat) : Prop :=
  Meet w0 w X bl bo bb bf bv bd bof bm v ls of T D i n ∧ BlockAt X B #[.int .i64 j, .int .i64 q] 35 ∧ bm < B
theorem StK.below {w0 w X X2 : World} {bl bo bb bf bv bd bof bm : Nat} {v : Value} {ls : List Lt.L} {of : Nat} {T : Nat → Nat} {D : DataW Value} {i n B j q : Nat} (h : StK w0 w X bl bo bb bf bv bd bof bm v ls of T D i n B j q) (hb : Below X.heap.size X X2) :
    StK w0 w X2 bl bo bb bf bv bd bof bm v ls of T D i n B j q := ⟨h.1.below hb, h.2.1.below hb h.2.1.lt, h.2.2⟩
theorem StK.vis {w0 w X X2 : World} {bl bo bb bf bv bd bof bm : Nat} {v : Value} {ls : List Lt.L} {of : Nat} {T : Nat → Nat} {D D1 : DataW Value} {i n B j q : Nat} (h : StK w0 w X bl bo bb bf bv bd bof bm v ls of T D i n B j q)
    (hD1 : ∀ j, i ≤ j → Maps.has D1 (keyL j) = Maps.has D (keyL j)) (hv : Vis X X2 bm T D1 j) (hj : j < i) : StK w0 w X2 bl bo bb bf bv bd bof bm v ls of T D i n B j q := by
  refine ⟨h.1.vis hD1 hv hj, ?_, h.2.2⟩
  obtain ⟨D2, hM2, hD2, hk2⟩ := hv
  exact h.2.1.kb hk2 (by have := h.2.2; omega)
theorem StK.drew {w0 w X : World} {bl bo bb bf bv bd bof bm : Nat} {v : Value} {ls : List Lt.L} {of : Nat} {T : Nat → Nat} {D : DataW Value} {i n B j q : Nat} (h : StK w0 w X bl bo bb bf bv bd bof bm v ls of T D i n B j q) :
    StK w0 w X.drew bl bo bb bf bv bd bof bm v ls of T D i n B j q := h.below (Below.refl _ _).drew
theorem StK.s {w0 w X : World} {bl bo bb bf bv bd bof bm : Nat} {v : Value} {ls : List Lt.L} {of : Nat} {T : Nat → Nat} {D : DataW Value} {i n B j q : Nat} (h : StK w0 w X bl bo bb bf bv bd bof bm v ls of T D i n B j q) :
    X.cell? ⟨bv, 0, none⟩ = some (.func (.func 95) #[] #[ptr bf, ptr bo, ptr bb, ptr bl, ptr bv]) ∧ X.cell? ⟨B, 0, none⟩ = some (.int .i64 j) ∧ X.cell? ⟨B, 1, none⟩ = some (.int .i64 q) := by
  obtain ⟨⟨D', hM, hE, hD, hk, z7, z10, hlt⟩, hB, _⟩ := h
  exact ⟨hE.vis.cell 0, hB.cell 0, hB.cell 1⟩
theorem StK.store {w0 w X : World} {bl bo bb bf bv bd bof bm : Nat} {v : Value} {ls : List Lt.L} {of : Nat} {T : Nat → Nat} {D : DataW Value} {i n B j q b13 p : Nat} (hE0 : VE w0 w bl bo bb bf bv bd bof bm v ls of) (h : StK w0 w X bl bo bb bf bv bd bof bm v ls of T D i n B j q)
    (h1 : w.heap.size + 1 + 1 < b13) (h2 : B ≠ b13) : StK w0 w (storeN X b13 p) bl bo bb bf bv bd bof bm v ls of T D i n B j q := by
  obtain ⟨⟨D', hM, hE, hD, hk, z7, z10, hlt⟩, hB, hlB⟩ := h
  exact ⟨⟨D', hM.storeN (by omega), hE0.kb (hk.storeN (by omega)), hD, hk.storeN (by omega), store_other z7 (by omega), store_other z10 (by omega), hlt⟩, store_other hB h2, hlB⟩

set_option maxRecDepth 100000 in
set_option maxHeartbeats 40000000 in
theorem visit_new (w0 : World) (bl bo bb bf bv bd bof bm : Nat) (v : Value) (ls : List Lt.L) (of : Nat) (T : Nat → Nat) (i : Nat) (hi : i < ls.length) (hl : ls.length ≤ 24) (hfine : ∀ j, j < ls.length → Lt.fine (ls.getD j default)) (hearly : Sh.early ls)
    (hT1 : i = of → T i = Sh.D ls (i + 1)) (hT2 : i ≠ of → T i = Sh.sumS ls i T (ls.getD i default).ps) (IH : ∀ j, j < i → VisitOk w0 bl bo bb bf bv bd bof bm v ls of T j)
    (w : World) (D : DataW Value) (hE : VE w0 w bl bo bb bf bv bd bof bm v ls of) (hM : VM w bm T D) (hh : Maps.has D (keyL i) = false) :
    Calls Try.prog 95 #[.int .i64 i, ptr bf, ptr bo, ptr bb, ptr bl, ptr bv] w fun e w' => e = .returned (natV (T i)) ∧ Hid (Vis w w' bm T D i) := by
  obtain ⟨la, lc, rfl, hlk⟩ := hE.lots.look
  have hM1 := hM.kept ((Below.refl w.heap.size w).alloc (Nat.le_refl _) (.cells zero8 85))
  obtain ⟨⟨m, ho, _⟩, hgd⟩ := hM1
  obtain ⟨x, ps, hrun, hx⟩ := ho.look_ok key_law Try.underlying111 (zero_nat _) (zd := .held (natV 0)) (zp := []) rfl (key_of i (by omega))
  rw [Maps.atKey_of_not_has hh] at hx
  simp only [Option.some.injEq, Prod.mk.injEq, DataW.held.injEq] at hx
  obtain ⟨rfl, _⟩ := hx
  rw [hh, natV_zero] at hrun
  have c0 := (hE.m.alloc (.cells zero8 85)).cell 0
  have hb3 := below_alloc (below_alloc (below_alloc (Below.refl w.heap.size w) (.cells zero8 85)) (.cells zero8 85)) (.cells zero8 85)
  have hE3 := hE.kb (Kb.of hb3)
  have hM3 := hM.kept hb3
  have z7 := ((BlockAt.new w zero8 85).alloc (.cells zero8 85)).alloc (.cells zero8 85)
  have z10 := BlockAt.new ((w.alloc (.cells zero8 85)).alloc (.cells zero8 85)) zero8 85
  simp only [World.size_alloc] at z10
  have d0 := hE3.o.cell 0
  have A1 := alone1_any i of bof _ (hE3.f.cell 0)
  generalize hbo : decide (i = of) = bo1 at A1
  have HBO := Lib.hid hbo
  have HT1 := Lib.hid hT1
  have HT2 := Lib.hid hT2
  have HA := Lib.hid A1
  have HM := Lib.hid (And.intro hM3 (And.intro hE3 (And.intro (Kb.of (bm := bm) hb3) (And.intro z7 (And.intro z10 hM.lt)))))
  have HH := Lib.hid hh
  have HFI := Lib.hid (And.intro hfine (And.intro hearly IH))
  have HE0 := Lib.hid hE
  have HLK := Lib.hid hlk
  clear hE hM ho hgd hM3 hE3 hb3 z7 z10 hT1 hT2 A1 hfine hearly IH hh hbo hlk
  go_enter Try.func95, Try.ntmps95
  go_upto_if 24 with (go_at_call 99; refine HA.out.mono ?_; rintro e w1 ⟨rfl, rfl⟩)
  go_cut [] from 11 (fun X => Hid (Meet w0 w X bl bo bb bf bv bd bof bm (.slice la ls.length lc) ls of T D i (T i)))
  case rest =>
    clear HM HA hrun c0 d0 HFI HT1 HT2 HBO
    obtain ⟨X2, hrun2, cf, z7, z10, hV⟩ := visit_tail (by omega) HH.out hcut.out
    obtain ⟨_, _, _, _, _, _, zz, _⟩ := hcut.out
    obtain ⟨y0, y1, y2, y3, y4, y5, y6, y7⟩ := nat_cells zz
    obtain ⟨u0, u1, u2, u3, u4, u5, u6, u7⟩ := nat_cells z10
    obtain ⟨v0, v1, v2, v3, v4, v5, v6, v7⟩ := zero_cells z7
    obtain ⟨p0, p1, p2, p3, p4, p5, p6, p7⟩ := free8 z7
    have HZ := Lib.hid (And.intro z7 hV)
    clear zz z7 z10 hV hcut HH
    go_wp2
    obtain ⟨X3, hX⟩ : ∃ X3, storeN X2 w.heap.size (T i) = X3 := ⟨_, rfl⟩
    have hV3 := HZ.out.2 X3 hX
    obtain ⟨r0, r1, r2, r3, r4, r5, r6, r7⟩ := store_cells HZ.out.1 hX
    unfold storeN at hX
    rw [hX]
    exact bodyPost_ret (v := natV (T i)) (by simp [results, Try.results95, go_sem, r0, r1, r2, r3, r4, r5, r6, r7]) rfl ⟨rfl, Lib.hid hV3⟩
  case first =>
    obtain ⟨hM3, hE3, hk3, z7, z10, hlt⟩ := HM.out
    cases bo1
    · have hne : i ≠ of := by have := HBO.out; simpa using this
      have hTi := HT2.out hne
      obtain ⟨lb, loff, lu, rfl, hlb, hlot⟩ := HLK.out i hi
      have hlot3 := hlot.below hE3.below hlb
      obtain ⟨x0, x1, x2, hps3⟩ := hlot3
      obtain ⟨pa, pc, rfl, hpk⟩ := hlot.2.2.2.look
      have d2 := hE3.l.cell 0
      have hear := HFI.out.2.1 i hi
      have hps6 := (HFI.out.1 i hi).2.1
      generalize hxx : ls.getD i default = x at *
      obtain ⟨xk, xm, ps⟩ := x
      dsimp only at *
      have HPK := Lib.hid hpk
      have HEAR := Lib.hid hear
      have H0 : Hid (Meet w0 w (((w.alloc (.cells zero8 85)).alloc (.cells zero8 85)).alloc (.cells zero8 85)) bl bo bb bf bv bd bof bm (.slice (some ⟨lb, loff, none⟩) ls.length lc) ls of T D i 0) :=
        Lib.hid ⟨D, hM3, hE3, fun j _ => rfl, hk3, z7, by rw [show #[wV 0 0, wV 0 1, wV 0 2, wV 0 3, wV 0 4, wV 0 5, wV 0 6, wV 0 7] = zero8 from by have := natV_zero; unfold natV at this; exact Value.agg.inj this]; exact z10, hlt⟩
      have HTi := Lib.hid hTi
      clear hM3 hE3 hk3 z7 z10 hlot hps3 hpk hear HM HA hrun c0 d0 HT1 HT2 HBO hTi HLK
      go_wp2
      go_loopw [37] (fun t wr => ∃ k : Nat, k ≤ ps.length ∧ t = .int .i64 k ∧ Hid (Meet w0 w wr bl bo bb bf bv bd bof bm (.slice (some ⟨lb, loff, none⟩) ls.length lc) ls of T D i (Sh.sumS ls i T (ps.take k)))) (fun t _ => ps.length - (intOf t).toNat)
      case atStart => exact ⟨0, Nat.zero_le _, rfl, H0⟩
      case round =>
        obtain ⟨k, hk, rfl, hg⟩ := hrel
        clear H0
        by_cases hlt2 : k < ps.length
        · obtain ⟨pb, poff, rfl, hpb, hpt⟩ := HPK.out k hlt2
          have hpt := hpt.below (hg.out.elim fun _ h => h.2.1.below) hpb
          rw [getD_P hlt2] at hpt
          have hpe := HEAR.out ps[k] (List.getElem_mem hlt2)
          have hsu := Sh.sumS_succ ls i T hlt2
          have HSU := Lib.hid hsu
          clear hsu
          generalize ps[k] = p at *
          obtain ⟨pl, pm⟩ := p
          dsimp only at *
          obtain ⟨j, rfl⟩ : ∃ j : Nat, pl = (j : Int) := ⟨pl.toNat, by omega⟩
          obtain ⟨q, rfl⟩ : ∃ q : Nat, pm = (q : Int) := ⟨pm.toNat, by omega⟩
          simp only [Int.toNat_natCast] at HSU
          generalize Sh.sumS ls i T (ps.take k) = acc at *
          have hji : j < i := by omega
          have hq1 : 1 ≤ q := by omega
          have hq2 : q ≤ 100000 := by omega
          obtain ⟨y0, y1⟩ := hpt
          dsimp only at y0 y1
          clear hpe
          go_wp2_with fail
          obtain ⟨X0, hX0⟩ : ∃ X0, wr.alloc (.cells #[.int .i64 j, .int .i64 q] 35) = X0 := ⟨_, rfl⟩
          have HM : Hid (StK w0 w X0 bl bo bb bf bv bd bof bm (.slice (some ⟨lb, loff, none⟩) ls.length lc) ls of T D i acc wr.heap.size j q) := by
            rw [← hX0]
            exact Lib.hid ⟨hg.out.below (below_alloc (Below.refl _ _) _), BlockAt.new _ _ _, hg.out.elim fun _ h => h.1.lt⟩
          have hB12 : w.heap.size + 1 + 1 < wr.heap.size := hg.out.szlt
          have TQ : Hid (∀ b47 X, BlockAt X b47 #[.int .i64 q] 3 → Calls Try.prog 96 #[natV (T j), .slice (some ⟨b47, 0, none⟩) 1 1] X fun e w' => e = .returned (natV (T j * q)) ∧ Below X.heap.size X w') := by
            refine Lib.hid fun b47 X hX => ?_
            have := times_any (T j) (.slice (some ⟨b47, 0, none⟩) 1 1) [q] X (.inr ⟨b47, 0, 1, rfl, Nat.le_refl _, hX.lt, fun k hk => by
              obtain rfl : k = 0 := by simpa using hk
              exact hX.cell 0⟩) (by simp) (fun k hk => by
              obtain rfl : k = 0 := by simpa using hk
              simp; omega)
            simpa [prodL] using this
          rw [hX0]
          clear hX0 y0 y1 hg
          generalize wr.heap.size = B12 at *
          refine wp_region_meet (β := Nat × Nat) (.take 0 (.take 1 (.take 2 (.take 4 (.take 5 (.three 3 (.two 6 (.two 7 (.one 8 (.one 9 .done)) 8 (.one 7 (.one 9 .done))) 8 (.one 6 (.one 7 (.one 9 .done)))) 6 (.two 3 (.two 7 (.one 8 (.one 9 .done)) 8 (.one 7 (.one 9 .done))) 8 (.one 3 (.one 7 (.one 9 .done)))) 8 (.two 3 (.one 6 (.one 7 (.one 9 .done))) 6 (.one 3 (.one 7 (.one 9 .done))))))))))
            (fun W => W.cell? ⟨bv, 0, none⟩ = some (.func (.func 95) #[] #[ptr bf, ptr bo, ptr bb, ptr bl, ptr bv]) ∧ W.cell? ⟨B12, 0, none⟩ = some (.int .i64 j) ∧ W.cell? ⟨B12, 1, none⟩ = some (.int .i64 q))
            (fun x => [(41, .func (.func 95) #[] #[ptr bf, ptr bo, ptr bb, ptr bl, ptr bv]), (42, .pointer (some ⟨B12, 0, none⟩)), (43, .int .i64 j), (44, natV (T j)), (45, .pointer (some ⟨B12, 1, none⟩)), (46, .int .i64 q), (47, .slice (some ⟨x.1, 0, none⟩) 1 1), (48, natV (T j * q)), (13, ptr x.2)])
            (fun x Y => StK w0 w Y bl bo bb bf bv bd bof bm (.slice (some ⟨lb, loff, none⟩) ls.length lc) ls of T D i acc B12 j q ∧ BlockAt Y x.2 #[wV (T j * q) 0, wV (T j * q) 1, wV (T j * q) 2, wV (T j * q) 3, wV (T j * q) 4, wV (T j * q) 5, wV (T j * q) 6, wV (T j * q) 7] 85 ∧ w.heap.size + 1 + 1 < x.2 ∧ B12 ≠ x.2)
            (by kernel_rfl) (by kernel_rfl) (by kernel_rfl) (by kernel_rfl) HM.out.s (fun hS => ?_) ?_
          · have HM := Lib.hid (HM.out.drew)
            generalize X0.drew = X1 at *
            repeat (refine SeqT.ld (v := ?_) rfl (by rfl) ?_ ?_; rotate_left; (· intro w hSw; (try dsimp only at hSw); go_simp; (try with_reducible rfl)); simp only [Act.put, List.setIfInBounds_toArray, List.set_cons_zero, List.set_cons_succ])
            refine ⟨wpOp_stepS rfl (by rfl) (fun K hK => ?_), wpOp_stepS rfl (by rfl) (fun K hK => ?_), wpOp_stepS rfl (by rfl) (fun K hK => ?_)⟩
            · go_simp
              obtain ⟨D1, hM1, hE1, hD1, _⟩ := HM.out.1
              refine (HFI.out.2.2 j (by omega) _ D1 hE1 hM1).mono ?_
              rintro e X2 ⟨rfl, hvis⟩
              have HM := Lib.hid (HM.out.vis hD1 hvis.out (by omega))
              clear hM1 hE1 hD1 hvis
              try dsimp only
              refine hK.out _ _ HM.out.s (fun _ => ?_)
              clear hK K
              try simp only [Act.put, List.setIfInBounds_toArray, List.set_cons_zero, List.set_cons_succ]
              refine ⟨wpOp_stepS rfl (by rfl) (fun K hK => ?_), wpOp_stepS rfl (by rfl) (fun K hK => ?_)⟩
              · go_simp
                obtain ⟨X3, hY⟩ : ∃ Y, X2.alloc (.cells #[.int .i64 q] 3) = Y := ⟨_, rfl⟩
                have hbY : Below X2.heap.size X2 X3 := by rw [← hY]; exact below_alloc (Below.refl _ _) _
                have hN : BlockAt X3 X2.heap.size #[.int .i64 q] 3 := by rw [← hY]; exact BlockAt.new _ _ _
                have hsz := HM.out.2.1.lt
                have hsz2 := HM.out.2.2
                have hsz3 := HM.out.1.szlt
                rw [hY]
                have HM := Lib.hid (HM.out.below hbY)
                generalize X2.heap.size = b47 at *
                have H47 := Lib.hid (⟨hN, by omega⟩ : BlockAt X3 b47 #[.int .i64 q] 3 ∧ bm < b47)
                clear hY hbY hN hsz hsz2 hsz3
                try dsimp only
                refine hK.out _ _ HM.out.s (fun _ => ?_)
                clear hK K
                try simp only [Act.put, List.setIfInBounds_toArray, List.set_cons_zero, List.set_cons_succ]
                refine ⟨wpOp_stepS rfl (by rfl) (fun K hK => ?_), wpOp_stepS rfl (by rfl) (fun K hK => ?_)⟩
                · go_simp
                  refine (TQ.out b47 _ H47.out.1).mono ?_
                  rintro e X4 ⟨rfl, hbY⟩
                  have HM := Lib.hid (HM.out.below hbY)
                  clear hbY
                  try dsimp only
                  refine hK.out _ _ HM.out.s (fun _ => ?_)
                  clear hK K
                  try simp only [Act.put, List.setIfInBounds_toArray, List.set_cons_zero, List.set_cons_succ]
                  refine wpOp_stepS rfl (by rfl) (fun K hK => ?_)
                  go_simp
                  obtain ⟨X5, hY⟩ : ∃ Y, X4.alloc (.cells zero8 85) = Y := ⟨_, rfl⟩
                  have hbY : Below X4.heap.size X4 X5 := by rw [← hY]; exact below_alloc (Below.refl _ _) _
                  have hN : BlockAt X5 X4.heap.size zero8 85 := by rw [← hY]; exact BlockAt.new _ _ _
                  have hsz := HM.out.2.1.lt
                  have hsz2 := HM.out.2.2
                  have hsz3 := HM.out.1.szlt
                  rw [hY]
                  have HM := Lib.hid (HM.out.below hbY)
                  generalize X4.heap.size = b13 at *
                  have H13 := Lib.hid (⟨hN, by omega, by omega, by omega⟩ : BlockAt X5 b13 zero8 85 ∧ bm < b13 ∧ w.heap.size + 1 + 1 < b13 ∧ B12 ≠ b13)
                  clear hY hbY hN hsz hsz2 hsz3
                  try dsimp only
                  refine hK.out _ _ HM.out.s (fun _ => ?_)
                  clear hK K
                  try simp only [Act.put, List.setIfInBounds_toArray, List.set_cons_zero, List.set_cons_succ]
                  refine wpOp_stepS rfl (by rfl) (fun K hK => ?_)
                  obtain ⟨y0, y1, y2, y3, y4, y5, y6, y7⟩ := zero_cells H13.out.1
                  obtain ⟨f0, f1, f2, f3, f4, f5, f6, f7⟩ := free8 H13.out.1
                  go_simp
                  obtain ⟨X6, hY⟩ : ∃ Y, storeN X5 b13 (T j * q) = Y := ⟨_, rfl⟩
                  have HF : Hid (StK w0 w X6 bl bo bb bf bv bd bof bm (.slice (some ⟨lb, loff, none⟩) ls.length lc) ls of T D i acc B12 j q ∧ BlockAt X6 b13 #[wV (T j * q) 0, wV (T j * q) 1, wV (T j * q) 2, wV (T j * q) 3, wV (T j * q) 4, wV (T j * q) 5, wV (T j * q) 6, wV (T j * q) 7] 85 ∧ w.heap.size + 1 + 1 < b13 ∧ B12 ≠ b13) := by
                    rw [← hY]; exact Lib.hid ⟨HM.out.store HE0.out H13.out.2.2.1 H13.out.2.2.2, set8 H13.out.1 _ _ _ _ _ _ _ _, H13.out.2.2.1, H13.out.2.2.2⟩
                  unfold storeN at hY
                  rw [hY]
                  have HM := Lib.hid HF.out.1
                  clear hY y0 y1 y2 y3 y4 y5 y6 y7 f0 f1 f2 f3 f4 f5 f6 f7
                  try dsimp only
                  refine hK.out _ _ HM.out.s (fun _ => ?_)
                  clear hK K
                  try simp only [Act.put, List.setIfInBounds_toArray, List.set_cons_zero, List.set_cons_succ]
                  refine SeqT.fin ⟨rfl, (b47, b13), by simp only [putAll, Act.put, List.setIfInBounds_toArray, List.set_cons_zero, List.set_cons_succ], ?_⟩
                  exact HF.out
                · go_simp
                  obtain ⟨X4, hY⟩ : ∃ Y, X3.alloc (.cells zero8 85) = Y := ⟨_, rfl⟩
                  have hbY : Below X3.heap.size X3 X4 := by rw [← hY]; exact below_alloc (Below.refl _ _) _
                  have hN : BlockAt X4 X3.heap.size zero8 85 := by rw [← hY]; exact BlockAt.new _ _ _
                  have hsz := HM.out.2.1.lt
                  have hsz2 := HM.out.2.2
                  have hsz3 := HM.out.1.szlt
                  rw [hY]
                  have HM := Lib.hid (HM.out.below hbY)
                  have H47 := Lib.hid (⟨H47.out.1.below hbY H47.out.1.lt, H47.out.2⟩ : BlockAt X4 b47 #[.int .i64 q] 3 ∧ bm < b47)
                  generalize X3.heap.size = b13 at *
                  have H13 := Lib.hid (⟨hN, by omega, by omega, by omega⟩ : BlockAt X4 b13 zero8 85 ∧ bm < b13 ∧ w.heap.size + 1 + 1 < b13 ∧ B12 ≠ b13)
                  clear hY hbY hN hsz hsz2 hsz3
                  try dsimp only
                  refine hK.out _ _ HM.out.s (fun _ => ?_)
                  clear hK K
                  try simp only [Act.put, List.setIfInBounds_toArray, List.set_cons_zero, List.set_cons_succ]
                  refine wpOp_stepS rfl (by rfl) (fun K hK => ?_)
                  go_simp
                  refine (TQ.out b47 _ H47.out.1).mono ?_
                  rintro e X5 ⟨rfl, hbY⟩
                  have HM := Lib.hid (HM.out.below hbY)
                  have H13 := Lib.hid (⟨H13.out.1.below hbY H13.out.1.lt, H13.out.2⟩ : BlockAt X5 b13 zero8 85 ∧ bm < b13 ∧ w.heap.size + 1 + 1 < b13 ∧ B12 ≠ b13)
                  clear hbY
                  try dsimp only
                  refine hK.out _ _ HM.out.s (fun _ => ?_)
                  clear hK K
                  try simp only [Act.put, List.setIfInBounds_toArray, List.set_cons_zero, List.set_cons_succ]
                  refine wpOp_stepS rfl (by rfl) (fun K hK => ?_)
                  obtain ⟨y0, y1, y2, y3, y4, y5, y6, y7⟩ := zero_cells H13.out.1
                  obtain ⟨f0, f1, f2, f3, f4, f5, f6, f7⟩ := free8 H13.out.1
                  go_simp
                  obtain ⟨X6, hY⟩ : ∃ Y, storeN X5 b13 (T j * q) = Y := ⟨_, rfl⟩
                  have HF : Hid (StK w0 w X6 bl bo bb bf bv bd bof bm (.slice (some ⟨lb, loff, none⟩) ls.length lc) ls of T D i acc B12 j q ∧ BlockAt X6 b13 #[wV (T j * q) 0, wV (T j * q) 1, wV (T j * q) 2, wV (T j * q) 3, wV (T j * q) 4, wV (T j * q) 5, wV (T j * q) 6, wV (T j * q) 7] 85 ∧ w.heap.size + 1 + 1 < b13 ∧ B12 ≠ b13) := by
                    rw [← hY]; exact Lib.hid ⟨HM.out.store HE0.out H13.out.2.2.1 H13.out.2.2.2, set8 H13.out.1 _ _ _ _ _ _ _ _, H13.out.2.2.1, H13.out.2.2.2⟩
                  unfold storeN at hY
                  rw [hY]
                  have HM := Lib.hid HF.out.1
                  clear hY y0 y1 y2 y3 y4 y5 y6 y7 f0 f1 f2 f3 f4 f5 f6 f7
                  try dsimp only
                  refine hK.out _ _ HM.out.s (fun _ => ?_)
                  clear hK K
                  try simp only [Act.put, List.setIfInBounds_toArray, List.set_cons_zero, List.set_cons_succ]
                  refine SeqT.fin ⟨rfl, (b47, b13), by simp only [putAll, Act.put, List.setIfInBounds_toArray, List.set_cons_zero, List.set_cons_succ], ?_⟩
                  exact HF.out
              · go_simp
                obtain ⟨X3, hY⟩ : ∃ Y, X2.alloc (.cells zero8 85) = Y := ⟨_, rfl⟩
                have hbY : Below X2.heap.size X2 X3 := by rw [← hY]; exact below_alloc (Below.refl _ _) _
                have hN : BlockAt X3 X2.heap.size zero8 85 := by rw [← hY]; exact BlockAt.new _ _ _
                have hsz := HM.out.2.1.lt
                have hsz2 := HM.out.2.2
                have hsz3 := HM.out.1.szlt
                rw [hY]
                have HM := Lib.hid (HM.out.below hbY)
                generalize X2.heap.size = b13 at *
                have H13 := Lib.hid (⟨hN, by omega, by omega, by omega⟩ : BlockAt X3 b13 zero8 85 ∧ bm < b13 ∧ w.heap.size + 1 + 1 < b13 ∧ B12 ≠ b13)
                clear hY hbY hN hsz hsz2 hsz3
                try dsimp only
                refine hK.out _ _ HM.out.s (fun _ => ?_)
                clear hK K
                try simp only [Act.put, List.setIfInBounds_toArray, List.set_cons_zero, List.set_cons_succ]
                refine wpOp_stepS rfl (by rfl) (fun K hK => ?_)
                go_simp
                obtain ⟨X4, hY⟩ : ∃ Y, X3.alloc (.cells #[.int .i64 q] 3) = Y := ⟨_, rfl⟩
                have hbY : Below X3.heap.size X3 X4 := by rw [← hY]; exact below_alloc (Below.refl _ _) _
                have hN : BlockAt X4 X3.heap.size #[.int .i64 q] 3 := by rw [← hY]; exact BlockAt.new _ _ _
                have hsz := HM.out.2.1.lt
                have hsz2 := HM.out.2.2
                have hsz3 := HM.out.1.szlt
                rw [hY]
                have HM := Lib.hid (HM.out.below hbY)
                have H13 := Lib.hid (⟨H13.out.1.below hbY H13.out.1.lt, H13.out.2⟩ : BlockAt X4 b13 zero8 85 ∧ bm < b13 ∧ w.heap.size + 1 + 1 < b13 ∧ B12 ≠ b13)
                generalize X3.heap.size = b47 at *
                have H47 := Lib.hid (⟨hN, by omega⟩ : BlockAt X4 b47 #[.int .i64 q] 3 ∧ bm < b47)
                clear hY hbY hN hsz hsz2 hsz3
                try dsimp only
                refine hK.out _ _ HM.out.s (fun _ => ?_)
                clear hK K
                try simp only [Act.put, List.setIfInBounds_toArray, List.set_cons_zero, List.set_cons_succ]
                refine wpOp_stepS rfl (by rfl) (fun K hK => ?_)
                go_simp
                refine (TQ.out b47 _ H47.out.1).mono ?_
                rintro e X5 ⟨rfl, hbY⟩
                have HM := Lib.hid (HM.out.below hbY)
                have H13 := Lib.hid (⟨H13.out.1.below hbY H13.out.1.lt, H13.out.2⟩ : BlockAt X5 b13 zero8 85 ∧ bm < b13 ∧ w.heap.size + 1 + 1 < b13 ∧ B12 ≠ b13)
                clear hbY
                try dsimp only
                refine hK.out _ _ HM.out.s (fun _ => ?_)
                clear hK K
                try simp only [Act.put, List.setIfInBounds_toArray, List.set_cons_zero, List.set_cons_succ]
                refine wpOp_stepS rfl (by rfl) (fun K hK => ?_)
                obtain ⟨y0, y1, y2, y3, y4, y5, y6, y7⟩ := zero_cells H13.out.1
                obtain ⟨f0, f1, f2, f3, f4, f5, f6, f7⟩ := free8 H13.out.1
                go_simp
                obtain ⟨X6, hY⟩ : ∃ Y, storeN X5 b13 (T j * q) = Y := ⟨_, rfl⟩
                have HF : Hid (StK w0 w X6 bl bo bb bf bv bd bof bm (.slice (some ⟨lb, loff, none⟩) ls.length lc) ls of T D i acc B12 j q ∧ BlockAt X6 b13 #[wV (T j * q) 0, wV (T j * q) 1, wV (T j * q) 2, wV (T j * q) 3, wV (T j * q) 4, wV (T j * q) 5, wV (T j * q) 6, wV (T j * q) 7] 85 ∧ w.heap.size + 1 + 1 < b13 ∧ B12 ≠ b13) := by
                  rw [← hY]; exact Lib.hid ⟨HM.out.store HE0.out H13.out.2.2.1 H13.out.2.2.2, set8 H13.out.1 _ _ _ _ _ _ _ _, H13.out.2.2.1, H13.out.2.2.2⟩
                unfold storeN at hY
                rw [hY]
                have HM := Lib.hid HF.out.1
                clear hY y0 y1 y2 y3 y4 y5 y6 y7 f0 f1 f2 f3 f4 f5 f6 f7
                try dsimp only
                refine hK.out _ _ HM.out.s (fun _ => ?_)
                clear hK K
                try simp only [Act.put, List.setIfInBounds_toArray, List.set_cons_zero, List.set_cons_succ]
                refine SeqT.fin ⟨rfl, (b47, b13), by simp only [putAll, Act.put, List.setIfInBounds_toArray, List.set_cons_zero, List.set_cons_succ], ?_⟩
                exact HF.out
            · go_simp
              obtain ⟨X2, hY⟩ : ∃ Y, X1.alloc (.cells #[.int .i64 q] 3) = Y := ⟨_, rfl⟩
              have hbY : Below X1.heap.size X1 X2 := by rw [← hY]; exact below_alloc (Below.refl _ _) _
              have hN : BlockAt X2 X1.heap.size #[.int .i64 q] 3 := by rw [← hY]; exact BlockAt.new _ _ _
              have hsz := HM.out.2.1.lt
              have hsz2 := HM.out.2.2
              have hsz3 := HM.out.1.szlt
              rw [hY]
              have HM := Lib.hid (HM.out.below hbY)
              generalize X1.heap.size = b47 at *
              have H47 := Lib.hid (⟨hN, by omega⟩ : BlockAt X2 b47 #[.int .i64 q] 3 ∧ bm < b47)
              clear hY hbY hN hsz hsz2 hsz3
              try dsimp only
              refine hK.out _ _ HM.out.s (fun _ => ?_)
              clear hK K
              try simp only [Act.put, List.setIfInBounds_toArray, List.set_cons_zero, List.set_cons_succ]
              refine ⟨wpOp_stepS rfl (by rfl) (fun K hK => ?_), wpOp_stepS rfl (by rfl) (fun K hK => ?_)⟩
              · go_simp
                obtain ⟨D1, hM1, hE1, hD1, _⟩ := HM.out.1
                refine (HFI.out.2.2 j (by omega) _ D1 hE1 hM1).mono ?_
                rintro e X3 ⟨rfl, hvis⟩
                have HM := Lib.hid (HM.out.vis hD1 hvis.out (by omega))
                have H47 := Lib.hid (⟨H47.out.1.kb (hvis.out.elim fun _ h => h.2.2) (by have := H47.out.2; omega), H47.out.2⟩ : BlockAt X3 b47 #[.int .i64 q] 3 ∧ bm < b47)
                clear hM1 hE1 hD1 hvis
                try dsimp only
                refine hK.out _ _ HM.out.s (fun _ => ?_)
                clear hK K
                try simp only [Act.put, List.setIfInBounds_toArray, List.set_cons_zero, List.set_cons_succ]
                refine ⟨wpOp_stepS rfl (by rfl) (fun K hK => ?_), wpOp_stepS rfl (by rfl) (fun K hK => ?_)⟩
                · go_simp
                  refine (TQ.out b47 _ H47.out.1).mono ?_
                  rintro e X4 ⟨rfl, hbY⟩
                  have HM := Lib.hid (HM.out.below hbY)
                  clear hbY
                  try dsimp only
                  refine hK.out _ _ HM.out.s (fun _ => ?_)
                  clear hK K
                  try simp only [Act.put, List.setIfInBounds_toArray, List.set_cons_zero, List.set_cons_succ]
                  refine wpOp_stepS rfl (by rfl) (fun K hK => ?_)
                  go_simp
                  obtain ⟨X5, hY⟩ : ∃ Y, X4.alloc (.cells zero8 85) = Y := ⟨_, rfl⟩
                  have hbY : Below X4.heap.size X4 X5 := by rw [← hY]; exact below_alloc (Below.refl _ _) _
                  have hN : BlockAt X5 X4.heap.size zero8 85 := by rw [← hY]; exact BlockAt.new _ _ _
                  have hsz := HM.out.2.1.lt
                  have hsz2 := HM.out.2.2
                  have hsz3 := HM.out.1.szlt
                  rw [hY]
                  have HM := Lib.hid (HM.out.below hbY)
                  generalize X4.heap.size = b13 at *
                  have H13 := Lib.hid (⟨hN, by omega, by omega, by omega⟩ : BlockAt X5 b13 zero8 85 ∧ bm < b13 ∧ w.heap.size + 1 + 1 < b13 ∧ B12 ≠ b13)
                  clear hY hbY hN hsz hsz2 hsz3
                  try dsimp only
                  refine hK.out _ _ HM.out.s (fun _ => ?_)
                  clear hK K
                  try simp only [Act.put, List.setIfInBounds_toArray, List.set_cons_zero, List.set_cons_succ]
                  refine wpOp_stepS rfl (by rfl) (fun K hK => ?_)
                  obtain ⟨y0, y1, y2, y3, y4, y5, y6, y7⟩ := zero_cells H13.out.1
                  obtain ⟨f0, f1, f2, f3, f4, f5, f6, f7⟩ := free8 H13.out.1
                  go_simp
                  obtain ⟨X6, hY⟩ : ∃ Y, storeN X5 b13 (T j * q) = Y := ⟨_, rfl⟩
                  have HF : Hid (StK w0 w X6 bl bo bb bf bv bd bof bm (.slice (some ⟨lb, loff, none⟩) ls.length lc) ls of T D i acc B12 j q ∧ BlockAt X6 b13 #[wV (T j * q) 0, wV (T j * q) 1, wV (T j * q) 2, wV (T j * q) 3, wV (T j * q) 4, wV (T j * q) 5, wV (T j * q) 6, wV (T j * q) 7] 85 ∧ w.heap.size + 1 + 1 < b13 ∧ B12 ≠ b13) := by
                    rw [← hY]; exact Lib.hid ⟨HM.out.store HE0.out H13.out.2.2.1 H13.out.2.2.2, set8 H13.out.1 _ _ _ _ _ _ _ _, H13.out.2.2.1, H13.out.2.2.2⟩
                  unfold storeN at hY
                  rw [hY]
                  have HM := Lib.hid HF.out.1
                  clear hY y0 y1 y2 y3 y4 y5 y6 y7 f0 f1 f2 f3 f4 f5 f6 f7
                  try dsimp only
                  refine hK.out _ _ HM.out.s (fun _ => ?_)
                  clear hK K
                  try simp only [Act.put, List.setIfInBounds_toArray, List.set_cons_zero, List.set_cons_succ]
                  refine SeqT.fin ⟨rfl, (b47, b13), by simp only [putAll, Act.put, List.setIfInBounds_toArray, List.set_cons_zero, List.set_cons_succ], ?_⟩
                  exact HF.out
                · go_simp
                  obtain ⟨X4, hY⟩ : ∃ Y, X3.alloc (.cells zero8 85) = Y := ⟨_, rfl⟩
                  have hbY : Below X3.heap.size X3 X4 := by rw [← hY]; exact below_alloc (Below.refl _ _) _
                  have hN : BlockAt X4 X3.heap.size zero8 85 := by rw [← hY]; exact BlockAt.new _ _ _
                  have hsz := HM.out.2.1.lt
                  have hsz2 := HM.out.2.2
                  have hsz3 := HM.out.1.szlt
                  rw [hY]
                  have HM := Lib.hid (HM.out.below hbY)
                  have H47 := Lib.hid (⟨H47.out.1.below hbY H47.out.1.lt, H47.out.2⟩ : BlockAt X4 b47 #[.int .i64 q] 3 ∧ bm < b47)
                  generalize X3.heap.size = b13 at *
                  have H13 := Lib.hid (⟨hN, by omega, by omega, by omega⟩ : BlockAt X4 b13 zero8 85 ∧ bm < b13 ∧ w.heap.size + 1 + 1 < b13 ∧ B12 ≠ b13)
                  clear hY hbY hN hsz hsz2 hsz3
                  try dsimp only
                  refine hK.out _ _ HM.out.s (fun _ => ?_)
                  clear hK K
                  try simp only [Act.put, List.setIfInBounds_toArray, List.set_cons_zero, List.set_cons_succ]
                  refine wpOp_stepS rfl (by rfl) (fun K hK => ?_)
                  go_simp
                  refine (TQ.out b47 _ H47.out.1).mono ?_
                  rintro e X5 ⟨rfl, hbY⟩
                  have HM := Lib.hid (HM.out.below hbY)
                  have H13 := Lib.hid (⟨H13.out.1.below hbY H13.out.1.lt, H13.out.2⟩ : BlockAt X5 b13 zero8 85 ∧ bm < b13 ∧ w.heap.size + 1 + 1 < b13 ∧ B12 ≠ b13)
                  clear hbY
                  try dsimp only
                  refine hK.out _ _ HM.out.s (fun _ => ?_)
                  clear hK K
                  try simp only [Act.put, List.setIfInBounds_toArray, List.set_cons_zero, List.set_cons_succ]
                  refine wpOp_stepS rfl (by rfl) (fun K hK => ?_)
                  obtain ⟨y0, y1, y2, y3, y4, y5, y6, y7⟩ := zero_cells H13.out.1
                  obtain ⟨f0, f1, f2, f3, f4, f5, f6, f7⟩ := free8 H13.out.1
                  go_simp
                  obtain ⟨X6, hY⟩ : ∃ Y, storeN X5 b13 (T j * q) = Y := ⟨_, rfl⟩
                  have HF : Hid (StK w0 w X6 bl bo bb bf bv bd bof bm (.slice (some ⟨lb, loff, none⟩) ls.length lc) ls of T D i acc B12 j q ∧ BlockAt X6 b13 #[wV (T j * q) 0, wV (T j * q) 1, wV (T j * q) 2, wV (T j * q) 3, wV (T j * q) 4, wV (T j * q) 5, wV (T j * q) 6, wV (T j * q) 7] 85 ∧ w.heap.size + 1 + 1 < b13 ∧ B12 ≠ b13) := by
                    rw [← hY]; exact Lib.hid ⟨HM.out.store HE0.out H13.out.2.2.1 H13.out.2.2.2, set8 H13.out.1 _ _ _ _ _ _ _ _, H13.out.2.2.1, H13.out.2.2.2⟩
                  unfold storeN at hY
                  rw [hY]
                  have HM := Lib.hid HF.out.1
                  clear hY y0 y1 y2 y3 y4 y5 y6 y7 f0 f1 f2 f3 f4 f5 f6 f7
                  try dsimp only
                  refine hK.out _ _ HM.out.s (fun _ => ?_)
                  clear hK K
                  try simp only [Act.put, List.setIfInBounds_toArray, List.set_cons_zero, List.set_cons_succ]
                  refine SeqT.fin ⟨rfl, (b47, b13), by simp only [putAll, Act.put, List.setIfInBounds_toArray, List.set_cons_zero, List.set_cons_succ], ?_⟩
                  exact HF.out
              · go_simp
                obtain ⟨X3, hY⟩ : ∃ Y, X2.alloc (.cells zero8 85) = Y := ⟨_, rfl⟩
                have hbY : Below X2.heap.size X2 X3 := by rw [← hY]; exact below_alloc (Below.refl _ _) _
                have hN : BlockAt X3 X2.heap.size zero8 85 := by rw [← hY]; exact BlockAt.new _ _ _
                have hsz := HM.out.2.1.lt
                have hsz2 := HM.out.2.2
                have hsz3 := HM.out.1.szlt
                rw [hY]
                have HM := Lib.hid (HM.out.below hbY)
                have H47 := Lib.hid (⟨H47.out.1.below hbY H47.out.1.lt, H47.out.2⟩ : BlockAt X3 b47 #[.int .i64 q] 3 ∧ bm < b47)
                generalize X2.heap.size = b13 at *
                have H13 := Lib.hid (⟨hN, by omega, by omega, by omega⟩ : BlockAt X3 b13 zero8 85 ∧ bm < b13 ∧ w.heap.size + 1 + 1 < b13 ∧ B12 ≠ b13)
                clear hY hbY hN hsz hsz2 hsz3
                try dsimp only
                refine hK.out _ _ HM.out.s (fun _ => ?_)
                clear hK K
                try simp only [Act.put, List.setIfInBounds_toArray, List.set_cons_zero, List.set_cons_succ]
                refine wpOp_stepS rfl (by rfl) (fun K hK => ?_)
                go_simp
                obtain ⟨D1, hM1, hE1, hD1, _⟩ := HM.out.1
                refine (HFI.out.2.2 j (by omega) _ D1 hE1 hM1).mono ?_
                rintro e X4 ⟨rfl, hvis⟩
                have HM := Lib.hid (HM.out.vis hD1 hvis.out (by omega))
                have H47 := Lib.hid (⟨H47.out.1.kb (hvis.out.elim fun _ h => h.2.2) (by have := H47.out.2; omega), H47.out.2⟩ : BlockAt X4 b47 #[.int .i64 q] 3 ∧ bm < b47)
                have H13 := Lib.hid (⟨H13.out.1.kb (hvis.out.elim fun _ h => h.2.2) (by have := H13.out.2.1; omega), H13.out.2⟩ : BlockAt X4 b13 zero8 85 ∧ bm < b13 ∧ w.heap.size + 1 + 1 < b13 ∧ B12 ≠ b13)
                clear hM1 hE1 hD1 hvis
                try dsimp only
                refine hK.out _ _ HM.out.s (fun _ => ?_)
                clear hK K
                try simp only [Act.put, List.setIfInBounds_toArray, List.set_cons_zero, List.set_cons_succ]
                refine wpOp_stepS rfl (by rfl) (fun K hK => ?_)
                go_simp
                refine (TQ.out b47 _ H47.out.1).mono ?_
                rintro e X5 ⟨rfl, hbY⟩
                have HM := Lib.hid (HM.out.below hbY)
                have H13 := Lib.hid (⟨H13.out.1.below hbY H13.out.1.lt, H13.out.2⟩ : BlockAt X5 b13 zero8 85 ∧ bm < b13 ∧ w.heap.size + 1 + 1 < b13 ∧ B12 ≠ b13)
                clear hbY
                try dsimp only
                refine hK.out _ _ HM.out.s (fun _ => ?_)
                clear hK K
                try simp only [Act.put, List.setIfInBounds_toArray, List.set_cons_zero, List.set_cons_succ]
                refine wpOp_stepS rfl (by rfl) (fun K hK => ?_)
                obtain ⟨y0, y1, y2, y3, y4, y5, y6, y7⟩ := zero_cells H13.out.1
                obtain ⟨f0, f1, f2, f3, f4, f5, f6, f7⟩ := free8 H13.out.1
                go_simp
                obtain ⟨X6, hY⟩ : ∃ Y, storeN X5 b13 (T j * q) = Y := ⟨_, rfl⟩
                have HF : Hid (StK w0 w X6 bl bo bb bf bv bd bof bm (.slice (some ⟨lb, loff, none⟩) ls.length lc) ls of T D i acc B12 j q ∧ BlockAt X6 b13 #[wV (T j * q) 0, wV (T j * q) 1, wV (T j * q) 2, wV (T j * q) 3, wV (T j * q) 4, wV (T j * q) 5, wV (T j * q) 6, wV (T j * q) 7] 85 ∧ w.heap.size + 1 + 1 < b13 ∧ B12 ≠ b13) := by
                  rw [← hY]; exact Lib.hid ⟨HM.out.store HE0.out H13.out.2.2.1 H13.out.2.2.2, set8 H13.out.1 _ _ _ _ _ _ _ _, H13.out.2.2.1, H13.out.2.2.2⟩
                unfold storeN at hY
                rw [hY]
                have HM := Lib.hid HF.out.1
                clear hY y0 y1 y2 y3 y4 y5 y6 y7 f0 f1 f2 f3 f4 f5 f6 f7
                try dsimp only
                refine hK.out _ _ HM.out.s (fun _ => ?_)
                clear hK K
                try simp only [Act.put, List.setIfInBounds_toArray, List.set_cons_zero, List.set_cons_succ]
                refine SeqT.fin ⟨rfl, (b47, b13), by simp only [putAll, Act.put, List.setIfInBounds_toArray, List.set_cons_zero, List.set_cons_succ], ?_⟩
                exact HF.out
            · go_simp
              obtain ⟨X2, hY⟩ : ∃ Y, X1.alloc (.cells zero8 85) = Y := ⟨_, rfl⟩
              have hbY : Below X1.heap.size X1 X2 := by rw [← hY]; exact below_alloc (Below.refl _ _) _
              have hN : BlockAt X2 X1.heap.size zero8 85 := by rw [← hY]; exact BlockAt.new _ _ _
              have hsz := HM.out.2.1.lt
              have hsz2 := HM.out.2.2
              have hsz3 := HM.out.1.szlt
              rw [hY]
              have HM := Lib.hid (HM.out.below hbY)
              generalize X1.heap.size = b13 at *
              have H13 := Lib.hid (⟨hN, by omega, by omega, by omega⟩ : BlockAt X2 b13 zero8 85 ∧ bm < b13 ∧ w.heap.size + 1 + 1 < b13 ∧ B12 ≠ b13)
              clear hY hbY hN hsz hsz2 hsz3
              try dsimp only
              refine hK.out _ _ HM.out.s (fun _ => ?_)
              clear hK K
              try simp only [Act.put, List.setIfInBounds_toArray, List.set_cons_zero, List.set_cons_succ]
              refine ⟨wpOp_stepS rfl (by rfl) (fun K hK => ?_), wpOp_stepS rfl (by rfl) (fun K hK => ?_)⟩
              · go_simp
                obtain ⟨D1, hM1, hE1, hD1, _⟩ := HM.out.1
                refine (HFI.out.2.2 j (by omega) _ D1 hE1 hM1).mono ?_
                rintro e X3 ⟨rfl, hvis⟩
                have HM := Lib.hid (HM.out.vis hD1 hvis.out (by omega))
                have H13 := Lib.hid (⟨H13.out.1.kb (hvis.out.elim fun _ h => h.2.2) (by have := H13.out.2.1; omega), H13.out.2⟩ : BlockAt X3 b13 zero8 85 ∧ bm < b13 ∧ w.heap.size + 1 + 1 < b13 ∧ B12 ≠ b13)
                clear hM1 hE1 hD1 hvis
                try dsimp only
                refine hK.out _ _ HM.out.s (fun _ => ?_)
                clear hK K
                try simp only [Act.put, List.setIfInBounds_toArray, List.set_cons_zero, List.set_cons_succ]
                refine wpOp_stepS rfl (by rfl) (fun K hK => ?_)
                go_simp
                obtain ⟨X4, hY⟩ : ∃ Y, X3.alloc (.cells #[.int .i64 q] 3) = Y := ⟨_, rfl⟩
                have hbY : Below X3.heap.size X3 X4 := by rw [← hY]; exact below_alloc (Below.refl _ _) _
                have hN : BlockAt X4 X3.heap.size #[.int .i64 q] 3 := by rw [← hY]; exact BlockAt.new _ _ _
                have hsz := HM.out.2.1.lt
                have hsz2 := HM.out.2.2
                have hsz3 := HM.out.1.szlt
                rw [hY]
                have HM := Lib.hid (HM.out.below hbY)
                have H13 := Lib.hid (⟨H13.out.1.below hbY H13.out.1.lt, H13.out.2⟩ : BlockAt X4 b13 zero8 85 ∧ bm < b13 ∧ w.heap.size + 1 + 1 < b13 ∧ B12 ≠ b13)
                generalize X3.heap.size = b47 at *
                have H47 := Lib.hid (⟨hN, by omega⟩ : BlockAt X4 b47 #[.int .i64 q] 3 ∧ bm < b47)
                clear hY hbY hN hsz hsz2 hsz3
                try dsimp only
                refine hK.out _ _ HM.out.s (fun _ => ?_)
                clear hK K
                try simp only [Act.put, List.setIfInBounds_toArray, List.set_cons_zero, List.set_cons_succ]
                refine wpOp_stepS rfl (by rfl) (fun K hK => ?_)
                go_simp
                refine (TQ.out b47 _ H47.out.1).mono ?_
                rintro e X5 ⟨rfl, hbY⟩
                have HM := Lib.hid (HM.out.below hbY)
                have H13 := Lib.hid (⟨H13.out.1.below hbY H13.out.1.lt, H13.out.2⟩ : BlockAt X5 b13 zero8 85 ∧ bm < b13 ∧ w.heap.size + 1 + 1 < b13 ∧ B12 ≠ b13)
                clear hbY
                try dsimp only
                refine hK.out _ _ HM.out.s (fun _ => ?_)
                clear hK K
                try simp only [Act.put, List.setIfInBounds_toArray, List.set_cons_zero, List.set_cons_succ]
                refine wpOp_stepS rfl (by rfl) (fun K hK => ?_)
                obtain ⟨y0, y1, y2, y3, y4, y5, y6, y7⟩ := zero_cells H13.out.1
                obtain ⟨f0, f1, f2, f3, f4, f5, f6, f7⟩ := free8 H13.out.1
                go_simp
                obtain ⟨X6, hY⟩ : ∃ Y, storeN X5 b13 (T j * q) = Y := ⟨_, rfl⟩
                have HF : Hid (StK w0 w X6 bl bo bb bf bv bd bof bm (.slice (some ⟨lb, loff, none⟩) ls.length lc) ls of T D i acc B12 j q ∧ BlockAt X6 b13 #[wV (T j * q) 0, wV (T j * q) 1, wV (T j * q) 2, wV (T j * q) 3, wV (T j * q) 4, wV (T j * q) 5, wV (T j * q) 6, wV (T j * q) 7] 85 ∧ w.heap.size + 1 + 1 < b13 ∧ B12 ≠ b13) := by
                  rw [← hY]; exact Lib.hid ⟨HM.out.store HE0.out H13.out.2.2.1 H13.out.2.2.2, set8 H13.out.1 _ _ _ _ _ _ _ _, H13.out.2.2.1, H13.out.2.2.2⟩
                unfold storeN at hY
                rw [hY]
                have HM := Lib.hid HF.out.1
                clear hY y0 y1 y2 y3 y4 y5 y6 y7 f0 f1 f2 f3 f4 f5 f6 f7
                try dsimp only
                refine hK.out _ _ HM.out.s (fun _ => ?_)
                clear hK K
                try simp only [Act.put, List.setIfInBounds_toArray, List.set_cons_zero, List.set_cons_succ]
                refine SeqT.fin ⟨rfl, (b47, b13), by simp only [putAll, Act.put, List.setIfInBounds_toArray, List.set_cons_zero, List.set_cons_succ], ?_⟩
                exact HF.out
              · go_simp
                obtain ⟨X3, hY⟩ : ∃ Y, X2.alloc (.cells #[.int .i64 q] 3) = Y := ⟨_, rfl⟩
                have hbY : Below X2.heap.size X2 X3 := by rw [← hY]; exact below_alloc (Below.refl _ _) _
                have hN : BlockAt X3 X2.heap.size #[.int .i64 q] 3 := by rw [← hY]; exact BlockAt.new _ _ _
                have hsz := HM.out.2.1.lt
                have hsz2 := HM.out.2.2
                have hsz3 := HM.out.1.szlt
                rw [hY]
                have HM := Lib.hid (HM.out.below hbY)
                have H13 := Lib.hid (⟨H13.out.1.below hbY H13.out.1.lt, H13.out.2⟩ : BlockAt X3 b13 zero8 85 ∧ bm < b13 ∧ w.heap.size + 1 + 1 < b13 ∧ B12 ≠ b13)
                generalize X2.heap.size = b47 at *
                have H47 := Lib.hid (⟨hN, by omega⟩ : BlockAt X3 b47 #[.int .i64 q] 3 ∧ bm < b47)
                clear hY hbY hN hsz hsz2 hsz3
                try dsimp only
                refine hK.out _ _ HM.out.s (fun _ => ?_)
                clear hK K
                try simp only [Act.put, List.setIfInBounds_toArray, List.set_cons_zero, List.set_cons_succ]
                refine wpOp_stepS rfl (by rfl) (fun K hK => ?_)
                go_simp
                obtain ⟨D1, hM1, hE1, hD1, _⟩ := HM.out.1
                refine (HFI.out.2.2 j (by omega) _ D1 hE1 hM1).mono ?_
                rintro e X4 ⟨rfl, hvis⟩
                have HM := Lib.hid (HM.out.vis hD1 hvis.out (by omega))
                have H47 := Lib.hid (⟨H47.out.1.kb (hvis.out.elim fun _ h => h.2.2) (by have := H47.out.2; omega), H47.out.2⟩ : BlockAt X4 b47 #[.int .i64 q] 3 ∧ bm < b47)
                have H13 := Lib.hid (⟨H13.out.1.kb (hvis.out.elim fun _ h => h.2.2) (by have := H13.out.2.1; omega), H13.out.2⟩ : BlockAt X4 b13 zero8 85 ∧ bm < b13 ∧ w.heap.size + 1 + 1 < b13 ∧ B12 ≠ b13)
                clear hM1 hE1 hD1 hvis
                try dsimp only
                refine hK.out _ _ HM.out.s (fun _ => ?_)
                clear hK K
                try simp only [Act.put, List.setIfInBounds_toArray, List.set_cons_zero, List.set_cons_succ]
                refine wpOp_stepS rfl (by rfl) (fun K hK => ?_)
                go_simp
                refine (TQ.out b47 _ H47.out.1).mono ?_
                rintro e X5 ⟨rfl, hbY⟩
                have HM := Lib.hid (HM.out.below hbY)
                have H13 := Lib.hid (⟨H13.out.1.below hbY H13.out.1.lt, H13.out.2⟩ : BlockAt X5 b13 zero8 85 ∧ bm < b13 ∧ w.heap.size + 1 + 1 < b13 ∧ B12 ≠ b13)
                clear hbY
                try dsimp only
                refine hK.out _ _ HM.out.s (fun _ => ?_)
                clear hK K
                try simp only [Act.put, List.setIfInBounds_toArray, List.set_cons_zero, List.set_cons_succ]
                refine wpOp_stepS rfl (by rfl) (fun K hK => ?_)
                obtain ⟨y0, y1, y2, y3, y4, y5, y6, y7⟩ := zero_cells H13.out.1
                obtain ⟨f0, f1, f2, f3, f4, f5, f6, f7⟩ := free8 H13.out.1
                go_simp
                obtain ⟨X6, hY⟩ : ∃ Y, storeN X5 b13 (T j * q) = Y := ⟨_, rfl⟩
                have HF : Hid (StK w0 w X6 bl bo bb bf bv bd bof bm (.slice (some ⟨lb, loff, none⟩) ls.length lc) ls of T D i acc B12 j q ∧ BlockAt X6 b13 #[wV (T j * q) 0, wV (T j * q) 1, wV (T j * q) 2, wV (T j * q) 3, wV (T j * q) 4, wV (T j * q) 5, wV (T j * q) 6, wV (T j * q) 7] 85 ∧ w.heap.size + 1 + 1 < b13 ∧ B12 ≠ b13) := by
                  rw [← hY]; exact Lib.hid ⟨HM.out.store HE0.out H13.out.2.2.1 H13.out.2.2.2, set8 H13.out.1 _ _ _ _ _ _ _ _, H13.out.2.2.1, H13.out.2.2.2⟩
                unfold storeN at hY
                rw [hY]
                have HM := Lib.hid HF.out.1
                clear hY y0 y1 y2 y3 y4 y5 y6 y7 f0 f1 f2 f3 f4 f5 f6 f7
                try dsimp only
                refine hK.out _ _ HM.out.s (fun _ => ?_)
                clear hK K
                try simp only [Act.put, List.setIfInBounds_toArray, List.set_cons_zero, List.set_cons_succ]
                refine SeqT.fin ⟨rfl, (b47, b13), by simp only [putAll, Act.put, List.setIfInBounds_toArray, List.set_cons_zero, List.set_cons_succ], ?_⟩
                exact HF.out
          · rintro ⟨b47, b13⟩ Y hF
            obtain ⟨hSt, h13, hb13, hb12⟩ := hF
            simp only [putAll, Act.put, List.setIfInBounds_toArray, List.set_cons_zero, List.set_cons_succ]
            go_wp2_with fail
            have TM2 : Hid (∀ X, BlockAt X bd (intsC (dens ls)) 3 → Calls Try.prog 96 #[natV (T j * q), .slice (some ⟨bd, j + 1, none⟩) (i - (j + 1)) (ls.length - (j + 1))] X fun e w' => e = .returned (natV (T j * q * Sh.pr (Sh.be ls) (j + 1) (i - (j + 1)))) ∧ Below X.heap.size X w') := by
              refine Lib.hid fun X hX => ?_
              have := times_any (T j * q) _ _ X (nums_seg (a := j + 1) (n := i - (j + 1)) (cap := ls.length - (j + 1)) hX (by omega) (by omega)) (by simp [segN]; omega) (fun k hk => by
                have := Sh.be_le HFI.out.1 (j + 1 + k)
                simp [segN] at hk
                simp [segN, hk]; omega)
              rw [prodL_seg] at this
              exact this
            have hji1 : (j : Int) + 1 ≤ (i : Int) := by omega
            have hji2 : j + 1 ≤ i := by omega
            have hwj : IntKind.i64.wrap ((j : Int) + 1) = (j : Int) + 1 := wrap_i (by omega) (by omega)
            have htn : ((j : Int) + 1).toNat = j + 1 := by omega
            have h0j : (0 : Int) ≤ (j : Int) + 1 := by omega
            have hnl : ¬ ls.length = j + 1 := by omega
            have hil : (i : Int) ≤ (ls.length : Int) := by omega
            have hil2 : i ≤ ls.length := by omega
            have hST := Lib.hid (And.intro hSt h13)
            obtain ⟨⟨D1, _, hE1, _, _, _, z10, _⟩, hB12, _⟩ := hSt
            have hS0 : S11 Y.drew b13 B12 bb bd ls.length (T j * q) j := S11.mk h13 hE1.b hB12
            obtain ⟨a0, a1, a2, a3, a4, a5, a6, a7⟩ := nat_cells z10
            have h10 := z10.lt
            clear h13 hE1 hB12 z10 TQ HM
            generalize T j * q = pq at *
            refine wp_region_seq2 (.take 1 (.take 2 (.take 3 (.take 4 (.take 5 (.take 6 (.take 7 (.two 0 (.one 8 (.one 9 (.one 10 .done))) 8 (.one 0 (.one 9 (.one 10 .done))))))))))) (fun W => S11 W b13 B12 bb bd ls.length pq j)
              (by kernel_rfl) (by kernel_rfl) (by kernel_rfl) (by kernel_rfl) (fun d _ _ _ _ h => by cases d <;> exact h) hS0 (fun hS => ?_)
            clear hS0
            repeat (refine SeqO.ld (v := ?_) rfl (by rfl) ?_ ?_; rotate_left; (· intro w hSw; (try dsimp only at hSw); obtain ⟨⟨q0, q1, q2, q3, q4, q5, q6, q7⟩, q8, q9⟩ := hSw; go_simp; (try with_reducible rfl)); simp only [Act.put, List.setIfInBounds_toArray, List.set_cons_zero, List.set_cons_succ])
            have hST := Lib.hid (⟨hST.out.1.drew, hST.out.2.drew⟩ : StK w0 w Y.drew bl bo bb bf bv bd bof bm (.slice (some ⟨lb, loff, none⟩) ls.length lc) ls of T D i acc B12 j q ∧ BlockAt Y.drew b13 #[wV pq 0, wV pq 1, wV pq 2, wV pq 3, wV pq 4, wV pq 5, wV pq 6, wV pq 7] 85)
            refine ⟨wpOp_stepS rfl (by rfl) (fun K hK => ?_), wpOp_stepS rfl (by rfl) (fun K hK => ?_)⟩
            · go_simp
              refine hK.out _ _ hS (fun _ => ?_)
              clear hK K
              try simp only [Act.put, List.setIfInBounds_toArray, List.set_cons_zero, List.set_cons_succ]
              refine SeqO.step rfl (by rfl) (fun K hK => ?_)
              go_simp
              refine (TM2.out _ (hST.out.1.1.elim fun _ h => h.2.1.d)).mono ?_
              rintro e Y2 ⟨rfl, hbY⟩
              have hST := Lib.hid (⟨hST.out.1.below hbY, hST.out.2.below hbY hST.out.2.lt⟩ : StK w0 w Y2 bl bo bb bf bv bd bof bm (.slice (some ⟨lb, loff, none⟩) ls.length lc) ls of T D i acc B12 j q ∧ BlockAt Y2 b13 #[wV pq 0, wV pq 1, wV pq 2, wV pq 3, wV pq 4, wV pq 5, wV pq 6, wV pq 7] 85)
              have hSn : S11 Y2 b13 B12 bb bd ls.length pq j := hST.out.1.1.elim fun _ h => S11.mk hST.out.2 h.2.1.b hST.out.1.2.1
              try dsimp only
              refine hK.out _ _ hSn (fun _ => ?_)
              clear hK K hbY
              try simp only [Act.put, List.setIfInBounds_toArray, List.set_cons_zero, List.set_cons_succ]
              clear a0 a1 a2 a3 a4 a5 a6 a7 hS hSn
              refine SeqO.step rfl (by rfl) (fun K hK => ?_)
              go_simp
              refine (plus_any acc (pq * Sh.pr (Sh.be ls) (j + 1) (i - (j + 1))) _).mono ?_
              rintro e Y3 ⟨rfl, hbY⟩
              have hST := Lib.hid (⟨hST.out.1.below hbY, hST.out.2.below hbY hST.out.2.lt⟩ : StK w0 w Y3 bl bo bb bf bv bd bof bm (.slice (some ⟨lb, loff, none⟩) ls.length lc) ls of T D i acc B12 j q ∧ BlockAt Y3 b13 #[wV pq 0, wV pq 1, wV pq 2, wV pq 3, wV pq 4, wV pq 5, wV pq 6, wV pq 7] 85)
              have hSn : S11 Y3 b13 B12 bb bd ls.length pq j := hST.out.1.1.elim fun _ h => S11.mk hST.out.2 h.2.1.b hST.out.1.2.1
              try dsimp only
              refine hK.out _ _ hSn (fun _ => ?_)
              clear hK K hbY
              try simp only [Act.put, List.setIfInBounds_toArray, List.set_cons_zero, List.set_cons_succ]
              clear hSn
              obtain ⟨_, _, _, _, _, _, z10, _⟩ := hST.out.1.1
              obtain ⟨a0, a1, a2, a3, a4, a5, a6, a7⟩ := nat_cells z10
              obtain ⟨f0, f1, f2, f3, f4, f5, f6, f7⟩ := free8 z10
              clear z10
              refine SeqO.step rfl (by rfl) (fun K hK => ?_)
              go_simp
              obtain ⟨W2, hW2⟩ : ∃ W2, storeN Y3 (w.heap.size + 1 + 1) (acc + pq * Sh.pr (Sh.be ls) (j + 1) (i - (j + 1))) = W2 := ⟨_, rfl⟩
              have hMS := Lib.hid (hST.out.1.1.store (p := acc + pq * Sh.pr (Sh.be ls) (j + 1) (i - (j + 1))) HE0.out)
              have hSn : S11 W2 b13 B12 bb bd ls.length pq j := by
                rw [← hW2]
                exact hST.out.1.1.elim fun _ h => S11.mk (store_other hST.out.2 (by omega)) ((h.2.1.b.kb (Kb.refl bm _) h.2.1.ne.2.2.2.1) |> fun hh => store_other hh (by have := HE0.out.b.lt; omega)) (store_other hST.out.1.2.1 (by omega))
              rw [hW2] at hMS
              unfold storeN at hW2
              rw [hW2]
              refine hK.out _ _ hSn (fun _ => ?_)
              clear hK K hW2 hSn a0 a1 a2 a3 a4 a5 a6 a7 f0 f1 f2 f3 f4 f5 f6 f7
              try simp only [Act.put, List.setIfInBounds_toArray, List.set_cons_zero, List.set_cons_succ]
              refine SeqO.fin ?_
              go_wp2
              go_roundw
              case rel => exact ⟨k + 1, by omega, by go_num, by rw [HSU.out]; exact hMS⟩
              case measure => simp [intOf]; omega
            · go_simp
              refine (TM2.out _ (hST.out.1.1.elim fun _ h => h.2.1.d)).mono ?_
              rintro e Y2 ⟨rfl, hbY⟩
              have hST := Lib.hid (⟨hST.out.1.below hbY, hST.out.2.below hbY hST.out.2.lt⟩ : StK w0 w Y2 bl bo bb bf bv bd bof bm (.slice (some ⟨lb, loff, none⟩) ls.length lc) ls of T D i acc B12 j q ∧ BlockAt Y2 b13 #[wV pq 0, wV pq 1, wV pq 2, wV pq 3, wV pq 4, wV pq 5, wV pq 6, wV pq 7] 85)
              have hSn : S11 Y2 b13 B12 bb bd ls.length pq j := hST.out.1.1.elim fun _ h => S11.mk hST.out.2 h.2.1.b hST.out.1.2.1
              try dsimp only
              refine hK.out _ _ hSn (fun _ => ?_)
              clear hK K hbY
              try simp only [Act.put, List.setIfInBounds_toArray, List.set_cons_zero, List.set_cons_succ]
              clear a0 a1 a2 a3 a4 a5 a6 a7 hS
              obtain ⟨_, _, _, _, _, _, z10, _⟩ := hST.out.1.1
              obtain ⟨a0, a1, a2, a3, a4, a5, a6, a7⟩ := nat_cells z10
              clear z10
              refine SeqO.step rfl (by rfl) (fun K hK => ?_)
              go_simp
              refine hK.out _ _ hSn (fun _ => ?_)
              clear hK K a0 a1 a2 a3 a4 a5 a6 a7 hSn
              try simp only [Act.put, List.setIfInBounds_toArray, List.set_cons_zero, List.set_cons_succ]
              refine SeqO.step rfl (by rfl) (fun K hK => ?_)
              go_simp
              refine (plus_any acc (pq * Sh.pr (Sh.be ls) (j + 1) (i - (j + 1))) _).mono ?_
              rintro e Y3 ⟨rfl, hbY⟩
              have hST := Lib.hid (⟨hST.out.1.below hbY, hST.out.2.below hbY hST.out.2.lt⟩ : StK w0 w Y3 bl bo bb bf bv bd bof bm (.slice (some ⟨lb, loff, none⟩) ls.length lc) ls of T D i acc B12 j q ∧ BlockAt Y3 b13 #[wV pq 0, wV pq 1, wV pq 2, wV pq 3, wV pq 4, wV pq 5, wV pq 6, wV pq 7] 85)
              have hSn : S11 Y3 b13 B12 bb bd ls.length pq j := hST.out.1.1.elim fun _ h => S11.mk hST.out.2 h.2.1.b hST.out.1.2.1
              try dsimp only
              refine hK.out _ _ hSn (fun _ => ?_)
              clear hK K hbY
              try simp only [Act.put, List.setIfInBounds_toArray, List.set_cons_zero, List.set_cons_succ]
              clear hSn
              obtain ⟨_, _, _, _, _, _, z10, _⟩ := hST.out.1.1
              obtain ⟨a0, a1, a2, a3, a4, a5, a6, a7⟩ := nat_cells z10
              obtain ⟨f0, f1, f2, f3, f4, f5, f6, f7⟩ := free8 z10
              clear z10
              refine SeqO.step rfl (by rfl) (fun K hK => ?_)
              go_simp
              obtain ⟨W2, hW2⟩ : ∃ W2, storeN Y3 (w.heap.size + 1 + 1) (acc + pq * Sh.pr (Sh.be ls) (j + 1) (i - (j + 1))) = W2 := ⟨_, rfl⟩
              have hMS := Lib.hid (hST.out.1.1.store (p := acc + pq * Sh.pr (Sh.be ls) (j + 1) (i - (j + 1))) HE0.out)
              have hSn : S11 W2 b13 B12 bb bd ls.length pq j := by
                rw [← hW2]
                exact hST.out.1.1.elim fun _ h => S11.mk (store_other hST.out.2 (by omega)) ((h.2.1.b.kb (Kb.refl bm _) h.2.1.ne.2.2.2.1) |> fun hh => store_other hh (by have := HE0.out.b.lt; omega)) (store_other hST.out.1.2.1 (by omega))
              rw [hW2] at hMS
              unfold storeN at hW2
              rw [hW2]
              refine hK.out _ _ hSn (fun _ => ?_)
              clear hK K hW2 hSn a0 a1 a2 a3 a4 a5 a6 a7 f0 f1 f2 f3 f4 f5 f6 f7
              try simp only [Act.put, List.setIfInBounds_toArray, List.set_cons_zero, List.set_cons_succ]
              refine SeqO.fin ?_
              go_wp2
              go_roundw
              case rel => exact ⟨k + 1, by omega, by go_num, by rw [HSU.out]; exact hMS⟩
              case measure => simp [intOf]; omega
        · obtain rfl : k = ps.length := by omega
          rw [List.take_length, ← HTi.out] at hg
          go_wp2
          go_meet
          case rel => exact hg
    · have hie : i = of := by have := HBO.out; simpa using this
      have hTi := HT1.out hie
      have TM := times_any 1 _ _ _ (nums_seg (a := 0) (n := i + 1) (cap := ls.length) hE3.d (by omega) (by omega)) (by simp [segN]; omega) (fun k hk => by
        have := Sh.be_le HFI.out.1 k
        simp [segN] at hk
        simp [segN, hk]; omega)
      rw [natV_one, Nat.one_mul, prodL_seg, show Sh.pr (Sh.be ls) 0 (i + 1) = Sh.D ls (i + 1) from rfl, ← hTi] at TM
      have HTM := Lib.hid TM
      have d1 := hE3.b.cell 0
      clear hM3 hE3 hk3 z7 z10 HA hrun c0 d0 HFI HT1 HT2 HBO hie hTi TM
      go_wp2_with fail
      refine HTM.out.mono ?_
      rintro e w4 ⟨rfl, hb4⟩
      obtain ⟨hM3, hE3, hk3, z7, z10, hlt⟩ := HM.out
      have hM4 := hM3.kept hb4
      have hk4 := hk3.below hb4
      have hE4 := hE3.kb (Kb.of hb4)
      have z7 := z7.below hb4 z7.lt
      have z10 := z10.below hb4 z10.lt
      obtain ⟨y0, y1, y2, y3, y4, y5, y6, y7⟩ := zero_cells z10
      obtain ⟨f0, f1, f2, f3, f4, f5, f6, f7⟩ := free8 z10
      have HN : Hid (Meet w0 w (storeN w4 (w.heap.size + 1 + 1) (T i)) bl bo bb bf bv bd bof bm (.slice la ls.length lc) ls of T D i (T i)) := by
        refine Lib.hid ⟨D, hM4.storeN (by omega), HE0.out.kb (hk4.storeN (by omega)), fun j _ => rfl, hk4.storeN (by omega), store_other z7 (by omega), set8 z10 _ _ _ _ _ _ _ _, hlt⟩
      clear hM3 hE3 hk3 z7 z10 hM4 hk4 hE4 hb4 HTM HM d1
      unfold storeN at HN
      go_wp2
      go_meet
      case rel => exact HN
end Go.Proofs.Ytccjbefmcifaeaa
