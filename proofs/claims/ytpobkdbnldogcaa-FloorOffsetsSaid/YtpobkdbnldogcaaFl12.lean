/- Plans in memory; a plan with more cuts: of the program. -/
import Derived.Test.YtpobkdbnldogcaaFl11
import Derived.Deep.Upon
namespace Go.Proofs.Ytpobkdbnldogcaa
open Go.RowKit

abbrev PlanT : TypeId := 127
/-- An append whose outcome is known. -/
theorem wpList_append_run {P : Program} {w : World} {ops : Array Oper} {rest : List Oper} {o : Oper} {a : Act} {Q : Exit → Act → World → Prop} (hgd : o.guard = none) (s x : Operand) (t : TypeId)
    (ho : o.op = .call { callee := .builtin .append, args := #[s, x], argTypes := #[t, t] }) {v xv v' : Value} {w' : World} (hs : a.eval s = v) (hx : a.eval x = xv) (hrun : ∀ ty, (Builtin.append_ #[t, t] ty #[v, xv]).run P w = .ok v' w')
    (hK : wpList P ops Q rest (a.put o.dst v') w') : wpList P ops Q (o :: rest) a w := by
  refine wpList_plain hgd fun K hK' => ?_
  have hr := hrun o.type
  unfold Oper.wp
  simp [execOp, ho, resolve, invoke, builtin, hs, hx, hr, Result.andThen]
  exact hK' _ _ hK
/-- Cuts that can be read: nothing, or at the head of a block. -/
def CutsT (w : World) (u : Value) (l : List Fl.C) : Prop :=
  (u = .slice none 0 0 ∧ l = []) ∨ ∃ g n cur, u = .slice (some ⟨g, 0, none⟩) l.length n ∧ l.length ≤ n ∧ w.heap[g]? = some (.cells cur CutT (0, 0)) ∧ CellsAt (l.flatMap cutC) w g 0
theorem CutsT.form {w : World} {u : Value} {l : List Fl.C} (h : CutsT w u l) : ∃ a n, u = .slice a l.length n ∧ l.length ≤ n := by
  rcases h with ⟨rfl, rfl⟩ | ⟨g, n, cur, rfl, hn, _⟩
  · exact ⟨none, 0, rfl, Nat.le_refl _⟩
  · exact ⟨_, n, rfl, hn⟩
theorem CutsT.below {w w2 : World} {u : Value} {l : List Fl.C} (h : CutsT w u l) (hb : Below w.heap.size w w2) : CutsT w2 u l := by
  rcases h with h | ⟨g, n, cur, h1, h2, h3, h4⟩
  · exact .inl h
  · have hg : g < w.heap.size := (Array.getElem?_eq_some_iff.1 h3).1
    exact .inr ⟨g, n, cur, h1, h2, by rw [hb.block g hg]; exact h3, h4.below hb hg⟩
/-- What lies in a block of plans is written: cuts stay. -/
theorem CutsT.set {w : World} {u : Value} {l : List Fl.C} (h : CutsT w u l) {B j : Nat} {o : Obj} (hB : w.heap[B]? = some o) (ho : ∀ cur, o ≠ .cells cur CutT (0, 0)) (v : Value) : CutsT (w.setCell ⟨B, j, none⟩ v) u l := by
  rcases h with h | ⟨g, n, cur, h1, h2, h3, h4⟩
  · exact .inl h
  · have hne : g ≠ B := by
      intro e; subst e
      rw [h3] at hB
      exact ho cur (Option.some.inj hB).symm
    have hh : (w.setCell ⟨B, j, none⟩ v).heap[g]? = w.heap[g]? := Below.heap_setCell _ _ _ _ hne
    exact .inr ⟨g, n, cur, h1, h2, by rw [hh]; exact h3, fun i x hx => (World.cell?_of_block (a := ⟨g, 0 + i, none⟩) hh).trans (h4 i x hx)⟩
theorem CutsT.rows {w : World} {u : Value} {l : List Fl.C} (h : CutsT w u l) : Cuts w u l := by
  rcases h with ⟨rfl, rfl⟩ | ⟨g, n, cur, rfl, hn, h3, h4⟩
  · exact ⟨none, 0, rfl, Nat.le_refl _, fun k hk => absurd hk (Nat.not_lt_zero _)⟩
  · refine ⟨_, n, rfl, hn, fun k hk => ⟨g, 0, rfl, (Array.getElem?_eq_some_iff.1 h3).1, fun j x hx => ?_⟩⟩
    have hj : j < 3 := (List.getElem?_eq_some_iff.1 hx).1
    have := h4 (k * 3 + j) x ((flat_at cutC_len l k hk j hj).trans hx)
    rwa [← Nat.add_assoc] at this
theorem CutsT.one {w : World} {B : Nat} {c : Fl.C} (h : BlockAt w B (cutA c) CutT) : CutsT w (.slice (some ⟨B, 0, none⟩) 1 1) [c] :=
  .inr ⟨B, 1, cutA c, rfl, Nat.le_refl _, h, fun j v hj => by
    have h2 := h.cell (0 + j)
    rw [h2, Nat.zero_add]
    simpa [cutC] using hj⟩
theorem addr_add (g j : Nat) : ((⟨g, 0, none⟩ : Addr).add j) = ⟨g, 0 + j, none⟩ := by cases j <;> simp [Addr.add]
theorem CutsT.src {w : World} {u : Value} {l : List Fl.C} (h : CutsT w u l) : Src Try.prog 3 59 u l.length (l.flatMap cutC) w := by
  rcases h with ⟨rfl, rfl⟩ | ⟨g, n, cur, rfl, hn, h3, h4⟩
  · exact Src.ofNil w Try.underlying59 0
  · refine Src.ofSlice w Try.underlying59 _ _ _ _ (flat_len cutC_len l) (fun j v hj => ?_) (fun v hv => ?_)
    · rw [addr_add]; exact h4 j v hj
    · obtain ⟨c, _, hc⟩ := List.mem_flatMap.1 hv
      exact cutC_one c v hc
/-- A list of cuts without room behind it, and more cuts: what append makes. -/
theorem append_cuts {w : World} {a : Option Addr} {u : Value} {k : Nat} {l ms : List Fl.C} (hk : k = l.length) (h : CutsT w (.slice a k k) l) (hm : CutsT w u ms) (hl : l.length + ms.length ≤ 1000) :
    ∃ a' c' w', (∀ ty, (Builtin.append_ #[59, 59] ty #[.slice a k k, u]).run Try.prog w = .ok (.slice a' (l.length + ms.length) c') w') ∧ CutsT w' (.slice a' (l.length + ms.length) c') (l ++ ms) ∧ Below w.heap.size w w' ∧ w.heap.size ≤ w'.heap.size := by
  obtain ⟨i0, hi, hz0, hz1, hz2⟩ := info_parts infoCut
  have hs := hm.src
  rw [← hz1] at hs
  subst hk
  by_cases e : ms = []
  · subst e
    refine ⟨a, l.length, w, fun ty => ?_, by simpa using h, Below.refl _ _, Nat.le_refl _⟩
    have := run_append_nothing (P := Try.prog) w 59 59 ty 119 i0 Try.underlying59 hi a l.length l.length (Nat.le_refl _) u (by simpa using hs)
    simpa using this
  · have hpos : 0 < ms.length := List.length_pos_iff.2 e
    have hold : (Builtin.firstCells i0.size l.length (.slice a l.length l.length)).run Try.prog w.drew = .ok (l.flatMap cutC).toArray w.drew := by
      rcases h with ⟨h1, rfl⟩ | ⟨g, n, cur, h1, hn, h3, h4⟩
      · obtain rfl : a = none := by cases h1; rfl
        exact run_firstCells_none w.drew _ _ _ _
      · simp only [Value.slice.injEq] at h1
        obtain ⟨rfl, _, _⟩ := h1
        refine run_firstCells_some w.drew _ _ _ _ _ _ (by rw [flat_len cutC_len, hz1]) (fun j v hj => ?_)
        rw [addr_add]; exact h4 j v hj
    have hg : l.length < l.length + ms.length := by omega
    have hge := grownCap_ge w (l.length + ms.length) l.length 119
    refine ⟨_, _, _, fun ty => run_append_grow_src (P := Try.prog) w 59 59 ty 119 i0 _ Try.underlying59 hi hz0 a l.length l.length _ hold u ms.length _ hs hg (by omega) (growslice_fits hg (by rw [hz2]; omega)), ?_, ?_, ?_⟩
    · refine .inr ⟨w.heap.size, _, _, by rw [List.length_append], by rw [List.length_append]; exact hge, heap_alloc_new w.drew _, fun j v hj => ?_⟩
      have e1 : (w.drew.alloc (.cells ((l.flatMap cutC ++ ms.flatMap cutC).toArray ++ Builtin.zeroCells (Value.agg #[.int .i64 0, .int .i64 0, .int .i64 0]).cells (grownCap w (l.length + ms.length) l.length 119 - (l.length + ms.length))) CutT)).cell? ⟨w.heap.size, 0 + j, none⟩ = _ := World.cell?_alloc_new w.drew _ _ (0 + j)
      rw [e1, Nat.zero_add]
      rw [List.flatMap_append] at hj
      have hlt := (List.getElem?_eq_some_iff.1 hj).1
      rw [Array.getElem?_append_left (by simpa using hlt)]
      simpa using hj
    · exact (below_drewN (Below.refl _ _) 1).alloc (Nat.le_refl _) _
    · simp
abbrev planV (b : Bool) (c : Int) (u : Value) : Value := .agg #[.bool b, .int .i64 c, u]
def planC (q : Fl.P × Value) : List Value := [.bool q.1.b, .int .i64 q.1.c, q.2]
theorem planC_len (q : Fl.P × Value) : (planC q).length = 3 := rfl
abbrev planA (b : Bool) (c : Int) (u : Value) : Array Value := #[.bool b, .int .i64 c, u]
set_option maxRecDepth 20000 in
theorem isAbove_any (p : Fl.P) (a : Option Addr) (n m : Nat) (k : Int) (w : World) :
    Calls Try.prog 88 #[planV p.b p.c (.slice a n m), .int .i64 k] w fun e w' => e = .returned (.bool (Fl.above p k)) ∧ Below w.heap.size w w' := by
  have HE : Hid (Fl.above p k = (!p.b || decide (k < p.c))) := Lib.hid rfl
  generalize Fl.above p k = r at *
  obtain ⟨b, c, l⟩ := p
  dsimp only at *
  cases b
  all_goals
    go_enter Try.func88, Try.ntmps88
    go_wp2
    go_ret
    exact ⟨by rw [HE.out]; rfl, below_alloc2 (Below.refl _ _) _⟩
set_option maxRecDepth 20000 in
set_option maxHeartbeats 1000000 in
theorem then_any (b : Bool) (c k : Int) (u v : Value) (l ms : List Fl.C) (w : World) (hu : CutsT w u l) (hv : CutsT w v ms) (hl : l.length + ms.length ≤ 1000) :
    Calls Try.prog 148 #[planV b c u, .int .i64 k, v] w fun e w' => ∃ a n, e = .returned (planV true k (.slice a (l.length + ms.length) n)) ∧ CutsT w' (.slice a (l.length + ms.length) n) (l ++ ms) ∧ Below w.heap.size w w' := by
  obtain ⟨ua, un, rfl, hun⟩ := hu.form
  obtain ⟨va, vn, rfl, _⟩ := hv.form
  have hw := below_alloc2 (below_alloc2 (Below.refl w.heap.size w) (.cells (planA b c (.slice ua l.length un)) PlanT)) (.cells (planA false 0 (.slice none 0 0)) PlanT)
  have hu1 : CutsT w (.slice ua l.length l.length) l := by
    rcases hu with ⟨h1, rfl⟩ | ⟨g, n, cur, h1, h2, h3, h4⟩
    · obtain rfl : ua = none := by cases h1; rfl
      exact .inl ⟨rfl, rfl⟩
    · simp only [Value.slice.injEq] at h1
      obtain ⟨rfl, _, _⟩ := h1
      exact .inr ⟨g, l.length, cur, rfl, Nat.le_refl _, h3, h4⟩
  obtain ⟨a', c', w', hrun, hc', hb', hsz⟩ := append_cuts rfl (hu1.below hw) (hv.below hw) hl
  have B6 : BlockAt w' (w.heap.size + 1) (planA false 0 (.slice none 0 0)) PlanT := by
    have := BlockAt.new (w.alloc (.cells (planA b c (.slice ua l.length un)) PlanT)) (planA false 0 (.slice none 0 0)) PlanT
    simp only [World.size_alloc] at this
    exact this.below hb' (by simp)
  have HRUN := Lib.hid hrun
  have HC := Lib.hid hc'
  have HB := Lib.hid (below_step hw hb')
  have HB6 := Lib.hid B6
  generalize hnl : l.length + ms.length = N at *
  clear hu hv hw hu1 hrun hc' hb' B6 hsz hnl
  generalize l.length = L at *
  have z0 : World.cell? _ _ = some (.bool false) := HB6.out.cell 0
  have z1 : World.cell? _ _ = some (.int .i64 0) := HB6.out.cell 1
  have z2 : World.cell? _ _ = some (.slice none 0 0) := HB6.out.cell 2
  have f0 := HB6.out.frozen 0
  have f1 := HB6.out.frozen 1
  have f2 := HB6.out.frozen 2
  have hlt := HB6.out.lt
  go_enter Try.func148, Try.ntmps148
  go_wp2_with (at_builtin; refine wpList_append_run rfl _ _ 59 rfl rfl rfl HRUN.out ?_)
  go_wp2
  have HR : BlockAt (((w'.setCell ⟨w.heap.size + 1, 0, none⟩ (.bool true)).setCell ⟨w.heap.size + 1, 1, none⟩ (.int .i64 k)).setCell ⟨w.heap.size + 1, 2, none⟩ (.slice a' N c')) (w.heap.size + 1) (planA true k (.slice a' N c')) PlanT := ((HB6.out.set 0 _).set 1 _).set 2 _
  have r0 : World.cell? _ _ = some (.bool true) := HR.cell 0
  have r1 : World.cell? _ _ = some (.int .i64 k) := HR.cell 1
  have r2 : World.cell? _ _ = some (.slice a' N c') := HR.cell 2
  have hlr := HR.lt
  have hne : ∀ cs cur, Obj.cells cs PlanT (0, 0) ≠ Obj.cells cur CutT (0, 0) := by
    intro cs cur e
    have : PlanT = CutT := by injection e
    exact absurd this (by decide)
  refine bodyPost_ret (v := planV true k (.slice a' N c')) (by simp [results, Try.results148, go_sem, r0, r1, r2]) rfl ⟨a', c', rfl, ?_, below_set (below_set (below_set HB.out (by omega) _) (by omega) _) (by omega) _⟩
  exact ((HC.out.set HB6.out (hne _) _).set (HB6.out.set 0 _) (hne _) _).set ((HB6.out.set 0 _).set 1 _) (hne _) _
end Go.Proofs.Ytpobkdbnldogcaa
