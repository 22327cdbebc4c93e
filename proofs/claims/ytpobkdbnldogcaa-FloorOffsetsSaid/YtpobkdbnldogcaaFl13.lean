/- Rows of plans in memory; the plans for no strips: of the program. -/
import Derived.Test.YtpobkdbnldogcaaFl12
namespace Go.Proofs.Ytpobkdbnldogcaa
open Go.RowKit

/-- A row of plans that a call has made. -/
def Pls (base : Nat) (w : World) (v : Value) (ps : List Fl.P) : Prop :=
  ∃ qs : List (Fl.P × Value), qs.map Prod.fst = ps ∧ OwnG PlanT 3 planC base w v qs ∧ ∀ k (hk : k < qs.length), CutsT w qs[k].2 qs[k].1.l
theorem Pls.all {base : Nat} {w w2 : World} {v : Value} {ps : List Fl.P} (h : Pls base w v ps) (hb : Below w.heap.size w w2) : Pls base w2 v ps := by
  obtain ⟨qs, h1, h2, h3⟩ := h
  exact ⟨qs, h1, h2.all hb, fun k hk => (h3 k hk).below hb⟩
theorem Pls.mono {base B : Nat} {w : World} {v : Value} {ps : List Fl.P} (h : Pls base w v ps) (hB : B ≤ base) : Pls B w v ps := by
  obtain ⟨qs, h1, h2, h3⟩ := h
  exact ⟨qs, h1, h2.mono hB, h3⟩
theorem Pls.form {base : Nat} {w : World} {v : Value} {ps : List Fl.P} (h : Pls base w v ps) (hp : 0 < ps.length) : ∃ g c, v = .slice (some ⟨g, 0, none⟩) ps.length c ∧ base ≤ g ∧ g < w.heap.size ∧ ps.length ≤ c := by
  obtain ⟨qs, h1, h2, h3⟩ := h
  have hl : qs.length = ps.length := by rw [← h1]; simp
  rcases h2.form with ⟨_, h4⟩ | ⟨g, c, h4, h5, h6, h7, _⟩
  · rw [h4] at hl; simp at hl; omega
  · exact ⟨g, c, by rw [h4, hl], h5, h6, by omega⟩
theorem Pls.get {base : Nat} {w : World} {g n c : Nat} {ps : List Fl.P} (h : Pls base w (.slice (some ⟨g, 0, none⟩) n c) ps) {k : Nat} (hk : k < ps.length) :
    ∃ a m, (w.cell? ⟨g, k * 3, none⟩ = some (.bool ps[k].b) ∧ w.cell? ⟨g, k * 3 + 1, none⟩ = some (.int .i64 ps[k].c) ∧ w.cell? ⟨g, k * 3 + 2, none⟩ = some (.slice a ps[k].l.length m)) ∧ CutsT w (.slice a ps[k].l.length m) ps[k].l ∧ ps[k].l.length ≤ m := by
  obtain ⟨qs, rfl, h2, h3⟩ := h
  have hk : k < qs.length := by simpa using hk
  obtain ⟨a, cap, e1, _, e3⟩ := h2.rows planC_len
  obtain ⟨b, off, e4, _, e5⟩ := e3 k hk
  simp only [Value.slice.injEq] at e1
  obtain ⟨rfl, _, _⟩ := e1
  simp only [Option.some.injEq, Addr.mk.injEq, and_true] at e4
  obtain ⟨rfl, rfl⟩ := e4
  have hc := h3 k hk
  obtain ⟨a, m, e6, e7⟩ := hc.form
  have c0 := e5 0 _ rfl
  have c1 := e5 1 _ rfl
  have c2 := e5 2 _ rfl
  rw [e6] at hc c2
  simp only [Nat.zero_add, Nat.add_zero] at c0 c1 c2
  have eg : (qs.map Prod.fst)[k]'(by simpa using hk) = qs[k].1 := by simp
  rw [eg]
  exact ⟨a, m, ⟨c0, c1, c2⟩, hc, e7⟩
theorem Pls.block {base : Nat} {w : World} {g n c : Nat} {ps : List Fl.P} (h : Pls base w (.slice (some ⟨g, 0, none⟩) n c) ps) : ∃ cur, w.heap[g]? = some (.cells cur PlanT (0, 0)) := by
  obtain ⟨qs, _, h2, _⟩ := h
  obtain ⟨h0, ⟨h1, _⟩ | ⟨g', cap, cur, h1, _, h3, _⟩⟩ := h2
  · cases h1
  · simp only [Value.slice.injEq, Option.some.injEq, Addr.mk.injEq, and_true] at h1
    obtain ⟨rfl, _⟩ := h1
    exact ⟨cur, h3⟩
theorem Pls.frozen {base : Nat} {w : World} {g n c : Nat} {ps : List Fl.P} (h : Pls base w (.slice (some ⟨g, 0, none⟩) n c) ps) (j : Nat) : w.frozen? ⟨g, j, none⟩ = false := by
  obtain ⟨cur, hc⟩ := h.block
  simp [World.frozen?, hc]
theorem flat_set : ∀ (qs : List (Fl.P × Value)) (k : Nat) (q : Fl.P × Value), k < qs.length →
    (((qs.flatMap planC).set (k * 3) (.bool q.1.b)).set (k * 3 + 1) (.int .i64 q.1.c)).set (k * 3 + 2) q.2 = (qs.set k q).flatMap planC
  | x :: qs, 0, q, _ => rfl
  | x :: qs, k + 1, q, h => by
    have ih := flat_set qs k q (by simpa using h)
    rw [List.set_cons_succ, List.flatMap_cons, List.flatMap_cons, ← ih]
    have e : (k + 1) * 3 = k * 3 + 3 := by omega
    rw [e]
    rfl
theorem plan_ne (cs cur : Array Value) : Obj.cells cs PlanT (0, 0) ≠ Obj.cells cur CutT (0, 0) := by
  intro e
  have : PlanT = CutT := by injection e
  exact absurd this (by decide)
/-- A plan is written into a row. -/
theorem Pls.set {base : Nat} {w : World} {g n c : Nat} {ps : List Fl.P} (h : Pls base w (.slice (some ⟨g, 0, none⟩) n c) ps) (hn : n = ps.length) {k : Nat} (hk : k < ps.length) (p : Fl.P) {u : Value} (hu : CutsT w u p.l) :
    Pls base (((w.setCell ⟨g, k * 3, none⟩ (.bool p.b)).setCell ⟨g, k * 3 + 1, none⟩ (.int .i64 p.c)).setCell ⟨g, k * 3 + 2, none⟩ u) (.slice (some ⟨g, 0, none⟩) n c) (ps.set k p) := by
  obtain ⟨cur0, hb0⟩ := h.block
  obtain ⟨qs, rfl, h2, h3⟩ := h
  have hk : k < qs.length := by simpa using hk
  have hl : n = qs.length := by simpa using hn
  subst hl
  have s1 := World.ownsRow.stored h2 (k * 3) (.bool p.b)
  have s2 := World.ownsRow.stored s1.1 (k * 3 + 1) (.int .i64 p.c)
  have s3 := World.ownsRow.stored s2.1 (k * 3 + 2) u
  have r1 := s3.1
  have B1 : ∃ cur, (w.setCell ⟨g, k * 3, none⟩ (.bool p.b)).heap[g]? = some (.cells cur PlanT (0, 0)) := by
    obtain ⟨_, ⟨q1, _⟩ | ⟨g', cap, cur, q1, _, q3, _⟩⟩ := s1.1
    · cases q1
    · simp only [Value.slice.injEq, Option.some.injEq, Addr.mk.injEq, and_true] at q1
      obtain ⟨rfl, _⟩ := q1
      exact ⟨cur, q3⟩
  have B2 : ∃ cur, ((w.setCell ⟨g, k * 3, none⟩ (.bool p.b)).setCell ⟨g, k * 3 + 1, none⟩ (.int .i64 p.c)).heap[g]? = some (.cells cur PlanT (0, 0)) := by
    obtain ⟨_, ⟨q1, _⟩ | ⟨g', cap, cur, q1, _, q3, _⟩⟩ := s2.1
    · cases q1
    · simp only [Value.slice.injEq, Option.some.injEq, Addr.mk.injEq, and_true] at q1
      obtain ⟨rfl, _⟩ := q1
      exact ⟨cur, q3⟩
  obtain ⟨cur1, hb1⟩ := B1
  obtain ⟨cur2, hb2⟩ := B2
  have keep : ∀ {v : Value} {l : List Fl.C}, CutsT w v l → CutsT (((w.setCell ⟨g, k * 3, none⟩ (.bool p.b)).setCell ⟨g, k * 3 + 1, none⟩ (.int .i64 p.c)).setCell ⟨g, k * 3 + 2, none⟩ u) v l := fun h =>
    ((h.set hb0 (plan_ne _) _).set hb1 (plan_ne _) _).set hb2 (plan_ne _) _
  refine ⟨qs.set k (p, u), by rw [List.map_set], ?_, fun i hi => ?_⟩
  · rw [flat_set qs k (p, u) hk] at r1
    unfold OwnG
    rw [List.length_set]
    exact r1
  · have hi' : i < qs.length := by simpa using hi
    by_cases e : k = i
    · subst e
      rw [List.getElem_set_self]
      exact keep hu
    · rw [List.getElem_set_ne e]
      exact keep (h3 i hi')
theorem infoPlan : (Try.prog.info? PlanT).map (fun i => (i.zero, i.size, i.bytes)) = some (some (.agg #[.bool false, .int .i64 0, .slice none 0 0]), 3, 40) := by kernel_rfl
theorem zero_plans (n : Nat) : (madeCells #[.bool false, .int .i64 0, .slice none 0 0] (n * 3)).toList = (List.replicate n ((⟨false, 0, []⟩ : Fl.P), Value.slice none 0 0)).flatMap planC := by
  have hl : ((List.replicate n ((⟨false, 0, []⟩ : Fl.P), Value.slice none 0 0)).flatMap planC).length = n * 3 := by rw [flat_len planC_len]; simp
  refine List.ext_getElem (by simp [madeCells, hl]) fun i h1 h2 => ?_
  have hi : i < n * 3 := by rw [← hl]; exact h2
  have e : i = i / 3 * 3 + i % 3 := by omega
  have hk : i / 3 < n := by omega
  have h3 := flat_at planC_len (List.replicate n ((⟨false, 0, []⟩ : Fl.P), Value.slice none 0 0)) (i / 3) (by simpa using hk) (i % 3) (by omega)
  rw [← e, List.getElem?_eq_getElem h2] at h3
  have h4 := Option.some.inj (h3.trans (by rw [List.getElem_replicate]; exact List.getElem?_eq_getElem (by show i % 3 < 3; omega)))
  rw [h4]
  simp only [madeCells, planC]
  have hm : i % 3 = 0 ∨ i % 3 = 1 ∨ i % 3 = 2 := by omega
  rcases hm with hm | hm | hm <;> simp [hm]
theorem made_plans (n : Nat) (hn : n ≤ 1000) : ∀ W : World, (Instr.makeSlice 164 (.int .i64 (n : Int)) (.int .i64 (n : Int))).run Try.prog W = .ok (.slice (some ⟨W.heap.size, 0, none⟩) n n) (W.alloc (.cells (madeCells #[.bool false, .int .i64 0, .slice none 0 0] (n * 3)) PlanT)) := by
  intro W
  obtain ⟨i0, hi, hz0, hz1, hz2⟩ := info_parts infoPlan
  have := run_makeSlice (P := Try.prog) (w := W) 164 PlanT i0 (.agg #[.bool false, .int .i64 0, .slice none 0 0]) Try.underlying164 hi hz0 .i64 .i64 (n : Int) (n : Int) (by omega) (by omega) (by rw [hz1]; omega) (by rw [hz2]; omega) (by omega)
  rw [this, hz1, show ((n : Int)).toNat = n by omega]
  rfl
theorem shl_pow {n : Nat} (h : n ≤ 6) : wrap64 ((2 : Int) ^ n) = ((2 ^ n : Nat) : Int) := by
  have : n = 0 ∨ n = 1 ∨ n = 2 ∨ n = 3 ∨ n = 4 ∨ n = 5 ∨ n = 6 := by omega
  rcases this with rfl | rfl | rfl | rfl | rfl | rfl | rfl <;> decide +kernel
/-- The row of plans for no strips, while it is made. -/
theorem noP_row {w : World} {N : Nat} (hN : 0 < N) (hN2 : N ≤ 1000) (w0 : World) (hw : Below w.heap.size w w0) :
    Pls w.heap.size (w0.alloc (.cells ((madeCells #[.bool false, .int .i64 0, .slice none 0 0] (N * 3)).setIfInBounds 0 (.bool true)) PlanT)) (.slice (some ⟨w0.heap.size, 0, none⟩) N N) ((List.replicate N (⟨false, 0, []⟩ : Fl.P)).set 0 ⟨true, 0, []⟩) := by
  have hs : ((madeCells #[.bool false, .int .i64 0, .slice none 0 0] (N * 3)).setIfInBounds 0 (.bool true)).size = N * 3 := by simp [madeCells]
  have r1 : (w0.alloc (.cells ((madeCells #[.bool false, .int .i64 0, .slice none 0 0] (N * 3)).setIfInBounds 0 (.bool true)) PlanT)).ownsRow w.heap.size PlanT 3 (.slice (some ⟨w0.heap.size, 0, none⟩) N N) N ((madeCells #[.bool false, .int .i64 0, .slice none 0 0] (N * 3)).setIfInBounds 0 (.bool true)).toList := by
    refine ⟨by simpa using hs, .inr ⟨w0.heap.size, N, _, rfl, hw.size, heap_alloc_new w0 _, Nat.le_refl _, by unfold maxLen; omega, hs, ?_⟩⟩
    rw [List.take_of_length_le]
    rw [Array.length_toList, hs]
    exact Nat.le_refl _
  rw [Array.toList_setIfInBounds, zero_plans] at r1
  obtain ⟨n, rfl⟩ : ∃ n, N = n + 1 := ⟨N - 1, by omega⟩
  refine ⟨(List.replicate (n + 1) ((⟨false, 0, []⟩ : Fl.P), Value.slice none 0 0)).set 0 (⟨true, 0, []⟩, .slice none 0 0), ?_, ?_, fun k hk => ?_⟩
  · rw [List.map_set, List.map_replicate]
  · unfold OwnG
    rw [List.length_set, List.length_replicate]
    exact r1
  · rw [List.getElem_set]
    split
    · exact .inl ⟨rfl, rfl⟩
    · rw [List.getElem_replicate]; exact .inl ⟨rfl, rfl⟩
set_option maxRecDepth 20000 in
set_option maxHeartbeats 1000000 in
theorem noPlans_any (sa ra : Option Addr) (n sc rn rc : Nat) (m : Int) (w : World) (hn : n ≤ 6) :
    Calls Try.prog 127 #[jobV (.slice sa n sc) (.slice ra rn rc) m] w fun e w' => ∃ g c, e = .returned (.slice (some ⟨g, 0, none⟩) (2 ^ n) c) ∧ Pls w.heap.size w' (.slice (some ⟨g, 0, none⟩) (2 ^ n) c) (Fl.noP n) ∧ Below w.heap.size w w' := by
  have hpow : 2 ^ n ≤ 2 ^ 6 := Nat.pow_le_pow_right (by omega) hn
  have hpos : 0 < 2 ^ n := Nat.pow_pos (by omega)
  have hsh := shl_pow hn
  have HNP : Hid (Fl.noP n = (List.replicate (2 ^ n) (⟨false, 0, []⟩ : Fl.P)).set 0 ⟨true, 0, []⟩) := Lib.hid rfl
  generalize Fl.noP n = NP at *
  generalize 2 ^ n = N at *
  have HMK := made_plans N (by omega)
  have HROW := Lib.hid (noP_row (w := w) hpos (by omega) (w.alloc (.cells #[.slice sa n sc, .slice ra rn rc, .int .i64 m] JobT)) (below_alloc2 (Below.refl _ _) _))
  have HWW := Lib.hid (below_alloc2 (below_alloc2 (Below.refl w.heap.size w) (.cells #[.slice sa n sc, .slice ra rn rc, .int .i64 m] JobT)) (.cells ((madeCells #[.bool false, .int .i64 0, .slice none 0 0] (N * 3)).setIfInBounds 0 (.bool true)) PlanT))
  have hB := BlockAt.new (w.alloc (.cells #[.slice sa n sc, .slice ra rn rc, .int .i64 m] JobT)) (madeCells #[.bool false, .int .i64 0, .slice none 0 0] (N * 3)) PlanT
  have z0 : World.cell? _ _ = some (.bool false) := (hB.cell 0).trans (by simp only [madeCells]; simp; refine ⟨0, ?_, rfl⟩; rw [Array.getElem?_eq_getElem (by rw [Array.size_range]; omega)]; simp)
  have f0 := hB.frozen 0
  have hlt := hB.lt
  simp only [World.size_alloc] at z0 f0
  clear hB
  go_enter Try.func127, Try.ntmps127
  go_wp2
  go_ret
  exact ⟨_, _, rfl, by rw [HNP.out]; simpa using HROW.out, HWW.out⟩
end Go.Proofs.Ytpobkdbnldogcaa
