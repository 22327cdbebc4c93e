/- How a list of runs among the arguments is opened. -/
import Derived.Test.YtabfcnfddemblaaFrameU
import Derived.Test.YtabfcnfddemblaaBandM
import Derived.ChangeSlices
import Derived.Deep.Slices
namespace Go.Proofs.Ytabfcnfddemblaa
open Go.ChangeShapes Go.WideShapes Go.ChangeAt Go.RowKit Go.Deep

theorem spot_none {w : World} {a : Addr} {v : Value} (h : w.cell? a = some v) : a.spot = none ∧ a.block < w.heap.size := by
  unfold World.cell? at h
  split at h
  · rename_i c e f hb
    have hlt := (Array.getElem?_eq_some_iff.1 hb).1
    cases hs : a.spot with
    | none => exact ⟨rfl, hlt⟩
    | some x => rw [hs] at h; simp at h
  · simp at h

section
variable {H : Type} {enc : TypeId × Value → H}

theorem add_plain (b off n : Nat) : (⟨b, off, none⟩ : Addr).add n = ⟨b, off + n, none⟩ := by
  unfold Addr.add
  split
  · rename_i e; subst e; rfl
  · rfl

set_option maxRecDepth 100000 in
/-- The four cells of a run. -/
theorem run_of {W : World} {n : Nat} {cs : List Value} {y : DataW H × List MemPlace}
    (h : DataW.trod enc Try.prog W 0 (fun _ => true) true n 112 cs = some y) : ∃ r : Bd.R, cs = runC r := by
  obtain ⟨xs, n', _, _, hlen, hxl, hf⟩ := DataW.trod_struct Try.underlying112 h
  have hl : cs.length = 4 := hlen.trans (by kernel_rfl)
  match cs, hl with
  | [c0, c1, c2, c3], _ =>
    have h0 := hf 0 _ rfl
    have h1 := hf 1 _ rfl
    have k0 : Try.prog.cellsOf 3 = 1 := by kernel_rfl
    have k1 : Try.prog.cellsOf 58 = 3 := by kernel_rfl
    simp only [List.getElem_toArray, List.getElem_cons_zero, List.getElem_cons_succ] at h0 h1
    rw [k0] at h0
    rw [k1] at h1
    simp only [List.drop_zero, List.take_succ_cons, List.take_zero, List.drop_succ_cons] at h0 h1
    have hx2 : xs.length = 2 := hxl
    have e0 : xs[0]? = some (xs[0]'(by omega)) := by simp
    have e1 : xs[1]? = some (xs[1]'(by omega)) := by simp
    have h0 := h0.trans e0
    have h1 := h1.trans e1
    obtain ⟨l, q0, _, _⟩ := DataW.trod_int Try.underlying3 h0
    obtain ⟨ms, n2, _, _, _, hml, hg⟩ := DataW.trod_struct Try.underlying58 h1
    have g0 := hg 0 _ rfl
    have g1 := hg 1 _ rfl
    have g2 := hg 2 _ rfl
    simp only [List.getElem_toArray, List.getElem_cons_zero, List.getElem_cons_succ] at g0 g1 g2
    rw [k0] at g0 g1 g2
    simp only [List.drop_zero, List.take_succ_cons, List.take_zero, List.drop_succ_cons] at g0 g1 g2
    have hm3 : ms.length = 3 := hml
    have m0 : ms[0]? = some (ms[0]'(by omega)) := by simp
    have m1 : ms[1]? = some (ms[1]'(by omega)) := by simp
    have m2 : ms[2]? = some (ms[2]'(by omega)) := by simp
    obtain ⟨t, q1, _, _⟩ := DataW.trod_int Try.underlying3 (g0.trans m0)
    obtain ⟨s, q2, _, _⟩ := DataW.trod_int Try.underlying3 (g1.trans m1)
    obtain ⟨f, q3, _, _⟩ := DataW.trod_int Try.underlying3 (g2.trans m2)
    simp only [List.cons.injEq, and_true] at q0 q1 q2 q3
    subst q0 q1 q2 q3
    exact ⟨⟨l, t, s, f⟩, rfl⟩

set_option maxRecDepth 100000 in
/-- A list of runs that came in. -/
theorem runs_of {W : World} {fuel : Nat} {v : Value} {y : DataW H × List MemPlace}
    (h : DataW.trod enc Try.prog W 0 (fun _ => true) true fuel 51 [v] = some y) : ∃ rs, Runs W v rs := by
  rcases open_slice Try.underlying51 h with ⟨hcs, _⟩ | ⟨a, len, cap, m, n, D, Pl, hcs, _, hl, _, hm, _, hi⟩
  · simp only [List.cons.injEq, and_true] at hcs
    subst hcs
    exact ⟨[], .inl ⟨none, 0, rfl, rfl, fun _ => rfl⟩⟩
  · simp only [List.cons.injEq, and_true] at hcs
    subst hcs
    simp only [if_true] at hm
    have hC : Try.prog.cellsOf 112 = 4 := by kernel_rfl
    rcases Nat.eq_zero_or_pos len with rfl | hpos
    · exact ⟨[], .inl ⟨some a, cap, rfl, rfl, fun h => by cases h⟩⟩
    · have hr : ∀ i, i < len → ∃ r : Bd.R, ∀ j, j < 4 → W.cell? (a.add (i * 4 + j)) = (runC r)[j]? := by
        intro i hil
        obtain ⟨cs', hc, ht⟩ := hi i (by omega)
        rw [hC] at hc
        obtain ⟨r, rfl⟩ := run_of ht
        obtain ⟨_, _, hat⟩ := World.cells?_some hc
        exact ⟨r, fun j hj => by rw [← hat j hj, Go.Deep.add_add]⟩
      obtain ⟨b, off, spot⟩ := a
      obtain ⟨r0, hr0⟩ := hr 0 hpos
      have h0 := hr0 0 (by omega)
      rw [show (Addr.mk b off spot).add (0 * 4 + 0) = ⟨b, off, spot⟩ by simp [Addr.add]] at h0
      obtain ⟨hsp, hb⟩ := spot_none (v := .int .i64 r0.l) (h0.trans rfl)
      simp only at hsp hb
      subst hsp
      have hch : ∃ f : Nat → Bd.R, ∀ i, i < len → ∀ j, j < 4 → W.cell? ⟨b, off + (i * 4 + j), none⟩ = (runC (f i))[j]? := by
        refine ⟨fun i => if hil : i < len then Classical.choose (hr i hil) else default, fun i hil j hj => ?_⟩
        dsimp only
        rw [dif_pos hil, ← add_plain]
        exact Classical.choose_spec (hr i hil) j hj
      obtain ⟨f, hf⟩ := hch
      refine ⟨(List.range len).map f, .inr ⟨b, off, cap, by simp, by simp; omega, hb, fun k hk => ?_⟩⟩
      have hk' : k < len := by simpa using hk
      rw [show ((List.range len).map f).getD k default = f k by simp [List.getD, hk']]
      have c0 := hf k hk' 0 (by omega)
      have c1 := hf k hk' 1 (by omega)
      have c2 := hf k hk' 2 (by omega)
      have c3 := hf k hk' 3 (by omega)
      rw [Nat.add_zero] at c0
      rw [← Nat.add_assoc] at c1 c2 c3
      exact ⟨c0, c1, c2, c3⟩

set_option maxRecDepth 100000 in
theorem open_runs {W : World} {base : Nat} {v : Value} {d : DataW H} {p : List MemPlace} (hv : Value.okWide Try.prog W .any base 51 v)
    (h : DataW.Trod enc Try.prog W 0 (fun _ => true) true 51 v d p) : ∃ rs, Runs W v rs := by
  obtain ⟨a, l, c, rfl⟩ := okWide_slice Try.underlying51 hv
  obtain ⟨fuel, hf⟩ := h
  exact runs_of hf
end
end Go.Proofs.Ytabfcnfddemblaa
