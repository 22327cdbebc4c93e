/- How a list of runs among the arguments is opened. How a list of articles, of pieces, or of numbers among the arguments is opened. -/
import Derived.Test.YtbmjjmpdlmbehaaFrameU
import Derived.Test.YtbmjjmpdlmbehaaRmB
import Derived.ChangeSlices
import Derived.Deep.Slices
import Derived.Test.YtbmjjmpdlmbehaaRollM
namespace Go.Proofs.Ytbmjjmpdlmbehaa
open Go.ChangeShapes Go.WideShapes Go.ChangeAt Go.RowKit Go.Deep

theorem spot_none {w : World} {a : Addr} {v : Value} (h : w.cell? a = some v) : a.spot = none ∧ a.block < w.heap.size := by
  unfold World.cell? at h
  split at h
  · rename_i c e f hb
    have hlt := (Array.getElem?_eq_some_iff.1 hb).1
    cases hs : a.spot with
    | none => exact ⟨rfl, hlt⟩
    | some x => rw [hs] at h; simp at h
  · simp at h

section
variable {H : Type} {enc : TypeId × Value → H}

theorem add_plain (b off n : Nat) : (⟨b, off, none⟩ : Addr).add n = ⟨b, off + n, none⟩ := by
  unfold Addr.add
  split
  · rename_i e; subst e; rfl
  · rfl

set_option maxRecDepth 100000 in
/-- The four cells of a run. -/
theorem run_of {W : World} {n : Nat} {cs : List Value} {y : DataW H × List MemPlace}
    (h : DataW.trod enc Try.prog W 0 (fun _ => true) true n 52 cs = some y) : ∃ r : Bd.R, cs = runC r := by
  obtain ⟨xs, n', _, _, hlen, hxl, hf⟩ := DataW.trod_struct Try.underlying52 h
  have hl : cs.length = 4 := hlen.trans (by kernel_rfl)
  match cs, hl with
  | [c0, c1, c2, c3], _ =>
    have h0 := hf 0 _ rfl
    have h1 := hf 1 _ rfl
    have k0 : Try.prog.cellsOf 3 = 1 := by kernel_rfl
    have k1 : Try.prog.cellsOf 50 = 3 := by kernel_rfl
    simp only [List.getElem_toArray, List.getElem_cons_zero, List.getElem_cons_succ] at h0 h1
    rw [k0] at h0
    rw [k1] at h1
    simp only [List.drop_zero, List.take_succ_cons, List.take_zero, List.drop_succ_cons] at h0 h1
    have hx2 : xs.length = 2 := hxl
    have e0 : xs[0]? = some (xs[0]'(by omega)) := by simp
    have e1 : xs[1]? = some (xs[1]'(by omega)) := by simp
    have h0 := h0.trans e0
    have h1 := h1.trans e1
    obtain ⟨l, q0, _, _⟩ := DataW.trod_int Try.underlying3 h0
    obtain ⟨ms, n2, _, _, _, hml, hg⟩ := DataW.trod_struct Try.underlying50 h1
    have g0 := hg 0 _ rfl
    have g1 := hg 1 _ rfl
    have g2 := hg 2 _ rfl
    simp only [List.getElem_toArray, List.getElem_cons_zero, List.getElem_cons_succ] at g0 g1 g2
    rw [k0] at g0 g1 g2
    simp only [List.drop_zero, List.take_succ_cons, List.take_zero, List.drop_succ_cons] at g0 g1 g2
    have hm3 : ms.length = 3 := hml
    have m0 : ms[0]? = some (ms[0]'(by omega)) := by simp
    have m1 : ms[1]? = some (ms[1]'(by omega)) := by simp
    have m2 : ms[2]? = some (ms[2]'(by omega)) := by simp
    obtain ⟨t, q1, _, _⟩ := DataW.trod_int Try.underlying3 (g0.trans m0)
    obtain ⟨s, q2, _, _⟩ := DataW.trod_int Try.underlying3 (g1.trans m1)
    obtain ⟨f, q3, _, _⟩ := DataW.trod_int Try.underlying3 (g2.trans m2)
    simp only [List.cons.injEq, and_true] at q0 q1 q2 q3
    subst q0 q1 q2 q3
    exact ⟨⟨l, t, s, f⟩, rfl⟩

set_option maxRecDepth 100000 in
/-- A list of runs that came in. -/
theorem runs_of {W : World} {fuel : Nat} {v : Value} {y : DataW H × List MemPlace}
    (h : DataW.trod enc Try.prog W 0 (fun _ => true) true fuel 22 [v] = some y) : ∃ rs, Runs W v rs := by
  rcases open_slice Try.underlying22 h with ⟨hcs, _⟩ | ⟨a, len, cap, m, n, D, Pl, hcs, _, hl, _, hm, _, hi⟩
  · simp only [List.cons.injEq, and_true] at hcs
    subst hcs
    exact ⟨[], .inl ⟨none, 0, rfl, rfl, fun _ => rfl⟩⟩
  · simp only [List.cons.injEq, and_true] at hcs
    subst hcs
    simp only [if_true] at hm
    have hC : Try.prog.cellsOf 52 = 4 := by kernel_rfl
    rcases Nat.eq_zero_or_pos len with rfl | hpos
    · exact ⟨[], .inl ⟨some a, cap, rfl, rfl, fun h => by cases h⟩⟩
    · have hr : ∀ i, i < len → ∃ r : Bd.R, ∀ j, j < 4 → W.cell? (a.add (i * 4 + j)) = (runC r)[j]? := by
        intro i hil
        obtain ⟨cs', hc, ht⟩ := hi i (by omega)
        rw [hC] at hc
        obtain ⟨r, rfl⟩ := run_of ht
        obtain ⟨_, _, hat⟩ := World.cells?_some hc
        exact ⟨r, fun j hj => by rw [← hat j hj, Go.Deep.add_add]⟩
      obtain ⟨b, off, spot⟩ := a
      obtain ⟨r0, hr0⟩ := hr 0 hpos
      have h0 := hr0 0 (by omega)
      rw [show (Addr.mk b off spot).add (0 * 4 + 0) = ⟨b, off, spot⟩ by simp [Addr.add]] at h0
      obtain ⟨hsp, hb⟩ := spot_none (v := .int .i64 r0.l) (h0.trans rfl)
      simp only at hsp hb
      subst hsp
      have hch : ∃ f : Nat → Bd.R, ∀ i, i < len → ∀ j, j < 4 → W.cell? ⟨b, off + (i * 4 + j), none⟩ = (runC (f i))[j]? := by
        refine ⟨fun i => if hil : i < len then Classical.choose (hr i hil) else default, fun i hil j hj => ?_⟩
        dsimp only
        rw [dif_pos hil, ← add_plain]
        exact Classical.choose_spec (hr i hil) j hj
      obtain ⟨f, hf⟩ := hch
      refine ⟨(List.range len).map f, .inr ⟨b, off, cap, by simp, by simp; omega, hb, fun k hk => ?_⟩⟩
      have hk' : k < len := by simpa using hk
      rw [show ((List.range len).map f).getD k default = f k by simp [List.getD, hk']]
      have c0 := hf k hk' 0 (by omega)
      have c1 := hf k hk' 1 (by omega)
      have c2 := hf k hk' 2 (by omega)
      have c3 := hf k hk' 3 (by omega)
      rw [Nat.add_zero] at c0
      rw [← Nat.add_assoc] at c1 c2 c3
      exact ⟨c0, c1, c2, c3⟩

set_option maxRecDepth 100000 in
theorem open_runs {W : World} {base : Nat} {v : Value} {d : DataW H} {p : List MemPlace} (hv : Value.okWide Try.prog W .any base 22 v)
    (h : DataW.Trod enc Try.prog W 0 (fun _ => true) true 22 v d p) : ∃ rs, Runs W v rs := by
  obtain ⟨a, l, c, rfl⟩ := okWide_slice Try.underlying22 hv
  obtain ⟨fuel, hf⟩ := h
  exact runs_of hf
end
end Go.Proofs.Ytbmjjmpdlmbehaa
namespace Go.Proofs.Ytbmjjmpdlmbehaa
open Go.ChangeShapes Go.WideShapes Go.ChangeAt Go.RowKit Go.Deep
section
variable {H : Type} {enc : TypeId × Value → H}

/-- A list that came in, whatever its elements. -/
theorem rows_of {α : Type} [Inhabited α] {W : World} {fuel : Nat} {v : Value} {y : DataW H × List MemPlace} {T E : TypeId} {c : Nat} (hT : Try.prog.underlying T = some (.slice E)) (hC : Try.prog.cellsOf E = c) (hc0 : 0 < c) (At : Nat → Nat → α → Prop)
    (hone : ∀ {n : Nat} {cs : List Value} {y : DataW H × List MemPlace}, DataW.trod enc Try.prog W 0 (fun _ => true) true n E cs = some y → ∃ x : α, ∀ b off, (∀ j, j < c → W.cell? ⟨b, off + j, none⟩ = cs[j]?) → At b off x)
    (hlen : ∀ {n : Nat} {cs : List Value} {y : DataW H × List MemPlace}, DataW.trod enc Try.prog W 0 (fun _ => true) true n E cs = some y → cs.length = c)
    (h : DataW.trod enc Try.prog W 0 (fun _ => true) true fuel T [v] = some y) :
    ∃ xs : List α, (∃ a k, v = .slice a 0 k ∧ xs = [] ∧ (a = none → k = 0)) ∨ ∃ b off cap, v = .slice (some ⟨b, off, none⟩) xs.length cap ∧ xs.length ≤ cap ∧ b < W.heap.size ∧ ∀ k, k < xs.length → At b (off + k * c) (xs.getD k default) := by
  rcases open_slice hT h with ⟨hcs, _⟩ | ⟨a, len, cap, m, n, D, Pl, hcs, _, hl, _, hm, _, hi⟩
  · simp only [List.cons.injEq, and_true] at hcs
    subst hcs
    exact ⟨[], .inl ⟨none, 0, rfl, rfl, fun _ => rfl⟩⟩
  · simp only [List.cons.injEq, and_true] at hcs
    subst hcs
    simp only [if_true] at hm
    rcases Nat.eq_zero_or_pos len with rfl | hpos
    · exact ⟨[], .inl ⟨some a, cap, rfl, rfl, fun h => by cases h⟩⟩
    · have hr : ∀ i, i < len → ∃ cs : List Value, cs.length = c ∧ (∀ j, j < c → W.cell? (a.add (i * c + j)) = cs[j]?) ∧ ∃ x : α, ∀ b off, (∀ j, j < c → W.cell? ⟨b, off + j, none⟩ = cs[j]?) → At b off x := by
        intro i hil
        obtain ⟨cs', hc, ht⟩ := hi i (by omega)
        rw [hC] at hc
        obtain ⟨x, hx⟩ := hone ht
        obtain ⟨_, _, hat⟩ := World.cells?_some hc
        exact ⟨cs', hlen ht, fun j hj => by rw [← hat j hj, Go.Deep.add_add], x, hx⟩
      obtain ⟨b, off, spot⟩ := a
      obtain ⟨cs0, hl0, hr0, _⟩ := hr 0 hpos
      have h0 := hr0 0 (by omega)
      rw [show (Addr.mk b off spot).add (0 * c + 0) = ⟨b, off, spot⟩ by simp [Addr.add], List.getElem?_eq_getElem (by omega)] at h0
      obtain ⟨hsp, hb⟩ := spot_none h0
      simp only at hsp hb
      subst hsp
      have hch : ∃ f : Nat → α, ∀ i, i < len → At b (off + i * c) (f i) := by
        refine ⟨fun i => if hil : i < len then Classical.choose (Classical.choose_spec (hr i hil)).2.2 else default, fun i hil => ?_⟩
        dsimp only
        rw [dif_pos hil]
        refine Classical.choose_spec (Classical.choose_spec (hr i hil)).2.2 b (off + i * c) fun j hj => ?_
        rw [← (Classical.choose_spec (hr i hil)).2.1 j hj, add_plain, Nat.add_assoc]
      obtain ⟨f, hf⟩ := hch
      refine ⟨(List.range len).map f, .inr ⟨b, off, cap, by simp, by simp; omega, hb, fun k hk => ?_⟩⟩
      have hk' : k < len := by simpa using hk
      rw [show ((List.range len).map f).getD k default = f k by simp [List.getD, hk']]
      exact hf k hk'


theorem rowsOf_of {α : Type} [Inhabited α] {c : Nat} {At : World → Nat → Nat → α → Prop} {w : World} {v : Value}
    (h : ∃ xs : List α, (∃ a k, v = .slice a 0 k ∧ xs = [] ∧ (a = none → k = 0)) ∨ ∃ b off cap, v = .slice (some ⟨b, off, none⟩) xs.length cap ∧ xs.length ≤ cap ∧ b < w.heap.size ∧ ∀ k, k < xs.length → At w b (off + k * c) (xs.getD k default)) : ∃ xs, RowsOf c At w v xs := by
  obtain ⟨xs, ⟨a, k, h1, h2, _⟩ | ⟨b, off, cap, h1, _, h3, h4⟩⟩ := h
  · exact ⟨[], a, k, h1, fun k hk => by simp at hk⟩
  · refine ⟨xs, _, cap, h1, fun k hk => ⟨b, off, rfl, h3, ?_⟩⟩
    have := h4 k hk
    rwa [show xs.getD k default = xs[k] by simp [hk]] at this
set_option maxRecDepth 100000 in
theorem art_of {W : World} {n : Nat} {cs : List Value} {y : DataW H × List MemPlace}
    (h : DataW.trod enc Try.prog W 0 (fun _ => true) true n 78 cs = some y) : ∃ a : Ro.A, cs = [.int .i64 a.l, .int .i64 a.la, .int .i64 a.mo, .int .i64 a.sh, .int .i64 a.fl, .int .i64 a.p] := by
  obtain ⟨xs, n', _, _, hlen, hxl, hf⟩ := DataW.trod_struct Try.underlying78 h
  have hl : cs.length = 6 := hlen.trans (by kernel_rfl)
  match cs, hl with
  | [c0, c1, c2, c3, c4, c5], _ =>
    have h0 := hf 0 _ rfl
    have h1 := hf 1 _ rfl
    have h2 := hf 2 _ rfl
    have k0 : Try.prog.cellsOf 3 = 1 := by kernel_rfl
    have k1 : Try.prog.cellsOf 76 = 4 := by kernel_rfl
    simp only [List.getElem_toArray, List.getElem_cons_zero, List.getElem_cons_succ] at h0 h1 h2
    rw [k0] at h0 h2
    rw [k1] at h1
    simp only [List.drop_zero, List.take_succ_cons, List.take_zero, List.drop_succ_cons] at h0 h1 h2
    have hx3 : xs.length = 3 := hxl
    have e0 : xs[0]? = some (xs[0]'(by omega)) := by simp
    have e1 : xs[1]? = some (xs[1]'(by omega)) := by simp
    have e2 : xs[2]? = some (xs[2]'(by omega)) := by simp
    obtain ⟨l, q0, _, _⟩ := DataW.trod_int Try.underlying3 (h0.trans e0)
    obtain ⟨p, q5, _, _⟩ := DataW.trod_int Try.underlying3 (h2.trans e2)
    obtain ⟨ms, n2, _, _, _, hml, hg⟩ := DataW.trod_struct Try.underlying76 (h1.trans e1)
    have g0 := hg 0 _ rfl
    have g1 := hg 1 _ rfl
    have g2 := hg 2 _ rfl
    have g3 := hg 3 _ rfl
    simp only [List.getElem_toArray, List.getElem_cons_zero, List.getElem_cons_succ] at g0 g1 g2 g3
    rw [k0] at g0 g1 g2 g3
    simp only [List.drop_zero, List.take_succ_cons, List.take_zero, List.drop_succ_cons] at g0 g1 g2 g3
    have hm4 : ms.length = 4 := hml
    have m0 : ms[0]? = some (ms[0]'(by omega)) := by simp
    have m1 : ms[1]? = some (ms[1]'(by omega)) := by simp
    have m2 : ms[2]? = some (ms[2]'(by omega)) := by simp
    have m3 : ms[3]? = some (ms[3]'(by omega)) := by simp
    obtain ⟨la, q1, _, _⟩ := DataW.trod_int Try.underlying3 (g0.trans m0)
    obtain ⟨mo, q2, _, _⟩ := DataW.trod_int Try.underlying3 (g1.trans m1)
    obtain ⟨sh, q3, _, _⟩ := DataW.trod_int Try.underlying3 (g2.trans m2)
    obtain ⟨fl, q4, _, _⟩ := DataW.trod_int Try.underlying3 (g3.trans m3)
    simp only [List.cons.injEq, and_true] at q0 q1 q2 q3 q4 q5
    subst q0 q1 q2 q3 q4 q5
    exact ⟨⟨l, la, mo, sh, fl, p⟩, rfl⟩
set_option maxRecDepth 100000 in
theorem arts_of {W : World} {fuel : Nat} {v : Value} {y : DataW H × List MemPlace}
    (h : DataW.trod enc Try.prog W 0 (fun _ => true) true fuel 23 [v] = some y) : ∃ al, Arts W v al := by
  refine rowsOf_of (rows_of (α := Ro.A) Try.underlying23 (by kernel_rfl) (by decide) (ArtAt W) ?_ ?_ h)
  · intro n cs y h
    obtain ⟨p, rfl⟩ := art_of h
    exact ⟨p, fun b off hc => ⟨hc 0 (by decide), hc 1 (by decide), hc 2 (by decide), hc 3 (by decide), hc 4 (by decide), hc 5 (by decide)⟩⟩
  · intro n cs y h
    obtain ⟨p, rfl⟩ := art_of h
    rfl
set_option maxRecDepth 100000 in
theorem open_arts {W : World} {base : Nat} {v : Value} {d : DataW H} {p : List MemPlace} (hv : Value.okWide Try.prog W .any base 23 v)
    (h : DataW.Trod enc Try.prog W 0 (fun _ => true) true 23 v d p) : ∃ al, Arts W v al := by
  obtain ⟨a, l, c, rfl⟩ := okWide_slice Try.underlying23 hv
  obtain ⟨fuel, hf⟩ := h
  exact arts_of hf
set_option maxRecDepth 100000 in
theorem pc_of {W : World} {n : Nat} {cs : List Value} {y : DataW H × List MemPlace}
    (h : DataW.trod enc Try.prog W 0 (fun _ => true) true n 31 cs = some y) : ∃ x : Ro.X, cs = [.int .i64 x.f, .int .i64 x.a] := by
  obtain ⟨xs, n', _, _, hlen, hxl, hf⟩ := DataW.trod_struct Try.underlying31 h
  have hl : cs.length = 2 := hlen.trans (by kernel_rfl)
  match cs, hl with
  | [c0, c1], _ =>
    have h0 := hf 0 _ rfl
    have h1 := hf 1 _ rfl
    have k0 : Try.prog.cellsOf 3 = 1 := by kernel_rfl
    simp only [List.getElem_toArray, List.getElem_cons_zero, List.getElem_cons_succ] at h0 h1
    rw [k0] at h0 h1
    simp only [List.drop_zero, List.take_succ_cons, List.take_zero, List.drop_succ_cons] at h0 h1
    have hx2 : xs.length = 2 := hxl
    have e0 : xs[0]? = some (xs[0]'(by omega)) := by simp
    have e1 : xs[1]? = some (xs[1]'(by omega)) := by simp
    obtain ⟨l, q0, _, _⟩ := DataW.trod_int Try.underlying3 (h0.trans e0)
    obtain ⟨m, q1, _, _⟩ := DataW.trod_int Try.underlying3 (h1.trans e1)
    simp only [List.cons.injEq, and_true] at q0 q1
    subst q0 q1
    exact ⟨⟨l, m⟩, rfl⟩
set_option maxRecDepth 100000 in
theorem pcs_of {W : World} {fuel : Nat} {v : Value} {y : DataW H × List MemPlace}
    (h : DataW.trod enc Try.prog W 0 (fun _ => true) true fuel 26 [v] = some y) : ∃ xs, Pcs W v xs := by
  refine rowsOf_of (rows_of (α := Ro.X) Try.underlying26 (by kernel_rfl) (by decide) (PcAt W) ?_ ?_ h)
  · intro n cs y h
    obtain ⟨p, rfl⟩ := pc_of h
    exact ⟨p, fun b off hc => ⟨hc 0 (by decide), hc 1 (by decide)⟩⟩
  · intro n cs y h
    obtain ⟨p, rfl⟩ := pc_of h
    rfl
set_option maxRecDepth 100000 in
theorem open_pcs {W : World} {base : Nat} {v : Value} {d : DataW H} {p : List MemPlace} (hv : Value.okWide Try.prog W .any base 26 v)
    (h : DataW.Trod enc Try.prog W 0 (fun _ => true) true 26 v d p) : ∃ xs, Pcs W v xs := by
  obtain ⟨a, l, c, rfl⟩ := okWide_slice Try.underlying26 hv
  obtain ⟨fuel, hf⟩ := h
  exact pcs_of hf
set_option maxRecDepth 100000 in
theorem ints_of {W : World} {fuel : Nat} {v : Value} {y : DataW H × List MemPlace}
    (h : DataW.trod enc Try.prog W 0 (fun _ => true) true fuel 56 [v] = some y) : ∃ ks, Ints W v ks := by
  have key := rowsOf_of (At := fun w b off x => w.cell? ⟨b, off, none⟩ = some (.int .i64 x)) (rows_of (α := Int) (c := 1) Try.underlying56 (by kernel_rfl) (by decide) (fun b off x => W.cell? ⟨b, off, none⟩ = some (.int .i64 x)) ?_ ?_ h)
  · obtain ⟨xs, a, k, h1, h2⟩ := key
    refine ⟨xs, a, k, h1, fun i hi => ?_⟩
    obtain ⟨b, off, e1, e2, e3⟩ := h2 i hi
    rw [Nat.mul_one] at e3
    exact ⟨b, off, e1, e2, e3⟩
  · intro n cs y h
    obtain ⟨x, q, _, _⟩ := DataW.trod_int Try.underlying3 h
    subst q
    exact ⟨x, fun b off hc => by have := hc 0 (by decide); simpa using this⟩
  · intro n cs y h
    obtain ⟨x, q, _, _⟩ := DataW.trod_int Try.underlying3 h
    subst q
    rfl
set_option maxRecDepth 100000 in
theorem open_ints {W : World} {base : Nat} {v : Value} {d : DataW H} {p : List MemPlace} (hv : Value.okWide Try.prog W .any base 56 v)
    (h : DataW.Trod enc Try.prog W 0 (fun _ => true) true 56 v d p) : ∃ ks, Ints W v ks := by
  obtain ⟨a, l, c, rfl⟩ := okWide_slice Try.underlying56 hv
  obtain ⟨fuel, hf⟩ := h
  exact ints_of hf
end
end Go.Proofs.Ytbmjjmpdlmbehaa
