/- How postings, lists of texts and of postings among the arguments are opened. -/
import Derived.Test.YtcljpklgpedolaaGreatDoorFrameKK
import Derived.Test.YtcljpklgpedolaaGreatDoorBkQC
import Derived.ChangeSlices
import Derived.Deep.Slices
import Derived.Lib.SmallJoins
namespace Go.Proofs.YtcljpklgpedolaaGreatDoor
open Go.ChangeShapes Go.WideShapes Go.ChangeAt Go.RowKit Go.Deep

section
variable {H : Type} {enc : TypeId × Value → H}

theorem add_plain (b off n : Nat) : (⟨b, off, none⟩ : Addr).add n = ⟨b, off + n, none⟩ := by
  unfold Addr.add
  split
  · rename_i e; subst e; rfl
  · rfl

/-- A list that came in, whatever its elements. -/
theorem rows_of {α : Type} [Inhabited α] {W : World} {fuel : Nat} {v : Value} {y : DataW H × List MemPlace} {T E : TypeId} {c : Nat} (hT : Tryz.prog.underlying T = some (.slice E)) (hC : Tryz.prog.cellsOf E = c) (hc0 : 0 < c) (At : Nat → Nat → α → Prop)
    (hone : ∀ {n : Nat} {cs : List Value} {y : DataW H × List MemPlace}, DataW.trod enc Tryz.prog W 0 (fun _ => true) true n E cs = some y → ∃ x : α, ∀ b off, (∀ j, j < c → W.cell? ⟨b, off + j, none⟩ = cs[j]?) → At b off x)
    (hlen : ∀ {n : Nat} {cs : List Value} {y : DataW H × List MemPlace}, DataW.trod enc Tryz.prog W 0 (fun _ => true) true n E cs = some y → cs.length = c)
    (h : DataW.trod enc Tryz.prog W 0 (fun _ => true) true fuel T [v] = some y) :
    ∃ xs : List α, (∃ a k, v = .slice a 0 k ∧ xs = [] ∧ (a = none → k = 0)) ∨ ∃ b off cap, v = .slice (some ⟨b, off, none⟩) xs.length cap ∧ xs.length ≤ cap ∧ b < W.heap.size ∧ ∀ k, k < xs.length → At b (off + k * c) (xs.getD k default) := by
  rcases open_slice hT h with ⟨hcs, _⟩ | ⟨a, len, cap, m, n, D, Pl, hcs, _, hl, _, hm, _, hi⟩
  · simp only [List.cons.injEq, and_true] at hcs
    subst hcs
    exact ⟨[], .inl ⟨none, 0, rfl, rfl, fun _ => rfl⟩⟩
  · simp only [List.cons.injEq, and_true] at hcs
    subst hcs
    simp only [if_true] at hm
    rcases Nat.eq_zero_or_pos len with rfl | hpos
    · exact ⟨[], .inl ⟨some a, cap, rfl, rfl, fun h => by cases h⟩⟩
    · have hr : ∀ i, i < len → ∃ cs : List Value, cs.length = c ∧ (∀ j, j < c → W.cell? (a.add (i * c + j)) = cs[j]?) ∧ ∃ x : α, ∀ b off, (∀ j, j < c → W.cell? ⟨b, off + j, none⟩ = cs[j]?) → At b off x := by
        intro i hil
        obtain ⟨cs', hc, ht⟩ := hi i (by omega)
        rw [hC] at hc
        obtain ⟨x, hx⟩ := hone ht
        obtain ⟨_, _, hat⟩ := World.cells?_some hc
        exact ⟨cs', hlen ht, fun j hj => by rw [← hat j hj, Go.Deep.add_add], x, hx⟩
      obtain ⟨b, off, spot⟩ := a
      obtain ⟨cs0, hl0, hr0, _⟩ := hr 0 hpos
      have h0 := hr0 0 (by omega)
      rw [show (Addr.mk b off spot).add (0 * c + 0) = ⟨b, off, spot⟩ by simp [Addr.add], List.getElem?_eq_getElem (by omega)] at h0
      obtain ⟨hsp, hb⟩ := spot_none h0
      simp only at hsp hb
      subst hsp
      have hch : ∃ f : Nat → α, ∀ i, i < len → At b (off + i * c) (f i) := by
        refine ⟨fun i => if hil : i < len then Classical.choose (Classical.choose_spec (hr i hil)).2.2 else default, fun i hil => ?_⟩
        dsimp only
        rw [dif_pos hil]
        refine Classical.choose_spec (Classical.choose_spec (hr i hil)).2.2 b (off + i * c) fun j hj => ?_
        rw [← (Classical.choose_spec (hr i hil)).2.1 j hj, add_plain, Nat.add_assoc]
      obtain ⟨f, hf⟩ := hch
      refine ⟨(List.range len).map f, .inr ⟨b, off, cap, by simp, by simp; omega, hb, fun k hk => ?_⟩⟩
      have hk' : k < len := by simpa using hk
      rw [show ((List.range len).map f).getD k default = f k by simp [List.getD, hk']]
      exact hf k hk'




/-- Texts that can be read. -/
abbrev Strs (w : World) (v : Value) (xs : List (List UInt8)) : Prop := RowsOf 1 strL w v xs
theorem rowsWith_of {α : Type} [Inhabited α] {c : Nat} {cs : α → List Value} {Ok : α → Prop} {w : World} {v : Value}
    (h : ∃ xs : List α, (∃ a k, v = .slice a 0 k ∧ xs = [] ∧ (a = none → k = 0)) ∨ ∃ b off cap, v = .slice (some ⟨b, off, none⟩) xs.length cap ∧ xs.length ≤ cap ∧ b < w.heap.size ∧ ∀ k, k < xs.length → CellsAt (cs (xs.getD k default)) w b (off + k * c) ∧ Ok (xs.getD k default)) : ∃ xs, RowsOf c cs w v xs ∧ ∀ k (hk : k < xs.length), Ok xs[k] := by
  obtain ⟨xs, ⟨a, k, h1, h2, _⟩ | ⟨b, off, cap, h1, hc, h3, h4⟩⟩ := h
  · exact ⟨[], ⟨a, k, h1, Nat.zero_le _, fun k hk => by simp at hk⟩, fun k hk => by simp at hk⟩
  · refine ⟨xs, ⟨_, cap, h1, hc, fun k hk => ⟨b, off, rfl, h3, ?_⟩⟩, fun k hk => ?_⟩
    · have := (h4 k hk).1
      rwa [show xs.getD k default = xs[k] by simp [hk]] at this
    · have := (h4 k hk).2
      rwa [show xs.getD k default = xs[k] by simp [hk]] at this
theorem wf64 {a : Int} (h : Lit.wf (.int .i64 a) = true) : -9223372036854775808 ≤ a ∧ a ≤ 9223372036854775807 := by
  simpa [Lit.wf, IntKind.min, IntKind.max, IntKind.signed, IntKind.bits] using h
theorem size_list (s : ByteArray) : s.data.toList.length = s.size := by rw [Array.length_toList]; rfl
set_option maxRecDepth 100000 in
theorem post_of {W : World} {n : Nat} {cs : List Value} {y : DataW H × List MemPlace}
    (h : DataW.trod enc Tryz.prog W 0 (fun _ => true) true n 60 cs = some y) : ∃ r : Bk.Po, cs = poC r ∧ Bk.wide r := by
  obtain ⟨xs, n', _, _, hlen, hxl, hf⟩ := DataW.trod_struct Tryz.underlying60 h
  have hl : cs.length = 3 := hlen.trans (by kernel_rfl)
  match cs, hl with
  | [c0, c1, c2], _ =>
    have h0 := hf 0 _ rfl
    have h1 := hf 1 _ rfl
    have h2 := hf 2 _ rfl
    have k0 : Tryz.prog.cellsOf 3 = 1 := by kernel_rfl
    have k1 : Tryz.prog.cellsOf 9 = 1 := by kernel_rfl
    simp only [List.getElem_toArray, List.getElem_cons_zero, List.getElem_cons_succ] at h0 h1 h2
    rw [k1] at h0 h1
    rw [k0] at h2
    simp only [List.drop_zero, List.take_succ_cons, List.take_zero, List.drop_succ_cons] at h0 h1 h2
    have hx2 : xs.length = 3 := hxl
    have e0 : xs[0]? = some (xs[0]'(by omega)) := by simp
    have e1 : xs[1]? = some (xs[1]'(by omega)) := by simp
    have e2 : xs[2]? = some (xs[2]'(by omega)) := by simp
    obtain ⟨l0, q0, _, w0⟩ := DataW.trod_string Tryz.underlying9 (h0.trans e0)
    obtain ⟨l1, q1, _, w1⟩ := DataW.trod_string Tryz.underlying9 (h1.trans e1)
    obtain ⟨l2, q2, _, w2⟩ := DataW.trod_int Tryz.underlying3 (h2.trans e2)
    simp only [List.cons.injEq, and_true] at q0 q1 q2
    subst q0 q1 q2
    unfold maxLen at w0 w1
    refine ⟨(l0.data.toList, l1.data.toList, l2), ?_, ⟨by rw [size_list]; omega, by rw [size_list]; omega, (wf64 w2).1, (wf64 w2).2⟩⟩
    show [Value.string l0, Value.string l1, _] = [Value.string ⟨l0.data.toList.toArray⟩, Value.string ⟨l1.data.toList.toArray⟩, _]
    rw [mk_list, mk_list]
set_option maxRecDepth 100000 in
theorem open_post {W : World} {base : Nat} {v : Value} {d : DataW H} {p : List MemPlace} (hv : Value.okWide Tryz.prog W .any base 60 v)
    (h : DataW.Trod enc Tryz.prog W 0 (fun _ => true) true 60 v d p) : ∃ r : Bk.Po, v = poV r ∧ Bk.wide r := by
  obtain ⟨cs, rfl, hsz⟩ := okWide_struct Tryz.underlying60 hv
  obtain ⟨fuel, hf⟩ := h
  obtain ⟨r, e, hb⟩ := post_of (cs := cs.toList) hf
  exact ⟨r, by rw [show cs = (poC r).toArray from Array.ext' e]; rfl, hb⟩
set_option maxRecDepth 100000 in
theorem open_posts {W : World} {base : Nat} {v : Value} {d : DataW H} {p : List MemPlace} (hv : Value.okWide Tryz.prog W .any base 48 v)
    (h : DataW.Trod enc Tryz.prog W 0 (fun _ => true) true 48 v d p) : ∃ xs, Posts W v xs ∧ ∀ k (hk : k < xs.length), Bk.wide xs[k] := by
  obtain ⟨a, l, c, rfl⟩ := okWide_slice Tryz.underlying48 hv
  obtain ⟨fuel, hf⟩ := h
  refine rowsWith_of (cs := poC) (Ok := Bk.wide) (rows_of (α := Bk.Po) Tryz.underlying48 (by kernel_rfl) (by decide) (fun b off r => CellsAt (poC r) W b off ∧ Bk.wide r) ?_ ?_ hf)
  · intro n cs y h
    obtain ⟨p, rfl, hw⟩ := post_of h
    exact ⟨p, fun b off hc => ⟨fun j u hj => (hc j (List.getElem?_eq_some_iff.1 hj).1).trans hj, hw⟩⟩
  · intro n cs y h
    obtain ⟨p, rfl, _⟩ := post_of h
    rfl
set_option maxRecDepth 100000 in
theorem open_strs {W : World} {base : Nat} {v : Value} {d : DataW H} {p : List MemPlace} (hv : Value.okWide Tryz.prog W .any base 44 v)
    (h : DataW.Trod enc Tryz.prog W 0 (fun _ => true) true 44 v d p) : ∃ xs, Strs W v xs ∧ ∀ k (hk : k < xs.length), xs[k].length ≤ 9223372036854775807 := by
  obtain ⟨a, l, c, rfl⟩ := okWide_slice Tryz.underlying44 hv
  obtain ⟨fuel, hf⟩ := h
  refine rowsWith_of (cs := strL) (Ok := fun x => x.length ≤ 9223372036854775807) (rows_of (α := List UInt8) Tryz.underlying44 (by kernel_rfl) (by decide) (fun b off r => CellsAt (strL r) W b off ∧ r.length ≤ 9223372036854775807) ?_ ?_ hf)
  · intro n cs y h
    obtain ⟨s, rfl, _, hs⟩ := DataW.trod_string Tryz.underlying9 h
    unfold maxLen at hs
    refine ⟨s.data.toList, fun b off hc => ⟨fun j u hj => ?_, by rw [size_list]; omega⟩⟩
    have e : strL s.data.toList = [Value.string s] := by show [Value.string ⟨s.data.toList.toArray⟩] = _; rw [mk_list]
    rw [e] at hj
    exact (hc j (List.getElem?_eq_some_iff.1 hj).1).trans hj
  · intro n cs y h
    obtain ⟨s, rfl, _⟩ := DataW.trod_string Tryz.underlying9 h
    rfl
end
end Go.Proofs.YtcljpklgpedolaaGreatDoor
