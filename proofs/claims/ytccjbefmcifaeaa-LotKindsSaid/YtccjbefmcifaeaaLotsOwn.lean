/- Lists of lots that a call makes itself, with new parts. -/
import Derived.Test.YtccjbefmcifaeaaInside
import Derived.Test.YtccjbefmcifaeaaSeq
import Derived.Laws.AppendOwnNone
namespace Go.Proofs.Ytccjbefmcifaeaa
open Go.RowKit

theorem info_of {t : TypeId} {z : Value} {s b : Nat} (h : (Try.prog.info? t).map (fun i => (i.zero, i.size, i.bytes)) = some (some z, s, b)) : ∃ i : TypeInfo, Try.prog.info? t = some i ∧ i.zero = some z ∧ i.size = s ∧ i.bytes = b := by
  cases hi : Try.prog.info? t with
  | none => rw [hi] at h; cases h
  | some i =>
    rw [hi] at h
    simp only [Option.map_some, Option.some.injEq, Prod.mk.injEq] at h
    exact ⟨i, rfl, h.1, h.2.1, h.2.2⟩
abbrev zPart : Value := .agg #[.int .i64 0, .int .i64 0]
abbrev zLot : Value := .agg #[.int .i64 0, .int .i64 0, .slice none 0 0]
theorem infoPart : (Try.prog.info? 35).map (fun i => (i.zero, i.size, i.bytes)) = some (some zPart, 2, 16) := by kernel_rfl
theorem infoLot : (Try.prog.info? 25).map (fun i => (i.zero, i.size, i.bytes)) = some (some zLot, 3, 40) := by kernel_rfl
theorem ul_parts : Try.prog.underlying 23 = some (.slice 35) := by kernel_rfl
theorem ul_lots : Try.prog.underlying 22 = some (.slice 25) := by kernel_rfl

def partC (p : Lt.P) : List Value := [.int .i64 p.l, .int .i64 p.m]
def partsC (ps : List Lt.P) : List Value := ps.flatMap partC
theorem partsC_len : ∀ ps : List Lt.P, (partsC ps).length = ps.length * 2
  | [] => rfl
  | p :: r => by have := partsC_len r; simp [partsC, partC] at this ⊢; omega
theorem partsC_get : ∀ (ps : List Lt.P) (k : Nat), k < ps.length → (partsC ps)[k * 2]? = some (.int .i64 (ps.getD k default).l) ∧ (partsC ps)[k * 2 + 1]? = some (.int .i64 (ps.getD k default).m)
  | p :: r, 0, _ => ⟨rfl, rfl⟩
  | p :: r, k + 1, h => by
    have := partsC_get r k (by simpa using h)
    rw [show (k + 1) * 2 = k * 2 + 1 + 1 by omega]
    simpa [partsC, partC] using this
theorem partsC_one (ps : List Lt.P) : ∀ u ∈ partsC ps, u.oneCell' = true := by
  intro u h
  simp only [partsC, List.mem_flatMap, partC, List.mem_cons, List.not_mem_nil, or_false] at h
  obtain ⟨p, _, rfl | rfl⟩ := h <;> rfl
/-- The block of a list of parts holds parts. -/
def PartsT (w : World) (v : Value) (ps : List Lt.P) : Prop := Parts w v ps ∧ ∀ b off l c, v = .slice (some ⟨b, off, none⟩) l c → 0 < l → ∃ (cs : Array Value) (fz : Nat × Nat), w.heap[b]? = some (.cells cs 35 fz)
theorem PartsT.all {w w2 : World} {v : Value} {ps : List Lt.P} (h : PartsT w v ps) (hb : Below w.heap.size w w2) : PartsT w2 v ps := by
  refine ⟨h.1.all hb, fun b off l c e hl => ?_⟩
  obtain ⟨cs, fz, h1⟩ := h.2 b off l c e hl
  exact ⟨cs, fz, (hb.block b (Array.getElem?_eq_some_iff.1 h1).1).trans h1⟩
theorem PartsT.keep {w w2 : World} {v : Value} {ps : List Lt.P} (h : PartsT w v ps) (hs : w.heap.size ≤ w2.heap.size) (hb : ∀ (b : Nat) (cs : Array Value) (fz : Nat × Nat), w.heap[b]? = some (Obj.cells cs 35 fz) → w2.heap[b]? = w.heap[b]?) : PartsT w2 v ps := by
  refine ⟨?_, fun b off l c e hl => ?_⟩
  · rcases h.1 with h1 | ⟨b, off, cap, rfl, h2, h3, h4⟩
    · exact .inl h1
    · refine .inr ⟨b, off, cap, rfl, h2, Nat.lt_of_lt_of_le h3 hs, fun k hk => ?_⟩
      obtain ⟨cs, fz, h5⟩ := h.2 b off _ cap rfl (by omega)
      have := h4 k hk
      unfold PartAt at this ⊢
      simp only [World.cell?, hb b cs fz h5] at this ⊢
      exact this
  · obtain ⟨cs, fz, h1⟩ := h.2 b off l c e hl
    exact ⟨cs, fz, (hb b cs fz h1).trans h1⟩
/-- Parts that lie in a row that the call made. -/
theorem PartsT.row {base : Nat} {w : World} {v : Value} {ps : List Lt.P} (h : w.ownsRow base 35 2 v ps.length (partsC ps)) : PartsT w v ps := by
  obtain ⟨h0, ⟨h1, h2⟩ | ⟨g, cap, cur, h1, h2, h3, h4⟩⟩ := id h
  · refine ⟨.inl ⟨none, 0, by rw [h1], List.length_eq_zero_iff.1 h2, fun _ => rfl⟩, fun b off l c e hl => ?_⟩
    rw [h1] at e; simp at e
  · subst h1
    refine ⟨.inr ⟨g, 0, cap, rfl, by omega, (Array.getElem?_eq_some_iff.1 h3).1, fun k hk => ?_⟩, fun b off l c e hl => ?_⟩
    · obtain ⟨e1, e2⟩ := partsC_get ps k hk
      have := partsC_len ps
      rw [Nat.zero_add]
      exact ⟨(World.ownsRow.cellAt h (k * 2) (by omega)).trans e1, (World.ownsRow.cellAt h (k * 2 + 1) (by omega)).trans e2⟩
    · simp only [Value.slice.injEq, Option.some.injEq, Addr.mk.injEq] at e
      rw [← e.1.1]
      exact ⟨_, _, h3⟩
theorem Parts.news {w : World} {b off : Nat} {ps : List Lt.P} (h : ∀ k, k < ps.length → PartAt w b (off + k * 2) (ps.getD k default)) : ∀ (j : Nat) (u : Value), (partsC ps)[j]? = some u → w.cell? ((⟨b, off, none⟩ : Addr).add j) = some u := by
  intro j u hj
  have hl := (List.getElem?_eq_some_iff.1 hj).1
  rw [partsC_len] at hl
  have hk : j / 2 < ps.length := by omega
  obtain ⟨e1, e2⟩ := partsC_get ps (j / 2) hk
  obtain ⟨c1, c2⟩ := h (j / 2) hk
  rw [show ((⟨b, off, none⟩ : Addr).add j) = ⟨b, off + j, none⟩ by cases j <;> simp [Addr.add]]
  rcases Nat.mod_two_eq_zero_or_one j with hm | hm
  · have e : j / 2 * 2 = j := by omega
    rw [e] at e1 c1
    rw [hj] at e1
    rw [e1]; exact c1
  · have e : j / 2 * 2 + 1 = j := by omega
    rw [e] at e2
    rw [show off + j / 2 * 2 + 1 = off + j by omega] at c2
    rw [hj] at e2
    rw [e2]; exact c2

def lotC (x : Lt.L) (u : Value) : List Value := [.int .i64 x.k, .int .i64 x.m, u]
def lotsC : List Lt.L → List Value → List Value
  | x :: xs, u :: us => lotC x u ++ lotsC xs us
  | _, _ => []
theorem lotsC_push : ∀ {xs : List Lt.L} {us : List Value}, us.length = xs.length → ∀ (x : Lt.L) (u : Value), lotsC (xs ++ [x]) (us ++ [u]) = lotsC xs us ++ lotC x u
  | [], [], _, x, u => by simp [lotsC, lotC]
  | y :: xs, v :: us, h, x, u => by
    have := lotsC_push (xs := xs) (us := us) (by simpa using h) x u
    simp [lotsC, this]
  | [], v :: us, h, _, _ => by simp at h
  | y :: xs, [], h, _, _ => by simp at h
theorem lotsC_len : ∀ {xs : List Lt.L} {us : List Value}, us.length = xs.length → (lotsC xs us).length = xs.length * 3
  | [], [], _ => rfl
  | y :: xs, v :: us, h => by
    have := lotsC_len (xs := xs) (us := us) (by simpa using h)
    simp [lotsC, lotC, this]; omega
  | [], v :: us, h => by simp at h
  | y :: xs, [], h => by simp at h
theorem lotsC_get : ∀ {xs : List Lt.L} {us : List Value}, us.length = xs.length → ∀ k, k < xs.length → (lotsC xs us)[k * 3]? = some (.int .i64 (xs.getD k default).k) ∧ (lotsC xs us)[k * 3 + 1]? = some (.int .i64 (xs.getD k default).m) ∧ (lotsC xs us)[k * 3 + 2]? = us[k]?
  | y :: xs, v :: us, h, 0, _ => ⟨rfl, rfl, rfl⟩
  | y :: xs, v :: us, h, k + 1, hk => by
    have := lotsC_get (xs := xs) (us := us) (by simpa using h) k (by simpa using hk)
    rw [show (k + 1) * 3 = k * 3 + 1 + 1 + 1 by omega]
    simpa [lotsC, lotC] using this
  | y :: xs, [], h, _, _ => by simp at h
  | [], _, _, k, hk => by simp at hk
/-- A list of lots that the call made; us are their lists of parts. -/
def OwnL (base : Nat) (w : World) (v : Value) (ls : List Lt.L) (us : List Value) : Prop :=
  us.length = ls.length ∧ w.ownsRow base 25 3 v ls.length (lotsC ls us) ∧ ∀ k, k < ls.length → ∃ u, us[k]? = some u ∧ PartsT w u (ls.getD k default).ps
theorem OwnL.nil (base : Nat) (w : World) : OwnL base w (.slice none 0 0) [] [] := ⟨rfl, World.ownsRow_nil _ _ _ _, fun k hk => absurd hk (Nat.not_lt_zero _)⟩
theorem OwnL.all {base : Nat} {w w2 : World} {v : Value} {ls : List Lt.L} {us : List Value} (h : OwnL base w v ls us) (hb : Below w.heap.size w w2) : OwnL base w2 v ls us := by
  refine ⟨h.1, ?_, fun k hk => let ⟨u, h1, h2⟩ := h.2.2 k hk; ⟨u, h1, h2.all hb⟩⟩
  obtain ⟨h0, h1 | ⟨g, cap, cur, h1, h2, h3, h4⟩⟩ := h.2.1
  · exact ⟨h0, .inl h1⟩
  · have hg : g < w.heap.size := (Array.getElem?_eq_some_iff.1 h3).1
    exact ⟨h0, .inr ⟨g, cap, cur, h1, h2, by rw [hb.block g hg]; exact h3, h4⟩⟩
theorem OwnL.mono {base B : Nat} {w : World} {v : Value} {ls : List Lt.L} {us : List Value} (h : OwnL base w v ls us) (hB : B ≤ base) : OwnL B w v ls us := by
  refine ⟨h.1, ?_, h.2.2⟩
  obtain ⟨h0, h1 | ⟨g, cap, cur, h1, h2, h3⟩⟩ := h.2.1
  · exact ⟨h0, .inl h1⟩
  · exact ⟨h0, .inr ⟨g, cap, cur, h1, Nat.le_trans hB h2, h3⟩⟩
theorem OwnL.lots {base : Nat} {w : World} {v : Value} {ls : List Lt.L} {us : List Value} (h : OwnL base w v ls us) : Lots w v ls := by
  obtain ⟨hl, hr, hp⟩ := h
  obtain ⟨h0, ⟨h1, h2⟩ | ⟨g, cap, cur, h1, h2, h3, h4⟩⟩ := id hr
  · exact .inl ⟨none, 0, by rw [h1], List.length_eq_zero_iff.1 h2, fun _ => rfl⟩
  · subst h1
    refine .inr ⟨g, 0, cap, rfl, by omega, (Array.getElem?_eq_some_iff.1 h3).1, fun k hk => ?_⟩
    obtain ⟨u, hu, hpt⟩ := hp k hk
    obtain ⟨e1, e2, e3⟩ := lotsC_get hl k hk
    have := lotsC_len hl
    refine ⟨u, ?_⟩
    rw [Nat.zero_add]
    exact ⟨(World.ownsRow.cellAt hr (k * 3) (by omega)).trans e1, (World.ownsRow.cellAt hr (k * 3 + 1) (by omega)).trans e2, (World.ownsRow.cellAt hr (k * 3 + 2) (by omega)).trans (e3.trans hu), hpt.1⟩
theorem OwnL.form {base : Nat} {w : World} {v : Value} {ls : List Lt.L} {us : List Value} (h : OwnL base w v ls us) : ∃ a c, v = .slice a ls.length c := h.lots.form
/-- An append to the row changes no parts. -/
theorem PartsT.grown {base : Nat} {W w9 : World} {s z : Value} {n : Nat} {xs : List Value} {ps : List Lt.P} (h : PartsT W z ps) (hrow : W.ownsRow base 25 3 s n xs) (hg : W.grownBy w9 s.ownBlock) : PartsT w9 z ps := by
  refine h.keep hg.size fun b cs fz e => hg.block b (Array.getElem?_eq_some_iff.1 e).1 ?_
  intro e2
  obtain ⟨h0, ⟨h1, h2⟩ | ⟨g, cap, cur, h1, h2, h3, h4⟩⟩ := id hrow
  · rw [h1] at e2; simp [Value.ownBlock] at e2
  · rw [h1] at e2
    simp [Value.ownBlock] at e2
    subst e2
    rw [h3] at e
    simp at e
theorem lot_at (w : World) (x : Lt.L) (u : Value) (t : TypeId) : ∀ (j : Nat) (z : Value), (lotC x u)[j]? = some z → (w.alloc (.cells #[.int .i64 x.k, .int .i64 x.m, u] t)).cell? ((⟨w.heap.size, 0, none⟩ : Addr).add j) = some z := by
  intro j z h
  match j, h with
  | 0, h => simp [lotC] at h; subst h; simp [Addr.add]
  | 1, h => simp [lotC] at h; subst h; simp [Addr.add]
  | 2, h => simp [lotC] at h; subst h; simp [Addr.add]
  | j + 3, h => simp [lotC] at h
theorem OwnL.push {base : Nat} {W w9 : World} {s v' u : Value} {ls : List Lt.L} {us : List Value} {x : Lt.L} (h : OwnL base W s ls us) (hu : PartsT W u x.ps) (hg : W.grownBy w9 s.ownBlock)
    (h9 : w9.ownsRow base 25 3 v' (ls.length + 1) (lotsC ls us ++ lotC x u)) : OwnL base w9 v' (ls ++ [x]) (us ++ [u]) := by
  refine ⟨by simp [h.1], ?_, fun k hk => ?_⟩
  · rw [lotsC_push h.1, List.length_append]; exact h9
  · rw [List.length_append, List.length_singleton] at hk
    have hlen := h.1
    by_cases e : k < ls.length
    · obtain ⟨z, h1, h2⟩ := h.2.2 k e
      refine ⟨z, by rw [List.getElem?_append_left (by omega)]; exact h1, ?_⟩
      rw [show (ls ++ [x]).getD k default = ls.getD k default by simp [List.getD, List.getElem?_append_left e]]
      exact h2.grown h.2.1 hg
    · have e : k = ls.length := by omega
      subst e
      refine ⟨u, by rw [List.getElem?_append_right (by omega), hlen]; simp, ?_⟩
      rw [show (ls ++ [x]).getD ls.length default = x by simp]
      exact hu.grown h.2.1 hg
end Go.Proofs.Ytccjbefmcifaeaa
