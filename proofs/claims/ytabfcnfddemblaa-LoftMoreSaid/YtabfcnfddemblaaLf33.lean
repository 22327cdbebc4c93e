/- A list of goods with one more: the appends of the law. -/
import Derived.Test.YtabfcnfddemblaaLf32
namespace Go.Proofs.Ytabfcnfddemblaa.Lo
open Go.RowKit

section
variable {P : Program}
theorem append_none_cap {w : World} (base : Nat) (t ty e : TypeId) (i : TypeInfo) (size : Nat) (ht : P.underlying t = some (.slice e)) (hi : P.info? e = some i)
    (v : Value) (n c : Nat) (xs : List Value) (hown : w.ownsRow base e size v n xs) :
    (Builtin.append_ #[t, t] ty #[v, .slice none 0 c]).run P w = .ok v w := by
  rcases hown.2 with ⟨rfl, rfl⟩ | ⟨g, cap, cur, rfl, _, _, hnc, _⟩
  · simp [Builtin.append_, run_underlying ht, sizeOf, typeInfo, hi, Builtin.lenOf, Builtin.firstCells]
  · simp [Builtin.append_, run_underlying ht, sizeOf, typeInfo, hi, Builtin.lenOf, Builtin.firstCells, hnc, storeCells]
end
theorem oper_append {P : Program} {o : Oper} {a : Act} {w w' : World} {K : Act → World → Prop} {Q : Exit → Act → World → Prop} {s x : Operand} {t : TypeId} {v z v' : Value}
    (ho : o.op = .call { callee := .builtin .append, args := #[s, x], argTypes := #[t, t] }) (hs : a.eval s = v) (hx : a.eval x = z)
    (hr : (Builtin.append_ #[t, t] o.type #[v, z]).run P w = .ok v' w') (h : K (a.put o.dst v') w') : Oper.wp P o a w K Q := by
  unfold Oper.wp execOp
  simp only [ho, resolve, invoke, builtin, Sem.run_bind, Sem.run_pure, Result.andThen_ok, List.map_toArray, List.map_cons, List.map_nil, hs, hx, hr]
  exact h
theorem goods_flat {W : World} {a : Option Addr} {n c : Nat} {gs : List Lf.G} (h : Goods W (.slice a n c) gs) : n = gs.length ∧ (gs ≠ [] → ∃ b off, a = some ⟨b, off, none⟩ ∧ ∀ (j : Nat) (u : Value), (gs.flatMap gdC)[j]? = some u → W.cell? ((⟨b, off, none⟩ : Addr).add j) = some u) := by
  obtain ⟨a', c', e, hc, hk⟩ := h
  simp only [Value.slice.injEq] at e
  obtain ⟨rfl, rfl, rfl⟩ := e
  refine ⟨rfl, fun hne => ?_⟩
  have hp : 0 < gs.length := List.length_pos_iff.2 hne
  obtain ⟨b, off, rfl, _, _⟩ := hk 0 hp
  refine ⟨b, off, rfl, fun j u hj => ?_⟩
  have hjl : j < gs.length * 5 := by
    have := (List.getElem?_eq_some_iff.1 hj).1
    rwa [flat_len gdC_len] at this
  obtain ⟨b', off', e2, _, hcell⟩ := hk (j / 5) (by omega)
  injection e2 with e2
  injection e2 with e3 e4
  subst e3
  subst e4
  have h2 := flat_at gdC_len gs (j / 5) (by omega) (j % 5) (by omega)
  rw [show j / 5 * 5 + j % 5 = j by omega] at h2
  have h3 := hcell (j % 5) u (h2.symm.trans hj)
  rw [show ((⟨b, off, none⟩ : Addr).add j) = ⟨b, off + j, none⟩ by cases j <;> simp [Addr.add]]
  rw [show off + j / 5 * 5 + j % 5 = off + j by omega] at h3
  exact h3
theorem gds_one (gs : List Lf.G) : ∀ u ∈ gs.flatMap gdC, u.oneCell' = true := by
  intro u h
  obtain ⟨g, _, hu⟩ := List.mem_flatMap.1 h
  exact gdC_one g u hu
theorem append_goods {base : Nat} {W : World} {v : Value} {a : Option Addr} {n c : Nat} {gs : List Lf.G} (hown : W.ownsRow base GoodT 5 v 0 []) (hg : Goods W (.slice a n c) gs) (hb : base ≤ W.heap.size) (h8 : gs.length ≤ 8) :
    ∃ v' W', (Builtin.append_ #[72, 72] 72 #[v, .slice a n c]).run Try.prog W = .ok v' W' ∧ OwnGood base W' v' gs ∧ W.grownBy W' v.ownBlock := by
  obtain ⟨i0, hi0, hz0, hz1, hz2⟩ := info_parts infoGood
  obtain ⟨rfl, hf⟩ := goods_flat hg
  by_cases hne : gs = []
  · subst hne
    cases a with
    | none =>
      exact ⟨v, W, append_none_cap (P := Try.prog) (w := W) base 72 72 GoodT i0 5 Try.underlying72 hi0 v 0 c [] hown, hown, ⟨rfl, rfl, rfl, Nat.le_refl _, fun _ _ _ => rfl⟩⟩
    | some ad =>
      obtain ⟨v', W', h1, h2, h3, _⟩ := run_append_own (P := Try.prog) (w := W) base 72 72 GoodT i0 _ 5 40 Try.underlying72 hi0 hz0 hz1 hz2 rfl (by decide) v 0 [] hown ad 0 c [] rfl (by intro j u h; simp at h) (by intro u h; simp at h) (by unfold maxLen; omega) (by omega) hb
      exact ⟨v', W', h1, (by simpa using h2 : W'.ownsRow base GoodT 5 v' 0 []), h3⟩
  · obtain ⟨b, off, rfl, hca⟩ := hf hne
    obtain ⟨v', W', h1, h2, h3, _⟩ := run_append_own (P := Try.prog) (w := W) base 72 72 GoodT i0 _ 5 40 Try.underlying72 hi0 hz0 hz1 hz2 rfl (by decide) v 0 [] hown ⟨b, off, none⟩ gs.length c (gs.flatMap gdC) (flat_len gdC_len gs) hca (gds_one gs) (by unfold maxLen; omega) (by omega) hb
    refine ⟨v', W', h1, ?_, h3⟩
    rw [Nat.zero_add, List.nil_append] at h2
    exact h2
theorem append_good {base B : Nat} {W : World} {v : Value} {gs : List Lf.G} {g : Lf.G} (hown : OwnGood base W v gs) (hB : BlockAt W B (gdA g) GoodT) (hb : base ≤ W.heap.size) (h8 : gs.length ≤ 8) :
    ∃ a c W', (Builtin.append_ #[72, 72] 72 #[v, .slice (some ⟨B, 0, none⟩) 1 1]).run Try.prog W = .ok (.slice a (gs.length + 1) c) W' ∧ OwnGood base W' (.slice a (gs.length + 1) c) (gs ++ [g]) ∧ W.grownBy W' v.ownBlock := by
  obtain ⟨i0, hi0, hz0, hz1, hz2⟩ := info_parts infoGood
  have hca : ∀ (j : Nat) (u : Value), (gdC g)[j]? = some u → W.cell? ((⟨B, 0, none⟩ : Addr).add j) = some u := fun j u hj => by
    rw [show ((⟨B, 0, none⟩ : Addr).add j) = ⟨B, j, none⟩ by cases j <;> simp [Addr.add], hB.cell j]
    simpa [gdC, gdA] using hj
  obtain ⟨v', W', h1, h2, h3, _⟩ := run_append_own (P := Try.prog) (w := W) base 72 72 GoodT i0 _ 5 40 Try.underlying72 hi0 hz0 hz1 hz2 rfl (by decide) v gs.length (gs.flatMap gdC) hown ⟨B, 0, none⟩ 1 1 (gdC g) rfl hca (gdC_one g) (by unfold maxLen; omega) (by omega) hb
  have h4 : OwnGood base W' v' (gs ++ [g]) := OwnG.pushed h2
  obtain ⟨a9, c9, e9⟩ := (h4.rows gdC_len).form
  subst e9
  rw [List.length_append] at h1 h4
  exact ⟨a9, c9, W', h1, h4, h3⟩
/-- The lofts with a pole more. -/
def wdW (f : Lf.F) : Lf.F := ⟨min (IntKind.i64.wrap (f.p + 1)) 40, f.rs⟩
theorem wdW_ok {ls : List Lf.F} (h : Lf.valF ls = 0) : ls.map wdW = Lf.wdL ls := by
  unfold Lf.wdL
  refine List.map_congr_left fun f hf => ?_
  obtain ⟨k, hk, rfl⟩ := List.mem_iff_getElem.1 hf
  have := (Lf.okF_iff.1 ((Lf.valF_zero h).2 k hk)).1
  unfold wdW Lf.wdF
  rw [IntWalk.i64_in _ ⟨by omega, by omega⟩]
end Go.Proofs.Ytabfcnfddemblaa.Lo
