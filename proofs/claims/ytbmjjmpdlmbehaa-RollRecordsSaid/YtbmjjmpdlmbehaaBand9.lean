/- Same and Agree, of the program and of the reference. -/
import Derived.Test.YtbmjjmpdlmbehaaBand7
import Derived.Test.YtbmjjmpdlmbehaaBandA
namespace Go.Proofs.Ytbmjjmpdlmbehaa
open Go.RowKit


theorem ref_join_fine (v : Value) (rs : List Bd.R) (w : World) (hv : Runs w v rs) (hf : Bd.fine rs) :
    Calls Try.prog 82 #[v] w fun e w' => ∃ u, e = .returned u ∧ Own w.heap.size w' u (Bd.norm rs) ∧ Below w.heap.size w w' :=
  ref_join_any v rs w hv hf.1 hf.2.1 (by have := hf.2.2; omega)

/-- Two rows of runs side by side, at a place that both have. -/
theorem two_at {w0 wr : World} {g1 g2 : Nat} {xs ys : List Bd.R} {k : Nat} (h1 : ∀ k, k < xs.length → RunAt w0 g1 (k * 4) (xs.getD k default)) (h2 : ∀ k, k < ys.length → RunAt w0 g2 (k * 4) (ys.getD k default))
    (hb : Below w0.heap.size w0 wr) (s1 : g1 < w0.heap.size) (s2 : g2 < w0.heap.size) (k1 : k < xs.length) (k2 : k < ys.length) : RunAt wr g1 (k * 4) xs[k] ∧ RunAt wr g2 (k * 4) ys[k] := by
  have a := h1 k k1
  have b := h2 k k2
  rw [getD_run k1] at a
  rw [getD_run k2] at b
  exact ⟨a.below hb s1, b.below hb s2⟩

theorem Runs.look {w : World} {v : Value} {rs : List Bd.R} (h : Runs w v rs) :
    ∃ ao c, v = .slice ao rs.length c ∧ ∀ k (hk : k < rs.length), ∃ b off, ao = some ⟨b, off, none⟩ ∧ b < w.heap.size ∧ RunAt w b (off + k * 4) rs[k] := by
  rcases h with ⟨a, c, rfl, rfl, _⟩ | ⟨b, off, cap, rfl, h2, h3, h4⟩
  · exact ⟨a, c, rfl, fun k hk => by simp at hk⟩
  · exact ⟨_, cap, rfl, fun k hk => ⟨b, off, rfl, h3, by have := h4 k hk; rwa [getD_run hk] at this⟩⟩
theorem m_eq {r q : Bd.M} (h : r = q) : (r.t == q.t) = true ∧ (r.s == q.s) = true ∧ (r.f == q.f) = true := by subst h; simp
theorem Bd.len_drop_succ {b : List Bd.R} {k : Nat} (h : k < b.length) : Bd.len (b.drop k) = b[k].l + Bd.len (b.drop (k + 1)) := by
  rw [List.drop_eq_getElem_cons h]; rfl

end Go.Proofs.Ytbmjjmpdlmbehaa
