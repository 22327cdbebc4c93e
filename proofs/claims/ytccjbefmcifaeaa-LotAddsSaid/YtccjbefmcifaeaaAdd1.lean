/- A genealogy with one more lot: the program's. -/
import Derived.Test.YtccjbefmcifaeaaOnly1
import Derived.Test.YtccjbefmcifaeaaSeq3
namespace Go.Proofs.Ytccjbefmcifaeaa
open Go.RowKit

/-- The lists of parts of some lots, as they came in. -/
def PartsOf (w : World) (ls : List Lt.L) (us : List Value) : Prop := us.length = ls.length ∧ ∀ k, k < ls.length → ∃ u, us[k]? = some u ∧ Parts w u (ls.getD k default).ps
theorem lotsC_one {ls : List Lt.L} {us : List Value} (h : ∀ u ∈ us, u.oneCell' = true) : ∀ z ∈ lotsC ls us, z.oneCell' = true := by
  induction ls generalizing us with
  | nil => intro z hz; simp [lotsC] at hz
  | cons x r ih =>
    cases us with
    | nil => intro z hz; simp [lotsC] at hz
    | cons u us =>
      intro z hz
      simp only [lotsC, lotC, List.cons_append, List.nil_append, List.mem_cons] at hz
      rcases hz with rfl | rfl | rfl | hz
      · rfl
      · rfl
      · exact h _ (by simp)
      · exact ih (fun u hu => h u (by simp [hu])) z hz
theorem PartsOf.one {w : World} {ls : List Lt.L} {us : List Value} (h : PartsOf w ls us) : ∀ u ∈ us, u.oneCell' = true := by
  intro u hu
  obtain ⟨k, hk, rfl⟩ := List.getElem_of_mem hu
  obtain ⟨u', h1, h2⟩ := h.2 k (by rw [← h.1]; exact hk)
  rw [List.getElem?_eq_getElem hk] at h1
  obtain ⟨a, c, e⟩ := h2.form
  rw [Option.some.inj h1, e]; rfl
/-- The cells of a list of lots that came in. -/
theorem lots_cells {w : World} {b off : Nat} {ls : List Lt.L} (h : ∀ k, k < ls.length → ∃ v, LotAt w b (off + k * 3) (ls.getD k default) v) : ∃ us, PartsOf w ls us ∧ ∀ (j : Nat) (u : Value), (lotsC ls us)[j]? = some u → w.cell? ⟨b, off + j, none⟩ = some u := by
  have hch : ∃ f : Nat → Value, ∀ k, k < ls.length → LotAt w b (off + k * 3) (ls.getD k default) (f k) :=
    ⟨fun k => if hk : k < ls.length then Classical.choose (h k hk) else undef, fun k hk => by dsimp only; rw [dif_pos hk]; exact Classical.choose_spec (h k hk)⟩
  obtain ⟨f, hf⟩ := hch
  have hlen : ((List.range ls.length).map f).length = ls.length := by simp
  have hget : ∀ k, k < ls.length → ((List.range ls.length).map f)[k]? = some (f k) := fun k hk => by simp [hk]
  refine ⟨(List.range ls.length).map f, ⟨hlen, fun k hk => ⟨f k, hget k hk, (hf k hk).2.2.2⟩⟩, fun j u hj => ?_⟩
  have hl := (List.getElem?_eq_some_iff.1 hj).1
  rw [lotsC_len hlen] at hl
  have hk : j / 3 < ls.length := by omega
  obtain ⟨e1, e2, e3⟩ := lotsC_get hlen (j / 3) hk
  obtain ⟨c1, c2, c3, _⟩ := hf (j / 3) hk
  rw [hget _ hk] at e3
  have hm : j % 3 = 0 ∨ j % 3 = 1 ∨ j % 3 = 2 := by omega
  rcases hm with hm | hm | hm
  · have e : j / 3 * 3 = j := by omega
    rw [e] at e1 c1
    rw [hj] at e1; rw [e1]; exact c1
  · have e : j / 3 * 3 + 1 = j := by omega
    rw [e] at e2
    rw [show off + j / 3 * 3 + 1 = off + j by omega] at c2
    rw [hj] at e2; rw [e2]; exact c2
  · have e : j / 3 * 3 + 2 = j := by omega
    rw [e] at e3
    rw [show off + j / 3 * 3 + 2 = off + j by omega] at c3
    rw [hj] at e3; rw [e3]; exact c3

set_option maxRecDepth 20000 in
set_option maxHeartbeats 1000000 in
theorem cloneLots_any (v : Value) (ls : List Lt.L) (w : World) (hv : Lots w v ls) (hl : ls.length ≤ 1000) :
    Calls Try.prog 59 #[v] w fun e w' => ∃ u us, e = .returned u ∧ PartsOf w ls us ∧ w'.ownsRow w.heap.size 25 3 u ls.length (lotsC ls us) ∧ Below w.heap.size w w' := by
  obtain ⟨i0, hi, hz0, hz1, hz2⟩ := info_of infoLot
  have hown := World.ownsRow_made (base := w.heap.size) (e := 25) (size := 3) w #[] 0 (Nat.le_refl _) (by unfold maxLen; omega) rfl
  have hw0 := (Below.refl w.heap.size w).alloc (Nat.le_refl _) (.cells #[] 25)
  have heq := fun (W : World) a n c => Lib.run_eql_slice_nil (P := Try.prog) W 22 25 a n c 0 0 ul_lots
  rcases hv with ⟨a, c, rfl, rfl, hnc⟩ | ⟨b, off, cap, rfl, hc, hb, h4⟩
  · cases a with
    | none =>
      obtain rfl := hnc rfl
      clear hown hw0
      go_enter Try.func59, Try.ntmps59
      go_wp2
      go_ret
      exact ⟨_, rfl, [], ⟨rfl, fun k hk => absurd hk (Nat.not_lt_zero _)⟩, World.ownsRow_nil _ _ _ _, Below.refl _ _⟩
    | some ad =>
      go_enter Try.func59, Try.ntmps59
      go_wp2_with (at_builtin; refine wpList_append_own _ rfl _ _ 22 rfl w.heap.size 25 i0 zLot 3 40 ul_lots hi hz0 hz1 hz2 rfl (by decide) _ _ _ rfl hown ad 0 c [] rfl rfl (by intro j u h; simp at h) (by intro u h; simp at h) (by unfold maxLen; omega) (by omega) (by simp) ?_)
      intro v' w1 hown1 hgrow _
      have hw1 := hw0.grown hgrow (by simp) (fun j e => (World.ownsRow.lt hown j e).1)
      have hx : w1.ownsRow w.heap.size 25 3 v' 0 [] := by simpa using hown1
      clear hown hgrow hown1 hw0
      go_wp2
      go_ret
      exact ⟨_, [], rfl, ⟨rfl, fun k hk => absurd hk (Nat.not_lt_zero _)⟩, hx, hw1⟩
  · obtain ⟨us, hus, hcl⟩ := lots_cells h4
    have hcl2 := lotsC_len hus.1
    have hca : ∀ (j : Nat) (u : Value), (lotsC ls us)[j]? = some u → (w.alloc (.cells #[] 25)).cell? ((⟨b, off, none⟩ : Addr).add j) = some u := by
      intro j u h
      rw [show ((⟨b, off, none⟩ : Addr).add j) = ⟨b, off + j, none⟩ by cases j <;> simp [Addr.add]]
      exact (hw0.cell (p := ⟨b, off + j, none⟩) hb).trans (hcl j u h)
    have HU := Lib.hid hus
    have hone := lotsC_one (ls := ls) hus.one
    clear h4 hcl hus
    go_enter Try.func59, Try.ntmps59
    go_wp2_with (at_builtin; refine wpList_append_own _ rfl _ _ 22 rfl w.heap.size 25 i0 zLot 3 40 ul_lots hi hz0 hz1 hz2 rfl (by decide) _ _ _ rfl hown ⟨b, off, none⟩ ls.length cap (lotsC ls us) rfl hcl2 hca hone (by unfold maxLen; omega) (by omega) (by simp) ?_)
    intro v' w1 hown1 hgrow _
    have hw1 := hw0.grown hgrow (by simp) (fun j e => (World.ownsRow.lt hown j e).1)
    have hx : w1.ownsRow w.heap.size 25 3 v' ls.length (lotsC ls us) := by simpa using hown1
    clear hown hgrow hown1 hca hw0
    go_wp2
    go_ret
    exact ⟨_, us, rfl, HU.out, hx, hw1⟩
end Go.Proofs.Ytccjbefmcifaeaa
