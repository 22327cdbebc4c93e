/- Lists of runs one behind the other, in new memory. -/
import Derived.Test.YtabfcnfddemblaaBand9
import Derived.Lib.AppendZeros
import Derived.Laws.AppendOwnNone
namespace Go.Proofs.Ytabfcnfddemblaa
open Go.RowKit

set_option maxRecDepth 20000 in
theorem checked_any (v : Value) (rs : List Bd.R) (w : World) (hv : Runs w v rs) (hf : Bd.fine rs) :
    Calls Try.prog 111 #[v] w fun e w' => ∃ u, e = .returned (.tuple #[u, .int .i64 (Bd.toldE rs)]) ∧ Own w.heap.size w' u (Bd.toldR rs) ∧ Below w.heap.size w w' := by
  have J := Lib.hid (fun W (hW : Below w.heap.size w W) => normal_any v rs W (hv.all hW) hf)
  obtain ⟨a, c, rfl⟩ := hv.form
  have HF := Lib.hid hf
  clear hv hf
  generalize hE : Bd.toldE rs = E
  generalize hR : Bd.toldR rs = T
  have HE := Lib.hid (And.intro hE hR)
  clear hE hR
  go_enter Try.func111, Try.ntmps111
  go_wp2_with fail
  refine (J.out _ (Below.refl _ _)).mono ?_
  rintro e w1 ⟨u, rfl, hu, hb1⟩
  clear J
  have S := Lib.hid (length_any u (Bd.norm rs) w1 hu.runs (Bd.fine_norm HF.out))
  have hl := Bd.norm_length rs
  have hl2 := HF.out.1
  rw [Bd.norm_len] at S
  by_cases h1 : 40 < (Bd.norm rs).length
  · obtain ⟨e1, e2⟩ := Bd.told_large (b := rs) (.inl h1)
    rw [HE.out.1] at e1
    rw [HE.out.2] at e2
    have EQ := Lib.hid (And.intro e1 e2)
    clear e1 e2 S HF HE
    generalize Bd.norm rs = ns at *
    obtain ⟨ua, uc, hu'⟩ := hu.runs.form
    subst hu'
    go_wp2
    go_ret2
    exact ⟨_, by rw [EQ.out.1]; rfl, by rw [EQ.out.2]; exact Own.nil _ _, hb1⟩
  · by_cases h2 : 1000000 < Bd.len rs
    · obtain ⟨e1, e2⟩ := Bd.told_large (b := rs) (.inr h2)
      rw [HE.out.1] at e1
      rw [HE.out.2] at e2
      have EQ := Lib.hid (And.intro e1 e2)
      clear e1 e2 HF HE
      generalize Bd.norm rs = ns at *
      generalize Bd.len rs = n at *
      obtain ⟨ua, uc, hu'⟩ := hu.runs.form
      subst hu'
      go_wp2_with fail
      refine S.out.mono ?_
      rintro e w2 ⟨rfl, hb2⟩
      go_wp2
      go_ret2
      exact ⟨_, by rw [EQ.out.1]; rfl, by rw [EQ.out.2]; exact Own.nil _ _, below_step hb1 hb2⟩
    · obtain ⟨e1, e2⟩ := Bd.told_fits (b := rs) (by omega)
      rw [HE.out.1] at e1
      rw [HE.out.2] at e2
      have EQ := Lib.hid (And.intro e1 e2)
      clear e1 e2 HF HE
      generalize Bd.norm rs = ns at *
      generalize Bd.len rs = n at *
      obtain ⟨ua, uc, hu'⟩ := hu.runs.form
      subst hu'
      go_wp2_with fail
      refine S.out.mono ?_
      rintro e w2 ⟨rfl, hb2⟩
      go_wp2
      go_ret2
      exact ⟨_, by rw [EQ.out.1]; rfl, by rw [EQ.out.2]; exact hu.all hb2, below_step hb1 hb2⟩

theorem Bd.fine_append {a b : List Bd.R} (h1 : a.length + b.length ≤ 1000) (h2 : Bd.pos a) (h3 : Bd.pos b) (h4 : Bd.len a + Bd.len b ≤ 1000000000) : Bd.fine (a ++ b) :=
  ⟨by simp; omega, Bd.pos_append.2 ⟨h2, h3⟩, by rw [Bd.len_append]; exact h4⟩

set_option maxRecDepth 20000 in
theorem grow_any (n : Nat) (w : World) (hn : n ≤ 100000) :
    Calls Try.prog 145 #[.slice none 0 0, .int .i64 n] w fun e w' => ∃ u, e = .returned u ∧ Own w.heap.size w' u [] ∧ Below w.heap.size w w' := by
  rcases Nat.eq_zero_or_pos n with rfl | h0
  · go_enter Try.func145, Try.ntmps145
    go_wp2
    go_ret
    exact ⟨_, rfl, Own.nil _ _, Below.refl _ _⟩
  · obtain ⟨i0, hi, hz0, hz1, hz2⟩ := info_parts infoRun
    have hrz := fun ty => Lib.run_append_nil_zeros (P := Try.prog) w 51 3 ty 112 i0 _ .i64 .i64 Try.underlying51 Try.underlying3 hi hz0 n h0 (by omega) (by omega) (by rw [hz2]; omega)
    have hG : n ≤ grownCap w n 0 112 := grownCap_ge w _ _ _
    have hM : grownCap w n 0 112 ≤ maxLen := grownCap_le_maxLen w n 0 _ (by unfold maxLen; omega)
    generalize grownCap w n 0 112 = G at *
    have hown : Own w.heap.size (w.drew.alloc (.cells (Builtin.zeroCells (Value.agg #[.int .i64 0, .int .i64 0, .int .i64 0, .int .i64 0]).cells n ++ Builtin.zeroCells (Value.agg #[.int .i64 0, .int .i64 0, .int .i64 0, .int .i64 0]).cells (G - n)) 112)) (.slice (some ⟨w.heap.size, 0, none⟩) 0 G) [] :=
      World.ownsRow_made (base := w.heap.size) (e := 112) (size := 4) w.drew _ G (Nat.le_refl _) hM (by rw [Array.size_append, size_zeroCells, size_zeroCells]; show n * 4 + (G - n) * 4 = G * 4; omega)
    have HO := Lib.hid (And.intro hown ((Below.refl w.heap.size w).drew.alloc (Nat.le_refl _) (.cells (Builtin.zeroCells (Value.agg #[.int .i64 0, .int .i64 0, .int .i64 0, .int .i64 0]).cells n ++ Builtin.zeroCells (Value.agg #[.int .i64 0, .int .i64 0, .int .i64 0, .int .i64 0]).cells (G - n)) 112)))
    clear hown
    unfold maxLen at hM
    go_enter Try.func145, Try.ntmps145
    go_wp2_with (at_builtin; refine Lib.wpList_append_run _ rfl _ _ _ _ rfl _ _ rfl rfl _ _ (hrz _) ?_)
    go_ret
    exact ⟨_, rfl, HO.out.1, HO.out.2⟩

/-- A slice that is read and appended to an own list. -/
theorem runs_src {w : World} {v : Value} {rs : List Bd.R} (h : Runs w v rs) :
    (v = .slice none 0 0 ∧ rs = []) ∨ ∃ ad c, v = .slice (some ad) rs.length c ∧ ∀ (j : Nat) (u : Value), (cellsR rs)[j]? = some u → w.cell? (ad.add j) = some u := by
  rcases h with ⟨a, c, rfl, rfl, hn⟩ | ⟨b, off, cap, rfl, hcap, hb, hc⟩
  · cases a with
    | none => obtain rfl := hn rfl; exact .inl ⟨rfl, rfl⟩
    | some ad => exact .inr ⟨ad, c, rfl, fun j u h => by simp [cellsR] at h⟩
  · refine .inr ⟨⟨b, off, none⟩, cap, rfl, fun j u h => ?_⟩
    have h1 := runs_cells (o := .deferred none) hb hc j u h
    have ha : ∀ n : Nat, (⟨b, off, none⟩ : Addr).add n = ⟨b, off + n, none⟩ := fun n => by
      unfold Addr.add
      split
      · rename_i e; subst e; rfl
      · rfl
    rw [ha] at h1 ⊢
    rwa [World.cell?_alloc_past _ _ _ hb] at h1
theorem Own.joined {base : Nat} {w : World} {v : Value} {a b : List Bd.R} (h : w.ownsRow base 112 4 v (a.length + b.length) (cellsR a ++ cellsR b)) : Own base w v (a ++ b) := by
  unfold Own; rw [List.length_append, cellsR_append]; exact h

end Go.Proofs.Ytabfcnfddemblaa
