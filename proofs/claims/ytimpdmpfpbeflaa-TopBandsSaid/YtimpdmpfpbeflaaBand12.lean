/- Lists of runs one behind the other, in new memory. -/
import Derived.Test.YtimpdmpfpbeflaaBand9
import Derived.Lib.AppendZeros
import Derived.Laws.AppendOwnNone
namespace Go.Proofs.Ytimpdmpfpbeflaa
open Go.RowKit

set_option maxRecDepth 20000 in
theorem checked_any (v : Value) (rs : List Bd.R) (w : World) (hv : Runs w v rs) (hf : Bd.fine rs) :
    Calls Try.prog 75 #[v] w fun e w' => ∃ u, e = .returned (.tuple #[u, .int .i64 (Bd.toldE rs)]) ∧ Own w.heap.size w' u (Bd.toldR rs) ∧ Below w.heap.size w w' := by
  have J := Lib.hid (fun W (hW : Below w.heap.size w W) => normal_any v rs W (hv.all hW) hf)
  obtain ⟨a, c, rfl⟩ := hv.form
  have HF := Lib.hid hf
  clear hv hf
  generalize hE : Bd.toldE rs = E
  generalize hR : Bd.toldR rs = T
  have HE := Lib.hid (And.intro hE hR)
  clear hE hR
  go_enter Try.func75, Try.ntmps75
  go_wp2_with fail
  refine (J.out _ (Below.refl _ _)).mono ?_
  rintro e w1 ⟨u, rfl, hu, hb1⟩
  clear J
  have S := Lib.hid (length_any u (Bd.norm rs) w1 hu.runs (Bd.fine_norm HF.out))
  have hl := Bd.norm_length rs
  have hl2 := HF.out.1
  rw [Bd.norm_len] at S
  by_cases h1 : 40 < (Bd.norm rs).length
  · obtain ⟨e1, e2⟩ := Bd.told_large (b := rs) (.inl h1)
    rw [HE.out.1] at e1
    rw [HE.out.2] at e2
    have EQ := Lib.hid (And.intro e1 e2)
    clear e1 e2 S HF HE
    generalize Bd.norm rs = ns at *
    obtain ⟨ua, uc, hu'⟩ := hu.runs.form
    subst hu'
    go_wp2
    go_ret2
    exact ⟨_, by rw [EQ.out.1]; rfl, by rw [EQ.out.2]; exact Own.nil _ _, hb1⟩
  · by_cases h2 : 1000000 < Bd.len rs
    · obtain ⟨e1, e2⟩ := Bd.told_large (b := rs) (.inr h2)
      rw [HE.out.1] at e1
      rw [HE.out.2] at e2
      have EQ := Lib.hid (And.intro e1 e2)
      clear e1 e2 HF HE
      generalize Bd.norm rs = ns at *
      generalize Bd.len rs = n at *
      obtain ⟨ua, uc, hu'⟩ := hu.runs.form
      subst hu'
      go_wp2_with fail
      refine S.out.mono ?_
      rintro e w2 ⟨rfl, hb2⟩
      go_wp2
      go_ret2
      exact ⟨_, by rw [EQ.out.1]; rfl, by rw [EQ.out.2]; exact Own.nil _ _, below_step hb1 hb2⟩
    · obtain ⟨e1, e2⟩ := Bd.told_fits (b := rs) (by omega)
      rw [HE.out.1] at e1
      rw [HE.out.2] at e2
      have EQ := Lib.hid (And.intro e1 e2)
      clear e1 e2 HF HE
      generalize Bd.norm rs = ns at *
      generalize Bd.len rs = n at *
      obtain ⟨ua, uc, hu'⟩ := hu.runs.form
      subst hu'
      go_wp2_with fail
      refine S.out.mono ?_
      rintro e w2 ⟨rfl, hb2⟩
      go_wp2
      go_ret2
      exact ⟨_, by rw [EQ.out.1]; rfl, by rw [EQ.out.2]; exact hu.all hb2, below_step hb1 hb2⟩

theorem Bd.fine_append {a b : List Bd.R} (h1 : a.length + b.length ≤ 1000) (h2 : Bd.pos a) (h3 : Bd.pos b) (h4 : Bd.len a + Bd.len b ≤ 1000000000) : Bd.fine (a ++ b) :=
  ⟨by simp; omega, Bd.pos_append.2 ⟨h2, h3⟩, by rw [Bd.len_append]; exact h4⟩

set_option maxRecDepth 20000 in
theorem grow_any (n : Nat) (w : World) (hn : n ≤ 100000) :
    Calls Try.prog 89 #[.slice none 0 0, .int .i64 n] w fun e w' => ∃ u, e = .returned u ∧ Own w.heap.size w' u [] ∧ Below w.heap.size w w' := by
  rcases Nat.eq_zero_or_pos n with rfl | h0
  · go_enter Try.func89, Try.ntmps89
    go_wp2
    go_ret
    exact ⟨_, rfl, Own.nil _ _, Below.refl _ _⟩
  · obtain ⟨i0, hi, hz0, hz1, hz2⟩ := info_parts infoRun
    have hrz := fun ty => Lib.run_append_nil_zeros (P := Try.prog) w 22 3 ty 68 i0 _ .i64 .i64 Try.underlying22 Try.underlying3 hi hz0 n h0 (by omega) (by omega) (by rw [hz2]; omega)
    have hG : n ≤ grownCap w n 0 68 := grownCap_ge w _ _ _
    have hM : grownCap w n 0 68 ≤ maxLen := grownCap_le_maxLen w n 0 _ (by unfold maxLen; omega)
    generalize grownCap w n 0 68 = G at *
    have hown : Own w.heap.size (w.drew.alloc (.cells (Builtin.zeroCells (Value.agg #[.int .i64 0, .int .i64 0, .int .i64 0, .int .i64 0]).cells n ++ Builtin.zeroCells (Value.agg #[.int .i64 0, .int .i64 0, .int .i64 0, .int .i64 0]).cells (G - n)) 68)) (.slice (some ⟨w.heap.size, 0, none⟩) 0 G) [] :=
      World.ownsRow_made (base := w.heap.size) (e := 68) (size := 4) w.drew _ G (Nat.le_refl _) hM (by rw [Array.size_append, size_zeroCells, size_zeroCells]; show n * 4 + (G - n) * 4 = G * 4; omega)
    have HO := Lib.hid (And.intro hown ((Below.refl w.heap.size w).drew.alloc (Nat.le_refl _) (.cells (Builtin.zeroCells (Value.agg #[.int .i64 0, .int .i64 0, .int .i64 0, .int .i64 0]).cells n ++ Builtin.zeroCells (Value.agg #[.int .i64 0, .int .i64 0, .int .i64 0, .int .i64 0]).cells (G - n)) 68)))
    clear hown
    unfold maxLen at hM
    go_enter Try.func89, Try.ntmps89
    go_wp2_with (at_builtin; refine Lib.wpList_append_run _ rfl _ _ _ _ rfl _ _ rfl rfl _ _ (hrz _) ?_)
    go_ret
    exact ⟨_, rfl, HO.out.1, HO.out.2⟩

/-- A slice that is read and appended to an own list. -/
theorem runs_src {w : World} {v : Value} {rs : List Bd.R} (h : Runs w v rs) :
    (v = .slice none 0 0 ∧ rs = []) ∨ ∃ ad c, v = .slice (some ad) rs.length c ∧ ∀ (j : Nat) (u : Value), (cellsR rs)[j]? = some u → w.cell? (ad.add j) = some u := by
  rcases h with ⟨a, c, rfl, rfl, hn⟩ | ⟨b, off, cap, rfl, hcap, hb, hc⟩
  · cases a with
    | none => obtain rfl := hn rfl; exact .inl ⟨rfl, rfl⟩
    | some ad => exact .inr ⟨ad, c, rfl, fun j u h => by simp [cellsR] at h⟩
  · refine .inr ⟨⟨b, off, none⟩, cap, rfl, fun j u h => ?_⟩
    have h1 := runs_cells (o := .deferred none) hb hc j u h
    have ha : ∀ n : Nat, (⟨b, off, none⟩ : Addr).add n = ⟨b, off + n, none⟩ := fun n => by
      unfold Addr.add
      split
      · rename_i e; subst e; rfl
      · rfl
    rw [ha] at h1 ⊢
    rwa [World.cell?_alloc_past _ _ _ hb] at h1
theorem Own.joined {base : Nat} {w : World} {v : Value} {a b : List Bd.R} (h : w.ownsRow base 68 4 v (a.length + b.length) (cellsR a ++ cellsR b)) : Own base w v (a ++ b) := by
  unfold Own; rw [List.length_append, cellsR_append]; exact h

set_option maxRecDepth 20000 in
set_option maxHeartbeats 1000000 in
theorem both_any (v u : Value) (rs qs : List Bd.R) (w : World) (hv : Runs w v rs) (hu : Runs w u qs) (hl : rs.length ≤ 1000) (hl2 : qs.length ≤ 1000) :
    Calls Try.prog 77 #[v, u] w fun e w' => ∃ x, e = .returned x ∧ Own w.heap.size w' x (rs ++ qs) ∧ Below w.heap.size w w' := by
  obtain ⟨i0, hi, hz0, hz1, hz2⟩ := info_parts infoRun
  have hown := World.ownsRow_made (base := w.heap.size) (e := 68) (size := 4) w #[] 0 (Nat.le_refl _) (by unfold maxLen; omega) rfl
  have hw0 := (Below.refl w.heap.size w).alloc (Nat.le_refl _) (.cells #[] 68)
  have hv1 := runs_src (hv.all hw0)
  have hu1 := hu.all hw0
  clear hv
  rcases hv1 with ⟨rfl, rfl⟩ | ⟨ad, c, rfl, hca⟩
  · rcases runs_src hu1 with ⟨rfl, rfl⟩ | ⟨ad2, c2, rfl, hcb⟩
    · go_enter Try.func77, Try.ntmps77
      go_wp2_with (at_builtin; refine wpList_append_own_none rfl _ _ 22 rfl w.heap.size 68 i0 4 Try.underlying22 hi _ _ _ rfl hown rfl ?_)
      go_ret
      exact ⟨_, rfl, hown, hw0⟩
    · go_enter Try.func77, Try.ntmps77
      go_wp2_with (first | (at_builtin; refine wpList_append_own_none rfl _ _ 22 rfl w.heap.size 68 i0 4 Try.underlying22 hi _ _ _ rfl hown rfl ?_) | (at_builtin; refine wpList_append_own _ rfl _ _ 22 rfl w.heap.size 68 i0 (.agg #[.int .i64 0, .int .i64 0, .int .i64 0, .int .i64 0]) 4 32 Try.underlying22 hi hz0 hz1 hz2 rfl (by decide) _ _ _ rfl hown ad2 qs.length c2 (cellsR qs) rfl (cellsR_length qs) hcb (cellsR_one qs) (by unfold maxLen; omega) (by omega) (by simp) ?_))
      intro v' w1 hown1 hgrow _
      have hw1 := hw0.grown hgrow (by simp) (fun j e => (World.ownsRow.lt hown j e).1)
      have hx : Own w.heap.size w1 v' ([] ++ qs) := Own.joined (a := []) (b := qs) (by simpa [cellsR] using hown1)
      clear hown hgrow hown1 hcb
      go_wp2
      go_ret
      exact ⟨_, rfl, hx, hw1⟩
  · go_enter Try.func77, Try.ntmps77
    go_wp2_with (at_builtin; refine wpList_append_own _ rfl _ _ 22 rfl w.heap.size 68 i0 (.agg #[.int .i64 0, .int .i64 0, .int .i64 0, .int .i64 0]) 4 32 Try.underlying22 hi hz0 hz1 hz2 rfl (by decide) _ _ _ rfl hown ad rs.length c (cellsR rs) rfl (cellsR_length rs) hca (cellsR_one rs) (by unfold maxLen; omega) (by omega) (by simp) ?_)
    intro v' w1 hown1 hgrow _
    have hw1 := hw0.grown hgrow (by simp) (fun j e => (World.ownsRow.lt hown j e).1)
    have hx1 : w1.ownsRow w.heap.size 68 4 v' rs.length (cellsR rs) := by simpa using hown1
    have hu2 := runs_src (hu.all hw1)
    clear hu hown hgrow hown1 hca hw0
    rcases hu2 with ⟨rfl, rfl⟩ | ⟨ad2, c2, rfl, hcb⟩
    · go_wp2_with (at_builtin; refine wpList_append_own_none rfl _ _ 22 rfl w.heap.size 68 i0 4 Try.underlying22 hi _ _ _ rfl hx1 rfl ?_)
      go_ret
      exact ⟨_, rfl, by rw [List.append_nil]; exact hx1, hw1⟩
    · go_wp2_with (at_builtin; refine wpList_append_own _ rfl _ _ 22 rfl w.heap.size 68 i0 (.agg #[.int .i64 0, .int .i64 0, .int .i64 0, .int .i64 0]) 4 32 Try.underlying22 hi hz0 hz1 hz2 rfl (by decide) _ _ _ rfl hx1 ad2 qs.length c2 (cellsR qs) rfl (cellsR_length qs) hcb (cellsR_one qs) (by unfold maxLen; omega) (by omega) hw1.size ?_)
      intro v2 w2 hown2 hgrow2 _
      have hw2 := hw1.grown hgrow2 hw1.size (fun j e => (World.ownsRow.lt hx1 j e).1)
      have hx2 := Own.joined hown2
      clear hown2 hgrow2 hcb hx1
      go_wp2
      go_ret
      exact ⟨_, rfl, hx2, hw2⟩
end Go.Proofs.Ytimpdmpfpbeflaa
