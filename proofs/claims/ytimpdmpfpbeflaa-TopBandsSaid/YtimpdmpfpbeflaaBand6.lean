/- Normal, Length; runs in new memory; a band that is written into. -/
import Derived.Test.YtimpdmpfpbeflaaBand5
import Derived.Laws.AppendOwnNone
namespace Go.Proofs.Ytimpdmpfpbeflaa
open Go.RowKit

namespace Bd
def norR (b : List R) : List R := if valE b = 0 then norm b else []
def lenR (b : List R) : Int := if valE b = 0 then len b else 0
theorem told_valid {b : List R} (h : valE b = 0) : toldE b = 0 ∧ toldR b = norm b := by
  obtain ⟨h1, _, h3⟩ := valE_zero h
  have := norm_length b
  exact told_fits (by omega)
theorem norR_zero {b : List R} (h : valE b = 0) : norR b = norm b := if_pos h
theorem norR_not {b : List R} (h : valE b ≠ 0) : norR b = [] := if_neg h
theorem lenR_zero {b : List R} (h : valE b = 0) : lenR b = len b := if_pos h
theorem lenR_not {b : List R} (h : valE b ≠ 0) : lenR b = 0 := if_neg h
end Bd

theorem normal_any (v : Value) (rs : List Bd.R) (w : World) (hv : Runs w v rs) (hf : Bd.fine rs) :
    Calls Try.prog 59 #[v] w fun e w' => ∃ u, e = .returned u ∧ Own w.heap.size w' u (Bd.norm rs) ∧ Below w.heap.size w w' := by
  have J := Lib.hid (joined_any v rs w hv hf)
  obtain ⟨a, c, rfl⟩ := hv.form
  clear hv
  go_enter Try.func59, Try.ntmps59
  go_wp2_with fail
  refine J.out.mono ?_
  rintro e w1 ⟨u, rfl, hu, hb1⟩
  obtain ⟨ua, uc, hu'⟩ := hu.runs.form
  subst hu'
  go_wp2
  go_ret
  exact ⟨_, rfl, hu, hb1⟩

theorem num_normal_any (v : Value) (rs : List Bd.R) (w : World) (hv : Runs w v rs) (hl : rs.length ≤ 1000) :
    Calls Try.prog 19 #[v] w fun e w' => ∃ u, e = .returned (.tuple #[u, .int .i64 (Bd.valE rs)]) ∧ Own w.heap.size w' u (Bd.norR rs) ∧ Below w.heap.size w w' := by
  have V := Lib.hid (validate_any v rs w hv hl)
  have N := Lib.hid (fun W (hW : Below w.heap.size w W) h => normal_any v rs W (hv.all hW) (Bd.fine_of_valid h))
  obtain ⟨a, c, rfl⟩ := hv.form
  clear hv
  by_cases h : Bd.valE rs = 0
  · rw [h] at V ⊢
    rw [Bd.norR_zero h]
    have N := Lib.hid (fun W hW => N.out W hW h)
    clear h
    go_enter Try.func19, Try.ntmps19
    go_wp2_with fail
    refine V.out.mono ?_
    rintro e w1 ⟨rfl, hb1⟩
    go_wp2_with fail
    refine (N.out _ hb1).mono ?_
    rintro e w2 ⟨u, rfl, hu, hb2⟩
    obtain ⟨ua, uc, hu'⟩ := hu.runs.form
    subst hu'
    go_wp2
    go_ret2
    exact ⟨_, rfl, hu.mono hb1.size, below_step hb1 hb2⟩
  · rw [Bd.norR_not h]
    generalize Bd.valE rs = z at *
    have hz : (z == 0) = false := by simp [h]
    clear h N
    go_enter Try.func19, Try.ntmps19
    go_wp2_with fail
    refine V.out.mono ?_
    rintro e w1 ⟨rfl, hb1⟩
    go_wp2
    go_ret2
    exact ⟨_, rfl, Own.nil _ _, hb1⟩

theorem ref_normal_any (v : Value) (rs : List Bd.R) (w : World) (hv : Runs w v rs) (hl : rs.length ≤ 1000) :
    Calls Try.prog 20 #[v] w fun e w' => ∃ u, e = .returned (.tuple #[u, .int .i64 (Bd.valE rs)]) ∧ Own w.heap.size w' u (Bd.norR rs) ∧ Below w.heap.size w w' := by
  have V := Lib.hid (ref_validate_any v rs w hv hl)
  have N := Lib.hid (fun W (hW : Below w.heap.size w W) h => told_any v rs W (hv.all hW) (Bd.fine_of_valid h))
  obtain ⟨a, c, rfl⟩ := hv.form
  clear hv
  by_cases h : Bd.valE rs = 0
  · obtain ⟨t1, t2⟩ := Bd.told_valid h
    rw [h] at V ⊢
    rw [Bd.norR_zero h]
    rw [t1, t2] at N
    have N := Lib.hid (fun W hW => N.out W hW h)
    clear h t1 t2
    go_enter Try.func20, Try.ntmps20
    go_wp2_with fail
    refine V.out.mono ?_
    rintro e w1 ⟨rfl, hb1⟩
    go_wp2_with fail
    refine (N.out _ hb1).mono ?_
    rintro e w2 ⟨u, rfl, hu, hb2⟩
    obtain ⟨ua, uc, hu'⟩ := hu.runs.form
    subst hu'
    go_wp2
    go_ret2
    exact ⟨_, rfl, hu.mono hb1.size, below_step hb1 hb2⟩
  · rw [Bd.norR_not h]
    generalize Bd.valE rs = z at *
    have hz : (z == 0) = false := by simp [h]
    clear h N
    go_enter Try.func20, Try.ntmps20
    go_wp2_with fail
    refine V.out.mono ?_
    rintro e w1 ⟨rfl, hb1⟩
    go_wp2
    go_ret2
    exact ⟨_, rfl, Own.nil _ _, hb1⟩

theorem num_length_any (v : Value) (rs : List Bd.R) (w : World) (hv : Runs w v rs) (hl : rs.length ≤ 1000) :
    Calls Try.prog 21 #[v] w fun e w' => e = .returned (.tuple #[.int .i64 (Bd.lenR rs), .int .i64 (Bd.valE rs)]) ∧ Below w.heap.size w w' := by
  have V := Lib.hid (validate_any v rs w hv hl)
  have N := Lib.hid (fun W (hW : Below w.heap.size w W) h => length_any v rs W (hv.all hW) (Bd.fine_of_valid h))
  obtain ⟨a, c, rfl⟩ := hv.form
  clear hv
  by_cases h : Bd.valE rs = 0
  · rw [h] at V ⊢
    rw [Bd.lenR_zero h]
    have N := Lib.hid (fun W hW => N.out W hW h)
    clear h
    generalize Bd.len rs = n at *
    go_enter Try.func21, Try.ntmps21
    go_wp2_with fail
    refine V.out.mono ?_
    rintro e w1 ⟨rfl, hb1⟩
    go_wp2_with fail
    refine (N.out _ hb1).mono ?_
    rintro e w2 ⟨rfl, hb2⟩
    go_wp2
    go_ret2
    exact ⟨rfl, below_step hb1 hb2⟩
  · rw [Bd.lenR_not h]
    generalize Bd.valE rs = z at *
    have hz : (z == 0) = false := by simp [h]
    clear h N
    go_enter Try.func21, Try.ntmps21
    go_wp2_with fail
    refine V.out.mono ?_
    rintro e w1 ⟨rfl, hb1⟩
    go_wp2
    go_ret2
    exact ⟨rfl, hb1⟩

theorem ref_length_any (v : Value) (rs : List Bd.R) (w : World) (hv : Runs w v rs) (hl : rs.length ≤ 1000) :
    Calls Try.prog 22 #[v] w fun e w' => e = .returned (.tuple #[.int .i64 (Bd.lenR rs), .int .i64 (Bd.valE rs)]) ∧ Below w.heap.size w w' := by
  have V := Lib.hid (ref_validate_any v rs w hv hl)
  have N := Lib.hid (fun W (hW : Below w.heap.size w W) h => size_any v rs W (hv.all hW) (Bd.fine_of_valid h))
  obtain ⟨a, c, rfl⟩ := hv.form
  clear hv
  by_cases h : Bd.valE rs = 0
  · rw [h] at V ⊢
    rw [Bd.lenR_zero h]
    have N := Lib.hid (fun W hW => N.out W hW h)
    clear h
    generalize Bd.len rs = n at *
    go_enter Try.func22, Try.ntmps22
    go_wp2_with fail
    refine V.out.mono ?_
    rintro e w1 ⟨rfl, hb1⟩
    go_wp2_with fail
    refine (N.out _ hb1).mono ?_
    rintro e w2 ⟨rfl, hb2⟩
    go_wp2
    go_ret2
    exact ⟨rfl, below_step hb1 hb2⟩
  · rw [Bd.lenR_not h]
    generalize Bd.valE rs = z at *
    have hz : (z == 0) = false := by simp [h]
    clear h N
    go_enter Try.func22, Try.ntmps22
    go_wp2_with fail
    refine V.out.mono ?_
    rintro e w1 ⟨rfl, hb1⟩
    go_wp2
    go_ret2
    exact ⟨rfl, hb1⟩
theorem long_false (v : Value) (rs : List Bd.R) (w : World) (hv : Runs w v rs) (hl : rs.length ≤ 100) :
    Calls Try.prog 16 #[v] w fun e w' => e = .returned (.bool false) ∧ Below w.heap.size w w' := by
  obtain ⟨a, c, rfl⟩ := hv.form
  clear hv
  go_enter Try.func16, Try.ntmps16
  go_wp2
  go_ret
  exact ⟨ret_bool (by simp; omega), Below.refl _ _⟩
theorem long_true (v : Value) (rs : List Bd.R) (w : World) (hv : Runs w v rs) (hl : 100 < rs.length) :
    Calls Try.prog 16 #[v] w fun e w' => e = .returned (.bool true) ∧ Below w.heap.size w w' := by
  obtain ⟨a, c, rfl⟩ := hv.form
  clear hv
  go_enter Try.func16, Try.ntmps16
  go_wp2
  go_ret
  exact ⟨ret_bool (by simp; omega), Below.refl _ _⟩

theorem cellsR_get (rs : List Bd.R) (j : Nat) (u : Value) (h : (cellsR rs)[j]? = some u) :
    ∃ k i, j = k * 4 + i ∧ k < rs.length ∧ ((i = 0 ∧ u = .int .i64 (rs.getD k default).l) ∨ (i = 1 ∧ u = .int .i64 (rs.getD k default).m.t) ∨ (i = 2 ∧ u = .int .i64 (rs.getD k default).m.s) ∨ (i = 3 ∧ u = .int .i64 (rs.getD k default).m.f)) := by
  have hj : j < rs.length * 4 := by
    have := (List.getElem?_eq_some_iff.1 h).1
    rwa [cellsR_length] at this
  have hk : j / 4 < rs.length := by omega
  obtain ⟨c0, c1, c2, c3⟩ := cellsR_at rs (j / 4) hk
  refine ⟨j / 4, j % 4, by omega, hk, ?_⟩
  have h4 : j % 4 = 0 ∨ j % 4 = 1 ∨ j % 4 = 2 ∨ j % 4 = 3 := by omega
  rcases h4 with e | e | e | e
  · rw [show j = j / 4 * 4 by omega, c0] at h; exact .inl ⟨e, by simpa using h.symm⟩
  · rw [show j = j / 4 * 4 + 1 by omega, c1] at h; exact .inr (.inl ⟨e, by simpa using h.symm⟩)
  · rw [show j = j / 4 * 4 + 2 by omega, c2] at h; exact .inr (.inr (.inl ⟨e, by simpa using h.symm⟩))
  · rw [show j = j / 4 * 4 + 3 by omega, c3] at h; exact .inr (.inr (.inr ⟨e, by simpa using h.symm⟩))
/-- The cells of a row of runs, behind a new block. -/
theorem runs_cells {w : World} {b off : Nat} {rs : List Bd.R} {o : Obj} (hb : b < w.heap.size) (hc : ∀ k, k < rs.length → RunAt w b (off + k * 4) (rs.getD k default)) :
    ∀ (j : Nat) (u : Value), (cellsR rs)[j]? = some u → (w.alloc o).cell? ((⟨b, off, none⟩ : Addr).add j) = some u := by
  intro j u h
  obtain ⟨k, i, rfl, hk, h⟩ := cellsR_get rs j u h
  obtain ⟨c0, c1, c2, c3⟩ := runAt_alloc (hc k hk) hb o
  have ha : ∀ n : Nat, (⟨b, off, none⟩ : Addr).add n = ⟨b, off + n, none⟩ := fun n => by
    unfold Addr.add
    split
    · rename_i e; subst e; rfl
    · rfl
  rw [ha]
  rcases h with ⟨rfl, rfl⟩ | ⟨rfl, rfl⟩ | ⟨rfl, rfl⟩ | ⟨rfl, rfl⟩
  · rw [Nat.add_zero]; exact c0
  · rw [← Nat.add_assoc]; exact c1
  · rw [← Nat.add_assoc]; exact c2
  · rw [← Nat.add_assoc]; exact c3
set_option maxRecDepth 20000 in
theorem copied_any (v : Value) (rs : List Bd.R) (w : World) (hv : Runs w v rs) (hl : rs.length ≤ 1000) :
    Calls Try.prog 18 #[v] w fun e w' => ∃ u, e = .returned u ∧ Own w.heap.size w' u rs ∧ Below w.heap.size w w' := by
  obtain ⟨i0, hi, hz0, hz1, hz2⟩ := info_parts infoRun
  rcases hv with ⟨a0, c0, rfl, rfl, hn0⟩ | ⟨b, off, cap, rfl, hcap, hb, hc⟩
  · cases a0 with
    | none =>
      obtain rfl := hn0 rfl
      go_enter Try.func18, Try.ntmps18
      have hown := World.ownsRow_made (base := w.heap.size) (e := 68) (size := 4) w #[] 0 (Nat.le_refl _) (by unfold maxLen; omega) rfl
      go_wp2_with (at_builtin; refine wpList_append_own_none rfl _ _ 22 rfl w.heap.size 68 i0 4 Try.underlying22 hi _ _ _ rfl hown rfl ?_)
      go_ret
      exact ⟨_, rfl, hown, (Below.refl _ _).alloc (Nat.le_refl _) _⟩
    | some ad =>
      go_enter Try.func18, Try.ntmps18
      have hown := World.ownsRow_made (base := w.heap.size) (e := 68) (size := 4) w #[] 0 (Nat.le_refl _) (by unfold maxLen; omega) rfl
      go_wp2_with (at_builtin; refine wpList_append_own _ rfl _ _ 22 rfl w.heap.size 68 i0 (.agg #[.int .i64 0, .int .i64 0, .int .i64 0, .int .i64 0]) 4 32 Try.underlying22 hi hz0 hz1 hz2 rfl (by decide) _ _ _ rfl hown ad 0 c0 [] rfl rfl (by intro j u h; simp at h) (by intro u h; cases h) (by unfold maxLen; omega) (by omega) (by simp) ?_)
      intro v' w1 hown1 hgrow _
      have hw1 := ((Below.refl w.heap.size w).alloc (Nat.le_refl _) (.cells #[] 68)).grown hgrow (by simp) (fun j e => (World.ownsRow.lt hown j e).1)
      clear hown hgrow
      go_wp2
      go_ret
      exact ⟨_, rfl, hown1, hw1⟩
  · go_enter Try.func18, Try.ntmps18
    have hown := World.ownsRow_made (base := w.heap.size) (e := 68) (size := 4) w #[] 0 (Nat.le_refl _) (by unfold maxLen; omega) rfl
    have hcells : ∀ (j : Nat) (u : Value), (cellsR rs)[j]? = some u → (w.alloc (.cells #[] 68)).cell? ((⟨b, off, none⟩ : Addr).add j) = some u := runs_cells hb hc
    go_wp2_with (at_builtin; refine wpList_append_own _ rfl _ _ 22 rfl w.heap.size 68 i0 (.agg #[.int .i64 0, .int .i64 0, .int .i64 0, .int .i64 0]) 4 32 Try.underlying22 hi hz0 hz1 hz2 rfl (by decide) _ _ _ rfl hown ⟨b, off, none⟩ rs.length cap (cellsR rs) rfl (cellsR_length rs) hcells (cellsR_one rs) (by unfold maxLen; omega) (by omega) (by simp) ?_)
    intro v' w1 hown1 hgrow _
    have hw1 := ((Below.refl w.heap.size w).alloc (Nat.le_refl _) (.cells #[] 68)).grown hgrow (by simp) (fun j e => (World.ownsRow.lt hown j e).1)
    have hown2 : Own w.heap.size w1 v' rs := hown1
    clear hown hgrow hcells hown1
    go_wp2
    go_ret
    exact ⟨_, rfl, hown2, hw1⟩
end Go.Proofs.Ytimpdmpfpbeflaa
