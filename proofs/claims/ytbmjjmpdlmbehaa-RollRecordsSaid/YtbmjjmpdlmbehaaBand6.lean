/- Normal, Length; runs in new memory; a band that is written into. -/
import Derived.Test.YtbmjjmpdlmbehaaBand5
import Derived.Laws.AppendOwnNone
namespace Go.Proofs.Ytbmjjmpdlmbehaa
open Go.RowKit

namespace Bd
def norR (b : List R) : List R := if valE b = 0 then norm b else []
def lenR (b : List R) : Int := if valE b = 0 then len b else 0
theorem told_valid {b : List R} (h : valE b = 0) : toldE b = 0 ∧ toldR b = norm b := by
  obtain ⟨h1, _, h3⟩ := valE_zero h
  have := norm_length b
  exact told_fits (by omega)
theorem norR_zero {b : List R} (h : valE b = 0) : norR b = norm b := if_pos h
theorem norR_not {b : List R} (h : valE b ≠ 0) : norR b = [] := if_neg h
theorem lenR_zero {b : List R} (h : valE b = 0) : lenR b = len b := if_pos h
theorem lenR_not {b : List R} (h : valE b ≠ 0) : lenR b = 0 := if_neg h
end Bd

theorem normal_any (v : Value) (rs : List Bd.R) (w : World) (hv : Runs w v rs) (hf : Bd.fine rs) :
    Calls Try.prog 47 #[v] w fun e w' => ∃ u, e = .returned u ∧ Own w.heap.size w' u (Bd.norm rs) ∧ Below w.heap.size w w' := by
  have J := Lib.hid (joined_any v rs w hv hf)
  obtain ⟨a, c, rfl⟩ := hv.form
  clear hv
  go_enter Try.func47, Try.ntmps47
  go_wp2_with fail
  refine J.out.mono ?_
  rintro e w1 ⟨u, rfl, hu, hb1⟩
  obtain ⟨ua, uc, hu'⟩ := hu.runs.form
  subst hu'
  go_wp2
  go_ret
  exact ⟨_, rfl, hu, hb1⟩

theorem num_length_any (v : Value) (rs : List Bd.R) (w : World) (hv : Runs w v rs) (hl : rs.length ≤ 1000) :
    Calls Try.prog 27 #[v] w fun e w' => e = .returned (.tuple #[.int .i64 (Bd.lenR rs), .int .i64 (Bd.valE rs)]) ∧ Below w.heap.size w w' := by
  have V := Lib.hid (validate_any v rs w hv hl)
  have N := Lib.hid (fun W (hW : Below w.heap.size w W) h => length_any v rs W (hv.all hW) (Bd.fine_of_valid h))
  obtain ⟨a, c, rfl⟩ := hv.form
  clear hv
  by_cases h : Bd.valE rs = 0
  · rw [h] at V ⊢
    rw [Bd.lenR_zero h]
    have N := Lib.hid (fun W hW => N.out W hW h)
    clear h
    generalize Bd.len rs = n at *
    go_enter Try.func27, Try.ntmps27
    go_wp2_with fail
    refine V.out.mono ?_
    rintro e w1 ⟨rfl, hb1⟩
    go_wp2_with fail
    refine (N.out _ hb1).mono ?_
    rintro e w2 ⟨rfl, hb2⟩
    go_wp2
    go_ret2
    exact ⟨rfl, below_step hb1 hb2⟩
  · rw [Bd.lenR_not h]
    generalize Bd.valE rs = z at *
    have hz : (z == 0) = false := by simp [h]
    clear h N
    go_enter Try.func27, Try.ntmps27
    go_wp2_with fail
    refine V.out.mono ?_
    rintro e w1 ⟨rfl, hb1⟩
    go_wp2
    go_ret2
    exact ⟨rfl, hb1⟩

theorem ref_length_any (v : Value) (rs : List Bd.R) (w : World) (hv : Runs w v rs) (hl : rs.length ≤ 1000) :
    Calls Try.prog 58 #[v] w fun e w' => e = .returned (.tuple #[.int .i64 (Bd.lenR rs), .int .i64 (Bd.valE rs)]) ∧ Below w.heap.size w w' := by
  have V := Lib.hid (ref_validate_any v rs w hv hl)
  have N := Lib.hid (fun W (hW : Below w.heap.size w W) h => size_any v rs W (hv.all hW) (Bd.fine_of_valid h))
  obtain ⟨a, c, rfl⟩ := hv.form
  clear hv
  by_cases h : Bd.valE rs = 0
  · rw [h] at V ⊢
    rw [Bd.lenR_zero h]
    have N := Lib.hid (fun W hW => N.out W hW h)
    clear h
    generalize Bd.len rs = n at *
    go_enter Try.func58, Try.ntmps58
    go_wp2_with fail
    refine V.out.mono ?_
    rintro e w1 ⟨rfl, hb1⟩
    go_wp2_with fail
    refine (N.out _ hb1).mono ?_
    rintro e w2 ⟨rfl, hb2⟩
    go_wp2
    go_ret2
    exact ⟨rfl, below_step hb1 hb2⟩
  · rw [Bd.lenR_not h]
    generalize Bd.valE rs = z at *
    have hz : (z == 0) = false := by simp [h]
    clear h N
    go_enter Try.func58, Try.ntmps58
    go_wp2_with fail
    refine V.out.mono ?_
    rintro e w1 ⟨rfl, hb1⟩
    go_wp2
    go_ret2
    exact ⟨rfl, hb1⟩
theorem long_false (v : Value) (rs : List Bd.R) (w : World) (hv : Runs w v rs) (hl : rs.length ≤ 100) :
    Calls Try.prog 19 #[v] w fun e w' => e = .returned (.bool false) ∧ Below w.heap.size w w' := by
  obtain ⟨a, c, rfl⟩ := hv.form
  clear hv
  go_enter Try.func19, Try.ntmps19
  go_wp2
  go_ret
  exact ⟨ret_bool (by simp; omega), Below.refl _ _⟩
theorem long_true (v : Value) (rs : List Bd.R) (w : World) (hv : Runs w v rs) (hl : 100 < rs.length) :
    Calls Try.prog 19 #[v] w fun e w' => e = .returned (.bool true) ∧ Below w.heap.size w w' := by
  obtain ⟨a, c, rfl⟩ := hv.form
  clear hv
  go_enter Try.func19, Try.ntmps19
  go_wp2
  go_ret
  exact ⟨ret_bool (by simp; omega), Below.refl _ _⟩

theorem cellsR_get (rs : List Bd.R) (j : Nat) (u : Value) (h : (cellsR rs)[j]? = some u) :
    ∃ k i, j = k * 4 + i ∧ k < rs.length ∧ ((i = 0 ∧ u = .int .i64 (rs.getD k default).l) ∨ (i = 1 ∧ u = .int .i64 (rs.getD k default).m.t) ∨ (i = 2 ∧ u = .int .i64 (rs.getD k default).m.s) ∨ (i = 3 ∧ u = .int .i64 (rs.getD k default).m.f)) := by
  have hj : j < rs.length * 4 := by
    have := (List.getElem?_eq_some_iff.1 h).1
    rwa [cellsR_length] at this
  have hk : j / 4 < rs.length := by omega
  obtain ⟨c0, c1, c2, c3⟩ := cellsR_at rs (j / 4) hk
  refine ⟨j / 4, j % 4, by omega, hk, ?_⟩
  have h4 : j % 4 = 0 ∨ j % 4 = 1 ∨ j % 4 = 2 ∨ j % 4 = 3 := by omega
  rcases h4 with e | e | e | e
  · rw [show j = j / 4 * 4 by omega, c0] at h; exact .inl ⟨e, by simpa using h.symm⟩
  · rw [show j = j / 4 * 4 + 1 by omega, c1] at h; exact .inr (.inl ⟨e, by simpa using h.symm⟩)
  · rw [show j = j / 4 * 4 + 2 by omega, c2] at h; exact .inr (.inr (.inl ⟨e, by simpa using h.symm⟩))
  · rw [show j = j / 4 * 4 + 3 by omega, c3] at h; exact .inr (.inr (.inr ⟨e, by simpa using h.symm⟩))
/-- The cells of a row of runs, behind a new block. -/
theorem runs_cells {w : World} {b off : Nat} {rs : List Bd.R} {o : Obj} (hb : b < w.heap.size) (hc : ∀ k, k < rs.length → RunAt w b (off + k * 4) (rs.getD k default)) :
    ∀ (j : Nat) (u : Value), (cellsR rs)[j]? = some u → (w.alloc o).cell? ((⟨b, off, none⟩ : Addr).add j) = some u := by
  intro j u h
  obtain ⟨k, i, rfl, hk, h⟩ := cellsR_get rs j u h
  obtain ⟨c0, c1, c2, c3⟩ := runAt_alloc (hc k hk) hb o
  have ha : ∀ n : Nat, (⟨b, off, none⟩ : Addr).add n = ⟨b, off + n, none⟩ := fun n => by
    unfold Addr.add
    split
    · rename_i e; subst e; rfl
    · rfl
  rw [ha]
  rcases h with ⟨rfl, rfl⟩ | ⟨rfl, rfl⟩ | ⟨rfl, rfl⟩ | ⟨rfl, rfl⟩
  · rw [Nat.add_zero]; exact c0
  · rw [← Nat.add_assoc]; exact c1
  · rw [← Nat.add_assoc]; exact c2
  · rw [← Nat.add_assoc]; exact c3
end Go.Proofs.Ytbmjjmpdlmbehaa
