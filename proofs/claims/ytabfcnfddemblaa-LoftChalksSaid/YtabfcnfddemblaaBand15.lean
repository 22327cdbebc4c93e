/- Join and Reverse, of the program and of the reference. -/
import Derived.Test.YtabfcnfddemblaaBand14
namespace Go.Proofs.Ytabfcnfddemblaa
open Go.RowKit

theorem concat2_any (v u : Value) (rs qs : List Bd.R) (w : World) (hv : Runs w v rs) (hu : Runs w u qs) (hl : rs.length + qs.length ≤ 1000) :
    Calls Try.prog 112 #[.slice (some ⟨w.heap.size, 0, none⟩) 2 2] (w.alloc (.cells #[v, u] 51)) fun e w' => ∃ x, e = .returned x ∧ Own w.heap.size w' x (rs ++ qs) ∧ Below w.heap.size w w' := by
  have hb := (Below.refl w.heap.size w).alloc (Nat.le_refl _) (.cells #[v, u] 51)
  have h := concat_any [(v, rs), (u, qs)] w.heap.size 2 (w.alloc (.cells #[v, u] 51)) (by simp) (by simp) (by simp)
    (fun k hk => by
      match k, hk with
      | 0, _ => simp
      | 1, _ => simp)
    (fun k hk => by
      match k, hk with
      | 0, _ => exact hv.all hb
      | 1, _ => exact hu.all hb)
    (by simp [catR]; omega)
  have e : catR [(v, rs), (u, qs)] = rs ++ qs := by simp [catR]
  rw [e] at h
  exact h.mono fun e w' ⟨x, h1, h2, h3⟩ => ⟨x, h1, h2.mono (by simp), hb.trans (h3.mono (by simp))⟩
theorem concat3_any (v u t : Value) (rs qs ts : List Bd.R) (w : World) (hv : Runs w v rs) (hu : Runs w u qs) (ht : Runs w t ts) (hl : rs.length + qs.length + ts.length ≤ 1000) :
    Calls Try.prog 112 #[.slice (some ⟨w.heap.size, 0, none⟩) 3 3] (w.alloc (.cells #[v, u, t] 51)) fun e w' => ∃ x, e = .returned x ∧ Own w.heap.size w' x (rs ++ (qs ++ ts)) ∧ Below w.heap.size w w' := by
  have hb := (Below.refl w.heap.size w).alloc (Nat.le_refl _) (.cells #[v, u, t] 51)
  have h := concat_any [(v, rs), (u, qs), (t, ts)] w.heap.size 3 (w.alloc (.cells #[v, u, t] 51)) (by simp) (by simp) (by simp)
    (fun k hk => by
      match k, hk with
      | 0, _ => simp
      | 1, _ => simp
      | 2, _ => simp)
    (fun k hk => by
      match k, hk with
      | 0, _ => exact hv.all hb
      | 1, _ => exact hu.all hb
      | 2, _ => exact ht.all hb)
    (by simp [catR]; omega)
  have e : catR [(v, rs), (u, qs), (t, ts)] = rs ++ (qs ++ ts) := by simp [catR]
  rw [e] at h
  exact h.mono fun e w' ⟨x, h1, h2, h3⟩ => ⟨x, h1, h2.mono (by simp), hb.trans (h3.mono (by simp))⟩

set_option maxRecDepth 20000 in
theorem num_join_any (v u : Value) (rs qs : List Bd.R) (w : World) (hv : Runs w v rs) (hu : Runs w u qs) (hl : rs.length ≤ 500) (hl2 : qs.length ≤ 500) :
    Calls Try.prog 68 #[v, u] w fun e w' => ∃ x, e = .returned (.tuple #[x, .int .i64 (Bd.joinE rs qs)]) ∧ Own w.heap.size w' x (Bd.joinR rs qs) ∧ Below w.heap.size w w' := by
  have V := Lib.hid (validate_both_any v u rs qs w hv hu (by omega) (by omega))
  have N := Lib.hid (fun W (hW : Below w.heap.size w W) => concat2_any v u rs qs W (hv.all hW) (hu.all hW) (by omega))
  obtain ⟨a, c, rfl⟩ := hv.form
  obtain ⟨a2, c2, rfl⟩ := hu.form
  clear hv hu
  unfold Bd.joinE Bd.joinR
  by_cases h : Bd.bothE rs qs = 0
  · rw [if_pos h, if_pos h]
    have hf := Bd.fine_both h
    rw [h] at V
    clear h
    go_enter Try.func68, Try.ntmps68
    go_wp2_with fail
    refine V.out.mono ?_
    rintro e w1 ⟨rfl, hb1⟩
    go_wp2_with fail
    refine (N.out _ hb1).mono ?_
    rintro e w2 ⟨x, rfl, hx, hb2⟩
    have hb2' := below_step hb1 hb2
    go_wp2_with fail
    refine (checked_any x _ _ hx.runs hf).mono ?_
    rintro e w3 ⟨y, rfl, hy, hb3⟩
    have hb3' := below_step hb2' hb3
    go_wp2
    go_ret2
    exact ⟨_, rfl, hy.mono hb2'.size, hb3'⟩
  · rw [if_neg h, if_neg h]
    generalize Bd.bothE rs qs = z at *
    clear N
    have hz : (z == 0) = false := by simp [h]
    clear h
    go_enter Try.func68, Try.ntmps68
    go_wp2_with fail
    refine V.out.mono ?_
    rintro e w1 ⟨rfl, hb1⟩
    go_wp2
    go_ret2
    exact ⟨_, rfl, Own.nil _ _, hb1⟩

end Go.Proofs.Ytabfcnfddemblaa
