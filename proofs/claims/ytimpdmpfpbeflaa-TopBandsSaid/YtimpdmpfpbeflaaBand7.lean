/- A band that is written into; what is known of the program. -/
import Derived.Test.YtimpdmpfpbeflaaBand6
namespace Go.Proofs.Ytimpdmpfpbeflaa
open Go.RowKit

theorem cellsR_setK : ∀ (rs : List Bd.R) (k : Nat) (x : Int), k < rs.length → (cellsR rs).set (k * 4) (.int .i64 x) = cellsR (rs.set k ⟨x, (rs.getD k default).m⟩)
  | [], k, x, h => by simp at h
  | r :: b, 0, x, _ => rfl
  | r :: b, k + 1, x, h => by
    have ih := cellsR_setK b k x (by simpa using h)
    show (runC r ++ cellsR b).set ((k + 1) * 4) _ = runC r ++ cellsR (b.set k _)
    simp only [List.getD_cons_succ] at ih ⊢
    rw [← ih, List.set_append_right _ _ (by simp [runC]; omega)]
    congr 2
    simp [runC]; omega
theorem Own.setK {base : Nat} {w : World} {g cap : Nat} {rs : List Bd.R} (h : Own base w (.slice (some ⟨g, 0, none⟩) rs.length cap) rs) (k : Nat) (x : Int) (hk : k < rs.length) :
    Own base (w.setCell ⟨g, k * 4, none⟩ (.int .i64 x)) (.slice (some ⟨g, 0, none⟩) rs.length cap) (rs.set k ⟨x, (rs.getD k default).m⟩) := by
  have h1 := (World.ownsRow.stored h (k * 4) (.int .i64 x)).1
  rw [cellsR_setK rs k x hk] at h1
  unfold Own
  rw [List.length_set]
  exact h1

set_option maxRecDepth 20000 in
theorem spoil_any (base : Nat) (v : Value) (rs : List Bd.R) (w : World) (hv : Own base w v rs) (hl : rs.length ≤ 1000) :
    Calls Try.prog 26 #[v] w fun e w' => e = .returned (.tuple #[]) ∧ Below base w w' := by
  rcases hv.form with ⟨rfl, rfl⟩ | ⟨g, cap, rfl, hg1, hg2, hg3, hg4, hg5⟩
  · go_enter Try.func26, Try.ntmps26
    go_wp2
    go_loop [2] (fun t => t = .int .i64 0) (fun t => (0 - intOf t).toNat)
    case atStart => exact rfl
    case round =>
      obtain rfl := hrel
      go_wp2
      go_end0
      exact ⟨rfl, Below.refl _ _⟩
  · generalize hn : rs.length = n at *
    have HN := Lib.hid (And.intro hv hn)
    clear hn hv hg4 hg5
    go_enter Try.func26, Try.ntmps26
    go_wp2
    go_loopw [2] (fun t wr => ∃ (k : Nat), k ≤ n ∧ t = .int .i64 k ∧ Hid (∃ qs : List Bd.R, qs.length = n ∧ Own base wr (.slice (some ⟨g, 0, none⟩) n cap) qs ∧ Below base w wr)) (fun t _ => n - (intOf t).toNat)
    case atStart => exact ⟨0, Nat.zero_le _, rfl, Lib.hid ⟨rs, HN.out.2, HN.out.1, Below.refl _ _⟩⟩
    case round =>
      obtain ⟨k, hk, rfl, hg⟩ := hrel
      clear HN
      by_cases hlt : k < n
      · obtain ⟨qs, hq1, hq2, hq3⟩ := hg.out
        subst hq1
        rcases hq2.form with ⟨h, _⟩ | ⟨g', cap', h, _, _, _, hf, hr⟩
        · simp at h
        · obtain ⟨rfl, rfl⟩ : g = g' ∧ cap = cap' := by simpa using h
          have c0 := (hr k hlt).1
          have f0 := hf (k * 4)
          have HS := Lib.hid (And.intro (hq2.setK k (-1) hlt) (hq3.setCell (p := ⟨g, k * 4, none⟩) hg1 (.int .i64 (-1))))
          clear hg hq2 hq3 h hf hr
          go_wp2
          go_roundw
          case rel => exact ⟨k + 1, by omega, by go_num, Lib.hid ⟨_, by simp, HS.out.1, HS.out.2⟩⟩
          case measure => simp [intOf]; omega
      · obtain rfl : k = n := by omega
        go_wp2
        go_end0
        obtain ⟨_, _, _, h⟩ := hg.out
        exact ⟨rfl, h⟩

abbrev knownObj : Obj := .cells #[.int .i64 100, .int .i64 20, .int .i64 0, .int .i64 0, .int .i64 50, .int .i64 20, .int .i64 0, .int .i64 0, .int .i64 30, .int .i64 25, .int .i64 0, .int .i64 0] 68
def knownRuns : List Bd.R := [⟨100, ⟨20, 0, 0⟩⟩, ⟨50, ⟨20, 0, 0⟩⟩, ⟨30, ⟨25, 0, 0⟩⟩]
theorem known_runs (w : World) : Runs (w.alloc knownObj) (.slice (some ⟨w.heap.size, 0, none⟩) 3 3) knownRuns := by
  refine .inr ⟨w.heap.size, 0, 3, rfl, by decide, by simp, fun k hk => ?_⟩
  have hk' : k = 0 ∨ k = 1 ∨ k = 2 := by simp [knownRuns] at hk; omega
  rcases hk' with rfl | rfl | rfl <;> exact ⟨by simp [knownRuns], by simp [knownRuns], by simp [knownRuns], by simp [knownRuns]⟩
theorem known_valE : Bd.valE knownRuns = 0 := by decide
theorem known_norR : Bd.norR knownRuns = [⟨150, ⟨20, 0, 0⟩⟩] ++ [⟨30, ⟨25, 0, 0⟩⟩] := by decide
set_option maxRecDepth 20000 in
theorem known_any (w : World) :
    Calls Try.prog 17 #[] w fun e w' => e = .returned (.bool true) ∧ Below w.heap.size w w' := by
  have N := Lib.hid (fun v rs W hv => num_normal_any v rs W hv)
  go_enter Try.func17, Try.ntmps17
  go_wp2_with fail
  have hr : Runs (w.alloc knownObj) (.slice (some ⟨w.heap.size, 0, none⟩) 3 3) knownRuns := known_runs w
  refine (N.out _ knownRuns _ hr (by decide)).mono ?_
  rintro e w1 ⟨u, rfl, hu, hb1⟩
  rw [known_valE]
  rw [known_norR] at hu
  obtain ⟨g, cap, rfl, _, hg2, _, _, a0, a1, a2, a3⟩ := hu.snoc (a := [⟨150, ⟨20, 0, 0⟩⟩]) (q := ⟨30, ⟨25, 0, 0⟩⟩)
  obtain ⟨b0, _, _, _⟩ : RunAt w1 g 0 ⟨150, ⟨20, 0, 0⟩⟩ := by
    rcases hu.form with ⟨h, _⟩ | ⟨g', cap', h, _, _, _, _, hr⟩
    · simp at h
    · obtain ⟨rfl, _⟩ : g = g' ∧ _ := by simpa using h
      exact hr 0 (by simp)
  have z : ∀ i v, (w.alloc knownObj).cell? ⟨w.heap.size, i, none⟩ = some v → w1.cell? ⟨w.heap.size, i, none⟩ = some v := fun i v h => (hb1.cell (p := ⟨w.heap.size, i, none⟩) (by simp)).trans h
  have d0 := z 8 (.int .i64 30) (by simp [knownObj])
  have d1 := z 9 (.int .i64 25) (by simp [knownObj])
  have d2 := z 10 (.int .i64 0) (by simp [knownObj])
  have d3 := z 11 (.int .i64 0) (by simp [knownObj])
  have hw := ((Below.refl w.heap.size w).alloc (Nat.le_refl _) knownObj).trans (hb1.mono (by simp))
  clear z hb1 hr hu
  simp only [List.length_singleton, Nat.one_mul] at a0 a1 a2 a3
  go_wp2
  go_quiet (fail)
  go_wp2
  go_ret
  exact ⟨rfl, below_drewN hw _⟩
end Go.Proofs.Ytimpdmpfpbeflaa
