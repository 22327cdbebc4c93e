/- The program's normal forms: runs joined by a generic function with a function value. -/
import Derived.Test.YtbmjjmpdlmbehaaBand3
import Derived.Test.YtbmjjmpdlmbehaaSeq
namespace Go.Proofs.Ytbmjjmpdlmbehaa
open Go.RowKit

set_option maxRecDepth 20000 in
set_option maxHeartbeats 2000000 in
theorem join_runs_any (q r : Bd.R) (w : World) (h1 : 0 ≤ q.l) (h2 : q.l ≤ 1000000000000) (h3 : 0 ≤ r.l) (h4 : r.l ≤ 1000000000000) :
    Calls Try.prog 71 #[runV q, runV r] w fun e w' => e = .returned (.tuple #[runV ⟨q.l + r.l, q.m⟩, .bool (decide (q.m = r.m))]) ∧ Below w.heap.size w w' := by
  by_cases hm : q.m = r.m
  · have e1 : (q.m.t == r.m.t) = true := by simp [hm]
    have e2 : (q.m.s == r.m.s) = true := by simp [hm]
    have e3 : (q.m.f == r.m.f) = true := by simp [hm]
    have hd : decide (q.m = r.m) = true := by simp [hm]
    have HD := Lib.hid hd
    clear hm hd
    go_enter Try.func71, Try.ntmps71
    go_wp2
    go_region
    go_wp2
    exact bodyPost_ret (v := .tuple #[.agg #[.int .i64 (q.l + r.l), .int .i64 q.m.t, .int .i64 q.m.s, .int .i64 q.m.f], .bool true]) (by simp [results, Try.results71, go_sem]) rfl ⟨by rw [HD.out], by repeat' (first | exact Below.refl _ _ | apply Below.drew | refine Below.setCell ?_ (by simp) _ | refine Below.alloc ?_ (by simp <;> omega) _)⟩
  · have hd : decide (q.m = r.m) = false := by simp [hm]
    have HD := Lib.hid hd
    rcases m_ne hm with e1 | ⟨e1, e2⟩ | ⟨e1, e2, e3⟩
    all_goals
      clear hm hd
      go_enter Try.func71, Try.ntmps71
      go_wp2
      go_region
      go_wp2
      exact bodyPost_ret (v := .tuple #[.agg #[.int .i64 (q.l + r.l), .int .i64 q.m.t, .int .i64 q.m.s, .int .i64 q.m.f], .bool false]) (by simp [results, Try.results71, go_sem]) rfl ⟨by rw [HD.out], by repeat' (first | exact Below.refl _ _ | apply Below.drew | refine Below.setCell ?_ (by simp) _ | refine Below.alloc ?_ (by simp <;> omega) _)⟩
end Go.Proofs.Ytbmjjmpdlmbehaa
