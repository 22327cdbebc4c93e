/- A band has given marks, and no two neighbours are alike. -/
import Derived.Test.YtimpdmpfpbeflaaBand60
import Derived.Test.YtimpdmpfpbeflaaBandG
import Derived.Deep.QuietTactic
import Derived.BigQuiet
namespace Go.Proofs.Ytimpdmpfpbeflaa
open Go.RowKit

theorem Bd.nrm_prev {x : List Bd.R} (hn : Bd.nrm x) {k : Nat} (h1 : 1 ≤ k) (hk : k < x.length) : x[k].m ≠ x[k - 1].m := by
  obtain ⟨j, rfl⟩ : ∃ j, k = j + 1 := ⟨k - 1, by omega⟩
  have := Bd.nrm_next hn (k := j) hk
  simp only [Nat.add_sub_cancel]
  exact fun e => this e.symm

set_option maxRecDepth 20000 in
set_option maxHeartbeats 2000000 in
theorem same_marks_any (v u : Value) (rs : List Bd.R) (ms : List Bd.M) (w : World) (hv : Runs w v rs) (hu : Mks w u ms) (hl : rs.length ≤ 1000) (hv0 : Bd.valE rs = 0) (hn : Bd.nrm rs) (he : Bd.exp rs = ms) :
    Calls Try.prog 58 #[v, u] w fun e w' => e = .returned (.bool true) ∧ Below w.heap.size w w' := by
  have M := Lib.hid (top_marks_any v rs w hv hl hv0)
  rw [he] at M
  have HPV := Lib.hid (fun k h1 hk => Bd.nrm_prev hn (k := k) h1 hk)
  have hml : ms.length ≤ 1000000 := by
    have := Bd.len_exp (Bd.valE_pos hv0)
    have := (Bd.valE_zero hv0).2.2
    rw [he] at *
    omega
  obtain ⟨va, vc, rfl, hvk⟩ := hv.look
  obtain ⟨ua, uc, rfl, huk⟩ := hu
  have HVK := Lib.hid hvk
  have HUK := Lib.hid huk
  clear hv hvk huk he hv0 hn
  go_enter Try.func58, Try.ntmps58
  go_wp2_with fail
  refine M.out.mono ?_
  rintro e w1 ⟨x, rfl, hx, hb1⟩
  obtain ⟨xa, xc, rfl, hxk⟩ := hx.mks
  have HXK := Lib.hid hxk
  have HW1 := Lib.hid hb1
  have q0 : ((ms.length : Int) != (ms.length : Int)) = false := by simp
  clear hx hxk hb1 M
  go_wp2
  clear q0
  go_loopw [7] (fun t wr => ∃ k : Nat, k ≤ ms.length ∧ t = .int .i64 k ∧ Hid (Below w1.heap.size w1 wr)) (fun t _ => ms.length - (intOf t).toNat)
  case atStart => exact ⟨0, Nat.zero_le _, rfl, Lib.hid (Below.refl _ _)⟩
  case round =>
    obtain ⟨k, hk, rfl, hg⟩ := hrel
    by_cases hlt : k < ms.length
    · obtain ⟨b1, o1, rfl, hb1, hm1⟩ := HXK.out k hlt
      obtain ⟨b2, o2, rfl, hb2, hm2⟩ := HUK.out k hlt
      obtain ⟨c0, c1, c2⟩ := hm1.below hg.out hb1
      obtain ⟨d0, d1, d2⟩ := (hm2.below HW1.out hb2).below hg.out (Nat.lt_of_lt_of_le hb2 HW1.out.size)
      generalize ms[k] = m at *
      have q1 : (m.t != m.t) = false := by simp
      have q2 : (m.s != m.s) = false := by simp
      have q3 : (m.f != m.f) = false := by simp
      have q4 : (m.t == m.t) = true := by simp
      have q5 : (m.s == m.s) = true := by simp
      have q6 : (m.f == m.f) = true := by simp
      clear hm1 hm2 hb1 hb2
      go_wp2
      go_quiet (fail)
      go_wp2
      go_roundw
      case rel => exact ⟨k + 1, by omega, by go_num, Lib.hid (below_drewN hg.out _)⟩
      case measure => simp [intOf]; omega
    · obtain rfl : k = ms.length := by omega
      have HW2 := Lib.hid (below_step HW1.out hg.out)
      clear hg
      go_wp2
      go_loopw [8] (fun t wr2 => ∃ k : Nat, 1 ≤ k ∧ (k ≤ rs.length ∨ k = 1) ∧ t = .int .i64 k ∧ Hid (Below w.heap.size w wr2)) (fun t _ => rs.length - (intOf t).toNat)
      case atStart => exact ⟨1, Nat.le_refl _, .inr rfl, rfl, HW2⟩
      case round =>
        obtain ⟨k, hk1, hk, rfl, hg⟩ := hrel
        clear HW2
        by_cases hlt : k < rs.length
        · have hne := HPV.out k hk1 hlt
          obtain ⟨b1, o1, e1, hb1, hr1⟩ := HVK.out k hlt
          obtain ⟨b2, o2, e2, hb2, hr2⟩ := HVK.out (k - 1) (by omega)
          obtain ⟨j, hj⟩ : ∃ j : Nat, j = k - 1 := ⟨_, rfl⟩
          subst e1
          simp only [Option.some.injEq, Addr.mk.injEq, and_true] at e2
          obtain ⟨rfl, rfl⟩ := e2
          generalize rs[k] = rk at *
          generalize rs[k - 1] = rq at *
          rw [← hj] at hr2
          obtain ⟨_, c1, c2, c3⟩ := hr1.below hg.out hb1
          obtain ⟨_, d1, d2, d3⟩ := hr2.below hg.out hb1
          generalize rk.m = m at *
          generalize rq.m = n at *
          have hj2 : (k : Int) - 1 = (j : Int) := by omega
          have hwr := IntWalk.i64_in (j : Int) (by omega)
          have hj3 : j < rs.length := by omega
          have hj4 : (j : Int) < (rs.length : Int) := by omega
          have HJ := Lib.hid hj
          clear hj
          clear hr1 hr2
          rcases m_ne hne with e1 | ⟨e1, e2⟩ | ⟨e1, e2, e3⟩
          all_goals
            clear hne
            go_wp2
            go_quiet (fail)
            go_wp2
            go_roundw
            case rel => exact ⟨k + 1, by omega, .inl (by omega), by go_num, Lib.hid (below_drewN hg.out _)⟩
            case measure => simp [intOf]; omega
        · have h1 : decide ((k : Int) < (rs.length : Int)) = false := decide_eq_false (by omega)
          have hF := hg.out
          go_wp2
          go_ret
          exact ⟨rfl, hF⟩
end Go.Proofs.Ytimpdmpfpbeflaa
