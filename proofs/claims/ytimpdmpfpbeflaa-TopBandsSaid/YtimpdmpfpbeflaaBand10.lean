/- Agree, of the program and of the reference. -/
import Derived.Test.YtimpdmpfpbeflaaBand9
namespace Go.Proofs.Ytimpdmpfpbeflaa
open Go.RowKit

theorem ret_pair {k : IntKind} {a b : Int} {v : Value} (h : a = b) : Ending.returned (.tuple #[.int k a, v]) = .returned (.tuple #[.int k b, v]) := by rw [h]

theorem ref_agree_any (v u : Value) (rs qs : List Bd.R) (w : World) (hv : Runs w v rs) (hu : Runs w u qs) (hl : rs.length ≤ 1000) (hl2 : qs.length ≤ 1000) :
    Calls Try.prog 54 #[v, u] w fun e w' => e = .returned (.tuple #[.int .i64 (Bd.agrV rs qs), .int .i64 (Bd.bothE rs qs)]) ∧ Below w.heap.size w w' := by
  have V := Lib.hid (ref_both_any v u rs qs w hv hu hl hl2)
  have N := Lib.hid (fun W (hW : Below w.heap.size w W) h1 h2 => ref_agr_any v u rs qs W (hv.all hW) (hu.all hW) h1 h2)
  obtain ⟨a, c, rfl⟩ := hv.form
  obtain ⟨a2, c2, rfl⟩ := hu.form
  clear hv hu
  unfold Bd.agrV
  by_cases h : Bd.bothE rs qs = 0
  · rw [if_pos h, h]
    rw [h] at V
    obtain ⟨h1, h2⟩ := Bd.bothE_zero.1 h
    have N := Lib.hid (fun W hW => N.out W hW (Bd.fine_of_valid h1) (Bd.fine_of_valid h2))
    clear h h1 h2
    generalize Bd.agr (Bd.norm rs) (Bd.norm qs) = A at *
    go_enter Try.func54, Try.ntmps54
    go_wp2_with fail
    refine V.out.mono ?_
    rintro e w1 ⟨rfl, hb1⟩
    go_wp2_with fail
    refine (N.out _ hb1).mono ?_
    rintro e w2 ⟨rfl, hb2⟩
    go_wp2
    go_ret2
    exact ⟨rfl, below_step hb1 hb2⟩
  · rw [if_neg h]
    generalize Bd.bothE rs qs = z at *
    have hz : (z == 0) = false := by simp [h]
    clear h N
    go_enter Try.func54, Try.ntmps54
    go_wp2_with fail
    refine V.out.mono ?_
    rintro e w1 ⟨rfl, hb1⟩
    go_wp2
    go_ret2
    exact ⟨rfl, hb1⟩

set_option maxRecDepth 20000 in
set_option maxHeartbeats 2000000 in
theorem num_agree_any (v u : Value) (rs qs : List Bd.R) (w : World) (hv : Runs w v rs) (hu : Runs w u qs) (hl : rs.length ≤ 1000) (hl2 : qs.length ≤ 1000) :
    Calls Try.prog 33 #[v, u] w fun e w' => e = .returned (.tuple #[.int .i64 (Bd.agrV rs qs), .int .i64 (Bd.bothE rs qs)]) ∧ Below w.heap.size w w' := by
  have V := Lib.hid (validate_both_any v u rs qs w hv hu hl hl2)
  have N1 := Lib.hid (fun W (hW : Below w.heap.size w W) h => normal_any v rs W (hv.all hW) h)
  have N2 := Lib.hid (fun W (hW : Below w.heap.size w W) h => normal_any u qs W (hu.all hW) h)
  obtain ⟨a, c, rfl⟩ := hv.form
  obtain ⟨a2, c2, rfl⟩ := hu.form
  clear hv hu
  unfold Bd.agrV
  by_cases h : Bd.bothE rs qs = 0
  · rw [if_pos h, h]
    rw [h] at V
    obtain ⟨h1, h2⟩ := Bd.bothE_zero.1 h
    have hf := Bd.fine_of_valid h1
    have hf2 := Bd.fine_of_valid h2
    have N1 := Lib.hid (fun W hW => N1.out W hW hf)
    have N2 := Lib.hid (fun W hW => N2.out W hW hf2)
    clear h h1 h2
    obtain ⟨f1, f2, f3⟩ := Bd.fine_norm hf
    obtain ⟨g1, g2, _⟩ := Bd.fine_norm hf2
    clear hf hf2
    generalize Bd.norm rs = xs at *
    generalize Bd.norm qs = ys at *
    generalize hA : Bd.agr xs ys = A
    have HA := Lib.hid hA
    clear hA
    have HP := Lib.hid (And.intro (Bd.len_drop_le f2) (And.intro f2 g2))
    clear f2 g2
    go_enter Try.func33, Try.ntmps33
    go_wp2_with fail
    refine V.out.mono ?_
    rintro e w1 ⟨rfl, hb1⟩
    go_wp2_with fail
    refine (N1.out _ hb1).mono ?_
    rintro e w2 ⟨x, rfl, hx, hb2⟩
    have hw2 := below_step hb1 hb2
    go_wp2_with fail
    refine (N2.out _ hw2).mono ?_
    rintro e w3 ⟨y, rfl, hy, hb3⟩
    have hw3 := below_step hw2 hb3
    have hx2 := (hx.all hb3).runs
    have hy2 := hy.runs
    clear hx hb1 hb2 hb3 N1 N2 hy V hw2
    obtain ⟨ax, cx, rfl, hx⟩ := hx2.look
    obtain ⟨ay, cy, rfl, hy⟩ := hy2.look
    have HX := Lib.hid hx
    have HY := Lib.hid hy
    clear hx hy hx2 hy2
    have hb0 := Below.refl w3.heap.size w3
    go_wp2_with fail
    all_goals
      go_loopw [7, 24] (fun s t wr => ∃ (k : Nat) (n : Int), k ≤ xs.length ∧ k ≤ ys.length ∧ t = .int .i64 k ∧ s = .int .i64 n ∧ 0 ≤ n ∧ n + Bd.len (xs.drop k) ≤ 1000000000 ∧ Hid (n + Bd.agr (xs.drop k) (ys.drop k) = A) ∧ Below w3.heap.size w3 wr) (fun _ t _ => xs.length - (intOf t).toNat)
      case atStart => exact ⟨0, 0, Nat.zero_le _, Nat.zero_le _, rfl, rfl, by omega, by simpa using f3, Lib.hid (by simpa using HA.out), hb0⟩
      case round =>
        obtain ⟨k, n, hkx, hky, rfl, rfl, hn0, hn1, hg, hw⟩ := hrel
        clear hb0
        by_cases hlxy : k < xs.length ∧ k < ys.length
        · obtain ⟨hlx, hly⟩ := hlxy
          obtain ⟨b1, o1, rfl, s1, p1⟩ := HX.out k hlx
          obtain ⟨b2, o2, rfl, s2, p2⟩ := HY.out k hly
          obtain ⟨c0, c1, c2, c3⟩ := p1.below hw s1
          obtain ⟨d0, d1, d2, d3⟩ := p2.below hw s2
          have hs := Lib.hid (hg.out.symm.trans (by rw [Bd.agr_step hlx hly]))
          have hl := Bd.len_drop_succ hlx
          have hl1 := (HP.out.1 (k + 1)).1
          have hq1 := HP.out.2.2 ys[k] (List.getElem_mem hly)
          have hr1 := HP.out.2.1 xs[k] (List.getElem_mem hlx)
          rw [hl] at hn1
          clear p1 p2 hl hg HA HX HY
          generalize hmm : Bd.len (xs.drop (k + 1)) = m at *
          have HM := Lib.hid hmm
          clear hmm
          generalize xs[k] = r at *
          generalize ys[k] = q at *
          have hmin : (k : Int) < xs.length ∧ (k : Int) < ys.length := by omega
          by_cases hm : r.m = q.m
          · obtain ⟨e1, e2, e3⟩ := m_eq hm
            have hs' := Lib.hid (hs.out.trans (by rw [if_pos hm]))
            clear hm hs
            by_cases hlq : r.l = q.l
            · have hs2 := Lib.hid (hs'.out.trans (by rw [if_pos hlq]))
              have e4 : (r.l == q.l) = true := by simp [hlq]
              have e5 : (r.l != q.l) = false := by simp [hlq]
              have E6 := Lib.hid hlq
              clear hlq hs'
              go_wp2
              go_quiet (fail)
              go_wp2
              go_quiet (fail)
              all_goals go_wp2
              all_goals go_quiet (fail)
              all_goals go_wp2
              all_goals
                go_roundw
                case rel => exact ⟨k + 1, n + r.l, by omega, by omega, by go_num, by first | rfl | rw [E6.out], by omega, by rw [HM.out]; omega, Lib.hid (by rw [hs2.out]; omega), by repeat' (first | exact hw | apply below_drewN)⟩
                case measure => simp [intOf]; omega
            · have hs2 := Lib.hid (hs'.out.trans (by rw [if_neg hlq]))
              have e4 : (r.l == q.l) = false := by simp [hlq]
              have e5 : (r.l != q.l) = true := by simp [hlq]
              clear hlq hs'
              go_wp2
              go_quiet (fail)
              go_wp2
              go_quiet (fail)
              all_goals go_wp2
              all_goals go_quiet (fail)
              all_goals go_wp2
              all_goals
                go_ret2
                exact ⟨ret_pair (by have := hs2.out; omega), hw3.trans (Below.mono (by repeat' (first | exact hw | apply below_drewN)) hw3.size)⟩
          · have hs' := Lib.hid (hs.out.trans (by rw [if_neg hm, Int.add_zero]))
            rcases m_ne hm with e1 | ⟨e1, e2⟩ | ⟨e1, e2, e3⟩
            all_goals
              clear hm hs
              go_wp2
              go_quiet (fail)
              go_wp2
              go_ret2
              exact ⟨ret_pair hs'.out.symm, hw3.trans ((below_drewN hw _).mono hw3.size)⟩
        · have hE := Lib.hid (by have := hg.out; rw [Bd.agr_end (by omega)] at this; exact this)
          have hmin : (xs.length : Int) ≤ k ∨ (ys.length : Int) ≤ k := by omega
          clear hg HX HY
          go_wp2
          go_ret2
          exact ⟨ret_pair (by have := hE.out; omega), hw3.trans (hw.mono hw3.size)⟩
  · rw [if_neg h]
    generalize Bd.bothE rs qs = z at *
    have hz : (z == 0) = false := by simp [h]
    clear h N1 N2
    go_enter Try.func33, Try.ntmps33
    go_wp2_with fail
    refine V.out.mono ?_
    rintro e w1 ⟨rfl, hb1⟩
    go_wp2
    go_ret2
    exact ⟨rfl, hb1⟩
end Go.Proofs.Ytimpdmpfpbeflaa
