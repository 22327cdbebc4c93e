/- Same and Agree, of the program and of the reference. -/
import Derived.Test.YtimpdmpfpbeflaaBand7
import Derived.Test.YtimpdmpfpbeflaaBandA
namespace Go.Proofs.Ytimpdmpfpbeflaa
open Go.RowKit


theorem ref_join_fine (v : Value) (rs : List Bd.R) (w : World) (hv : Runs w v rs) (hf : Bd.fine rs) :
    Calls Try.prog 67 #[v] w fun e w' => ∃ u, e = .returned u ∧ Own w.heap.size w' u (Bd.norm rs) ∧ Below w.heap.size w w' :=
  ref_join_any v rs w hv hf.1 hf.2.1 (by have := hf.2.2; omega)

set_option maxRecDepth 20000 in
theorem equal_any (v u : Value) (rs qs : List Bd.R) (w : World) (hv : Runs w v rs) (hu : Runs w u qs) (hlen : rs.length ≤ 1000) (hlen2 : qs.length ≤ 1000) :
    Calls Try.prog 69 #[v, u] w fun e w' => e = .returned (.bool (decide (rs = qs))) ∧ Below w.heap.size w w' := by
  obtain ⟨a, c, hvf⟩ := hv.form
  obtain ⟨a2, c2, huf⟩ := hu.form
  by_cases hl : rs.length = qs.length
  · rcases hv with ⟨a0, c0, rfl, rfl, hn0⟩ | ⟨b, off, cap, rfl, hcap, hb, hc⟩
    · obtain rfl : qs = [] := List.length_eq_zero_iff.1 hl.symm
      subst huf
      clear hvf hu
      go_enter Try.func69, Try.ntmps69
      go_wp2
      go_loop [13] (fun t => t = .int .i64 0) (fun t => (0 - intOf t).toNat)
      case atStart => exact rfl
      case round =>
        obtain rfl := hrel
        go_wp2
        go_ret
        exact ⟨rfl, Below.refl _ _⟩
    · rcases hu with ⟨a1, c1, rfl, rfl, hn1⟩ | ⟨b', off', cap', rfl, hcap', hb', hc'⟩
      · obtain rfl : rs = [] := List.length_eq_zero_iff.1 hl
        clear hvf huf
        go_enter Try.func69, Try.ntmps69
        go_wp2
        go_loop [13] (fun t => t = .int .i64 0) (fun t => (0 - intOf t).toNat)
        case atStart => exact rfl
        case round =>
          obtain rfl := hrel
          go_wp2
          go_ret
          exact ⟨rfl, Below.refl _ _⟩
      · clear hvf huf
        have hlc : ((rs.length : Int) == (qs.length : Int)) = true := by simp [hl]
        have hnc : ((rs.length : Int) != (qs.length : Int)) = false := by simp [hl]
        have HL := Lib.hid hl
        clear hl
        have hw0 := Below.refl w.heap.size w
        go_enter Try.func69, Try.ntmps69
        go_wp2
        go_loopw [13] (fun t wr => ∃ k : Nat, k ≤ rs.length ∧ t = .int .i64 k ∧ Hid (rs.take k = qs.take k) ∧ Below w.heap.size w wr) (fun t _ => rs.length - (intOf t).toNat)
        case atStart => exact ⟨0, Nat.zero_le _, rfl, Lib.hid (by simp), hw0⟩
        case round =>
          obtain ⟨k, hk, rfl, hg, hw⟩ := hrel
          clear hw0
          by_cases hlt : k < rs.length
          · have hlt' : k < qs.length := by have := HL.out; omega
            have hck := hc k hlt
            rw [getD_run hlt] at hck
            have hck' := hc' k hlt'
            rw [getD_run hlt'] at hck'
            clear hc hc'
            obtain ⟨c0, c1, c2, c3⟩ := hck.below hw hb
            obtain ⟨d0, d1, d2, d3⟩ := hck'.below hw hb'
            clear hck hck'
            have hd := Lib.hid (And.intro (take_run hlt) (take_run hlt'))
            have hx : Hid (rs = qs → rs[k] = qs[k]) := Lib.hid (fun h => by subst h; rfl)
            generalize rs[k] = r at *
            generalize qs[k] = q at *
            clear hcap hcap'
            by_cases he : r = q
            · subst he
              have hn : Hid (rs.take (k + 1) = qs.take (k + 1)) := Lib.hid (by rw [hd.out.1, hd.out.2, hg.out])
              go_wp2
              go_quiet (fail)
              go_wp2
              go_roundw
              case rel => exact ⟨k + 1, by omega, by go_num, hn, below_drewN hw _⟩
              case measure => simp [intOf]; omega
            · have hn : Hid (decide (rs = qs) = false) := Lib.hid (by simp; intro h; exact he (hx.out h))
              rcases r_ne he with e1 | ⟨e1, e2⟩ | ⟨e1, e2, e3⟩ | ⟨e1, e2, e3, e4⟩
              all_goals
                clear he hg hx hd
                go_wp2
                go_quiet (fail)
                go_wp2
                go_ret
                exact ⟨ret_bool hn.out.symm, below_drewN hw _⟩
          · obtain rfl : k = rs.length := by omega
            clear hc hc'
            go_wp2
            go_ret
            exact ⟨ret_bool (by have := hg.out; rw [List.take_length, HL.out, List.take_length] at this; simp [this]), hw⟩
  · have hlc : ((rs.length : Int) == (qs.length : Int)) = false := by simp; omega
    have hnc : ((rs.length : Int) != (qs.length : Int)) = true := by simp; omega
    have hne : decide (rs = qs) = false := by simp; intro h; subst h; exact hl rfl
    rw [hne, hvf, huf]
    clear hv hu hvf huf hne hl
    go_enter Try.func69, Try.ntmps69
    go_wp2
    go_ret
    exact ⟨rfl, Below.refl _ _⟩

theorem validate_both_any (v u : Value) (rs qs : List Bd.R) (w : World) (hv : Runs w v rs) (hu : Runs w u qs) (hl : rs.length ≤ 1000) (hl2 : qs.length ≤ 1000) :
    Calls Try.prog 68 #[v, u] w fun e w' => e = .returned (.int .i64 (Bd.bothE rs qs)) ∧ Below w.heap.size w w' := by
  have V := Lib.hid (validate_any v rs w hv hl)
  have N := Lib.hid (fun W (hW : Below w.heap.size w W) => validate_any u qs W (hu.all hW) hl2)
  obtain ⟨a, c, rfl⟩ := hv.form
  obtain ⟨a2, c2, rfl⟩ := hu.form
  clear hv hu
  unfold Bd.bothE
  by_cases h : Bd.valE rs = 0
  · rw [if_pos h]
    rw [h] at V
    clear h
    go_enter Try.func68, Try.ntmps68
    go_wp2_with fail
    refine V.out.mono ?_
    rintro e w1 ⟨rfl, hb1⟩
    go_wp2_with fail
    refine (N.out _ hb1).mono ?_
    rintro e w2 ⟨rfl, hb2⟩
    go_wp2
    go_ret
    exact ⟨rfl, below_step hb1 hb2⟩
  · rw [if_neg h]
    generalize Bd.valE rs = z at *
    have hz : (z == 0) = false := by simp [h]
    clear h N
    go_enter Try.func68, Try.ntmps68
    go_wp2_with fail
    refine V.out.mono ?_
    rintro e w1 ⟨rfl, hb1⟩
    go_wp2
    go_ret
    exact ⟨rfl, hb1⟩

theorem ref_both_any (v u : Value) (rs qs : List Bd.R) (w : World) (hv : Runs w v rs) (hu : Runs w u qs) (hl : rs.length ≤ 1000) (hl2 : qs.length ≤ 1000) :
    Calls Try.prog 70 #[v, u] w fun e w' => e = .returned (.int .i64 (Bd.bothE rs qs)) ∧ Below w.heap.size w w' := by
  have V := Lib.hid (ref_validate_any v rs w hv hl)
  have N := Lib.hid (fun W (hW : Below w.heap.size w W) => ref_validate_any u qs W (hu.all hW) hl2)
  obtain ⟨a, c, rfl⟩ := hv.form
  obtain ⟨a2, c2, rfl⟩ := hu.form
  clear hv hu
  unfold Bd.bothE
  by_cases h : Bd.valE rs = 0
  · rw [if_pos h]
    rw [h] at V
    clear h
    go_enter Try.func70, Try.ntmps70
    go_wp2_with fail
    refine V.out.mono ?_
    rintro e w1 ⟨rfl, hb1⟩
    go_wp2_with fail
    refine (N.out _ hb1).mono ?_
    rintro e w2 ⟨rfl, hb2⟩
    go_wp2
    go_ret
    exact ⟨rfl, below_step hb1 hb2⟩
  · rw [if_neg h]
    generalize Bd.valE rs = z at *
    have hz : (z == 0) = false := by simp [h]
    clear h N
    go_enter Try.func70, Try.ntmps70
    go_wp2_with fail
    refine V.out.mono ?_
    rintro e w1 ⟨rfl, hb1⟩
    go_wp2
    go_ret
    exact ⟨rfl, hb1⟩

theorem num_same_any (v u : Value) (rs qs : List Bd.R) (w : World) (hv : Runs w v rs) (hu : Runs w u qs) (hl : rs.length ≤ 1000) (hl2 : qs.length ≤ 1000) :
    Calls Try.prog 31 #[v, u] w fun e w' => e = .returned (.tuple #[.bool (Bd.sameB rs qs), .int .i64 (Bd.bothE rs qs)]) ∧ Below w.heap.size w w' := by
  have V := Lib.hid (validate_both_any v u rs qs w hv hu hl hl2)
  have N1 := Lib.hid (fun W (hW : Below w.heap.size w W) h => normal_any v rs W (hv.all hW) h)
  have N2 := Lib.hid (fun W (hW : Below w.heap.size w W) h => normal_any u qs W (hu.all hW) h)
  obtain ⟨a, c, rfl⟩ := hv.form
  obtain ⟨a2, c2, rfl⟩ := hu.form
  clear hv hu
  unfold Bd.sameB
  by_cases h : Bd.bothE rs qs = 0
  · rw [if_pos h, h]
    rw [h] at V
    obtain ⟨h1, h2⟩ := Bd.bothE_zero.1 h
    have N1 := Lib.hid (fun W hW => N1.out W hW (Bd.fine_of_valid h1))
    have N2 := Lib.hid (fun W hW => N2.out W hW (Bd.fine_of_valid h2))
    have k1 : (Bd.norm rs).length ≤ 1000 := Nat.le_trans (Bd.norm_length rs) hl
    have k2 : (Bd.norm qs).length ≤ 1000 := Nat.le_trans (Bd.norm_length qs) hl2
    clear h h1 h2
    go_enter Try.func31, Try.ntmps31
    go_wp2_with fail
    refine V.out.mono ?_
    rintro e w1 ⟨rfl, hb1⟩
    go_wp2_with fail
    refine (N1.out _ hb1).mono ?_
    rintro e w2 ⟨x, rfl, hx, hb2⟩
    have hb2' := below_step hb1 hb2
    go_wp2_with fail
    refine (N2.out _ hb2').mono ?_
    rintro e w3 ⟨y, rfl, hy, hb3⟩
    have hb3' := below_step hb2' hb3
    have hx3 := hx.all hb3
    go_wp2_with fail
    refine (equal_any x y _ _ _ hx3.runs hy.runs k1 k2).mono ?_
    rintro e w4 ⟨rfl, hb4⟩
    have hb4' := below_step hb3' hb4
    go_wp2
    go_ret2
    exact ⟨rfl, hb4'⟩
  · rw [if_neg h]
    generalize Bd.bothE rs qs = z at *
    have hz : (z == 0) = false := by simp [h]
    clear h N1 N2
    go_enter Try.func31, Try.ntmps31
    go_wp2_with fail
    refine V.out.mono ?_
    rintro e w1 ⟨rfl, hb1⟩
    go_wp2
    go_ret2
    exact ⟨rfl, hb1⟩

theorem ref_same_any (v u : Value) (rs qs : List Bd.R) (w : World) (hv : Runs w v rs) (hu : Runs w u qs) (hl : rs.length ≤ 1000) (hl2 : qs.length ≤ 1000) :
    Calls Try.prog 32 #[v, u] w fun e w' => e = .returned (.tuple #[.bool (Bd.sameB rs qs), .int .i64 (Bd.bothE rs qs)]) ∧ Below w.heap.size w w' := by
  have V := Lib.hid (ref_both_any v u rs qs w hv hu hl hl2)
  have N1 := Lib.hid (fun W (hW : Below w.heap.size w W) h => ref_join_fine v rs W (hv.all hW) h)
  have N2 := Lib.hid (fun W (hW : Below w.heap.size w W) h => ref_join_fine u qs W (hu.all hW) h)
  obtain ⟨a, c, rfl⟩ := hv.form
  obtain ⟨a2, c2, rfl⟩ := hu.form
  clear hv hu
  unfold Bd.sameB
  by_cases h : Bd.bothE rs qs = 0
  · rw [if_pos h, h]
    rw [h] at V
    obtain ⟨h1, h2⟩ := Bd.bothE_zero.1 h
    have N1 := Lib.hid (fun W hW => N1.out W hW (Bd.fine_of_valid h1))
    have N2 := Lib.hid (fun W hW => N2.out W hW (Bd.fine_of_valid h2))
    have k1 : (Bd.norm rs).length ≤ 1000 := Nat.le_trans (Bd.norm_length rs) hl
    have k2 : (Bd.norm qs).length ≤ 1000 := Nat.le_trans (Bd.norm_length qs) hl2
    clear h h1 h2
    go_enter Try.func32, Try.ntmps32
    go_wp2_with fail
    refine V.out.mono ?_
    rintro e w1 ⟨rfl, hb1⟩
    go_wp2_with fail
    refine (N1.out _ hb1).mono ?_
    rintro e w2 ⟨x, rfl, hx, hb2⟩
    have hb2' := below_step hb1 hb2
    go_wp2_with fail
    refine (N2.out _ hb2').mono ?_
    rintro e w3 ⟨y, rfl, hy, hb3⟩
    have hb3' := below_step hb2' hb3
    have hx3 := hx.all hb3
    go_wp2_with fail
    refine (same_runs_any x y _ _ _ hx3.runs hy.runs k1 k2).mono ?_
    rintro e w4 ⟨rfl, hb4⟩
    have hb4' := below_step hb3' hb4
    go_wp2
    go_ret2
    exact ⟨rfl, hb4'⟩
  · rw [if_neg h]
    generalize Bd.bothE rs qs = z at *
    have hz : (z == 0) = false := by simp [h]
    clear h N1 N2
    go_enter Try.func32, Try.ntmps32
    go_wp2_with fail
    refine V.out.mono ?_
    rintro e w1 ⟨rfl, hb1⟩
    go_wp2
    go_ret2
    exact ⟨rfl, hb1⟩

/-- Two rows of runs side by side, at a place that both have. -/
theorem two_at {w0 wr : World} {g1 g2 : Nat} {xs ys : List Bd.R} {k : Nat} (h1 : ∀ k, k < xs.length → RunAt w0 g1 (k * 4) (xs.getD k default)) (h2 : ∀ k, k < ys.length → RunAt w0 g2 (k * 4) (ys.getD k default))
    (hb : Below w0.heap.size w0 wr) (s1 : g1 < w0.heap.size) (s2 : g2 < w0.heap.size) (k1 : k < xs.length) (k2 : k < ys.length) : RunAt wr g1 (k * 4) xs[k] ∧ RunAt wr g2 (k * 4) ys[k] := by
  have a := h1 k k1
  have b := h2 k k2
  rw [getD_run k1] at a
  rw [getD_run k2] at b
  exact ⟨a.below hb s1, b.below hb s2⟩

theorem Runs.look {w : World} {v : Value} {rs : List Bd.R} (h : Runs w v rs) :
    ∃ ao c, v = .slice ao rs.length c ∧ ∀ k (hk : k < rs.length), ∃ b off, ao = some ⟨b, off, none⟩ ∧ b < w.heap.size ∧ RunAt w b (off + k * 4) rs[k] := by
  rcases h with ⟨a, c, rfl, rfl, _⟩ | ⟨b, off, cap, rfl, h2, h3, h4⟩
  · exact ⟨a, c, rfl, fun k hk => by simp at hk⟩
  · exact ⟨_, cap, rfl, fun k hk => ⟨b, off, rfl, h3, by have := h4 k hk; rwa [getD_run hk] at this⟩⟩
theorem m_eq {r q : Bd.M} (h : r = q) : (r.t == q.t) = true ∧ (r.s == q.s) = true ∧ (r.f == q.f) = true := by subst h; simp
theorem Bd.len_drop_succ {b : List Bd.R} {k : Nat} (h : k < b.length) : Bd.len (b.drop k) = b[k].l + Bd.len (b.drop (k + 1)) := by
  rw [List.drop_eq_getElem_cons h]; rfl

set_option maxRecDepth 20000 in
set_option maxHeartbeats 2000000 in
theorem ref_agr_any (v u : Value) (rs qs : List Bd.R) (w : World) (hv : Runs w v rs) (hu : Runs w u qs) (hf : Bd.fine rs) (hf2 : Bd.fine qs) :
    Calls Try.prog 85 #[v, u] w fun e w' => e = .returned (.int .i64 (Bd.agr (Bd.norm rs) (Bd.norm qs))) ∧ Below w.heap.size w w' := by
  have N1 := Lib.hid (ref_join_fine v rs w hv hf)
  have N2 := Lib.hid (fun W (hW : Below w.heap.size w W) => ref_join_fine u qs W (hu.all hW) hf2)
  obtain ⟨f1, f2, f3⟩ := Bd.fine_norm hf
  obtain ⟨g1, g2, _⟩ := Bd.fine_norm hf2
  obtain ⟨a, c, rfl⟩ := hv.form
  obtain ⟨a2, c2, rfl⟩ := hu.form
  clear hv hu hf hf2
  generalize Bd.norm rs = xs at *
  generalize Bd.norm qs = ys at *
  generalize hA : Bd.agr xs ys = A
  have HA := Lib.hid hA
  clear hA
  have HP := Lib.hid (And.intro (Bd.len_drop_le f2) (And.intro f2 g2))
  clear f2 g2
  go_enter Try.func85, Try.ntmps85
  go_wp2_with fail
  refine N1.out.mono ?_
  rintro e w1 ⟨x, rfl, hx, hb1⟩
  go_wp2_with fail
  refine (N2.out _ hb1).mono ?_
  rintro e w2 ⟨y, rfl, hy, hb2⟩
  have hw2 := below_step hb1 hb2
  have hx2 := (hx.all hb2).runs
  have hy2 := hy.runs
  clear hx hb1 hb2 N1 N2 hy
  obtain ⟨ax, cx, rfl, hx⟩ := hx2.look
  obtain ⟨ay, cy, rfl, hy⟩ := hy2.look
  have HX := Lib.hid hx
  have HY := Lib.hid hy
  clear hx hy hx2 hy2
  go_wp2_with fail
  have hb0 := Below.refl w2.heap.size w2
  go_loopw [7, 8] (fun s t wr => ∃ (k : Nat) (n : Int), k ≤ xs.length ∧ k ≤ ys.length ∧ t = .int .i64 k ∧ s = .int .i64 n ∧ 0 ≤ n ∧ n + Bd.len (xs.drop k) ≤ 1000000000 ∧ Hid (n + Bd.agr (xs.drop k) (ys.drop k) = A) ∧ Below w2.heap.size w2 wr) (fun _ t _ => xs.length - (intOf t).toNat)
  case atStart => exact ⟨0, 0, Nat.zero_le _, Nat.zero_le _, rfl, rfl, by omega, by simpa using f3, Lib.hid (by simpa using HA.out), hb0⟩
  case round =>
    obtain ⟨k, n, hkx, hky, rfl, rfl, hn0, hn1, hg, hw⟩ := hrel
    clear hb0
    by_cases hlx : k < xs.length
    · by_cases hly : k < ys.length
      · obtain ⟨b1, o1, rfl, s1, p1⟩ := HX.out k hlx
        obtain ⟨b2, o2, rfl, s2, p2⟩ := HY.out k hly
        obtain ⟨c0, c1, c2, c3⟩ := p1.below hw s1
        obtain ⟨d0, d1, d2, d3⟩ := p2.below hw s2
        have hs := Lib.hid (hg.out.symm.trans (by rw [Bd.agr_step hlx hly]))
        have hl := Bd.len_drop_succ hlx
        have hl1 := (HP.out.1 (k + 1)).1
        have hq1 := HP.out.2.2 ys[k] (List.getElem_mem hly)
        have hr1 := HP.out.2.1 xs[k] (List.getElem_mem hlx)
        rw [hl] at hn1
        clear p1 p2 hl hg HA HX HY
        generalize hmm : Bd.len (xs.drop (k + 1)) = m at *
        have HM := Lib.hid hmm
        clear hmm
        generalize xs[k] = r at *
        generalize ys[k] = q at *
        by_cases hm : r.m = q.m
        · obtain ⟨e1, e2, e3⟩ := m_eq hm
          have hs' := Lib.hid (hs.out.trans (by rw [if_pos hm]))
          clear hm hs
          by_cases hlq : r.l = q.l
          · have hs2 := Lib.hid (hs'.out.trans (by rw [if_pos hlq]))
            have e4 : (r.l == q.l) = true := by simp [hlq]
            have e5 : (r.l != q.l) = false := by simp [hlq]
            clear hlq hs'
            go_wp2
            go_quiet (fail)
            go_wp2
            go_quiet (fail)
            go_wp2
            go_roundw
            case rel => exact ⟨k + 1, n + r.l, by omega, by omega, by go_num, rfl, by omega, by rw [HM.out]; omega, Lib.hid (by rw [hs2.out]; omega), below_drewN hw _⟩
            case measure => simp [intOf]; omega
          · have hs2 := Lib.hid (hs'.out.trans (by rw [if_neg hlq]))
            have e4 : (r.l == q.l) = false := by simp [hlq]
            have e5 : (r.l != q.l) = true := by simp [hlq]
            by_cases hlt : r.l < q.l
            · clear hlq hs'
              go_wp2
              go_quiet (fail)
              go_wp2
              go_quiet (fail)
              go_wp2
              go_quiet (fail)
              go_wp2
              go_ret
              exact ⟨ret_int (by have := hs2.out; rw [Int.min_eq_left (by omega)] at this; exact this.symm), hw2.trans ((below_drewN hw _).mono hw2.size)⟩
            · have hlt2 : q.l < r.l := by omega
              clear hlq hs' hlt
              go_wp2
              go_quiet (fail)
              go_wp2
              go_quiet (fail)
              go_wp2
              go_quiet (fail)
              go_wp2
              go_ret
              exact ⟨ret_int (by have := hs2.out; rw [Int.min_eq_right (by omega)] at this; exact this.symm), hw2.trans ((below_drewN hw _).mono hw2.size)⟩
        · have hs' := Lib.hid (hs.out.trans (by rw [if_neg hm, Int.add_zero]))
          rcases m_ne hm with e1 | ⟨e1, e2⟩ | ⟨e1, e2, e3⟩
          all_goals
            clear hm hs
            go_wp2
            go_quiet (fail)
            go_wp2
            go_ret
            exact ⟨ret_int hs'.out.symm, hw2.trans ((below_drewN hw _).mono hw2.size)⟩
      · obtain rfl : k = ys.length := by omega
        have hE := Lib.hid (by have := hg.out; rw [Bd.agr_end (.inr (Nat.le_refl _))] at this; exact this)
        clear hg HX HY
        go_wp2
        go_quiet (fail)
        go_wp2
        go_ret
        exact ⟨ret_int (by have := hE.out; omega), hw2.trans ((below_drewN hw _).mono hw2.size)⟩
    · obtain rfl : k = xs.length := by omega
      have hE := Lib.hid (by have := hg.out; rw [Bd.agr_end (.inl (Nat.le_refl _))] at this; exact this)
      clear hg HX HY
      go_wp2
      go_quiet (fail)
      go_wp2
      go_ret
      exact ⟨ret_int (by have := hE.out; omega), hw2.trans ((below_drewN hw _).mono hw2.size)⟩
end Go.Proofs.Ytimpdmpfpbeflaa
