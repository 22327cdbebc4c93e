/- The reference's validity of bands; whether two lists of runs are equal. -/
import Derived.Test.YtbmjjmpdlmbehaaRmB
namespace Go.Proofs.Ytbmjjmpdlmbehaa
open Go.RowKit

theorem runAt_alloc {w : World} {b off : Nat} {r : Bd.R} (h : RunAt w b off r) (hb : b < w.heap.size) (o : Obj) : RunAt (w.alloc o) b off r :=
  h.below ((Below.refl _ _).alloc (Nat.le_refl _) _) hb

set_option maxRecDepth 20000 in
set_option maxHeartbeats 1000000 in
theorem ref_validate_any (v : Value) (rs : List Bd.R) (w : World) (hv : Runs w v rs) (hlen : rs.length ≤ 1000) :
    Calls Try.prog 65 #[v] w fun e w' => e = .returned (.int .i64 (Bd.valE rs)) ∧ Below w.heap.size w w' := by
  by_cases hl : 40 < rs.length
  · rw [Bd.valE_large hl]
    obtain ⟨a, c, rfl⟩ := hv.form
    clear hv
    go_enter Try.func65, Try.ntmps65
    go_wp2
    go_ret
    exact ⟨rfl, Below.refl _ _⟩
  · generalize hE : Bd.valE rs = E
    have HE := Lib.hid hE
    clear hE
    rcases hv with ⟨a0, c0, rfl, rfl, hn0⟩ | ⟨b, off, cap, rfl, hcap, hb, hc⟩
    · go_enter Try.func65, Try.ntmps65
      go_wp2
      go_loop [3, 4] (fun s t => s = .int .i64 0 ∧ t = .int .i64 0) (fun _ t => (0 - intOf t).toNat)
      case atStart => exact ⟨rfl, rfl⟩
      case round =>
        obtain ⟨rfl, rfl⟩ := hrel
        go_wp2
        go_ret
        exact ⟨ret_int (by rw [← HE.out]; rfl), Below.refl _ _⟩
    · go_enter Try.func65, Try.ntmps65
      go_wp2
      have hw0 := Below.refl w.heap.size w
      go_loopw [3, 4] (fun s t wr => ∃ k : Nat, k ≤ rs.length ∧ t = .int .i64 k ∧ s = .int .i64 (Bd.len (rs.take k)) ∧ Hid (∀ r ∈ rs.take k, Bd.okR r = true) ∧ Below w.heap.size w wr) (fun _ t _ => rs.length - (intOf t).toNat)
      case atStart => exact ⟨0, Nat.zero_le _, rfl, rfl, Lib.hid (by simp), hw0⟩
      case round =>
        obtain ⟨k, hk, rfl, rfl, hg, hw⟩ := hrel
        clear hw0
        have b1 := Bd.len_take_bound2 k hg.out
        by_cases hlt : k < rs.length
        · have hck := hc k hlt
          rw [getD_run hlt] at hck
          clear hc
          have hb' : b < _ := Nat.lt_of_lt_of_le hb hw.size
          obtain ⟨c0, c1, c2, c3⟩ := hck.below hw hb
          clear hck
          cases ho : Bd.okR rs[k]
          · have HB := Lib.hid ((Bd.valE_bad (by omega) hlt ho).symm.trans HE.out)
            have hr := Bd.okR_not ho
            clear ho hg
            generalize rs[k] = r at *
            have W1 := hw.alloc hw.size (.cells #[.int .i64 r.m.t, .int .i64 r.m.s, .int .i64 r.m.f] 50)
            have W := Lib.hid W1
            clear W1 hw
            rcases hr with hr | hr | ⟨hr1, hr2, hr⟩
            · go_wp2_with (go_at_call 81; first | (refine (within_true _ _ _ _ (by omega)).mono ?_; rintro e wx ⟨rfl, rfl⟩) | (refine (within_false _ _ _ _ (by omega)).mono ?_; rintro e wx ⟨rfl, rfl⟩))
              go_ret
              exact ⟨ret_int HB.out, W.out⟩
            · go_wp2_with (go_at_call 81; first | (refine (within_true _ _ _ _ (by omega)).mono ?_; rintro e wx ⟨rfl, rfl⟩) | (refine (within_false _ _ _ _ (by omega)).mono ?_; rintro e wx ⟨rfl, rfl⟩))
              go_ret
              exact ⟨ret_int HB.out, W.out⟩
            · rcases Bd.okM_not hr with h | h | ⟨h1, h2, h | h | ⟨h3, h4, h | h⟩⟩
              all_goals
                clear hr
                go_wp2_with (go_at_call 81; first | (refine (within_true _ _ _ _ (by omega)).mono ?_; rintro e wx ⟨rfl, rfl⟩) | (refine (within_false _ _ _ _ (by omega)).mono ?_; rintro e wx ⟨rfl, rfl⟩))
                go_ret
                exact ⟨ret_int HB.out, W.out⟩
          · have hg' := Lib.hid (Bd.take_ok_succ hlt hg.out ho)
            have hs := Lib.hid (Bd.len_take_succ hlt)
            obtain ⟨hr1, hr2, hr3, hr4, hr5, hr6, hr7, hr8⟩ := Bd.okR_pos ho
            clear ho hg
            generalize rs[k] = r at *
            generalize Bd.len (rs.take k) = s at *
            have W1 := hw.alloc hw.size (.cells #[.int .i64 r.m.t, .int .i64 r.m.s, .int .i64 r.m.f] 50)
            have W := Lib.hid W1
            clear W1 hw
            go_wp2_with (go_at_call 81; first | (refine (within_true _ _ _ _ (by omega)).mono ?_; rintro e wx ⟨rfl, rfl⟩) | (refine (within_false _ _ _ _ (by omega)).mono ?_; rintro e wx ⟨rfl, rfl⟩))
            go_roundw
            case rel => exact ⟨k + 1, by omega, by go_num, by rw [hs.out], hg', W.out⟩
            case measure => simp [intOf]; omega
        · obtain rfl : k = rs.length := by omega
          have ho := hg.out
          rw [List.take_length] at ho
          have hE := Lib.hid ((Bd.valE_ok (by omega) ho).symm.trans HE.out)
          rw [Bd.len_take_all _ (Nat.le_refl _)] at b1 ⊢
          clear hc ho hg
          generalize Bd.len rs = n at *
          by_cases hn : 1000000 < n
          · go_wp2
            go_ret
            exact ⟨ret_int ((if_pos hn).symm.trans hE.out), hw⟩
          · go_wp2
            go_ret
            exact ⟨ret_int ((if_neg (by omega)).symm.trans hE.out), hw⟩

theorem m_ne {r q : Bd.M} (h : r ≠ q) : (r.t == q.t) = false ∨ ((r.t == q.t) = true ∧ (r.s == q.s) = false) ∨ ((r.t == q.t) = true ∧ (r.s == q.s) = true ∧ (r.f == q.f) = false) := by
  simp only [beq_eq_false_iff_ne, beq_iff_eq]
  by_cases h1 : r.t = q.t
  · by_cases h2 : r.s = q.s
    · by_cases h3 : r.f = q.f
      · exact absurd (Bd.M.ext' h1 h2 h3) h
      · exact .inr (.inr ⟨h1, h2, h3⟩)
    · exact .inr (.inl ⟨h1, h2⟩)
  · exact .inl h1
theorem r_ne {r q : Bd.R} (h : r ≠ q) : (r.l == q.l) = false ∨ ((r.l == q.l) = true ∧ (r.m.t == q.m.t) = false) ∨ ((r.l == q.l) = true ∧ (r.m.t == q.m.t) = true ∧ (r.m.s == q.m.s) = false) ∨
    ((r.l == q.l) = true ∧ (r.m.t == q.m.t) = true ∧ (r.m.s == q.m.s) = true ∧ (r.m.f == q.m.f) = false) := by
  by_cases h1 : r.l = q.l
  · have h1' : (r.l == q.l) = true := by simp [h1]
    rcases m_ne (r := r.m) (q := q.m) (fun hm => h (Bd.R.ext' h1 hm)) with h2 | ⟨h2, h3⟩ | ⟨h2, h3, h4⟩
    · exact .inr (.inl ⟨h1', h2⟩)
    · exact .inr (.inr (.inl ⟨h1', h2, h3⟩))
    · exact .inr (.inr (.inr ⟨h1', h2, h3, h4⟩))
  · exact .inl (by simp [h1])
theorem m_beq (a b : Bd.M) : (a.t == b.t && (a.s == b.s && a.f == b.f)) = decide (a = b) := by
  rw [Bool.eq_iff_iff]; simp
  exact ⟨fun ⟨h1, h2, h3⟩ => Bd.M.ext' h1 h2 h3, fun h => by subst h; exact ⟨rfl, rfl, rfl⟩⟩

set_option maxRecDepth 20000 in
theorem same_runs_any (v u : Value) (rs qs : List Bd.R) (w : World) (hv : Runs w v rs) (hu : Runs w u qs) (hlen : rs.length ≤ 1000) (hlen2 : qs.length ≤ 1000) :
    Calls Try.prog 15 #[v, u] w fun e w' => e = .returned (.bool (decide (rs = qs))) ∧ Below w.heap.size w w' := by
  obtain ⟨a, c, hvf⟩ := hv.form
  obtain ⟨a2, c2, huf⟩ := hu.form
  by_cases hl : rs.length = qs.length
  · rcases hv with ⟨a0, c0, rfl, rfl, hn0⟩ | ⟨b, off, cap, rfl, hcap, hb, hc⟩
    · obtain rfl : qs = [] := List.length_eq_zero_iff.1 hl.symm
      subst huf
      clear hvf hu
      go_enter Try.func15, Try.ntmps15
      go_wp2
      go_loop [5] (fun t => t = .int .i64 0) (fun t => (0 - intOf t).toNat)
      case atStart => exact rfl
      case round =>
        obtain rfl := hrel
        go_wp2
        go_ret
        exact ⟨rfl, Below.refl _ _⟩
    · rcases hu with ⟨a1, c1, rfl, rfl, hn1⟩ | ⟨b', off', cap', rfl, hcap', hb', hc'⟩
      · obtain rfl : rs = [] := List.length_eq_zero_iff.1 hl
        clear hvf huf
        go_enter Try.func15, Try.ntmps15
        go_wp2
        go_loop [5] (fun t => t = .int .i64 0) (fun t => (0 - intOf t).toNat)
        case atStart => exact rfl
        case round =>
          obtain rfl := hrel
          go_wp2
          go_ret
          exact ⟨rfl, Below.refl _ _⟩
      · clear hvf huf
        have hlc : ((rs.length : Int) == (qs.length : Int)) = true := by simp [hl]
        have hnc : ((rs.length : Int) != (qs.length : Int)) = false := by simp [hl]
        have HL := Lib.hid hl
        clear hl
        have hw0 := Below.refl w.heap.size w
        go_enter Try.func15, Try.ntmps15
        go_wp2
        go_loopw [5] (fun t wr => ∃ k : Nat, k ≤ rs.length ∧ t = .int .i64 k ∧ Hid (rs.take k = qs.take k) ∧ Below w.heap.size w wr) (fun t _ => rs.length - (intOf t).toNat)
        case atStart => exact ⟨0, Nat.zero_le _, rfl, Lib.hid (by simp), hw0⟩
        case round =>
          obtain ⟨k, hk, rfl, hg, hw⟩ := hrel
          clear hw0
          by_cases hlt : k < rs.length
          · have hlt' : k < qs.length := by have := HL.out; omega
            have hck := hc k hlt
            rw [getD_run hlt] at hck
            have hck' := hc' k hlt'
            rw [getD_run hlt'] at hck'
            clear hc hc'
            obtain ⟨c0, c1, c2, c3⟩ := hck.below hw hb
            obtain ⟨d0, d1, d2, d3⟩ := hck'.below hw hb'
            clear hck hck'
            have hd := Lib.hid (And.intro (take_run hlt) (take_run hlt'))
            have hx : Hid (rs = qs → rs[k] = qs[k]) := Lib.hid (fun h => by subst h; rfl)
            generalize rs[k] = r at *
            generalize qs[k] = q at *
            clear hcap hcap'
            by_cases he : r = q
            · subst he
              have hn : Hid (rs.take (k + 1) = qs.take (k + 1)) := Lib.hid (by rw [hd.out.1, hd.out.2, hg.out])
              go_wp2
              go_quiet (fail)
              go_wp2
              go_roundw
              case rel => exact ⟨k + 1, by omega, by go_num, hn, below_drewN hw _⟩
              case measure => simp [intOf]; omega
            · have hn : Hid (decide (rs = qs) = false) := Lib.hid (by simp; intro h; exact he (hx.out h))
              rcases r_ne he with e1 | ⟨e1, e2⟩ | ⟨e1, e2, e3⟩ | ⟨e1, e2, e3, e4⟩
              all_goals
                clear he hg hx hd
                go_wp2
                go_quiet (fail)
                go_wp2
                go_ret
                exact ⟨ret_bool hn.out.symm, below_drewN hw _⟩
          · obtain rfl : k = rs.length := by omega
            clear hc hc'
            go_wp2
            go_ret
            exact ⟨ret_bool (by have := hg.out; rw [List.take_length, HL.out, List.take_length] at this; simp [this]), hw⟩
  · have hlc : ((rs.length : Int) == (qs.length : Int)) = false := by simp; omega
    have hnc : ((rs.length : Int) != (qs.length : Int)) = true := by simp; omega
    have hne : decide (rs = qs) = false := by simp; intro h; subst h; exact hl rfl
    rw [hne, hvf, huf]
    clear hv hu hvf huf hne hl
    go_enter Try.func15, Try.ntmps15
    go_wp2
    go_ret
    exact ⟨rfl, Below.refl _ _⟩
end Go.Proofs.Ytbmjjmpdlmbehaa
