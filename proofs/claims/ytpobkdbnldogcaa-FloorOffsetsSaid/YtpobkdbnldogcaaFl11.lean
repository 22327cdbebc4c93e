/- Which jobs are valid; the places of a cut; plans in memory: of the program. -/
import Derived.Test.YtpobkdbnldogcaaFl10
namespace Go.Proofs.Ytpobkdbnldogcaa
open Go.RowKit

theorem wrap_rep {m : Int} (h : 1 ≤ m ∧ m ≤ 144) : IntKind.i64.wrap (m - 1) = m - 1 := IntWalk.i64_in _ ⟨by omega, by omega⟩
theorem Fl.jobE_rollM {j : Fl.J} (h : ¬ (6 < j.ss.length ∨ 5 < j.rs.length)) {k : Nat} (hk : k < j.rs.length) (h2 : Fl.okM (IntKind.i64.wrap (j.m - 1)) j.rs[k] = false) : Fl.jobE j = 1 := by
  by_cases hm : 1 ≤ j.m ∧ j.m ≤ 144
  · rw [wrap_rep hm] at h2
    exact Fl.jobE_roll h hk h2
  · exact Fl.jobE_rep h hm
theorem Fl.jobE_okM {j : Fl.J} (h : ¬ (6 < j.ss.length ∨ 5 < j.rs.length)) (h1 : ∀ k (hk : k < j.ss.length), Fl.okS j.ss[k] = true) (h2 : ∀ k (hk : k < j.rs.length), Fl.okM (IntKind.i64.wrap (j.m - 1)) j.rs[k] = true) (h3 : rng 1 144 j.m = true) : Fl.jobE j = 0 := by
  have hm := rng_iff.1 h3
  rw [wrap_rep hm] at h2
  exact Fl.jobE_zero.2 ⟨by omega, by omega, h1, h2, hm.1, hm.2⟩
set_option maxRecDepth 20000 in
set_option maxHeartbeats 2000000 in
theorem validateJob_any (sv rv : Value) (j : Fl.J) (w : World) (hs : Strips w sv j.ss) (hr : Rols w rv j.rs) (hl1 : j.ss.length ≤ 1000000) (hl2 : j.rs.length ≤ 1000000) :
    Calls Try.prog 39 #[jobV sv rv j.m] w fun e w' => e = .returned (.int .i64 (Fl.jobE j)) ∧ Below w.heap.size w w' := by
  obtain ⟨sa, sc, rfl, _, hsk⟩ := hs
  obtain ⟨ra, rc, rfl, _, hrk⟩ := hr
  have HSK := Lib.hid hsk
  have HRK := Lib.hid hrk
  have HW := Lib.hid (And.intro (BlockAt.new w #[.slice sa j.ss.length sc, .slice ra j.rs.length rc, .int .i64 j.m] JobT) (below_alloc2 (Below.refl w.heap.size w) (.cells #[.slice sa j.ss.length sc, .slice ra j.rs.length rc, .int .i64 j.m] JobT)))
  have FS := Lib.hid (fun s W => isStrip_any s W)
  have FR := Lib.hid (fun r W => isRoll_any r j.m _ W rfl)
  have FP := Lib.hid (fun W => isRepeat_any j.m W)
  clear hsk hrk
  by_cases h6 : 6 < j.ss.length
  · have HE := Lib.hid (Fl.jobE_large (j := j) (.inl h6))
    generalize Fl.jobE j = E at *
    go_enter Try.func39, Try.ntmps39
    go_wp2
    go_ret
    exact ⟨by rw [HE.out]; rfl, HW.out.2⟩
  by_cases h5 : 5 < j.rs.length
  · have HE := Lib.hid (Fl.jobE_large (j := j) (.inr h5))
    generalize Fl.jobE j = E at *
    go_enter Try.func39, Try.ntmps39
    go_wp2
    go_ret
    exact ⟨by rw [HE.out]; rfl, HW.out.2⟩
  have hn : ¬ (6 < j.ss.length ∨ 5 < j.rs.length) := by omega
  have HBS := Lib.hid (fun k (hk : k < j.ss.length) h => Fl.jobE_strip hn hk h)
  have HBR := Lib.hid (fun k (hk : k < j.rs.length) h => Fl.jobE_rollM hn hk h)
  have HOK := Lib.hid (Fl.jobE_okM hn)
  have HRP := Lib.hid (Fl.jobE_rep hn)
  generalize Fl.jobE j = E at *
  generalize IntKind.i64.wrap (j.m - 1) = M at *
  obtain ⟨ss, rs, m⟩ := j
  dsimp only at *
  clear hn
  go_enter Try.func39, Try.ntmps39
  go_wp2
  go_loopw [20] (fun t wr => ∃ k : Nat, k ≤ ss.length ∧ t = .int .i64 k ∧ Hid ((∀ j (hj : j < ss.length), j < k → Fl.okS ss[j] = true) ∧ BlockAt wr w.heap.size #[.slice sa ss.length sc, .slice ra rs.length rc, .int .i64 m] JobT ∧ Below w.heap.size w wr)) (fun t _ => ss.length - (intOf t).toNat)
  case atStart => exact ⟨0, Nat.zero_le _, rfl, Lib.hid ⟨fun j _ h => absurd h (Nat.not_lt_zero _), HW.out⟩⟩
  case round =>
    obtain ⟨k, hk, rfl, hg⟩ := hrel
    clear HW
    by_cases hlt : k < ss.length
    · obtain ⟨b, off, rfl, hb, hr⟩ := HSK.out k hlt
      obtain ⟨c0, c1, c2⟩ := strip_at (hr.below hg.out.2.2 hb)
      have HB1 := Lib.hid (HBS.out k hlt)
      have HI : Hid (Fl.okS ss[k] = true → ∀ j (hj : j < ss.length), j < k + 1 → Fl.okS ss[j] = true) := Lib.hid fun h j hj hjk => by
        by_cases e : j = k
        · subst e; exact h
        · exact hg.out.1 j hj (by omega)
      have HG := Lib.hid (And.intro (hg.out.2.1.alloc (.cells (stripA ss[k].x ss[k].f ss[k].t) StripT)) (below_alloc2 hg.out.2.2 (.cells (stripA ss[k].x ss[k].f ss[k].t) StripT)))
      have C1 := Lib.hid (fun W => FS.out ss[k] W)
      clear hg hr HBS HBR HOK HRP
      generalize Fl.okS ss[k] = o at *
      generalize ss[k] = a at *
      have hoo : o = true ∨ o = false := by cases o <;> simp
      rcases hoo with ho | ho
      · have HI := Lib.hid (HI.out ho)
        rw [ho] at C1
        clear ho HB1
        go_wp2_with fail
        refine (C1.out _).mono ?_
        rintro e w1 ⟨rfl, hb1⟩
        have HG1 := Lib.hid (And.intro (HG.out.1.below hb1 HG.out.1.lt) (below_step HG.out.2 hb1))
        clear hb1 HG c0 c1 c2
        go_wp2
        go_roundw
        case rel => exact ⟨k + 1, by omega, by go_num, Lib.hid ⟨HI.out, HG1.out⟩⟩
        case measure => simp [intOf]; omega
      · have HE := Lib.hid (HB1.out ho)
        rw [ho] at C1
        clear ho HI HB1
        go_wp2_with fail
        refine (C1.out _).mono ?_
        rintro e w1 ⟨rfl, hb1⟩
        have HG1 := Lib.hid (below_step HG.out.2 hb1)
        clear hb1 HG c0 c1 c2
        go_wp2
        go_ret
        exact ⟨by rw [HE.out]; rfl, HG1.out⟩
    · have HSA := Lib.hid (show ∀ j (hj : j < ss.length), Fl.okS ss[j] = true from fun j hj => hg.out.1 j hj (by omega))
      have HG := Lib.hid hg.out.2
      have y1 : World.cell? _ _ = some (.slice ra rs.length rc) := hg.out.2.1.cell 1
      have hdk : decide ((k : Int) < (ss.length : Int)) = false := decide_eq_false (by omega)
      have hdk2 : decide (k < ss.length) = false := decide_eq_false hlt
      clear hg
      go_wp2
      clear y1
      go_loopw [31] (fun t wr => ∃ k : Nat, k ≤ rs.length ∧ t = .int .i64 k ∧ Hid ((∀ j (hj : j < rs.length), j < k → Fl.okM M rs[j] = true) ∧ BlockAt wr w.heap.size #[.slice sa ss.length sc, .slice ra rs.length rc, .int .i64 m] JobT ∧ Below w.heap.size w wr)) (fun t _ => rs.length - (intOf t).toNat)
      case atStart => exact ⟨0, Nat.zero_le _, rfl, Lib.hid ⟨fun j _ h => absurd h (Nat.not_lt_zero _), HG.out⟩⟩
      case round =>
        obtain ⟨k2, hk2, rfl, hg⟩ := hrel
        clear HG
        by_cases hlt2 : k2 < rs.length
        · obtain ⟨b, off, rfl, hb, hr⟩ := HRK.out k2 hlt2
          obtain ⟨c0, c1, c2⟩ := rol_at (hr.below hg.out.2.2 hb)
          have HB1 := Lib.hid (HBR.out k2 hlt2)
          have HI : Hid (Fl.okM M rs[k2] = true → ∀ j (hj : j < rs.length), j < k2 + 1 → Fl.okM M rs[j] = true) := Lib.hid fun h j hj hjk => by
            by_cases e : j = k2
            · subst e; exact h
            · exact hg.out.1 j hj (by omega)
          have HG := Lib.hid (And.intro (hg.out.2.1.alloc (.cells (rolA rs[k2]) RolT)) (below_alloc2 hg.out.2.2 (.cells (rolA rs[k2]) RolT)))
          have y2 : World.cell? _ _ = some (.int .i64 m) := HG.out.1.cell 2
          have C1 := Lib.hid (fun W => FR.out rs[k2] W)
          clear hg hr HBS HBR HOK HRP
          generalize Fl.okM M rs[k2] = o at *
          generalize rs[k2] = a at *
          have hoo : o = true ∨ o = false := by cases o <;> simp
          rcases hoo with ho | ho
          · have HI := Lib.hid (HI.out ho)
            rw [ho] at C1
            clear ho HB1
            go_wp2_with fail
            refine (C1.out _).mono ?_
            rintro e w1 ⟨rfl, hb1⟩
            have HG1 := Lib.hid (And.intro (HG.out.1.below hb1 HG.out.1.lt) (below_step HG.out.2 hb1))
            clear hb1 HG c0 c1 c2 y2
            go_wp2
            go_roundw
            case rel => exact ⟨k2 + 1, by omega, by go_num, Lib.hid ⟨HI.out, HG1.out⟩⟩
            case measure => simp [intOf]; omega
          · have HE := Lib.hid (HB1.out ho)
            rw [ho] at C1
            clear ho HI HB1
            go_wp2_with fail
            refine (C1.out _).mono ?_
            rintro e w1 ⟨rfl, hb1⟩
            have HG1 := Lib.hid (below_step HG.out.2 hb1)
            clear hb1 HG c0 c1 c2 y2
            go_wp2
            go_ret
            exact ⟨by rw [HE.out]; rfl, HG1.out⟩
        · have HRA := Lib.hid (show ∀ j (hj : j < rs.length), Fl.okM M rs[j] = true from fun j hj => hg.out.1 j hj (by omega))
          have HG := Lib.hid hg.out.2.2
          have y2 : World.cell? _ _ = some (.int .i64 m) := hg.out.2.1.cell 2
          clear hg
          cases q : rng 1 144 m
          · have HE := Lib.hid (HRP.out fun hc => rng_no q hc)
            rw [q] at FP
            clear q
            go_wp2_with fail
            refine (FP.out _).mono ?_
            rintro e w1 ⟨rfl, rfl⟩
            go_wp2
            go_ret
            exact ⟨by rw [HE.out]; rfl, HG.out⟩
          · have HE := Lib.hid (HOK.out HSA.out HRA.out q)
            rw [q] at FP
            clear q
            go_wp2_with fail
            refine (FP.out _).mono ?_
            rintro e w1 ⟨rfl, rfl⟩
            go_wp2
            go_ret
            exact ⟨by rw [HE.out]; rfl, HG.out⟩
set_option maxRecDepth 20000 in
set_option maxHeartbeats 2000000 in
theorem places_any (sv rv : Value) (ss : List Fl.S) (m : Int) (c : Fl.C) (k : Nat) (w : World) (hs : Strips w sv ss) (hk : k < ss.length) (hc : c.s = k) (_hl : ss.length ≤ 1000) (ho : Fl.okS ss[k] = true) (ha0 : 0 ≤ c.a) (ha1 : c.a ≤ 1000000) :
    Calls Try.prog 125 #[jobV sv rv m, cutV c] w fun e w' => e = .returned (spanV c.a (c.a + ss[k].t - ss[k].f)) ∧ Below w.heap.size w w' := by
  obtain ⟨sa, sc, rfl, _, hsk⟩ := hs
  obtain ⟨b, off, rfl, hb, hr⟩ := hsk k hk
  obtain ⟨cs, cr, ca⟩ := c
  dsimp only at *
  subst hc
  have hw := below_alloc2 (below_alloc2 (below_alloc2 (Below.refl w.heap.size w) (.cells #[.slice (some ⟨b, off, none⟩) ss.length sc, rv, .int .i64 m] JobT)) (.cells (cutA ⟨k, cr, ca⟩) CutT)) (.cells #[.int .i64 0, .int .i64 0] SpanT)
  obtain ⟨c0, c1, c2⟩ := strip_at (hr.below hw hb)
  obtain ⟨o1, o2, o3, o4, o5⟩ := Fl.okS_iff.1 ho
  clear hsk hr hw ho
  generalize ss[k] = s at *
  go_enter Try.func125, Try.ntmps125
  go_wp2
  exact bodyPost_ret (v := spanV ca (ca + s.t - s.f)) (by simp [results, Try.results125, go_sem]) rfl ⟨rfl, by
    first
      | exact below_alloc2 (below_alloc2 (below_alloc2 (below_alloc2 (Below.refl _ _) _) _) _) _
      | exact below_set (below_set (below_alloc2 (below_alloc2 (below_alloc2 (below_alloc2 (Below.refl _ _) _) _) _) _) (by omega) _) (by omega) _⟩
end Go.Proofs.Ytpobkdbnldogcaa
