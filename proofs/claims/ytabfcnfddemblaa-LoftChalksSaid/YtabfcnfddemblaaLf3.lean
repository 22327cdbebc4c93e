/- Heights and ripeness: of the program and of the reference. -/
import Derived.Test.YtabfcnfddemblaaLf2
import Derived.Test.YtabfcnfddemblaaLfMa
namespace Go.Proofs.Ytabfcnfddemblaa.Lo
open Go.RowKit

theorem hgt_def (h : Lf.H) (p : Int) : Lf.hgt h p = min ((p + 2 * h.d - h.s) % (2 * h.d)) (2 * h.d - (p + 2 * h.d - h.s) % (2 * h.d)) := rfl
set_option maxRecDepth 100000 in
set_option maxHeartbeats 1000000 in
theorem height_any (h : Lf.H) (p : Int) (w : World) (hv : Lf.vH h = true) (hp : 0 ≤ p ∧ p ≤ 1000000) : Calls Try.prog 61 #[hangV h, .int .i64 p] w fun e w' => e = .returned (.int .i64 (Lf.hgt h p)) ∧ Below w.heap.size w w' := by
  obtain ⟨⟨d1, d2⟩, ⟨s1, s2⟩, _⟩ := Lf.vH_iff.1 hv
  obtain ⟨p1, p2⟩ := hp
  have HW := Lib.hid (And.intro (BlockAt.new w (hangA h) HangT) (below_alloc2 (Below.refl w.heap.size w) (.cells (hangA h) HangT)))
  have HD := Lib.hid (hgt_def h p)
  have x0 : World.cell? _ _ = some (.int .i64 h.d) := HW.out.1.cell 0
  have x1 : World.cell? _ _ = some (.int .i64 h.s) := HW.out.1.cell 1
  have q1 := Int.emod_nonneg (p + 2 * h.d - h.s) (show 2 * h.d ≠ 0 by omega)
  have q2 := Int.emod_lt_of_pos (p + 2 * h.d - h.s) (show 0 < 2 * h.d by omega)
  generalize Lf.hgt h p = E at *
  clear hv
  by_cases c : (p + 2 * h.d - h.s) % (2 * h.d) < 2 * h.d - (p + 2 * h.d - h.s) % (2 * h.d)
  · have HE : Hid (E = (p + 2 * h.d - h.s) % (2 * h.d)) := Lib.hid (by have := HD.out; omega)
    go_enter Try.func61, Try.ntmps61
    go_wp2
    all_goals
      go_ret
      exact ⟨ret_int (by have := HE.out; omega), HW.out.2⟩
  · have HE : Hid (E = 2 * h.d - (p + 2 * h.d - h.s) % (2 * h.d)) := Lib.hid (by have := HD.out; omega)
    go_enter Try.func61, Try.ntmps61
    go_wp2
    all_goals
      go_ret
      exact ⟨ret_int (by have := HE.out; omega), HW.out.2⟩
set_option maxRecDepth 100000 in
set_option maxHeartbeats 1000000 in
theorem rheight_any (h : Lf.H) (p : Int) (w : World) (hv : Lf.vH h = true) (hp : 0 ≤ p ∧ p ≤ 1000000) : Calls Try.prog 62 #[hangV h, .int .i64 p] w fun e w' => e = .returned (.int .i64 (Lf.hgt h p)) ∧ Below w.heap.size w w' := by
  obtain ⟨⟨d1, d2⟩, ⟨s1, s2⟩, _⟩ := Lf.vH_iff.1 hv
  obtain ⟨p1, p2⟩ := hp
  have HB := Lib.hid (BlockAt.new w (hangA h) RHangT).drew
  have HW := Lib.hid (And.intro (HgB.of (BlockAt.new w (hangA h) RHangT).drew) (below_drewN (below_alloc2 (Below.refl w.heap.size w) (.cells (hangA h) RHangT)) 1))
  have HD := Lib.hid (hgt_def h p)
  have q1 := Int.emod_nonneg (p + 2 * h.d - h.s) (show 2 * h.d ≠ 0 by omega)
  have q2 := Int.emod_lt_of_pos (p + 2 * h.d - h.s) (show 0 < 2 * h.d by omega)
  have hT : ∃ T : Int, (p - h.s).tmod (2 * h.d) = T ∧ (T + 2 * h.d).tmod (2 * h.d) = (p + 2 * h.d - h.s) % (2 * h.d) ∧ -2000 ≤ T ∧ T ≤ 2000 := by
    by_cases c : 0 ≤ p - h.s
    · have a0 := Int.emod_nonneg (p - h.s) (show 2 * h.d ≠ 0 by omega)
      have a1 := Int.emod_lt_of_pos (p - h.s) (show 0 < 2 * h.d by omega)
      refine ⟨(p - h.s) % (2 * h.d), Int.tmod_eq_emod_of_nonneg c, ?_, by omega, by omega⟩
      rw [Int.tmod_eq_emod_of_nonneg (by omega)]
      exact Lf.beh_pos d1 c
    · refine ⟨p - h.s, Lf.tmod_neg (by omega) (by omega), ?_, by omega, by omega⟩
      rw [Int.tmod_eq_emod_of_nonneg (by omega)]
      exact Lf.beh_neg c
  obtain ⟨T, t1, t2, t3, t4⟩ := hT
  generalize Lf.hgt h p = E at *
  generalize (p + 2 * h.d - h.s) % (2 * h.d) = R at *
  obtain ⟨hd, hs, hy, hr, hf⟩ := h
  dsimp only at *
  clear hv
  have HE : Hid (E = min R (2 * hd - R)) := HD
  clear HD
  have x0 : World.cell? _ _ = some (.int .i64 hd) := HB.out.cell 0
  by_cases c : R < 2 * hd - R
  all_goals
    have HF := Lib.hid (show E = _ from HE.out)
    go_enter Try.func62, Try.ntmps62
    go_upto_region 1 with fail
    have g0 : IntKind.i64.wrap (2 * hd) = 2 * hd := IntWalk.i64_in _ ⟨by omega, by omega⟩
    have g1 : IntKind.i64.wrap (p - hs) = p - hs := IntWalk.i64_in _ ⟨by omega, by omega⟩
    have g2 : (2 * hd == 0) = false := beq_eq_false_iff_ne.2 (by omega)
    have g3 : IntKind.i64.wrap T = T := IntWalk.i64_in _ ⟨by omega, by omega⟩
    have g4 : IntKind.i64.wrap (T + 2 * hd) = T + 2 * hd := IntWalk.i64_in _ ⟨by omega, by omega⟩
    have g5 : IntKind.i64.wrap R = R := IntWalk.i64_in _ ⟨by omega, by omega⟩
    have g6 : 2 * hd ≠ 0 := by omega
    refine wp_region_seq [(0, true), (1, true), (2, true), (3, true), (4, true), (5, true), (6, true), (7, true), (8, true), (9, true), (10, true), (11, true), (12, true), (13, true), (14, true), (15, true), (16, true)] (fun W => HgB w.heap.size ⟨hd, hs, hy, hr, hf⟩ W)
      (by kernel_rfl) (by kernel_rfl) (by kernel_rfl) (by kernel_rfl) (fun d _ _ _ _ h => by cases d <;> exact h) HW.out.1 (fun _ => ?_)
    repeat (first | (refine SeqH.take (v := ?_) rfl (by rfl) ?_ ?_; rotate_left; (· intro w hSw; (try dsimp only at hSw); obtain ⟨⟨a0, a1, a2, a3, a4⟩, _⟩ := hSw; go_simp; (try with_reducible rfl)); simp only [Act.put, List.setIfInBounds_toArray, List.set_cons_zero, List.set_cons_succ]) | (refine SeqH.skip rfl (by rfl) ?_; simp only [Act.put, List.setIfInBounds_toArray, List.set_cons_zero, List.set_cons_succ]))
    refine SeqH.done ?_
    clear g0 g1 g2 g3 g4 g5 g6 t1 t2
    go_wp2
    all_goals
      go_ret
      exact ⟨ret_int (by have := HF.out; omega), HW.out.2⟩
set_option maxRecDepth 100000 in
set_option maxHeartbeats 1000000 in
theorem heightF_any (h : Lf.H) (p : Int) (w : World) : Calls Try.prog 20 #[hangV h, .int .i64 p] w fun e w' => e = .returned (.tuple #[.int .i64 (Lf.hgtR h p), .int .i64 (Lf.hgtE h p)]) ∧ Below w.heap.size w w' := by
  have HW := Lib.hid (And.intro (HgB.of (BlockAt.new w (hangA h) HangT)) (below_alloc2 (Below.refl w.heap.size w) (.cells (hangA h) HangT)))
  have CV := Lib.hid (fun W => vHang_any h W)
  have CR := Lib.hid (fun W => isPlace_any p W)
  have CH := Lib.hid (fun W hv hp => height_any h p W hv hp)
  have HE : Hid (Lf.hgtE h p = if (Lf.vH h && Lf.rng 0 1000000 p) = true then 0 else 1) := Lib.hid rfl
  have HR : Hid (Lf.hgtR h p = if Lf.hgtE h p = 0 then Lf.hgt h p else 0) := Lib.hid rfl
  have y0 : World.cell? _ _ = some (.int .i64 h.d) := HW.out.1.1.1
  have y1 : World.cell? _ _ = some (.int .i64 h.s) := HW.out.1.1.2.1
  have y2 : World.cell? _ _ = some (.int .i64 h.y) := HW.out.1.1.2.2.1
  have y3 : World.cell? _ _ = some (.int .i64 h.r) := HW.out.1.1.2.2.2.1
  have y4 : World.cell? _ _ = some (.int .i64 h.f) := HW.out.1.1.2.2.2.2
  cases hv : Lf.vH h
  · have e1 : Lf.hgtE h p = 1 := by rw [HE.out, hv]; rfl
    have e2 : Lf.hgtR h p = 0 := by rw [HR.out, if_neg (by omega)]
    rw [e1, e2]
    rw [hv] at CV
    clear e1 e2 hv CR CH HE HR
    go_enter Try.func20, Try.ntmps20
    go_wp2_with fail
    refine (CV.out _).mono ?_
    rintro e w7 ⟨rfl, hb1⟩
    have HN := Lib.hid (below_step HW.out.2 hb1)
    clear hb1 y0 y1 y2 y3 y4
    go_wp2
    go_ret2
    exact ⟨rfl, HN.out⟩
  cases hr : Lf.rng 0 1000000 p
  · have e1 : Lf.hgtE h p = 1 := by rw [HE.out, hv, hr]; rfl
    have e2 : Lf.hgtR h p = 0 := by rw [HR.out, if_neg (by omega)]
    rw [e1, e2]
    rw [hv] at CV
    rw [hr] at CR
    clear e1 e2 hv hr CH HE HR
    go_enter Try.func20, Try.ntmps20
    go_wp2_with fail
    refine (CV.out _).mono ?_
    rintro e w7 ⟨rfl, hb1⟩
    have HN := Lib.hid (below_step HW.out.2 hb1)
    clear hb1 y0 y1 y2 y3 y4
    go_wp2_with fail
    refine (CR.out _).mono ?_
    rintro e w8 ⟨rfl, rfl⟩
    go_wp2
    go_ret2
    exact ⟨rfl, HN.out⟩
  have e1 : Lf.hgtE h p = 0 := by rw [HE.out, hv, hr]; rfl
  have e2 : Lf.hgtR h p = Lf.hgt h p := by rw [HR.out, if_pos e1]
  rw [e1, e2]
  have CH1 := Lib.hid (fun W => CH.out W hv (Lf.rng_iff.1 hr))
  rw [hv] at CV
  rw [hr] at CR
  clear e1 e2 hv hr CH HE HR
  generalize Lf.hgt h p = E at *
  go_enter Try.func20, Try.ntmps20
  go_wp2_with fail
  refine (CV.out _).mono ?_
  rintro e w7 ⟨rfl, hb1⟩
  have HN := Lib.hid (And.intro (HW.out.1.below hb1 HW.out.1.2) (below_step HW.out.2 hb1))
  clear hb1 y0 y1 y2 y3 y4
  go_wp2_with fail
  refine (CR.out _).mono ?_
  rintro e w8 ⟨rfl, rfl⟩
  have y0 : World.cell? _ _ = some (.int .i64 h.d) := HN.out.1.1.1
  have y1 : World.cell? _ _ = some (.int .i64 h.s) := HN.out.1.1.2.1
  have y2 : World.cell? _ _ = some (.int .i64 h.y) := HN.out.1.1.2.2.1
  have y3 : World.cell? _ _ = some (.int .i64 h.r) := HN.out.1.1.2.2.2.1
  have y4 : World.cell? _ _ = some (.int .i64 h.f) := HN.out.1.1.2.2.2.2
  go_wp2_with fail
  refine (CH1.out _).mono ?_
  rintro e w9 ⟨rfl, hb1⟩
  have HN2 := Lib.hid (below_step HN.out.2 hb1)
  clear hb1 y0 y1 y2 y3 y4
  go_wp2
  go_ret2
  exact ⟨rfl, HN2.out⟩
set_option maxRecDepth 100000 in
set_option maxHeartbeats 1000000 in
theorem rheightF_any (h : Lf.H) (p : Int) (w : World) : Calls Try.prog 21 #[hangV h, .int .i64 p] w fun e w' => e = .returned (.tuple #[.int .i64 (Lf.hgtR h p), .int .i64 (Lf.hgtE h p)]) ∧ Below w.heap.size w w' := by
  have HW := Lib.hid (And.intro (HgB.of (BlockAt.new w (hangA h) RHangT)) (below_alloc2 (Below.refl w.heap.size w) (.cells (hangA h) RHangT)))
  have CV := Lib.hid (fun W => rvHang_any h W)
  have CR := Lib.hid (fun W => within_any p 0 1000000 W)
  have CH := Lib.hid (fun W hv hp => rheight_any h p W hv hp)
  have HE : Hid (Lf.hgtE h p = if (Lf.vH h && Lf.rng 0 1000000 p) = true then 0 else 1) := Lib.hid rfl
  have HR : Hid (Lf.hgtR h p = if Lf.hgtE h p = 0 then Lf.hgt h p else 0) := Lib.hid rfl
  have y0 : World.cell? _ _ = some (.int .i64 h.d) := HW.out.1.1.1
  have y1 : World.cell? _ _ = some (.int .i64 h.s) := HW.out.1.1.2.1
  have y2 : World.cell? _ _ = some (.int .i64 h.y) := HW.out.1.1.2.2.1
  have y3 : World.cell? _ _ = some (.int .i64 h.r) := HW.out.1.1.2.2.2.1
  have y4 : World.cell? _ _ = some (.int .i64 h.f) := HW.out.1.1.2.2.2.2
  cases hv : Lf.vH h
  · have e1 : Lf.hgtE h p = 1 := by rw [HE.out, hv]; rfl
    have e2 : Lf.hgtR h p = 0 := by rw [HR.out, if_neg (by omega)]
    rw [e1, e2]
    rw [hv] at CV
    clear e1 e2 hv CR CH HE HR
    go_enter Try.func21, Try.ntmps21
    go_wp2_with fail
    refine (CV.out _).mono ?_
    rintro e w7 ⟨rfl, hb1⟩
    have HN := Lib.hid (below_step HW.out.2 hb1)
    clear hb1 y0 y1 y2 y3 y4
    go_wp2
    go_ret2
    exact ⟨rfl, HN.out⟩
  cases hr : Lf.rng 0 1000000 p
  · have e1 : Lf.hgtE h p = 1 := by rw [HE.out, hv, hr]; rfl
    have e2 : Lf.hgtR h p = 0 := by rw [HR.out, if_neg (by omega)]
    rw [e1, e2]
    rw [hv] at CV
    rw [hr] at CR
    clear e1 e2 hv hr CH HE HR
    go_enter Try.func21, Try.ntmps21
    go_wp2_with fail
    refine (CV.out _).mono ?_
    rintro e w7 ⟨rfl, hb1⟩
    have HN := Lib.hid (below_step HW.out.2 hb1)
    clear hb1 y0 y1 y2 y3 y4
    go_wp2_with fail
    refine (CR.out _).mono ?_
    rintro e w8 ⟨rfl, rfl⟩
    go_wp2
    go_ret2
    exact ⟨rfl, HN.out⟩
  have e1 : Lf.hgtE h p = 0 := by rw [HE.out, hv, hr]; rfl
  have e2 : Lf.hgtR h p = Lf.hgt h p := by rw [HR.out, if_pos e1]
  rw [e1, e2]
  have CH1 := Lib.hid (fun W => CH.out W hv (Lf.rng_iff.1 hr))
  rw [hv] at CV
  rw [hr] at CR
  clear e1 e2 hv hr CH HE HR
  generalize Lf.hgt h p = E at *
  go_enter Try.func21, Try.ntmps21
  go_wp2_with fail
  refine (CV.out _).mono ?_
  rintro e w7 ⟨rfl, hb1⟩
  have HN := Lib.hid (And.intro (HW.out.1.below hb1 HW.out.1.2) (below_step HW.out.2 hb1))
  clear hb1 y0 y1 y2 y3 y4
  go_wp2_with fail
  refine (CR.out _).mono ?_
  rintro e w8 ⟨rfl, rfl⟩
  have y0 : World.cell? _ _ = some (.int .i64 h.d) := HN.out.1.1.1
  have y1 : World.cell? _ _ = some (.int .i64 h.s) := HN.out.1.1.2.1
  have y2 : World.cell? _ _ = some (.int .i64 h.y) := HN.out.1.1.2.2.1
  have y3 : World.cell? _ _ = some (.int .i64 h.r) := HN.out.1.1.2.2.2.1
  have y4 : World.cell? _ _ = some (.int .i64 h.f) := HN.out.1.1.2.2.2.2
  go_wp2_with fail
  refine (CH1.out _).mono ?_
  rintro e w9 ⟨rfl, hb1⟩
  have HN2 := Lib.hid (below_step HN.out.2 hb1)
  clear hb1 y0 y1 y2 y3 y4
  go_wp2
  go_ret2
  exact ⟨rfl, HN2.out⟩
set_option maxRecDepth 100000 in
set_option maxHeartbeats 1000000 in
theorem vHangs_any (v : Value) (l : List Lf.H) (w : World) (hl : Hangs w v l) : Calls Try.prog 63 #[v] w fun e w' => e = .returned (.int .i64 (Lf.vlE l)) ∧ Below w.heap.size w w' := by
  obtain ⟨ao, c, rfl, _, hlk⟩ := hl
  have HK := Lib.hid hlk
  have hw0 := Lib.hid (Below.refl w.heap.size w)
  have FV := Lib.hid (fun h W => vHang_any h W)
  clear hlk
  by_cases h8 : 8 < l.length
  · have HE := Lib.hid (Lf.vlE_long h8)
    generalize Lf.vlE l = E at *
    go_enter Try.func63, Try.ntmps63
    go_wp2
    go_ret
    exact ⟨ret_int HE.out.symm, hw0.out⟩
  have hd8 : decide (8 < (l.length : Int)) = false := decide_eq_false (by omega)
  have HBad := Lib.hid (fun k (hk : k < l.length) h => Lf.vlE_bad h8 hk h)
  have HOk := Lib.hid (fun h => Lf.vlE_ok h8 h)
  generalize Lf.vlE l = E at *
  go_enter Try.func63, Try.ntmps63
  go_wp2
  go_loopw [10] (fun t wr => ∃ k : Nat, k ≤ l.length ∧ t = .int .i64 k ∧ Hid ((∀ j (hj : j < l.length), j < k → Lf.vH l[j] = true) ∧ Below w.heap.size w wr)) (fun t _ => l.length - (intOf t).toNat)
  case atStart => exact ⟨0, Nat.zero_le _, rfl, Lib.hid ⟨fun j _ h => absurd h (Nat.not_lt_zero _), hw0.out⟩⟩
  case round =>
    obtain ⟨k, hk, rfl, hg⟩ := hrel
    clear hw0
    by_cases hlt : k < l.length
    · obtain ⟨b, off, rfl, hb, hr⟩ := HK.out k hlt
      obtain ⟨c0, c1, c2, c3, c4⟩ := hang_at (hr.below hg.out.2 hb)
      have HB1 := Lib.hid (HBad.out k hlt)
      have HI : Hid (Lf.vH l[k] = true → ∀ j (hj : j < l.length), j < k + 1 → Lf.vH l[j] = true) := Lib.hid fun h j hj hjk => by
        by_cases e : j = k
        · subst e; exact h
        · exact hg.out.1 j hj (by omega)
      have HG := Lib.hid (below_alloc2 hg.out.2 (.cells (hangA l[k]) HangT))
      have CV := Lib.hid (fun W => FV.out l[k] W)
      clear hg hr HBad FV
      generalize hV : Lf.vH l[k] = o at *
      clear hV
      generalize l[k] = a at *
      obtain ⟨hd, hs, hy, hr, hf⟩ := a
      dsimp only at *
      cases o
      · have HE := Lib.hid (HB1.out rfl)
        clear HI HB1
        go_wp2_with fail
        refine (CV.out _).mono ?_
        rintro e w7 ⟨rfl, hb1⟩
        have HN := Lib.hid (below_step HG.out hb1)
        clear hb1 c0 c1 c2 c3 c4
        go_wp2
        go_ret
        exact ⟨ret_int HE.out.symm, HN.out⟩
      · have HI2 := Lib.hid (HI.out rfl)
        clear HB1 HI
        go_wp2_with fail
        refine (CV.out _).mono ?_
        rintro e w7 ⟨rfl, hb1⟩
        have HN := Lib.hid (below_step HG.out hb1)
        clear hb1 c0 c1 c2 c3 c4
        go_wp2
        go_roundw
        case rel => exact ⟨k + 1, by omega, by go_num, Lib.hid ⟨HI2.out, HN.out⟩⟩
        case measure => simp [intOf]; omega
    · obtain rfl : k = l.length := by omega
      have HE := Lib.hid (HOk.out fun j hj => hg.out.1 j hj hj)
      have HG := Lib.hid hg.out.2
      clear hg
      go_wp2
      go_ret
      exact ⟨ret_int HE.out.symm, HG.out⟩
set_option maxRecDepth 100000 in
set_option maxHeartbeats 1000000 in
theorem rvHangs_any (v : Value) (l : List Lf.H) (w : World) (hl : Hangs w v l) : Calls Try.prog 65 #[v] w fun e w' => e = .returned (.int .i64 (Lf.vlE l)) ∧ Below w.heap.size w w' := by
  obtain ⟨ao, c, rfl, _, hlk⟩ := hl
  have HK := Lib.hid hlk
  have hw0 := Lib.hid (Below.refl w.heap.size w)
  have FV := Lib.hid (fun h W => rvHang_any h W)
  clear hlk
  by_cases h8 : 8 < l.length
  · have HE := Lib.hid (Lf.vlE_long h8)
    generalize Lf.vlE l = E at *
    go_enter Try.func65, Try.ntmps65
    go_wp2
    go_ret
    exact ⟨ret_int HE.out.symm, hw0.out⟩
  have hd8 : decide (8 < (l.length : Int)) = false := decide_eq_false (by omega)
  have HBad := Lib.hid (fun k (hk : k < l.length) h => Lf.vlE_bad h8 hk h)
  have HOk := Lib.hid (fun h => Lf.vlE_ok h8 h)
  generalize Lf.vlE l = E at *
  go_enter Try.func65, Try.ntmps65
  go_wp2
  go_loopw [3] (fun t wr => ∃ k : Nat, k ≤ l.length ∧ t = .int .i64 k ∧ Hid ((∀ j (hj : j < l.length), j < k → Lf.vH l[j] = true) ∧ Below w.heap.size w wr)) (fun t _ => l.length - (intOf t).toNat)
  case atStart => exact ⟨0, Nat.zero_le _, rfl, Lib.hid ⟨fun j _ h => absurd h (Nat.not_lt_zero _), hw0.out⟩⟩
  case round =>
    obtain ⟨k, hk, rfl, hg⟩ := hrel
    clear hw0
    by_cases hlt : k < l.length
    · obtain ⟨b, off, rfl, hb, hr⟩ := HK.out k hlt
      obtain ⟨c0, c1, c2, c3, c4⟩ := hang_at (hr.below hg.out.2 hb)
      have HB1 := Lib.hid (HBad.out k hlt)
      have HI : Hid (Lf.vH l[k] = true → ∀ j (hj : j < l.length), j < k + 1 → Lf.vH l[j] = true) := Lib.hid fun h j hj hjk => by
        by_cases e : j = k
        · subst e; exact h
        · exact hg.out.1 j hj (by omega)
      have HG := Lib.hid hg.out.2
      have CV := Lib.hid (fun W => FV.out l[k] W)
      clear hg hr HBad FV
      generalize hV : Lf.vH l[k] = o at *
      clear hV
      generalize l[k] = a at *
      obtain ⟨hd, hs, hy, hr, hf⟩ := a
      dsimp only at *
      cases o
      · have HE := Lib.hid (HB1.out rfl)
        clear HI HB1
        go_wp2_with fail
        refine (CV.out _).mono ?_
        rintro e w7 ⟨rfl, hb1⟩
        have HN := Lib.hid (below_step HG.out hb1)
        clear hb1 c0 c1 c2 c3 c4
        go_wp2
        go_ret
        exact ⟨ret_int HE.out.symm, HN.out⟩
      · have HI2 := Lib.hid (HI.out rfl)
        clear HB1 HI
        go_wp2_with fail
        refine (CV.out _).mono ?_
        rintro e w7 ⟨rfl, hb1⟩
        have HN := Lib.hid (below_step HG.out hb1)
        clear hb1 c0 c1 c2 c3 c4
        go_wp2
        go_roundw
        case rel => exact ⟨k + 1, by omega, by go_num, Lib.hid ⟨HI2.out, HN.out⟩⟩
        case measure => simp [intOf]; omega
    · obtain rfl : k = l.length := by omega
      have HE := Lib.hid (HOk.out fun j hj => hg.out.1 j hj hj)
      have HG := Lib.hid hg.out.2
      clear hg
      go_wp2
      go_ret
      exact ⟨ret_int HE.out.symm, HG.out⟩
end Go.Proofs.Ytabfcnfddemblaa.Lo
