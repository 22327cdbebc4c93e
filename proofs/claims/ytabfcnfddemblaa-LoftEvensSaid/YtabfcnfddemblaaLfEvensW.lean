/- LoftEvens returns true, whatever the hanging and the length. -/
import Derived.Test.YtabfcnfddemblaaLfS
namespace Go.Proofs.Ytabfcnfddemblaa.Lo
open Go.RowKit

theorem ev_bd {h : Lf.H} (hv : Lf.vH h = true) : (0 ≤ h.f * h.d ∧ h.f * h.d ≤ h.r) ∧ 0 ≤ h.y * (2 * h.r - h.f * h.d) ∧ h.y * (2 * h.r - h.f * h.d) ≤ 2400000 := by
  obtain ⟨⟨d1, d2⟩, _, ⟨y1, y2⟩, ⟨r1, r2⟩, ⟨f1, f2⟩⟩ := Lf.vH_iff.1 hv
  have a1 : 0 ≤ h.f * h.d := Int.mul_nonneg f1 (by omega)
  have a2 : h.f * h.d ≤ h.r / h.d * h.d := Int.mul_le_mul_of_nonneg_right f2 (by omega)
  have a3 : h.r / h.d * h.d ≤ h.r := Int.ediv_mul_le _ (by omega)
  refine ⟨⟨a1, by omega⟩, Int.mul_nonneg y1 (by omega), ?_⟩
  have b1 : h.y * (2 * h.r - h.f * h.d) ≤ 12 * (2 * h.r - h.f * h.d) := Int.mul_le_mul_of_nonneg_right y2 (by omega)
  omega
theorem ev_is (h : Lf.H) : Lf.ev h = ⟨h.d, (h.s + h.d) % (2 * h.d), h.y, h.r, h.f⟩ := rfl
set_option maxRecDepth 100000 in
set_option maxHeartbeats 8000000 in
theorem evens_walk (h : Lf.H) (n : Int) (w : World) : Calls Try.prog 5 #[hangV h, .int .i64 n] w fun e w' => e = .returned (.bool true) ∧ Below w.heap.size w w' := by
  have HW := Lib.hid (And.intro (HgB.of (BlockAt.new w (hangA h) 23)) (below_alloc2 (Below.refl w.heap.size w) (.cells (hangA h) 23)))
  have CM := Lib.hid (fun W => mine_any h W)
  have CV := Lib.hid (fun W => vHang_any h W)
  have CR := Lib.hid (fun v W hv => rangeF_any v [h, Lf.ev h] n W hv)
  have CS := Lib.hid (fun W => sane_any W)
  have HEV := Lib.hid (fun hv h1 h2 => Lf.ev_ran (h := h) (n := n) hv h1 h2)
  have HBD := Lib.hid (fun hv => ev_bd (h := h) hv)
  have HIS := Lib.hid (ev_is h)
  have HLEN : Hid (([h, Lf.ev h] : List Lf.H).length = 2) := Lib.hid rfl
  have HVI := Lib.hid (fun hv => Lf.vH_iff (h := h).1 hv)
  have y0 : World.cell? _ _ = some (.int .i64 h.d) := HW.out.1.1.1
  have y1 : World.cell? _ _ = some (.int .i64 h.s) := HW.out.1.1.2.1
  have y2 : World.cell? _ _ = some (.int .i64 h.y) := HW.out.1.1.2.2.1
  have y3 : World.cell? _ _ = some (.int .i64 h.r) := HW.out.1.1.2.2.2.1
  have y4 : World.cell? _ _ = some (.int .i64 h.f) := HW.out.1.1.2.2.2.2
  cases hv : Lf.vH h
  all_goals
    obtain ⟨hd, hs, hy, hr, hf⟩ := h
    dsimp only at y0 y1 y2 y3 y4
  · rw [hv] at CV
    clear hv CR HEV HBD HIS HLEN HVI
    go_enter Try.func5, Try.ntmps5
    go_wp2_with fail
    refine (CM.out _).mono ?_
    rintro e w1 ⟨rfl, hb1⟩
    have H1 := Lib.hid (below_alloc2 (below_alloc2 (below_step HW.out.2 hb1) (.cells (hangA ⟨hd, hs, hy, hr, hf⟩) HangT)) (.cells (hangA ⟨hd, hs, hy, hr, hf⟩) HangT))
    clear hb1 y0 y1 y2 y3 y4
    go_wp2_with fail
    refine (CV.out _).mono ?_
    rintro e w2 ⟨rfl, hb1⟩
    have H2 := Lib.hid (below_step H1.out hb1)
    clear hb1
    go_wp2_with fail
    refine (CS.out _).mono ?_
    rintro e w3 ⟨rfl, hb1⟩
    have H3 := Lib.hid (below_step H2.out hb1)
    clear hb1
    go_wp2
    go_ret
    exact ⟨rfl, H3.out⟩
  by_cases hn1 : n < 1
  · rw [hv] at CV
    clear hv CR HEV HBD HIS HLEN HVI
    go_enter Try.func5, Try.ntmps5
    go_wp2_with fail
    refine (CM.out _).mono ?_
    rintro e w1 ⟨rfl, hb1⟩
    have H1 := Lib.hid (below_alloc2 (below_alloc2 (below_step HW.out.2 hb1) (.cells (hangA ⟨hd, hs, hy, hr, hf⟩) HangT)) (.cells (hangA ⟨hd, hs, hy, hr, hf⟩) HangT))
    clear hb1 y0 y1 y2 y3 y4
    go_wp2_with fail
    refine (CV.out _).mono ?_
    rintro e w2 ⟨rfl, hb1⟩
    have H2 := Lib.hid (below_step H1.out hb1)
    clear hb1
    go_wp2_with fail
    refine (CS.out _).mono ?_
    rintro e w3 ⟨rfl, hb1⟩
    have H3 := Lib.hid (below_step H2.out hb1)
    clear hb1
    go_wp2
    go_ret
    exact ⟨rfl, H3.out⟩
  by_cases hn2 : 4000 < n
  · rw [hv] at CV
    clear hv CR HEV HBD HIS HLEN HVI
    go_enter Try.func5, Try.ntmps5
    go_wp2_with fail
    refine (CM.out _).mono ?_
    rintro e w1 ⟨rfl, hb1⟩
    have H1 := Lib.hid (below_alloc2 (below_alloc2 (below_step HW.out.2 hb1) (.cells (hangA ⟨hd, hs, hy, hr, hf⟩) HangT)) (.cells (hangA ⟨hd, hs, hy, hr, hf⟩) HangT))
    clear hb1 y0 y1 y2 y3 y4
    go_wp2_with fail
    refine (CV.out _).mono ?_
    rintro e w2 ⟨rfl, hb1⟩
    have H2 := Lib.hid (below_step H1.out hb1)
    clear hb1
    go_wp2_with fail
    refine (CS.out _).mono ?_
    rintro e w3 ⟨rfl, hb1⟩
    have H3 := Lib.hid (below_step H2.out hb1)
    clear hb1
    go_wp2
    go_ret
    exact ⟨rfl, H3.out⟩
  obtain ⟨e1, e2, e3⟩ := HEV.out hv (by omega) (by omega)
  obtain ⟨⟨f1, f2⟩, g1, g2⟩ := HBD.out hv
  obtain ⟨⟨d1, d2⟩, ⟨s1, s2⟩, ⟨t1, t2⟩, ⟨r1, r2⟩, _⟩ := HVI.out hv
  rw [e1, e2, e3] at CR
  have HEVR : Hid (Lf.evR ⟨hd, hs, hy, hr, hf⟩ = hy * (2 * hr - hf * hd)) := Lib.hid rfl
  rw [HEVR.out] at CR
  rw [hv] at CV
  dsimp only at f1 f2 g1 g2 d1 d2 s1 s2 t1 t2 r1 r2
  rw [HIS.out] at CR
  clear hv HEV HBD HIS HVI HEVR e1 e2 e3
  have q1 := Int.emod_nonneg (hs + hd) (show 2 * hd ≠ 0 by omega)
  have q2 := Int.emod_lt_of_pos (hs + hd) (show 0 < 2 * hd by omega)
  go_enter Try.func5, Try.ntmps5
  go_wp2_with fail
  refine (CM.out _).mono ?_
  rintro e w1 ⟨rfl, hb1⟩
  have hB5 := (BlockAt.new w1 (hangA ⟨hd, hs, hy, hr, hf⟩) HangT).alloc (.cells (hangA ⟨hd, hs, hy, hr, hf⟩) HangT)
  have hB6 := BlockAt.new (w1.alloc (.cells (hangA ⟨hd, hs, hy, hr, hf⟩) HangT)) (hangA ⟨hd, hs, hy, hr, hf⟩) HangT
  simp only [World.size_alloc] at hB6
  have H1 := Lib.hid (And.intro (And.intro hB5 hB6) (below_alloc2 (below_alloc2 (below_step HW.out.2 hb1) (.cells (hangA ⟨hd, hs, hy, hr, hf⟩) HangT)) (.cells (hangA ⟨hd, hs, hy, hr, hf⟩) HangT)))
  have hsz := (below_step HW.out.2 hb1).size
  clear hb1 y0 y1 y2 y3 y4 hB5 hB6
  go_wp2_with fail
  refine (CV.out _).mono ?_
  rintro e w2 ⟨rfl, hb1⟩
  have H2 := Lib.hid (And.intro (And.intro (H1.out.1.1.below hb1 (by simp; omega)) (H1.out.1.2.below hb1 (by simp))) (below_step H1.out.2 hb1))
  clear hb1 H1
  have hB6s := H2.out.1.2.set 1 (.int .i64 ((hs + hd) % (2 * hd)))
  have hB5s := H2.out.1.1.other (show w1.heap.size ≠ w1.heap.size + 1 by omega) (i := 1) (.int .i64 ((hs + hd) % (2 * hd)))
  have H3 := Lib.hid (And.intro (And.intro hB5s hB6s) (below_set H2.out.2 (show w.heap.size ≤ w1.heap.size + 1 by omega) (j := 1) (.int .i64 ((hs + hd) % (2 * hd)))))
  have y0 : World.cell? _ _ = some (.int .i64 hd) := H2.out.1.1.cell 0
  have y1 : World.cell? _ _ = some (.int .i64 hs) := H2.out.1.1.cell 1
  have y2 : World.cell? _ _ = some (.int .i64 hy) := H2.out.1.1.cell 2
  have y3 : World.cell? _ _ = some (.int .i64 hr) := H2.out.1.1.cell 3
  have y4 : World.cell? _ _ = some (.int .i64 hf) := H2.out.1.1.cell 4
  have z0 : World.cell? _ _ = some (.int .i64 hd) := H2.out.1.2.cell 0
  have z1 : World.cell? _ _ = some (.int .i64 hs) := H2.out.1.2.cell 1
  have z2 : World.cell? _ _ = some (.int .i64 hy) := H2.out.1.2.cell 2
  have z3 : World.cell? _ _ = some (.int .i64 hr) := H2.out.1.2.cell 3
  have z4 : World.cell? _ _ = some (.int .i64 hf) := H2.out.1.2.cell 4
  have zf := H2.out.1.2.frozen 1
  have hl6 := H2.out.1.2.lt
  clear hB6s hB5s
  have hL : BlockAt ((w2.setCell ⟨w1.heap.size + 1, 1, none⟩ (.int .i64 ((hs + hd) % (2 * hd)))).alloc (.cells #[.int .i64 hd, .int .i64 hs, .int .i64 hy, .int .i64 hr, .int .i64 hf, .int .i64 hd, .int .i64 ((hs + hd) % (2 * hd)), .int .i64 hy, .int .i64 hr, .int .i64 hf] HangT)) w2.heap.size #[.int .i64 hd, .int .i64 hs, .int .i64 hy, .int .i64 hr, .int .i64 hf, .int .i64 hd, .int .i64 ((hs + hd) % (2 * hd)), .int .i64 hy, .int .i64 hr, .int .i64 hf] HangT := by
    have := BlockAt.new (w2.setCell ⟨w1.heap.size + 1, 1, none⟩ (.int .i64 ((hs + hd) % (2 * hd)))) #[.int .i64 hd, .int .i64 hs, .int .i64 hy, .int .i64 hr, .int .i64 hf, .int .i64 hd, .int .i64 ((hs + hd) % (2 * hd)), .int .i64 hy, .int .i64 hr, .int .i64 hf] HangT
    simpa using this
  have CR1 := Lib.hid (CR.out _ _ (RowsOf.laid (n := 2) hangC_len hL rfl rfl))
  have H4 := Lib.hid (And.intro (H3.out.1.1.alloc (.cells #[.int .i64 hd, .int .i64 hs, .int .i64 hy, .int .i64 hr, .int .i64 hf, .int .i64 hd, .int .i64 ((hs + hd) % (2 * hd)), .int .i64 hy, .int .i64 hr, .int .i64 hf] HangT)) (below_alloc2 H3.out.2 (.cells #[.int .i64 hd, .int .i64 hs, .int .i64 hy, .int .i64 hr, .int .i64 hf, .int .i64 hd, .int .i64 ((hs + hd) % (2 * hd)), .int .i64 hy, .int .i64 hr, .int .i64 hf] HangT)))
  clear hL CR H2 H3 HLEN
  generalize hS : (hs + hd) % (2 * hd) = s9 at *
  generalize hF : hf * hd = FD at *
  generalize hY : hy * (2 * hr - FD) = X at *
  go_wp2_with fail
  refine CR1.out.mono ?_
  rintro e w3 ⟨rfl, hb1⟩
  have H5 := Lib.hid (And.intro (H4.out.1.below hb1 H4.out.1.lt) (below_step H4.out.2 hb1))
  clear hb1 H4 CR1 y0 y1 y2 y3 y4 z0 z1 z2 z3 z4 zf
  have y0 : World.cell? _ _ = some (.int .i64 hd) := H5.out.1.cell 0
  have y2 : World.cell? _ _ = some (.int .i64 hy) := H5.out.1.cell 2
  have y3 : World.cell? _ _ = some (.int .i64 hr) := H5.out.1.cell 3
  have y4 : World.cell? _ _ = some (.int .i64 hf) := H5.out.1.cell 4
  go_wp2_with fail
  refine (CS.out _).mono ?_
  rintro e w4 ⟨rfl, hb1⟩
  have H6 := Lib.hid (below_step H5.out.2 hb1)
  clear hb1
  go_wp2
  go_ret
  exact ⟨rfl, H6.out⟩
end Go.Proofs.Ytabfcnfddemblaa.Lo
