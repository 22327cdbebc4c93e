/- BandAgrees returns true, whatever the two lists of runs. -/
import Derived.Test.YtgnpbcgfhmhhgaaBand32
import Derived.Test.YtgnpbcgfhmhhgaaBand11
namespace Go.Proofs.Ytgnpbcgfhmhhgaa
open Go.RowKit

theorem Bd.agrees {a b : List Bd.R} (h : Bd.bothE a b = 0) : Bd.sliE a 0 (Bd.agrV a b) = 0 ∧ Bd.sliE b 0 (Bd.agrV a b) = 0 ∧ Bd.sliR a 0 (Bd.agrV a b) = Bd.sliR b 0 (Bd.agrV a b) ∧
    (Bd.atE a (Bd.agrV a b) = 5 ∨ (Bd.atE a (Bd.agrV a b) = 0 ∧ Bd.atE b (Bd.agrV a b) = 5) ∨ (Bd.atE a (Bd.agrV a b) = 0 ∧ Bd.atE b (Bd.agrV a b) = 0 ∧ Bd.atM a (Bd.agrV a b) ≠ Bd.atM b (Bd.agrV a b))) := by
  obtain ⟨h1, h2⟩ := Bd.bothE_zero.1 h
  have pa := Bd.valE_pos h1
  have pb := Bd.valE_pos h2
  have na := Bd.norm_nrm pa
  have nb := Bd.norm_nrm pb
  have hn : Bd.agrV a b = Bd.agr (Bd.norm a) (Bd.norm b) := by unfold Bd.agrV; rw [if_pos h]
  have hc := Bd.agr_cpl na nb
  rw [Bd.norm_exp pa, Bd.norm_exp pb, ← hn] at hc
  obtain ⟨b1, b2, b3⟩ := Bd.agr_bounds na nb
  rw [Bd.norm_len, ← hn] at b2
  rw [Bd.norm_len, ← hn] at b3
  rw [← hn] at b1
  clear hn na nb
  generalize Bd.agrV a b = n at *
  have fa := Bd.fine_of_valid h1
  have fb := Bd.fine_of_valid h2
  have s1 := Bd.sliE_ok h1 (Int.le_refl 0) b1 b2
  have s2 := Bd.sliE_ok h2 (Int.le_refl 0) b1 b3
  refine ⟨s1, s2, ?_, ?_⟩
  · unfold Bd.sliR
    rw [if_pos s1, if_pos s2]
    refine Bd.nrm_unique (Bd.norm_nrm (Bd.pos_cutL _ _ _)) (Bd.norm_nrm (Bd.pos_cutL _ _ _)) ?_
    rw [Bd.norm_exp (Bd.pos_cutL _ _ _), Bd.norm_exp (Bd.pos_cutL _ _ _), Bd.exp_cutL fa (Int.le_refl 0), Bd.exp_cutL fb (Int.le_refl 0)]
    have e : n.toNat = Bd.cpl (Bd.exp a) (Bd.exp b) := by omega
    rw [e, Bd.cpl_take]
  · by_cases c1 : Bd.len a ≤ n
    · exact .inl (Bd.at_none_of h1 (.inr c1)).1
    · by_cases c2 : Bd.len b ≤ n
      · exact .inr (.inl ⟨Bd.at_in h1 b1 (by omega), (Bd.at_none_of h2 (.inr c2)).1⟩)
      · refine .inr (.inr ⟨Bd.at_in h1 b1 (by omega), Bd.at_in h2 b1 (by omega), ?_⟩)
        have e : n.toNat = Bd.cpl (Bd.exp a) (Bd.exp b) := by omega
        have la := Bd.len_exp pa
        have lb := Bd.len_exp pb
        have hx := Bd.cpl_next (Bd.exp a) (Bd.exp b) (by omega) (by omega)
        unfold Bd.atM
        rw [if_pos ⟨h1, b1, by omega⟩, if_pos ⟨h2, b1, by omega⟩, e]
        rw [List.getElem?_eq_getElem (by omega), List.getElem?_eq_getElem (by omega)] at hx ⊢
        simpa using hx

set_option maxRecDepth 20000 in
set_option maxHeartbeats 4000000 in
theorem agrees_walk (v u : Value) (rs qs : List Bd.R) (w : World) (hv : Runs w v rs) (hu : Runs w u qs) :
    Calls Try.prog 11 #[v, u] w fun e w' => e = .returned (.bool true) ∧ Below w.heap.size w w' := by
  by_cases hl : 100 < rs.length
  · have L := Lib.hid (long_true v rs w hv hl)
    clear hv hl hu
    go_enter Try.func11, Try.ntmps11
    go_wp2_with fail
    refine L.out.mono ?_
    rintro e w1 ⟨rfl, hb1⟩
    go_wp2_with fail
    refine (known_any _).mono ?_
    rintro e w2 ⟨rfl, hb2⟩
    go_wp2
    go_ret
    exact ⟨rfl, below_step hb1 hb2⟩
  by_cases hl2 : 100 < qs.length
  · have L := Lib.hid (long_false v rs w hv (by omega))
    have L2 := Lib.hid (fun W (hW : Below w.heap.size w W) => long_true u qs W (hu.all hW) hl2)
    clear hv hl hu hl2
    go_enter Try.func11, Try.ntmps11
    go_wp2_with fail
    refine L.out.mono ?_
    rintro e w1 ⟨rfl, hb1⟩
    go_wp2_with fail
    refine (L2.out _ hb1).mono ?_
    rintro e w2 ⟨rfl, hb2⟩
    have hb2 := below_step hb1 hb2
    go_wp2_with fail
    refine (known_any _).mono ?_
    rintro e w3 ⟨rfl, hb3⟩
    go_wp2
    go_ret
    exact ⟨rfl, below_step hb2 hb3⟩
  have l1 : rs.length ≤ 100 := by omega
  have l2 : rs.length ≤ 1000 := by omega
  have m1 : qs.length ≤ 100 := by omega
  have m2 : qs.length ≤ 1000 := by omega
  have A0 := Lib.hid (long_false v rs w hv l1)
  have A00 := Lib.hid (fun W (hW : Below w.heap.size w W) => long_false u qs W (hu.all hW) m1)
  have A1 := Lib.hid (fun W (hW : Below w.heap.size w W) => num_agree_any v u rs qs W (hv.all hW) (hu.all hW) l2 m2)
  have A2 := Lib.hid (fun W (hW : Below w.heap.size w W) => ref_agree_any v u rs qs W (hv.all hW) (hu.all hW) l2 m2)
  have A3 := Lib.hid (fun W (hW : Below w.heap.size w W) => num_slice_any v rs 0 (Bd.agrV rs qs) W (hv.all hW) l2)
  have A4 := Lib.hid (fun W (hW : Below w.heap.size w W) => num_slice_any u qs 0 (Bd.agrV rs qs) W (hu.all hW) m2)
  have A5 := Lib.hid (fun W (hW : Below w.heap.size w W) => num_at_any v rs (Bd.agrV rs qs) W (hv.all hW) l2)
  have A6 := Lib.hid (fun W (hW : Below w.heap.size w W) => num_at_any u qs (Bd.agrV rs qs) W (hu.all hW) m2)
  obtain ⟨ao, c, rfl⟩ := hv.form
  obtain ⟨bo, d, rfl⟩ := hu.form
  clear hl hl2 hv hu
  by_cases hE : Bd.bothE rs qs = 0
  · obtain ⟨g1, g2, g3, g4⟩ := Bd.agrees hE
    have hsl : (Bd.sliR rs 0 (Bd.agrV rs qs)).length ≤ 1000 := by
      unfold Bd.sliR; rw [if_pos g1]
      have := Bd.norm_length (Bd.cutL rs 0 (Bd.agrV rs qs))
      have := Bd.cutL_length rs 0 (Bd.agrV rs qs)
      omega
    rw [hE] at A1 A2
    rw [g1] at A3
    rw [g2, ← g3] at A4
    clear g1 g2 g3 hE
    generalize Bd.sliR rs 0 (Bd.agrV rs qs) = sl at *
    generalize Bd.agrV rs qs = n at *
    generalize Bd.atE rs n = E1 at *
    generalize Bd.atE qs n = E2 at *
    generalize Bd.atM rs n = m at *
    generalize Bd.atM qs n = o at *
    go_enter Try.func11, Try.ntmps11
    go_wp2_with fail
    refine A0.out.mono ?_
    rintro e w1 ⟨rfl, hc1⟩
    go_wp2_with fail
    refine (A00.out _ hc1).mono ?_
    rintro e w2 ⟨rfl, hb2⟩
    have hc2 := below_step hc1 hb2
    clear hb2 hc1
    go_wp2_with fail
    refine (A1.out _ hc2).mono ?_
    rintro e w3 ⟨rfl, hb3⟩
    have hc3 := below_step hc2 hb3
    clear hb3 hc2
    go_wp2_with fail
    refine (A2.out _ hc3).mono ?_
    rintro e w4 ⟨rfl, hb4⟩
    have hc4 := below_step hc3 hb4
    clear hb4 hc3
    rcases g4 with rfl | ⟨rfl, rfl⟩ | ⟨rfl, rfl, hne⟩
    · skip
      go_wp2_with fail
      refine (A3.out _ hc4).mono ?_
      rintro e w5 ⟨x, rfl, hx, hb5⟩
      have hc5 := below_step hc4 hb5
      have hx := hx.runs
      obtain ⟨xa, xc, rfl⟩ := hx.form
      clear hb5 hc4
      go_wp2_with fail
      refine (A4.out _ hc5).mono ?_
      rintro e w6 ⟨y, rfl, hy, hb6⟩
      have hc6 := below_step hc5 hb6
      have hx := hx.all hb6
      have hy := hy.runs
      obtain ⟨ya, yc, rfl⟩ := hy.form
      clear hb6 hc5
      go_wp2_with fail
      refine (A5.out _ hc6).mono ?_
      rintro e w7 ⟨rfl, hb7⟩
      have hc7 := below_step hc6 hb7
      have hx := hx.all hb7
      have hy := hy.all hb7
      have bX := BlockAt.new w7 #[.int .i64 m.t, .int .i64 m.s, .int .i64 m.f] 35
      have hb7' := (Below.refl w7.heap.size w7).alloc (Nat.le_refl _) (.cells #[.int .i64 m.t, .int .i64 m.s, .int .i64 m.f] 35)
      have hc7' := below_step hc7 hb7'
      have hx := hx.all hb7'
      have hy := hy.all hb7'
      obtain ⟨W7, hW7⟩ : ∃ W7, w7.alloc (.cells #[.int .i64 m.t, .int .i64 m.s, .int .i64 m.f] 35) = W7 := ⟨_, rfl⟩
      rw [hW7] at bX hc7' hx hy
      have HW7 := Lib.hid hW7
      clear hb7 hb7' hW7 hc7 hc6
      go_wp2_with fail
      rw [HW7.out]
      refine (A6.out _ hc7').mono ?_
      rintro e w8 ⟨rfl, hb8⟩
      have hc8 := below_step hc7' hb8
      have hx := hx.all hb8
      have hy := hy.all hb8
      have bX := bX.below hb8 bX.lt
      have hX8 := bX.lt
      have bX := bX.alloc (.cells #[.int .i64 o.t, .int .i64 o.s, .int .i64 o.f] 35)
      have bY := BlockAt.new w8 #[.int .i64 o.t, .int .i64 o.s, .int .i64 o.f] 35
      have hb8' := (Below.refl w8.heap.size w8).alloc (Nat.le_refl _) (.cells #[.int .i64 o.t, .int .i64 o.s, .int .i64 o.f] 35)
      have hc8' := below_step hc8 hb8'
      have hx := hx.all hb8'
      have hy := hy.all hb8'
      obtain ⟨W8, hW8⟩ : ∃ W8, w8.alloc (.cells #[.int .i64 o.t, .int .i64 o.s, .int .i64 o.f] 35) = W8 := ⟨_, rfl⟩
      rw [hW8] at bX bY hc8' hx hy
      have HW8 := Lib.hid hW8
      clear hb8 hb8' hW8 hc7' hc8 HW7
      have SR := Lib.hid (same_runs_true _ _ sl W8 hx hy hsl)
      clear hx hy
      go_wp2_with fail
      rw [HW8.out]
      refine SR.out.mono ?_
      rintro e w9 ⟨rfl, hb9⟩
      have hc9 := below_step hc8' hb9
      have bX := bX.below hb9 bX.lt
      have bY := bY.below hb9 bY.lt
      have x0 := bX.cell 0
      have x1 := bX.cell 1
      have x2 := bX.cell 2
      have y0 := bY.cell 0
      have y1 := bY.cell 1
      have y2 := bY.cell 2
      clear bX bY hb9 hc8' SR HW8
      go_wp2_with fail
      refine (known_any _).mono ?_
      rintro e w10 ⟨rfl, hb10⟩
      go_wp2
      go_ret
      exact ⟨rfl, below_step hc9 hb10⟩
    · skip
      go_wp2_with fail
      refine (A3.out _ hc4).mono ?_
      rintro e w5 ⟨x, rfl, hx, hb5⟩
      have hc5 := below_step hc4 hb5
      have hx := hx.runs
      obtain ⟨xa, xc, rfl⟩ := hx.form
      clear hb5 hc4
      go_wp2_with fail
      refine (A4.out _ hc5).mono ?_
      rintro e w6 ⟨y, rfl, hy, hb6⟩
      have hc6 := below_step hc5 hb6
      have hx := hx.all hb6
      have hy := hy.runs
      obtain ⟨ya, yc, rfl⟩ := hy.form
      clear hb6 hc5
      go_wp2_with fail
      refine (A5.out _ hc6).mono ?_
      rintro e w7 ⟨rfl, hb7⟩
      have hc7 := below_step hc6 hb7
      have hx := hx.all hb7
      have hy := hy.all hb7
      have bX := BlockAt.new w7 #[.int .i64 m.t, .int .i64 m.s, .int .i64 m.f] 35
      have hb7' := (Below.refl w7.heap.size w7).alloc (Nat.le_refl _) (.cells #[.int .i64 m.t, .int .i64 m.s, .int .i64 m.f] 35)
      have hc7' := below_step hc7 hb7'
      have hx := hx.all hb7'
      have hy := hy.all hb7'
      obtain ⟨W7, hW7⟩ : ∃ W7, w7.alloc (.cells #[.int .i64 m.t, .int .i64 m.s, .int .i64 m.f] 35) = W7 := ⟨_, rfl⟩
      rw [hW7] at bX hc7' hx hy
      have HW7 := Lib.hid hW7
      clear hb7 hb7' hW7 hc7 hc6
      go_wp2_with fail
      rw [HW7.out]
      refine (A6.out _ hc7').mono ?_
      rintro e w8 ⟨rfl, hb8⟩
      have hc8 := below_step hc7' hb8
      have hx := hx.all hb8
      have hy := hy.all hb8
      have bX := bX.below hb8 bX.lt
      have hX8 := bX.lt
      have bX := bX.alloc (.cells #[.int .i64 o.t, .int .i64 o.s, .int .i64 o.f] 35)
      have bY := BlockAt.new w8 #[.int .i64 o.t, .int .i64 o.s, .int .i64 o.f] 35
      have hb8' := (Below.refl w8.heap.size w8).alloc (Nat.le_refl _) (.cells #[.int .i64 o.t, .int .i64 o.s, .int .i64 o.f] 35)
      have hc8' := below_step hc8 hb8'
      have hx := hx.all hb8'
      have hy := hy.all hb8'
      obtain ⟨W8, hW8⟩ : ∃ W8, w8.alloc (.cells #[.int .i64 o.t, .int .i64 o.s, .int .i64 o.f] 35) = W8 := ⟨_, rfl⟩
      rw [hW8] at bX bY hc8' hx hy
      have HW8 := Lib.hid hW8
      clear hb8 hb8' hW8 hc7' hc8 HW7
      have SR := Lib.hid (same_runs_true _ _ sl W8 hx hy hsl)
      clear hx hy
      go_wp2_with fail
      rw [HW8.out]
      refine SR.out.mono ?_
      rintro e w9 ⟨rfl, hb9⟩
      have hc9 := below_step hc8' hb9
      have bX := bX.below hb9 bX.lt
      have bY := bY.below hb9 bY.lt
      have x0 := bX.cell 0
      have x1 := bX.cell 1
      have x2 := bX.cell 2
      have y0 := bY.cell 0
      have y1 := bY.cell 1
      have y2 := bY.cell 2
      clear bX bY hb9 hc8' SR HW8
      go_wp2_with fail
      refine (known_any _).mono ?_
      rintro e w10 ⟨rfl, hb10⟩
      go_wp2
      go_ret
      exact ⟨rfl, below_step hc9 hb10⟩
    · rcases m_ne hne with e1 | ⟨e1, e2⟩ | ⟨e1, e2, e3⟩
      all_goals
        clear hne
        go_wp2_with fail
        refine (A3.out _ hc4).mono ?_
        rintro e w5 ⟨x, rfl, hx, hb5⟩
        have hc5 := below_step hc4 hb5
        have hx := hx.runs
        obtain ⟨xa, xc, rfl⟩ := hx.form
        clear hb5 hc4
        go_wp2_with fail
        refine (A4.out _ hc5).mono ?_
        rintro e w6 ⟨y, rfl, hy, hb6⟩
        have hc6 := below_step hc5 hb6
        have hx := hx.all hb6
        have hy := hy.runs
        obtain ⟨ya, yc, rfl⟩ := hy.form
        clear hb6 hc5
        go_wp2_with fail
        refine (A5.out _ hc6).mono ?_
        rintro e w7 ⟨rfl, hb7⟩
        have hc7 := below_step hc6 hb7
        have hx := hx.all hb7
        have hy := hy.all hb7
        have bX := BlockAt.new w7 #[.int .i64 m.t, .int .i64 m.s, .int .i64 m.f] 35
        have hb7' := (Below.refl w7.heap.size w7).alloc (Nat.le_refl _) (.cells #[.int .i64 m.t, .int .i64 m.s, .int .i64 m.f] 35)
        have hc7' := below_step hc7 hb7'
        have hx := hx.all hb7'
        have hy := hy.all hb7'
        obtain ⟨W7, hW7⟩ : ∃ W7, w7.alloc (.cells #[.int .i64 m.t, .int .i64 m.s, .int .i64 m.f] 35) = W7 := ⟨_, rfl⟩
        rw [hW7] at bX hc7' hx hy
        have HW7 := Lib.hid hW7
        clear hb7 hb7' hW7 hc7 hc6
        go_wp2_with fail
        rw [HW7.out]
        refine (A6.out _ hc7').mono ?_
        rintro e w8 ⟨rfl, hb8⟩
        have hc8 := below_step hc7' hb8
        have hx := hx.all hb8
        have hy := hy.all hb8
        have bX := bX.below hb8 bX.lt
        have hX8 := bX.lt
        have bX := bX.alloc (.cells #[.int .i64 o.t, .int .i64 o.s, .int .i64 o.f] 35)
        have bY := BlockAt.new w8 #[.int .i64 o.t, .int .i64 o.s, .int .i64 o.f] 35
        have hb8' := (Below.refl w8.heap.size w8).alloc (Nat.le_refl _) (.cells #[.int .i64 o.t, .int .i64 o.s, .int .i64 o.f] 35)
        have hc8' := below_step hc8 hb8'
        have hx := hx.all hb8'
        have hy := hy.all hb8'
        obtain ⟨W8, hW8⟩ : ∃ W8, w8.alloc (.cells #[.int .i64 o.t, .int .i64 o.s, .int .i64 o.f] 35) = W8 := ⟨_, rfl⟩
        rw [hW8] at bX bY hc8' hx hy
        have HW8 := Lib.hid hW8
        clear hb8 hb8' hW8 hc7' hc8 HW7
        have SR := Lib.hid (same_runs_true _ _ sl W8 hx hy hsl)
        clear hx hy
        go_wp2_with fail
        rw [HW8.out]
        refine SR.out.mono ?_
        rintro e w9 ⟨rfl, hb9⟩
        have hc9 := below_step hc8' hb9
        have bX := bX.below hb9 bX.lt
        have bY := bY.below hb9 bY.lt
        have x0 := bX.cell 0
        have x1 := bX.cell 1
        have x2 := bX.cell 2
        have y0 := bY.cell 0
        have y1 := bY.cell 1
        have y2 := bY.cell 2
        clear bX bY hb9 hc8' SR HW8
        go_wp2_with fail
        refine (known_any _).mono ?_
        rintro e w10 ⟨rfl, hb10⟩
        go_wp2
        go_ret
        exact ⟨rfl, below_step hc9 hb10⟩
  · generalize Bd.bothE rs qs = z at *
    have hz : (z == 0) = false := by simp [hE]
    have hz2 : (z != 0) = true := by simp [hE]
    generalize Bd.agrV rs qs = n at *
    clear A3 A4 A5 A6 hE
    go_enter Try.func11, Try.ntmps11
    go_wp2_with fail
    refine A0.out.mono ?_
    rintro e w1 ⟨rfl, hc1⟩
    go_wp2_with fail
    refine (A00.out _ hc1).mono ?_
    rintro e w2 ⟨rfl, hb2⟩
    have hc2 := below_step hc1 hb2
    clear hb2 hc1
    go_wp2_with fail
    refine (A1.out _ hc2).mono ?_
    rintro e w3 ⟨rfl, hb3⟩
    have hc3 := below_step hc2 hb3
    clear hb3 hc2
    go_wp2_with fail
    refine (A2.out _ hc3).mono ?_
    rintro e w4 ⟨rfl, hb4⟩
    have hc4 := below_step hc3 hb4
    clear hb4 hc3
    go_wp2_with fail
    refine (known_any _).mono ?_
    rintro e w5 ⟨rfl, hb5⟩
    go_wp2
    go_ret
    exact ⟨rfl, below_step hc4 hb5⟩
end Go.Proofs.Ytgnpbcgfhmhhgaa
