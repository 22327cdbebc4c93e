/- BandMeans returns true, whatever the list of runs, the change and the place. -/
import Derived.Test.YtgnpbcgfhmhhgaaBand38
import Derived.Test.YtgnpbcgfhmhhgaaBand8
namespace Go.Proofs.Ytgnpbcgfhmhhgaa
open Go.RowKit

set_option maxRecDepth 20000 in
set_option maxHeartbeats 4000000 in
theorem means_walk (v : Value) (rs : List Bd.R) (fr to fl th p : Int) (w : World) (hv : Runs w v rs) :
    Calls Try.prog 14 #[v, .agg #[.int .i64 fr, .int .i64 to, .int .i64 fl, .int .i64 th], .int .i64 p] w fun e w' => e = .returned (.bool true) ∧ Below w.heap.size w w' := by
  have hc0 := (Below.refl w.heap.size w).alloc (Nat.le_refl _) (.cells #[.int .i64 fr, .int .i64 to, .int .i64 fl, .int .i64 th] 49)
  have hq := FourAt.fresh w fr to fl th 49
  by_cases hl : 100 < rs.length
  · have L := Lib.hid (long_true v rs _ (hv.all hc0) hl)
    clear hv hl hq
    go_enter Try.func14, Try.ntmps14
    go_wp2_with fail
    refine L.out.mono ?_
    rintro e w1 ⟨rfl, hb1⟩
    go_wp2_with fail
    refine (known_any _).mono ?_
    rintro e w2 ⟨rfl, hb2⟩
    go_wp2
    go_ret
    exact ⟨rfl, below_step (below_step hc0 hb1) hb2⟩
  have l1 : rs.length ≤ 100 := by omega
  have l2 : rs.length ≤ 1000 := by omega
  have k1 := Bd.chaR_length rs fr to (Bd.chFOk fl) (Bd.chF fl)
  have k2 := Bd.chaR_length rs fr to (Bd.chPOk th) (Bd.chP th)
  have A0 := Lib.hid (fun W (hW : Below w.heap.size w W) => long_false v rs W (hv.all hW) l1)
  have A1 := Lib.hid (fun W (hW : Below w.heap.size w W) => num_at_any v rs p W (hv.all hW) l2)
  have A2 := Lib.hid (fun W (hW : Below w.heap.size w W) => num_flaw_any v rs fr to fl W (hv.all hW) l2)
  have A3 := Lib.hid (fun W (hW : Below w.heap.size w W) => num_press_any v rs fr to th W (hv.all hW) l2)
  have D1 := Lib.hid (fun u W h => num_at_any u (Bd.chaR rs fr to (Bd.chFOk fl) (Bd.chF fl)) p W h k1)
  have D2 := Lib.hid (fun u W h => num_at_any u (Bd.chaR rs fr to (Bd.chPOk th) (Bd.chP th)) p W h k2)
  have G1 := Lib.hid (fun a b => Bd.cha_at (rs := rs) (fr := fr) (to := to) (p := p) (fun h => Bd.okM_F (fl := fl) h) a b)
  have G2 := Lib.hid (fun a b => Bd.cha_at (rs := rs) (fr := fr) (to := to) (p := p) (fun h => Bd.okM_P (th := th) h) a b)
  obtain ⟨ao, c, rfl⟩ := hv.form
  clear hl hv k1 k2
  obtain ⟨W0, hW0⟩ : ∃ W0, w.alloc (.cells #[.int .i64 fr, .int .i64 to, .int .i64 fl, .int .i64 th] 49) = W0 := ⟨_, rfl⟩
  by_cases hE1 : Bd.atE rs p = 0
  · by_cases hE2 : Bd.chaE rs fr to (Bd.chFOk fl) (Bd.chF fl) = 0
    · by_cases hE3 : Bd.chaE rs fr to (Bd.chPOk th) (Bd.chP th) = 0
      · obtain ⟨g1, g2⟩ := G1.out hE1 hE2
        obtain ⟨g3, g4⟩ := G2.out hE1 hE3
        rw [g1, g2] at D1
        rw [g3, g4] at D2
        rw [hE1] at A1
        rw [hE2] at A2
        rw [hE3] at A3
        clear g1 g2 g3 g4 G1 G2 hE1 hE2 hE3 hW0
        generalize Bd.chaR rs fr to (Bd.chFOk fl) (Bd.chF fl) = xs at *
        generalize Bd.chaR rs fr to (Bd.chPOk th) (Bd.chP th) = ys at *
        generalize Bd.atM rs p = m at *
        by_cases c1 : fr ≤ p
        · by_cases c2 : p < to
          · rw [if_pos ⟨c1, c2⟩] at D1 D2
            by_cases c3 : th < m.t
            · have e2 : Bd.chP th m = ⟨th, m.s, m.f⟩ := by unfold Bd.chP; rw [Int.min_eq_right (by omega)]
              rw [e2] at D2
              clear e2
              replace D1 : Hid (∀ (u : Value) (W : World), Runs W u xs → Calls Try.prog 27 #[u, .int .i64 p] W fun e w' => e = .returned (.tuple #[.agg #[.int .i64 m.t, .int .i64 m.s, .int .i64 (bits BinOp.or IntKind.i64 m.f fl)], .int .i64 0]) ∧ Below W.heap.size W w') := D1
              replace D2 : Hid (∀ (u : Value) (W : World), Runs W u ys → Calls Try.prog 27 #[u, .int .i64 p] W fun e w' => e = .returned (.tuple #[.agg #[.int .i64 th, .int .i64 m.s, .int .i64 m.f], .int .i64 0]) ∧ Below W.heap.size W w') := D2
              go_enter Try.func14, Try.ntmps14
              go_wp2_with fail
              refine (A0.out _ hc0).mono ?_
              rintro e w1 ⟨rfl, hb1⟩
              have hc1 := below_step hc0 hb1
              have hq := hq.all hb1
              go_wp2_with fail
              refine (A1.out _ hc1).mono ?_
              rintro e w2 ⟨rfl, hb2⟩
              have hc2 := below_step hc1 hb2
              have hq := hq.all hb2
              have hn2 := (Below.refl w2.heap.size w2).alloc (Nat.le_refl _) (.cells #[.int .i64 m.t, .int .i64 m.s, .int .i64 m.f] 35)
              have bO := BlockAt.new w2 #[.int .i64 m.t, .int .i64 m.s, .int .i64 m.f] 35
              have hc2 := below_step hc2 hn2
              have hq := hq.all hn2
              obtain ⟨W2, hW2⟩ : ∃ W2, w2.alloc (.cells #[.int .i64 m.t, .int .i64 m.s, .int .i64 m.f] 35) = W2 := ⟨_, rfl⟩
              rw [hW2] at hc2 bO hq
              have HW2 := Lib.hid hW2
              clear hW2 hn2 hb2
              obtain ⟨c0, c1, c2, c3, _⟩ := id hq
              rw [← HW2.out] at c0 c1 c2 c3
              go_wp2_with fail
              rw [HW2.out]
              refine (A2.out _ hc2).mono ?_
              rintro e w3 ⟨x, rfl, hx, hb3⟩
              have hc3 := below_step hc2 hb3
              clear c0 c1 c2 c3
              have hq := hq.all hb3
              have bO := bO.below hb3 bO.lt
              clear HW2
              have hx := hx.runs
              obtain ⟨xa, xc, rfl⟩ := hx.form
              obtain ⟨c0, c1, c2, c3, _⟩ := id hq
              go_wp2_with fail
              refine (A3.out _ hc3).mono ?_
              rintro e w4 ⟨y, rfl, hy, hb4⟩
              have hc4 := below_step hc3 hb4
              clear c0 c1 c2 c3
              have hq := hq.all hb4
              have bO := bO.below hb4 bO.lt
              have hx := hx.all hb4
              have hy := hy.runs
              obtain ⟨ya, yc, rfl⟩ := hy.form
              clear hb1 hb3 hb4 hc0 hc1 hc2 hc3
              have A5 := Lib.hid (fun W (hW : Below w4.heap.size w4 W) => D1.out _ W (hx.all hW))
              have A6 := Lib.hid (fun W (hW : Below w4.heap.size w4 W) => D2.out _ W (hy.all hW))
              clear hx hy D1 D2
              have hr4 := Below.refl w4.heap.size w4
              go_wp2_with fail
              refine (A5.out _ hr4).mono ?_
              rintro e w5 ⟨rfl, hb5⟩
              have hc5 := hb5
              have bO := bO.below hb5 bO.lt
              have hq := hq.all hb5
              have hn5 := (Below.refl w5.heap.size w5).alloc (Nat.le_refl _) (.cells #[.int .i64 m.t, .int .i64 m.s, .int .i64 (bits BinOp.or IntKind.i64 m.f fl)] 35)
              have bU := BlockAt.new w5 #[.int .i64 m.t, .int .i64 m.s, .int .i64 (bits BinOp.or IntKind.i64 m.f fl)] 35
              have hc5 := below_step hc5 hn5
              have hq := hq.all hn5
              have bOlt := bO.lt
              have bO := bO.alloc (.cells #[.int .i64 m.t, .int .i64 m.s, .int .i64 (bits BinOp.or IntKind.i64 m.f fl)] 35)
              obtain ⟨W5, hW5⟩ : ∃ W5, w5.alloc (.cells #[.int .i64 m.t, .int .i64 m.s, .int .i64 (bits BinOp.or IntKind.i64 m.f fl)] 35) = W5 := ⟨_, rfl⟩
              rw [hW5] at hc5 bU hq bO
              have HW5 := Lib.hid hW5
              clear hW5 hn5 hb5
              go_wp2_with fail
              rw [HW5.out]
              refine (A6.out _ hc5).mono ?_
              rintro e w6 ⟨rfl, hb6⟩
              have hc6 := below_step hc5 hb6
              have bO := bO.below hb6 bO.lt
              have bU := bU.below hb6 bU.lt
              have hq := hq.all hb6
              have hn6 := (Below.refl w6.heap.size w6).alloc (Nat.le_refl _) (.cells #[.int .i64 th, .int .i64 m.s, .int .i64 m.f] 35)
              have bV := BlockAt.new w6 #[.int .i64 th, .int .i64 m.s, .int .i64 m.f] 35
              have hc6 := below_step hc6 hn6
              have hq := hq.all hn6
              have bOlt := bO.lt
              have bO := bO.alloc (.cells #[.int .i64 th, .int .i64 m.s, .int .i64 m.f] 35)
              have bUlt := bU.lt
              have bU := bU.alloc (.cells #[.int .i64 th, .int .i64 m.s, .int .i64 m.f] 35)
              obtain ⟨W6, hW6⟩ : ∃ W6, w6.alloc (.cells #[.int .i64 th, .int .i64 m.s, .int .i64 m.f] 35) = W6 := ⟨_, rfl⟩
              rw [hW6] at hc6 bV hq bO bU
              have HW6 := Lib.hid hW6
              clear hW6 hn6 hb6
              clear HW5 A5 A6
              have x0 := bO.cell 0
              have x1 := bO.cell 1
              have x2 := bO.cell 2
              have hlt6 := bV.lt
              have hltU := bU.lt
              have hltO := bO.lt
              have hltq := hq.2.2.2.2
              have N1 := (BlockAt.new W6 #[.int .i64 m.t, .int .i64 m.s, .int .i64 m.f] 35).alloc (.cells #[.int .i64 m.t, .int .i64 m.s, .int .i64 m.f] 35)
              have N2 := BlockAt.new (W6.alloc (.cells #[.int .i64 m.t, .int .i64 m.s, .int .i64 m.f] 35)) #[.int .i64 m.t, .int .i64 m.s, .int .i64 m.f] 35
              rw [World.size_alloc] at N2
              have bU := (bU.alloc (.cells #[.int .i64 m.t, .int .i64 m.s, .int .i64 m.f] 35)).alloc (.cells #[.int .i64 m.t, .int .i64 m.s, .int .i64 m.f] 35)
              have bV := (bV.alloc (.cells #[.int .i64 m.t, .int .i64 m.s, .int .i64 m.f] 35)).alloc (.cells #[.int .i64 m.t, .int .i64 m.s, .int .i64 m.f] 35)
              have hn6 := ((Below.refl W6.heap.size W6).alloc (Nat.le_refl _) (.cells #[.int .i64 m.t, .int .i64 m.s, .int .i64 m.f] 35)).alloc (by simp) (.cells #[.int .i64 m.t, .int .i64 m.s, .int .i64 m.f] 35)
              have hq := hq.all hn6
              have hc7 := below_drewN (below_step hc4 (below_step hc6 hn6)) 1
              have HF := Lib.hid (And.intro N1 (And.intro N2 (And.intro bU (And.intro bV (And.intro hq hc7)))))
              rw [← HW6.out] at x0 x1 x2
              go_wp2_with fail
              rw [HW6.out]
              rw [HW6.out] at x0 x1 x2
              clear hq bO bU bV hc6 hc4 N1 N2 hn6 hc7
              go_region
              all_goals
                obtain ⟨N1, N2, bU, bV, hq, hc7⟩ := HF.out
                obtain ⟨Wd, hWd⟩ : ∃ Wd, ((W6.alloc (.cells #[.int .i64 m.t, .int .i64 m.s, .int .i64 m.f] 35)).alloc (.cells #[.int .i64 m.t, .int .i64 m.s, .int .i64 m.f] 35)).drew = Wd := ⟨_, rfl⟩
                replace N1 : BlockAt Wd W6.heap.size #[.int .i64 m.t, .int .i64 m.s, .int .i64 m.f] 35 := by rw [← hWd]; exact N1
                replace N2 : BlockAt Wd (W6.heap.size + 1) #[.int .i64 m.t, .int .i64 m.s, .int .i64 m.f] 35 := by rw [← hWd]; exact N2
                replace bU : BlockAt Wd w5.heap.size #[.int .i64 m.t, .int .i64 m.s, .int .i64 (bits BinOp.or IntKind.i64 m.f fl)] 35 := by rw [← hWd]; exact bU
                replace bV : BlockAt Wd w6.heap.size #[.int .i64 th, .int .i64 m.s, .int .i64 m.f] 35 := by rw [← hWd]; exact bV
                replace hq : FourAt Wd w.heap.size fr to fl th := by rw [← hWd]; exact hq
                replace hc7 : Below w.heap.size w Wd := by rw [← hWd]; exact hc7
                rw [hWd]
                generalize W6.heap.size = B1 at *
                obtain ⟨c0, c1', c2', c3', hqlt⟩ := hq
                clear HF hWd x0 x1 x2
                have u0 := bU.cell 0
                have u1 := bU.cell 1
                have u2 := bU.cell 2
                have v0 := bV.cell 0
                have v1 := bV.cell 1
                have v2 := bV.cell 2
                have y0 := N1.cell 0
                have y1 := N1.cell 1
                have y2 := N1.cell 2
                have z0 := N2.cell 0
                have z1 := N2.cell 1
                have z2 := N2.cell 2
                have f0 := N1.frozen 0
                have f2 := N1.frozen 2
                have g0 := N2.frozen 0
                have g2 := N2.frozen 2
                clear bU bV N1 N2
                go_wp2_with fail
                refine (known_any _).mono ?_
                rintro e w8 ⟨rfl, hb8⟩
                go_wp2
                go_ret
                exact ⟨rfl, below_step (by repeat' (first | exact hc7 | refine Below.setCell ?_ (by simp <;> omega) _)) hb8⟩

            · have e2 : Bd.chP th m = m := by unfold Bd.chP; rw [Int.min_eq_left (by omega)]
              rw [e2] at D2
              clear e2
              replace D1 : Hid (∀ (u : Value) (W : World), Runs W u xs → Calls Try.prog 27 #[u, .int .i64 p] W fun e w' => e = .returned (.tuple #[.agg #[.int .i64 m.t, .int .i64 m.s, .int .i64 (bits BinOp.or IntKind.i64 m.f fl)], .int .i64 0]) ∧ Below W.heap.size W w') := D1
              replace D2 : Hid (∀ (u : Value) (W : World), Runs W u ys → Calls Try.prog 27 #[u, .int .i64 p] W fun e w' => e = .returned (.tuple #[.agg #[.int .i64 m.t, .int .i64 m.s, .int .i64 m.f], .int .i64 0]) ∧ Below W.heap.size W w') := D2
              go_enter Try.func14, Try.ntmps14
              go_wp2_with fail
              refine (A0.out _ hc0).mono ?_
              rintro e w1 ⟨rfl, hb1⟩
              have hc1 := below_step hc0 hb1
              have hq := hq.all hb1
              go_wp2_with fail
              refine (A1.out _ hc1).mono ?_
              rintro e w2 ⟨rfl, hb2⟩
              have hc2 := below_step hc1 hb2
              have hq := hq.all hb2
              have hn2 := (Below.refl w2.heap.size w2).alloc (Nat.le_refl _) (.cells #[.int .i64 m.t, .int .i64 m.s, .int .i64 m.f] 35)
              have bO := BlockAt.new w2 #[.int .i64 m.t, .int .i64 m.s, .int .i64 m.f] 35
              have hc2 := below_step hc2 hn2
              have hq := hq.all hn2
              obtain ⟨W2, hW2⟩ : ∃ W2, w2.alloc (.cells #[.int .i64 m.t, .int .i64 m.s, .int .i64 m.f] 35) = W2 := ⟨_, rfl⟩
              rw [hW2] at hc2 bO hq
              have HW2 := Lib.hid hW2
              clear hW2 hn2 hb2
              obtain ⟨c0, c1, c2, c3, _⟩ := id hq
              rw [← HW2.out] at c0 c1 c2 c3
              go_wp2_with fail
              rw [HW2.out]
              refine (A2.out _ hc2).mono ?_
              rintro e w3 ⟨x, rfl, hx, hb3⟩
              have hc3 := below_step hc2 hb3
              clear c0 c1 c2 c3
              have hq := hq.all hb3
              have bO := bO.below hb3 bO.lt
              clear HW2
              have hx := hx.runs
              obtain ⟨xa, xc, rfl⟩ := hx.form
              obtain ⟨c0, c1, c2, c3, _⟩ := id hq
              go_wp2_with fail
              refine (A3.out _ hc3).mono ?_
              rintro e w4 ⟨y, rfl, hy, hb4⟩
              have hc4 := below_step hc3 hb4
              clear c0 c1 c2 c3
              have hq := hq.all hb4
              have bO := bO.below hb4 bO.lt
              have hx := hx.all hb4
              have hy := hy.runs
              obtain ⟨ya, yc, rfl⟩ := hy.form
              clear hb1 hb3 hb4 hc0 hc1 hc2 hc3
              have A5 := Lib.hid (fun W (hW : Below w4.heap.size w4 W) => D1.out _ W (hx.all hW))
              have A6 := Lib.hid (fun W (hW : Below w4.heap.size w4 W) => D2.out _ W (hy.all hW))
              clear hx hy D1 D2
              have hr4 := Below.refl w4.heap.size w4
              go_wp2_with fail
              refine (A5.out _ hr4).mono ?_
              rintro e w5 ⟨rfl, hb5⟩
              have hc5 := hb5
              have bO := bO.below hb5 bO.lt
              have hq := hq.all hb5
              have hn5 := (Below.refl w5.heap.size w5).alloc (Nat.le_refl _) (.cells #[.int .i64 m.t, .int .i64 m.s, .int .i64 (bits BinOp.or IntKind.i64 m.f fl)] 35)
              have bU := BlockAt.new w5 #[.int .i64 m.t, .int .i64 m.s, .int .i64 (bits BinOp.or IntKind.i64 m.f fl)] 35
              have hc5 := below_step hc5 hn5
              have hq := hq.all hn5
              have bOlt := bO.lt
              have bO := bO.alloc (.cells #[.int .i64 m.t, .int .i64 m.s, .int .i64 (bits BinOp.or IntKind.i64 m.f fl)] 35)
              obtain ⟨W5, hW5⟩ : ∃ W5, w5.alloc (.cells #[.int .i64 m.t, .int .i64 m.s, .int .i64 (bits BinOp.or IntKind.i64 m.f fl)] 35) = W5 := ⟨_, rfl⟩
              rw [hW5] at hc5 bU hq bO
              have HW5 := Lib.hid hW5
              clear hW5 hn5 hb5
              go_wp2_with fail
              rw [HW5.out]
              refine (A6.out _ hc5).mono ?_
              rintro e w6 ⟨rfl, hb6⟩
              have hc6 := below_step hc5 hb6
              have bO := bO.below hb6 bO.lt
              have bU := bU.below hb6 bU.lt
              have hq := hq.all hb6
              have hn6 := (Below.refl w6.heap.size w6).alloc (Nat.le_refl _) (.cells #[.int .i64 m.t, .int .i64 m.s, .int .i64 m.f] 35)
              have bV := BlockAt.new w6 #[.int .i64 m.t, .int .i64 m.s, .int .i64 m.f] 35
              have hc6 := below_step hc6 hn6
              have hq := hq.all hn6
              have bOlt := bO.lt
              have bO := bO.alloc (.cells #[.int .i64 m.t, .int .i64 m.s, .int .i64 m.f] 35)
              have bUlt := bU.lt
              have bU := bU.alloc (.cells #[.int .i64 m.t, .int .i64 m.s, .int .i64 m.f] 35)
              obtain ⟨W6, hW6⟩ : ∃ W6, w6.alloc (.cells #[.int .i64 m.t, .int .i64 m.s, .int .i64 m.f] 35) = W6 := ⟨_, rfl⟩
              rw [hW6] at hc6 bV hq bO bU
              have HW6 := Lib.hid hW6
              clear hW6 hn6 hb6
              clear HW5 A5 A6
              have x0 := bO.cell 0
              have x1 := bO.cell 1
              have x2 := bO.cell 2
              have hlt6 := bV.lt
              have hltU := bU.lt
              have hltO := bO.lt
              have hltq := hq.2.2.2.2
              have N1 := (BlockAt.new W6 #[.int .i64 m.t, .int .i64 m.s, .int .i64 m.f] 35).alloc (.cells #[.int .i64 m.t, .int .i64 m.s, .int .i64 m.f] 35)
              have N2 := BlockAt.new (W6.alloc (.cells #[.int .i64 m.t, .int .i64 m.s, .int .i64 m.f] 35)) #[.int .i64 m.t, .int .i64 m.s, .int .i64 m.f] 35
              rw [World.size_alloc] at N2
              have bU := (bU.alloc (.cells #[.int .i64 m.t, .int .i64 m.s, .int .i64 m.f] 35)).alloc (.cells #[.int .i64 m.t, .int .i64 m.s, .int .i64 m.f] 35)
              have bV := (bV.alloc (.cells #[.int .i64 m.t, .int .i64 m.s, .int .i64 m.f] 35)).alloc (.cells #[.int .i64 m.t, .int .i64 m.s, .int .i64 m.f] 35)
              have hn6 := ((Below.refl W6.heap.size W6).alloc (Nat.le_refl _) (.cells #[.int .i64 m.t, .int .i64 m.s, .int .i64 m.f] 35)).alloc (by simp) (.cells #[.int .i64 m.t, .int .i64 m.s, .int .i64 m.f] 35)
              have hq := hq.all hn6
              have hc7 := below_drewN (below_step hc4 (below_step hc6 hn6)) 1
              have HF := Lib.hid (And.intro N1 (And.intro N2 (And.intro bU (And.intro bV (And.intro hq hc7)))))
              rw [← HW6.out] at x0 x1 x2
              go_wp2_with fail
              rw [HW6.out]
              rw [HW6.out] at x0 x1 x2
              clear hq bO bU bV hc6 hc4 N1 N2 hn6 hc7
              go_region
              all_goals
                obtain ⟨N1, N2, bU, bV, hq, hc7⟩ := HF.out
                obtain ⟨Wd, hWd⟩ : ∃ Wd, ((W6.alloc (.cells #[.int .i64 m.t, .int .i64 m.s, .int .i64 m.f] 35)).alloc (.cells #[.int .i64 m.t, .int .i64 m.s, .int .i64 m.f] 35)).drew = Wd := ⟨_, rfl⟩
                replace N1 : BlockAt Wd W6.heap.size #[.int .i64 m.t, .int .i64 m.s, .int .i64 m.f] 35 := by rw [← hWd]; exact N1
                replace N2 : BlockAt Wd (W6.heap.size + 1) #[.int .i64 m.t, .int .i64 m.s, .int .i64 m.f] 35 := by rw [← hWd]; exact N2
                replace bU : BlockAt Wd w5.heap.size #[.int .i64 m.t, .int .i64 m.s, .int .i64 (bits BinOp.or IntKind.i64 m.f fl)] 35 := by rw [← hWd]; exact bU
                replace bV : BlockAt Wd w6.heap.size #[.int .i64 m.t, .int .i64 m.s, .int .i64 m.f] 35 := by rw [← hWd]; exact bV
                replace hq : FourAt Wd w.heap.size fr to fl th := by rw [← hWd]; exact hq
                replace hc7 : Below w.heap.size w Wd := by rw [← hWd]; exact hc7
                rw [hWd]
                generalize W6.heap.size = B1 at *
                obtain ⟨c0, c1', c2', c3', hqlt⟩ := hq
                clear HF hWd x0 x1 x2
                have u0 := bU.cell 0
                have u1 := bU.cell 1
                have u2 := bU.cell 2
                have v0 := bV.cell 0
                have v1 := bV.cell 1
                have v2 := bV.cell 2
                have y0 := N1.cell 0
                have y1 := N1.cell 1
                have y2 := N1.cell 2
                have z0 := N2.cell 0
                have z1 := N2.cell 1
                have z2 := N2.cell 2
                have f0 := N1.frozen 0
                have f2 := N1.frozen 2
                have g0 := N2.frozen 0
                have g2 := N2.frozen 2
                clear bU bV N1 N2
                go_wp2_with fail
                refine (known_any _).mono ?_
                rintro e w8 ⟨rfl, hb8⟩
                go_wp2
                go_ret
                exact ⟨rfl, below_step (by repeat' (first | exact hc7 | refine Below.setCell ?_ (by simp <;> omega) _)) hb8⟩

          · rw [if_neg (by omega)] at D1 D2
            replace D1 : Hid (∀ (u : Value) (W : World), Runs W u xs → Calls Try.prog 27 #[u, .int .i64 p] W fun e w' => e = .returned (.tuple #[.agg #[.int .i64 m.t, .int .i64 m.s, .int .i64 m.f], .int .i64 0]) ∧ Below W.heap.size W w') := D1
            replace D2 : Hid (∀ (u : Value) (W : World), Runs W u ys → Calls Try.prog 27 #[u, .int .i64 p] W fun e w' => e = .returned (.tuple #[.agg #[.int .i64 m.t, .int .i64 m.s, .int .i64 m.f], .int .i64 0]) ∧ Below W.heap.size W w') := D2
            go_enter Try.func14, Try.ntmps14
            go_wp2_with fail
            refine (A0.out _ hc0).mono ?_
            rintro e w1 ⟨rfl, hb1⟩
            have hc1 := below_step hc0 hb1
            have hq := hq.all hb1
            go_wp2_with fail
            refine (A1.out _ hc1).mono ?_
            rintro e w2 ⟨rfl, hb2⟩
            have hc2 := below_step hc1 hb2
            have hq := hq.all hb2
            have hn2 := (Below.refl w2.heap.size w2).alloc (Nat.le_refl _) (.cells #[.int .i64 m.t, .int .i64 m.s, .int .i64 m.f] 35)
            have bO := BlockAt.new w2 #[.int .i64 m.t, .int .i64 m.s, .int .i64 m.f] 35
            have hc2 := below_step hc2 hn2
            have hq := hq.all hn2
            obtain ⟨W2, hW2⟩ : ∃ W2, w2.alloc (.cells #[.int .i64 m.t, .int .i64 m.s, .int .i64 m.f] 35) = W2 := ⟨_, rfl⟩
            rw [hW2] at hc2 bO hq
            have HW2 := Lib.hid hW2
            clear hW2 hn2 hb2
            obtain ⟨c0, c1, c2, c3, _⟩ := id hq
            rw [← HW2.out] at c0 c1 c2 c3
            go_wp2_with fail
            rw [HW2.out]
            refine (A2.out _ hc2).mono ?_
            rintro e w3 ⟨x, rfl, hx, hb3⟩
            have hc3 := below_step hc2 hb3
            clear c0 c1 c2 c3
            have hq := hq.all hb3
            have bO := bO.below hb3 bO.lt
            clear HW2
            have hx := hx.runs
            obtain ⟨xa, xc, rfl⟩ := hx.form
            obtain ⟨c0, c1, c2, c3, _⟩ := id hq
            go_wp2_with fail
            refine (A3.out _ hc3).mono ?_
            rintro e w4 ⟨y, rfl, hy, hb4⟩
            have hc4 := below_step hc3 hb4
            clear c0 c1 c2 c3
            have hq := hq.all hb4
            have bO := bO.below hb4 bO.lt
            have hx := hx.all hb4
            have hy := hy.runs
            obtain ⟨ya, yc, rfl⟩ := hy.form
            clear hb1 hb3 hb4 hc0 hc1 hc2 hc3
            have A5 := Lib.hid (fun W (hW : Below w4.heap.size w4 W) => D1.out _ W (hx.all hW))
            have A6 := Lib.hid (fun W (hW : Below w4.heap.size w4 W) => D2.out _ W (hy.all hW))
            clear hx hy D1 D2
            have hr4 := Below.refl w4.heap.size w4
            go_wp2_with fail
            refine (A5.out _ hr4).mono ?_
            rintro e w5 ⟨rfl, hb5⟩
            have hc5 := hb5
            have bO := bO.below hb5 bO.lt
            have hq := hq.all hb5
            have hn5 := (Below.refl w5.heap.size w5).alloc (Nat.le_refl _) (.cells #[.int .i64 m.t, .int .i64 m.s, .int .i64 m.f] 35)
            have bU := BlockAt.new w5 #[.int .i64 m.t, .int .i64 m.s, .int .i64 m.f] 35
            have hc5 := below_step hc5 hn5
            have hq := hq.all hn5
            have bOlt := bO.lt
            have bO := bO.alloc (.cells #[.int .i64 m.t, .int .i64 m.s, .int .i64 m.f] 35)
            obtain ⟨W5, hW5⟩ : ∃ W5, w5.alloc (.cells #[.int .i64 m.t, .int .i64 m.s, .int .i64 m.f] 35) = W5 := ⟨_, rfl⟩
            rw [hW5] at hc5 bU hq bO
            have HW5 := Lib.hid hW5
            clear hW5 hn5 hb5
            go_wp2_with fail
            rw [HW5.out]
            refine (A6.out _ hc5).mono ?_
            rintro e w6 ⟨rfl, hb6⟩
            have hc6 := below_step hc5 hb6
            have bO := bO.below hb6 bO.lt
            have bU := bU.below hb6 bU.lt
            have hq := hq.all hb6
            have hn6 := (Below.refl w6.heap.size w6).alloc (Nat.le_refl _) (.cells #[.int .i64 m.t, .int .i64 m.s, .int .i64 m.f] 35)
            have bV := BlockAt.new w6 #[.int .i64 m.t, .int .i64 m.s, .int .i64 m.f] 35
            have hc6 := below_step hc6 hn6
            have hq := hq.all hn6
            have bOlt := bO.lt
            have bO := bO.alloc (.cells #[.int .i64 m.t, .int .i64 m.s, .int .i64 m.f] 35)
            have bUlt := bU.lt
            have bU := bU.alloc (.cells #[.int .i64 m.t, .int .i64 m.s, .int .i64 m.f] 35)
            obtain ⟨W6, hW6⟩ : ∃ W6, w6.alloc (.cells #[.int .i64 m.t, .int .i64 m.s, .int .i64 m.f] 35) = W6 := ⟨_, rfl⟩
            rw [hW6] at hc6 bV hq bO bU
            have HW6 := Lib.hid hW6
            clear hW6 hn6 hb6
            clear HW5 A5 A6
            have x0 := bO.cell 0
            have x1 := bO.cell 1
            have x2 := bO.cell 2
            have hlt6 := bV.lt
            have hltU := bU.lt
            have hltO := bO.lt
            have hltq := hq.2.2.2.2
            have N1 := (BlockAt.new W6 #[.int .i64 m.t, .int .i64 m.s, .int .i64 m.f] 35).alloc (.cells #[.int .i64 m.t, .int .i64 m.s, .int .i64 m.f] 35)
            have N2 := BlockAt.new (W6.alloc (.cells #[.int .i64 m.t, .int .i64 m.s, .int .i64 m.f] 35)) #[.int .i64 m.t, .int .i64 m.s, .int .i64 m.f] 35
            rw [World.size_alloc] at N2
            have bU := (bU.alloc (.cells #[.int .i64 m.t, .int .i64 m.s, .int .i64 m.f] 35)).alloc (.cells #[.int .i64 m.t, .int .i64 m.s, .int .i64 m.f] 35)
            have bV := (bV.alloc (.cells #[.int .i64 m.t, .int .i64 m.s, .int .i64 m.f] 35)).alloc (.cells #[.int .i64 m.t, .int .i64 m.s, .int .i64 m.f] 35)
            have hn6 := ((Below.refl W6.heap.size W6).alloc (Nat.le_refl _) (.cells #[.int .i64 m.t, .int .i64 m.s, .int .i64 m.f] 35)).alloc (by simp) (.cells #[.int .i64 m.t, .int .i64 m.s, .int .i64 m.f] 35)
            have hq := hq.all hn6
            have hc7 := below_drewN (below_step hc4 (below_step hc6 hn6)) 1
            have HF := Lib.hid (And.intro N1 (And.intro N2 (And.intro bU (And.intro bV (And.intro hq hc7)))))
            rw [← HW6.out] at x0 x1 x2
            go_wp2_with fail
            rw [HW6.out]
            rw [HW6.out] at x0 x1 x2
            clear hq bO bU bV hc6 hc4 N1 N2 hn6 hc7
            go_region
            all_goals
              obtain ⟨N1, N2, bU, bV, hq, hc7⟩ := HF.out
              obtain ⟨Wd, hWd⟩ : ∃ Wd, ((W6.alloc (.cells #[.int .i64 m.t, .int .i64 m.s, .int .i64 m.f] 35)).alloc (.cells #[.int .i64 m.t, .int .i64 m.s, .int .i64 m.f] 35)).drew = Wd := ⟨_, rfl⟩
              replace N1 : BlockAt Wd W6.heap.size #[.int .i64 m.t, .int .i64 m.s, .int .i64 m.f] 35 := by rw [← hWd]; exact N1
              replace N2 : BlockAt Wd (W6.heap.size + 1) #[.int .i64 m.t, .int .i64 m.s, .int .i64 m.f] 35 := by rw [← hWd]; exact N2
              replace bU : BlockAt Wd w5.heap.size #[.int .i64 m.t, .int .i64 m.s, .int .i64 m.f] 35 := by rw [← hWd]; exact bU
              replace bV : BlockAt Wd w6.heap.size #[.int .i64 m.t, .int .i64 m.s, .int .i64 m.f] 35 := by rw [← hWd]; exact bV
              replace hq : FourAt Wd w.heap.size fr to fl th := by rw [← hWd]; exact hq
              replace hc7 : Below w.heap.size w Wd := by rw [← hWd]; exact hc7
              rw [hWd]
              generalize W6.heap.size = B1 at *
              obtain ⟨c0, c1', c2', c3', hqlt⟩ := hq
              clear HF hWd x0 x1 x2
              have u0 := bU.cell 0
              have u1 := bU.cell 1
              have u2 := bU.cell 2
              have v0 := bV.cell 0
              have v1 := bV.cell 1
              have v2 := bV.cell 2
              have y0 := N1.cell 0
              have y1 := N1.cell 1
              have y2 := N1.cell 2
              have z0 := N2.cell 0
              have z1 := N2.cell 1
              have z2 := N2.cell 2
              clear bU bV N1 N2
              go_wp2_with fail
              refine (known_any _).mono ?_
              rintro e w8 ⟨rfl, hb8⟩
              go_wp2
              go_ret
              exact ⟨rfl, below_step hc7 hb8⟩

        · rw [if_neg (by omega)] at D1 D2
          replace D1 : Hid (∀ (u : Value) (W : World), Runs W u xs → Calls Try.prog 27 #[u, .int .i64 p] W fun e w' => e = .returned (.tuple #[.agg #[.int .i64 m.t, .int .i64 m.s, .int .i64 m.f], .int .i64 0]) ∧ Below W.heap.size W w') := D1
          replace D2 : Hid (∀ (u : Value) (W : World), Runs W u ys → Calls Try.prog 27 #[u, .int .i64 p] W fun e w' => e = .returned (.tuple #[.agg #[.int .i64 m.t, .int .i64 m.s, .int .i64 m.f], .int .i64 0]) ∧ Below W.heap.size W w') := D2
          go_enter Try.func14, Try.ntmps14
          go_wp2_with fail
          refine (A0.out _ hc0).mono ?_
          rintro e w1 ⟨rfl, hb1⟩
          have hc1 := below_step hc0 hb1
          have hq := hq.all hb1
          go_wp2_with fail
          refine (A1.out _ hc1).mono ?_
          rintro e w2 ⟨rfl, hb2⟩
          have hc2 := below_step hc1 hb2
          have hq := hq.all hb2
          have hn2 := (Below.refl w2.heap.size w2).alloc (Nat.le_refl _) (.cells #[.int .i64 m.t, .int .i64 m.s, .int .i64 m.f] 35)
          have bO := BlockAt.new w2 #[.int .i64 m.t, .int .i64 m.s, .int .i64 m.f] 35
          have hc2 := below_step hc2 hn2
          have hq := hq.all hn2
          obtain ⟨W2, hW2⟩ : ∃ W2, w2.alloc (.cells #[.int .i64 m.t, .int .i64 m.s, .int .i64 m.f] 35) = W2 := ⟨_, rfl⟩
          rw [hW2] at hc2 bO hq
          have HW2 := Lib.hid hW2
          clear hW2 hn2 hb2
          obtain ⟨c0, c1, c2, c3, _⟩ := id hq
          rw [← HW2.out] at c0 c1 c2 c3
          go_wp2_with fail
          rw [HW2.out]
          refine (A2.out _ hc2).mono ?_
          rintro e w3 ⟨x, rfl, hx, hb3⟩
          have hc3 := below_step hc2 hb3
          clear c0 c1 c2 c3
          have hq := hq.all hb3
          have bO := bO.below hb3 bO.lt
          clear HW2
          have hx := hx.runs
          obtain ⟨xa, xc, rfl⟩ := hx.form
          obtain ⟨c0, c1, c2, c3, _⟩ := id hq
          go_wp2_with fail
          refine (A3.out _ hc3).mono ?_
          rintro e w4 ⟨y, rfl, hy, hb4⟩
          have hc4 := below_step hc3 hb4
          clear c0 c1 c2 c3
          have hq := hq.all hb4
          have bO := bO.below hb4 bO.lt
          have hx := hx.all hb4
          have hy := hy.runs
          obtain ⟨ya, yc, rfl⟩ := hy.form
          clear hb1 hb3 hb4 hc0 hc1 hc2 hc3
          have A5 := Lib.hid (fun W (hW : Below w4.heap.size w4 W) => D1.out _ W (hx.all hW))
          have A6 := Lib.hid (fun W (hW : Below w4.heap.size w4 W) => D2.out _ W (hy.all hW))
          clear hx hy D1 D2
          have hr4 := Below.refl w4.heap.size w4
          go_wp2_with fail
          refine (A5.out _ hr4).mono ?_
          rintro e w5 ⟨rfl, hb5⟩
          have hc5 := hb5
          have bO := bO.below hb5 bO.lt
          have hq := hq.all hb5
          have hn5 := (Below.refl w5.heap.size w5).alloc (Nat.le_refl _) (.cells #[.int .i64 m.t, .int .i64 m.s, .int .i64 m.f] 35)
          have bU := BlockAt.new w5 #[.int .i64 m.t, .int .i64 m.s, .int .i64 m.f] 35
          have hc5 := below_step hc5 hn5
          have hq := hq.all hn5
          have bOlt := bO.lt
          have bO := bO.alloc (.cells #[.int .i64 m.t, .int .i64 m.s, .int .i64 m.f] 35)
          obtain ⟨W5, hW5⟩ : ∃ W5, w5.alloc (.cells #[.int .i64 m.t, .int .i64 m.s, .int .i64 m.f] 35) = W5 := ⟨_, rfl⟩
          rw [hW5] at hc5 bU hq bO
          have HW5 := Lib.hid hW5
          clear hW5 hn5 hb5
          go_wp2_with fail
          rw [HW5.out]
          refine (A6.out _ hc5).mono ?_
          rintro e w6 ⟨rfl, hb6⟩
          have hc6 := below_step hc5 hb6
          have bO := bO.below hb6 bO.lt
          have bU := bU.below hb6 bU.lt
          have hq := hq.all hb6
          have hn6 := (Below.refl w6.heap.size w6).alloc (Nat.le_refl _) (.cells #[.int .i64 m.t, .int .i64 m.s, .int .i64 m.f] 35)
          have bV := BlockAt.new w6 #[.int .i64 m.t, .int .i64 m.s, .int .i64 m.f] 35
          have hc6 := below_step hc6 hn6
          have hq := hq.all hn6
          have bOlt := bO.lt
          have bO := bO.alloc (.cells #[.int .i64 m.t, .int .i64 m.s, .int .i64 m.f] 35)
          have bUlt := bU.lt
          have bU := bU.alloc (.cells #[.int .i64 m.t, .int .i64 m.s, .int .i64 m.f] 35)
          obtain ⟨W6, hW6⟩ : ∃ W6, w6.alloc (.cells #[.int .i64 m.t, .int .i64 m.s, .int .i64 m.f] 35) = W6 := ⟨_, rfl⟩
          rw [hW6] at hc6 bV hq bO bU
          have HW6 := Lib.hid hW6
          clear hW6 hn6 hb6
          clear HW5 A5 A6
          have x0 := bO.cell 0
          have x1 := bO.cell 1
          have x2 := bO.cell 2
          have hlt6 := bV.lt
          have hltU := bU.lt
          have hltO := bO.lt
          have hltq := hq.2.2.2.2
          have N1 := (BlockAt.new W6 #[.int .i64 m.t, .int .i64 m.s, .int .i64 m.f] 35).alloc (.cells #[.int .i64 m.t, .int .i64 m.s, .int .i64 m.f] 35)
          have N2 := BlockAt.new (W6.alloc (.cells #[.int .i64 m.t, .int .i64 m.s, .int .i64 m.f] 35)) #[.int .i64 m.t, .int .i64 m.s, .int .i64 m.f] 35
          rw [World.size_alloc] at N2
          have bU := (bU.alloc (.cells #[.int .i64 m.t, .int .i64 m.s, .int .i64 m.f] 35)).alloc (.cells #[.int .i64 m.t, .int .i64 m.s, .int .i64 m.f] 35)
          have bV := (bV.alloc (.cells #[.int .i64 m.t, .int .i64 m.s, .int .i64 m.f] 35)).alloc (.cells #[.int .i64 m.t, .int .i64 m.s, .int .i64 m.f] 35)
          have hn6 := ((Below.refl W6.heap.size W6).alloc (Nat.le_refl _) (.cells #[.int .i64 m.t, .int .i64 m.s, .int .i64 m.f] 35)).alloc (by simp) (.cells #[.int .i64 m.t, .int .i64 m.s, .int .i64 m.f] 35)
          have hq := hq.all hn6
          have hc7 := below_drewN (below_step hc4 (below_step hc6 hn6)) 1
          have HF := Lib.hid (And.intro N1 (And.intro N2 (And.intro bU (And.intro bV (And.intro hq hc7)))))
          rw [← HW6.out] at x0 x1 x2
          go_wp2_with fail
          rw [HW6.out]
          rw [HW6.out] at x0 x1 x2
          clear hq bO bU bV hc6 hc4 N1 N2 hn6 hc7
          go_region
          all_goals
            obtain ⟨N1, N2, bU, bV, hq, hc7⟩ := HF.out
            obtain ⟨Wd, hWd⟩ : ∃ Wd, ((W6.alloc (.cells #[.int .i64 m.t, .int .i64 m.s, .int .i64 m.f] 35)).alloc (.cells #[.int .i64 m.t, .int .i64 m.s, .int .i64 m.f] 35)).drew = Wd := ⟨_, rfl⟩
            replace N1 : BlockAt Wd W6.heap.size #[.int .i64 m.t, .int .i64 m.s, .int .i64 m.f] 35 := by rw [← hWd]; exact N1
            replace N2 : BlockAt Wd (W6.heap.size + 1) #[.int .i64 m.t, .int .i64 m.s, .int .i64 m.f] 35 := by rw [← hWd]; exact N2
            replace bU : BlockAt Wd w5.heap.size #[.int .i64 m.t, .int .i64 m.s, .int .i64 m.f] 35 := by rw [← hWd]; exact bU
            replace bV : BlockAt Wd w6.heap.size #[.int .i64 m.t, .int .i64 m.s, .int .i64 m.f] 35 := by rw [← hWd]; exact bV
            replace hq : FourAt Wd w.heap.size fr to fl th := by rw [← hWd]; exact hq
            replace hc7 : Below w.heap.size w Wd := by rw [← hWd]; exact hc7
            rw [hWd]
            generalize W6.heap.size = B1 at *
            obtain ⟨c0, c1', c2', c3', hqlt⟩ := hq
            clear HF hWd x0 x1 x2
            have u0 := bU.cell 0
            have u1 := bU.cell 1
            have u2 := bU.cell 2
            have v0 := bV.cell 0
            have v1 := bV.cell 1
            have v2 := bV.cell 2
            have y0 := N1.cell 0
            have y1 := N1.cell 1
            have y2 := N1.cell 2
            have z0 := N2.cell 0
            have z1 := N2.cell 1
            have z2 := N2.cell 2
            clear bU bV N1 N2
            go_wp2_with fail
            refine (known_any _).mono ?_
            rintro e w8 ⟨rfl, hb8⟩
            go_wp2
            go_ret
            exact ⟨rfl, below_step hc7 hb8⟩

      · rw [hE1] at A1
        rw [hE2] at A2
        generalize Bd.chaE rs fr to (Bd.chPOk th) (Bd.chP th) = z at *
        have hz : (z == 0) = false := by simp [hE3]
        have hz2 : (z != 0) = true := by simp [hE3]
        clear hE1 hE2 hE3
        clear D1 D2 G1 G2 hW0
        generalize Bd.chaR rs fr to (Bd.chFOk fl) (Bd.chF fl) = xs at *
        generalize Bd.chaR rs fr to (Bd.chPOk th) (Bd.chP th) = ys at *
        generalize Bd.atM rs p = m at *
        go_enter Try.func14, Try.ntmps14
        go_wp2_with fail
        refine (A0.out _ hc0).mono ?_
        rintro e w1 ⟨rfl, hb1⟩
        have hc1 := below_step hc0 hb1
        have hq := hq.all hb1
        go_wp2_with fail
        refine (A1.out _ hc1).mono ?_
        rintro e w2 ⟨rfl, hb2⟩
        have hc2 := below_step hc1 hb2
        have hq := hq.all hb2
        have hn2 := (Below.refl w2.heap.size w2).alloc (Nat.le_refl _) (.cells #[.int .i64 m.t, .int .i64 m.s, .int .i64 m.f] 35)
        have bO := BlockAt.new w2 #[.int .i64 m.t, .int .i64 m.s, .int .i64 m.f] 35
        have hc2 := below_step hc2 hn2
        have hq := hq.all hn2
        obtain ⟨W2, hW2⟩ : ∃ W2, w2.alloc (.cells #[.int .i64 m.t, .int .i64 m.s, .int .i64 m.f] 35) = W2 := ⟨_, rfl⟩
        rw [hW2] at hc2 bO hq
        have HW2 := Lib.hid hW2
        clear hW2 hn2 hb2
        obtain ⟨c0, c1, c2, c3, _⟩ := id hq
        rw [← HW2.out] at c0 c1 c2 c3
        go_wp2_with fail
        rw [HW2.out]
        refine (A2.out _ hc2).mono ?_
        rintro e w3 ⟨x, rfl, hx, hb3⟩
        have hc3 := below_step hc2 hb3
        clear c0 c1 c2 c3
        have hq := hq.all hb3
        have bO := bO.below hb3 bO.lt
        clear HW2
        have hx := hx.runs
        obtain ⟨xa, xc, rfl⟩ := hx.form
        obtain ⟨c0, c1, c2, c3, _⟩ := id hq
        go_wp2_with fail
        refine (A3.out _ hc3).mono ?_
        rintro e w4 ⟨y, rfl, hy, hb4⟩
        have hc4 := below_step hc3 hb4
        clear c0 c1 c2 c3
        have hq := hq.all hb4
        have bO := bO.below hb4 bO.lt
        have hx := hx.all hb4
        have hy := hy.runs
        obtain ⟨ya, yc, rfl⟩ := hy.form
        clear hb1 hb3 hb4 hc0 hc1 hc2 hc3
        go_wp2_with fail
        refine (known_any _).mono ?_
        rintro e w5 ⟨rfl, hb5⟩
        go_wp2
        go_ret
        exact ⟨rfl, below_step hc4 hb5⟩

    · rw [hE1] at A1
      generalize Bd.chaE rs fr to (Bd.chPOk th) (Bd.chP th) = y3 at *
      generalize Bd.chaE rs fr to (Bd.chFOk fl) (Bd.chF fl) = z at *
      have hz : (z == 0) = false := by simp [hE2]
      have hz2 : (z != 0) = true := by simp [hE2]
      clear hE1 hE2
      clear D1 D2 G1 G2 hW0
      generalize Bd.chaR rs fr to (Bd.chFOk fl) (Bd.chF fl) = xs at *
      generalize Bd.chaR rs fr to (Bd.chPOk th) (Bd.chP th) = ys at *
      generalize Bd.atM rs p = m at *
      go_enter Try.func14, Try.ntmps14
      go_wp2_with fail
      refine (A0.out _ hc0).mono ?_
      rintro e w1 ⟨rfl, hb1⟩
      have hc1 := below_step hc0 hb1
      have hq := hq.all hb1
      go_wp2_with fail
      refine (A1.out _ hc1).mono ?_
      rintro e w2 ⟨rfl, hb2⟩
      have hc2 := below_step hc1 hb2
      have hq := hq.all hb2
      have hn2 := (Below.refl w2.heap.size w2).alloc (Nat.le_refl _) (.cells #[.int .i64 m.t, .int .i64 m.s, .int .i64 m.f] 35)
      have bO := BlockAt.new w2 #[.int .i64 m.t, .int .i64 m.s, .int .i64 m.f] 35
      have hc2 := below_step hc2 hn2
      have hq := hq.all hn2
      obtain ⟨W2, hW2⟩ : ∃ W2, w2.alloc (.cells #[.int .i64 m.t, .int .i64 m.s, .int .i64 m.f] 35) = W2 := ⟨_, rfl⟩
      rw [hW2] at hc2 bO hq
      have HW2 := Lib.hid hW2
      clear hW2 hn2 hb2
      obtain ⟨c0, c1, c2, c3, _⟩ := id hq
      rw [← HW2.out] at c0 c1 c2 c3
      go_wp2_with fail
      rw [HW2.out]
      refine (A2.out _ hc2).mono ?_
      rintro e w3 ⟨x, rfl, hx, hb3⟩
      have hc3 := below_step hc2 hb3
      clear c0 c1 c2 c3
      have hq := hq.all hb3
      have bO := bO.below hb3 bO.lt
      clear HW2
      have hx := hx.runs
      obtain ⟨xa, xc, rfl⟩ := hx.form
      obtain ⟨c0, c1, c2, c3, _⟩ := id hq
      go_wp2_with fail
      refine (A3.out _ hc3).mono ?_
      rintro e w4 ⟨y, rfl, hy, hb4⟩
      have hc4 := below_step hc3 hb4
      clear c0 c1 c2 c3
      have hq := hq.all hb4
      have bO := bO.below hb4 bO.lt
      have hx := hx.all hb4
      have hy := hy.runs
      obtain ⟨ya, yc, rfl⟩ := hy.form
      clear hb1 hb3 hb4 hc0 hc1 hc2 hc3
      go_wp2_with fail
      refine (known_any _).mono ?_
      rintro e w5 ⟨rfl, hb5⟩
      go_wp2
      go_ret
      exact ⟨rfl, below_step hc4 hb5⟩

  · generalize Bd.chaE rs fr to (Bd.chPOk th) (Bd.chP th) = y3 at *
    generalize Bd.chaE rs fr to (Bd.chFOk fl) (Bd.chF fl) = y2 at *
    generalize Bd.atE rs p = z at *
    have hz : (z == 0) = false := by simp [hE1]
    have hz2 : (z != 0) = true := by simp [hE1]
    clear hE1
    clear D1 D2 G1 G2 hW0
    generalize Bd.chaR rs fr to (Bd.chFOk fl) (Bd.chF fl) = xs at *
    generalize Bd.chaR rs fr to (Bd.chPOk th) (Bd.chP th) = ys at *
    generalize Bd.atM rs p = m at *
    go_enter Try.func14, Try.ntmps14
    go_wp2_with fail
    refine (A0.out _ hc0).mono ?_
    rintro e w1 ⟨rfl, hb1⟩
    have hc1 := below_step hc0 hb1
    have hq := hq.all hb1
    go_wp2_with fail
    refine (A1.out _ hc1).mono ?_
    rintro e w2 ⟨rfl, hb2⟩
    have hc2 := below_step hc1 hb2
    have hq := hq.all hb2
    have hn2 := (Below.refl w2.heap.size w2).alloc (Nat.le_refl _) (.cells #[.int .i64 m.t, .int .i64 m.s, .int .i64 m.f] 35)
    have bO := BlockAt.new w2 #[.int .i64 m.t, .int .i64 m.s, .int .i64 m.f] 35
    have hc2 := below_step hc2 hn2
    have hq := hq.all hn2
    obtain ⟨W2, hW2⟩ : ∃ W2, w2.alloc (.cells #[.int .i64 m.t, .int .i64 m.s, .int .i64 m.f] 35) = W2 := ⟨_, rfl⟩
    rw [hW2] at hc2 bO hq
    have HW2 := Lib.hid hW2
    clear hW2 hn2 hb2
    obtain ⟨c0, c1, c2, c3, _⟩ := id hq
    rw [← HW2.out] at c0 c1 c2 c3
    go_wp2_with fail
    rw [HW2.out]
    refine (A2.out _ hc2).mono ?_
    rintro e w3 ⟨x, rfl, hx, hb3⟩
    have hc3 := below_step hc2 hb3
    clear c0 c1 c2 c3
    have hq := hq.all hb3
    have bO := bO.below hb3 bO.lt
    clear HW2
    have hx := hx.runs
    obtain ⟨xa, xc, rfl⟩ := hx.form
    obtain ⟨c0, c1, c2, c3, _⟩ := id hq
    go_wp2_with fail
    refine (A3.out _ hc3).mono ?_
    rintro e w4 ⟨y, rfl, hy, hb4⟩
    have hc4 := below_step hc3 hb4
    clear c0 c1 c2 c3
    have hq := hq.all hb4
    have bO := bO.below hb4 bO.lt
    have hx := hx.all hb4
    have hy := hy.runs
    obtain ⟨ya, yc, rfl⟩ := hy.form
    clear hb1 hb3 hb4 hc0 hc1 hc2 hc3
    go_wp2_with fail
    refine (known_any _).mono ?_
    rintro e w5 ⟨rfl, hb5⟩
    go_wp2
    go_ret
    exact ⟨rfl, below_step hc4 hb5⟩

end Go.Proofs.Ytgnpbcgfhmhhgaa
