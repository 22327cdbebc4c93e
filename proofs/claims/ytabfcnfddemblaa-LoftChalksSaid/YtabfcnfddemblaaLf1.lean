/- Small functions of package loft and of its reference: ranges, hangings. -/
import Derived.Test.YtabfcnfddemblaaLfM
namespace Go.Proofs.Ytabfcnfddemblaa.Lo
open Go.RowKit

set_option maxRecDepth 20000 in
theorem isFrom_any (lo hi n : Int) (w : World) : Calls Try.prog 58 #[.int .i64 lo, .int .i64 hi, .int .i64 n] w fun e w' => e = .returned (.bool (Lf.rng lo hi n)) ∧ w = w' := by
  by_cases h1 : lo ≤ n
  · have HE : Hid (Lf.rng lo hi n = decide (n ≤ hi)) := Lib.hid (by rw [Lf.rng, decide_eq_true h1]; rfl)
    generalize Lf.rng lo hi n = r at *
    go_enter Try.func58, Try.ntmps58
    go_wp2
    go_ret
    exact ⟨by rw [HE.out]; rfl, rfl⟩
  · have HE : Hid (Lf.rng lo hi n = false) := Lib.hid (by rw [Lf.rng, decide_eq_false h1]; rfl)
    generalize Lf.rng lo hi n = r at *
    go_enter Try.func58, Try.ntmps58
    go_wp2
    go_ret
    exact ⟨by rw [HE.out]; rfl, rfl⟩
set_option maxRecDepth 20000 in
theorem within_any (n lo hi : Int) (w : World) : Calls Try.prog 59 #[.int .i64 n, .int .i64 lo, .int .i64 hi] w fun e w' => e = .returned (.bool (Lf.rng lo hi n)) ∧ w = w' := by
  by_cases h1 : lo ≤ n
  · have HE : Hid (Lf.rng lo hi n = decide (n ≤ hi)) := Lib.hid (by rw [Lf.rng, decide_eq_true h1]; rfl)
    generalize Lf.rng lo hi n = r at *
    go_enter Try.func59, Try.ntmps59
    go_wp2
    go_ret
    exact ⟨by rw [HE.out]; rfl, rfl⟩
  · have HE : Hid (Lf.rng lo hi n = false) := Lib.hid (by rw [Lf.rng, decide_eq_false h1]; rfl)
    generalize Lf.rng lo hi n = r at *
    go_enter Try.func59, Try.ntmps59
    go_wp2
    go_ret
    exact ⟨by rw [HE.out]; rfl, rfl⟩
set_option maxRecDepth 20000 in
theorem isPlace_any (n : Int) (w : World) : Calls Try.prog 60 #[.int .i64 n] w fun e w' => e = .returned (.bool (Lf.rng 0 1000000 n)) ∧ w = w' := by
  have C := Lib.hid (fun W => isFrom_any 0 1000000 n W)
  generalize Lf.rng 0 1000000 n = r at *
  go_enter Try.func60, Try.ntmps60
  go_wp2_with fail
  refine (C.out _).mono ?_
  rintro e w1 ⟨rfl, rfl⟩
  go_wp2
  go_ret
  exact ⟨rfl, rfl⟩
/-- A hanging lies in a block. -/
def HgB (B : Nat) (h : Lf.H) (W : World) : Prop :=
  (W.cell? ⟨B, 0, none⟩ = some (.int .i64 h.d) ∧ W.cell? ⟨B, 1, none⟩ = some (.int .i64 h.s) ∧ W.cell? ⟨B, 2, none⟩ = some (.int .i64 h.y) ∧ W.cell? ⟨B, 3, none⟩ = some (.int .i64 h.r) ∧ W.cell? ⟨B, 4, none⟩ = some (.int .i64 h.f)) ∧ B < W.heap.size
theorem HgB.below {B N : Nat} {h : Lf.H} {W W2 : World} (hh : HgB B h W) (hb : Below N W W2) (hN : B < N) : HgB B h W2 :=
  ⟨⟨(hb.cell (p := ⟨B, 0, none⟩) hN).trans hh.1.1, (hb.cell (p := ⟨B, 1, none⟩) hN).trans hh.1.2.1, (hb.cell (p := ⟨B, 2, none⟩) hN).trans hh.1.2.2.1, (hb.cell (p := ⟨B, 3, none⟩) hN).trans hh.1.2.2.2.1, (hb.cell (p := ⟨B, 4, none⟩) hN).trans hh.1.2.2.2.2⟩, Nat.lt_of_lt_of_le hh.2 hb.size⟩
theorem HgB.of {B : Nat} {h : Lf.H} {W : World} {t : TypeId} (hh : BlockAt W B (hangA h) t) : HgB B h W := ⟨⟨hh.cell 0, hh.cell 1, hh.cell 2, hh.cell 3, hh.cell 4⟩, hh.lt⟩
set_option maxRecDepth 100000 in
set_option maxHeartbeats 4000000 in
theorem vHang_any (h : Lf.H) (w : World) : Calls Try.prog 22 #[hangV h] w fun e w' => e = .returned (.bool (Lf.vH h)) ∧ Below w.heap.size w w' := by
  have HW := Lib.hid (And.intro (HgB.of (BlockAt.new w (hangA h) HangT).drew) (below_drewN (below_alloc2 (Below.refl w.heap.size w) (.cells (hangA h) HangT)) 1))
  have HV : Hid (Lf.vH h = (Lf.rng 1 1000 h.d && (Lf.rng 0 (2 * h.d - 1) h.s && (Lf.rng 0 12 h.y && (Lf.rng 0 100000 h.r && Lf.rng 0 (h.r / h.d) h.f))))) := Lib.hid rfl
  generalize Lf.vH h = E at *
  obtain ⟨hd, hs, hy, hr, hf⟩ := h
  dsimp only at *
  have C0 := Lib.hid (fun W => isFrom_any 1 1000 hd W)
  have C1 := Lib.hid (fun W => isFrom_any 0 (2 * hd - 1) hs W)
  have C2 := Lib.hid (fun W => isFrom_any 0 12 hy W)
  have C3 := Lib.hid (fun W => isFrom_any 0 100000 hr W)
  have C4 := Lib.hid (fun W => isFrom_any 0 (hr / hd) hf W)
  cases k0 : Lf.rng 1 1000 hd
  · rw [k0] at C0 HV
    clear k0 C1 C2 C3 C4
    go_enter Try.func22, Try.ntmps22
    go_upto_region 1 with fail
    refine wp_region_seq [(0, true), (1, true), (2, false), (3, true), (4, true), (5, true), (6, true), (7, true), (8, true), (9, true), (10, false), (11, true), (12, true), (13, true), (14, true), (15, false), (16, true), (17, true), (18, true), (19, true), (20, false), (21, true), (22, true), (23, true), (24, true), (25, true), (26, true), (27, true), (28, true), (29, true), (30, false), (31, true), (32, true)] (fun W => HgB w.heap.size ⟨hd, hs, hy, hr, hf⟩ W)
      (by kernel_rfl) (by kernel_rfl) (by kernel_rfl) (by kernel_rfl) (fun d _ _ _ _ h => by cases d <;> exact h) HW.out.1 (fun _ => ?_)
    repeat (first | (refine SeqH.take (v := ?_) rfl (by rfl) ?_ ?_; rotate_left; (· intro w hSw; (try dsimp only at hSw); obtain ⟨⟨a0, a1, a2, a3, a4⟩, _⟩ := hSw; go_simp; (try with_reducible rfl)); simp only [Act.put, List.setIfInBounds_toArray, List.set_cons_zero, List.set_cons_succ]) | (refine SeqH.skip rfl (by rfl) ?_; simp only [Act.put, List.setIfInBounds_toArray, List.set_cons_zero, List.set_cons_succ]))
    refine SeqH.step rfl (by rfl) (fun K hK => ?_)
    go_simp
    go_at_call 58
    refine (C0.out _).mono ?_
    rintro e w7 ⟨rfl, rfl⟩
    try dsimp only
    refine hK.out _ _ (HW.out.1) (fun _ => ?_)
    clear hK K
    try simp only [Act.put, List.setIfInBounds_toArray, List.set_cons_zero, List.set_cons_succ]
    repeat (first | (refine SeqH.take (v := ?_) rfl (by rfl) ?_ ?_; rotate_left; (· intro w hSw; (try dsimp only at hSw); obtain ⟨⟨a0, a1, a2, a3, a4⟩, _⟩ := hSw; go_simp; (try with_reducible rfl)); simp only [Act.put, List.setIfInBounds_toArray, List.set_cons_zero, List.set_cons_succ]) | (refine SeqH.skip rfl (by rfl) ?_; simp only [Act.put, List.setIfInBounds_toArray, List.set_cons_zero, List.set_cons_succ]) | (refine SeqH.pass rfl (by rfl) (by exact HW.out.1) ?_; simp only [Act.put, List.setIfInBounds_toArray, List.set_cons_zero, List.set_cons_succ]))
    refine SeqH.done ?_
    go_wp2
    go_ret
    exact ⟨by rw [HV.out]; rfl, HW.out.2⟩
  · have b0 := Lf.rng_iff.1 k0
    rw [k0] at C0 HV
    clear k0
    have g0 : IntKind.i64.wrap (2 * hd) = 2 * hd := IntWalk.i64_in _ ⟨by omega, by omega⟩
    have g1 : IntKind.i64.wrap (2 * hd - 1) = 2 * hd - 1 := IntWalk.i64_in _ ⟨by omega, by omega⟩
    cases k1 : Lf.rng 0 (2 * hd - 1) hs
    · rw [k1] at C1 HV
      clear k1 C2 C3 C4
      go_enter Try.func22, Try.ntmps22
      go_upto_region 1 with fail
      refine wp_region_seq [(0, true), (1, true), (2, false), (3, true), (4, true), (5, true), (6, true), (7, true), (8, true), (9, true), (10, false), (11, true), (12, true), (13, true), (14, true), (15, false), (16, true), (17, true), (18, true), (19, true), (20, false), (21, true), (22, true), (23, true), (24, true), (25, true), (26, true), (27, true), (28, true), (29, true), (30, false), (31, true), (32, true)] (fun W => HgB w.heap.size ⟨hd, hs, hy, hr, hf⟩ W)
        (by kernel_rfl) (by kernel_rfl) (by kernel_rfl) (by kernel_rfl) (fun d _ _ _ _ h => by cases d <;> exact h) HW.out.1 (fun _ => ?_)
      repeat (first | (refine SeqH.take (v := ?_) rfl (by rfl) ?_ ?_; rotate_left; (· intro w hSw; (try dsimp only at hSw); obtain ⟨⟨a0, a1, a2, a3, a4⟩, _⟩ := hSw; go_simp; (try with_reducible rfl)); simp only [Act.put, List.setIfInBounds_toArray, List.set_cons_zero, List.set_cons_succ]) | (refine SeqH.skip rfl (by rfl) ?_; simp only [Act.put, List.setIfInBounds_toArray, List.set_cons_zero, List.set_cons_succ]))
      refine SeqH.step rfl (by rfl) (fun K hK => ?_)
      go_simp
      go_at_call 58
      refine (C0.out _).mono ?_
      rintro e w7 ⟨rfl, rfl⟩
      try dsimp only
      refine hK.out _ _ (HW.out.1) (fun _ => ?_)
      clear hK K
      try simp only [Act.put, List.setIfInBounds_toArray, List.set_cons_zero, List.set_cons_succ]
      repeat (first | (refine SeqH.take (v := ?_) rfl (by rfl) ?_ ?_; rotate_left; (· intro w hSw; (try dsimp only at hSw); obtain ⟨⟨a0, a1, a2, a3, a4⟩, _⟩ := hSw; go_simp; (try with_reducible rfl)); simp only [Act.put, List.setIfInBounds_toArray, List.set_cons_zero, List.set_cons_succ]) | (refine SeqH.skip rfl (by rfl) ?_; simp only [Act.put, List.setIfInBounds_toArray, List.set_cons_zero, List.set_cons_succ]))
      refine SeqH.step rfl (by rfl) (fun K hK => ?_)
      go_simp
      go_at_call 58
      refine (C1.out _).mono ?_
      rintro e w7 ⟨rfl, rfl⟩
      try dsimp only
      refine hK.out _ _ (HW.out.1) (fun _ => ?_)
      clear hK K
      try simp only [Act.put, List.setIfInBounds_toArray, List.set_cons_zero, List.set_cons_succ]
      repeat (first | (refine SeqH.take (v := ?_) rfl (by rfl) ?_ ?_; rotate_left; (· intro w hSw; (try dsimp only at hSw); obtain ⟨⟨a0, a1, a2, a3, a4⟩, _⟩ := hSw; go_simp; (try with_reducible rfl)); simp only [Act.put, List.setIfInBounds_toArray, List.set_cons_zero, List.set_cons_succ]) | (refine SeqH.skip rfl (by rfl) ?_; simp only [Act.put, List.setIfInBounds_toArray, List.set_cons_zero, List.set_cons_succ]) | (refine SeqH.pass rfl (by rfl) (by exact HW.out.1) ?_; simp only [Act.put, List.setIfInBounds_toArray, List.set_cons_zero, List.set_cons_succ]))
      refine SeqH.done ?_
      go_wp2
      go_ret
      exact ⟨by rw [HV.out]; rfl, HW.out.2⟩
    · have b1 := Lf.rng_iff.1 k1
      rw [k1] at C1 HV
      clear k1
      cases k2 : Lf.rng 0 12 hy
      · rw [k2] at C2 HV
        clear k2 C3 C4
        go_enter Try.func22, Try.ntmps22
        go_upto_region 1 with fail
        refine wp_region_seq [(0, true), (1, true), (2, false), (3, true), (4, true), (5, true), (6, true), (7, true), (8, true), (9, true), (10, false), (11, true), (12, true), (13, true), (14, true), (15, false), (16, true), (17, true), (18, true), (19, true), (20, false), (21, true), (22, true), (23, true), (24, true), (25, true), (26, true), (27, true), (28, true), (29, true), (30, false), (31, true), (32, true)] (fun W => HgB w.heap.size ⟨hd, hs, hy, hr, hf⟩ W)
          (by kernel_rfl) (by kernel_rfl) (by kernel_rfl) (by kernel_rfl) (fun d _ _ _ _ h => by cases d <;> exact h) HW.out.1 (fun _ => ?_)
        repeat (first | (refine SeqH.take (v := ?_) rfl (by rfl) ?_ ?_; rotate_left; (· intro w hSw; (try dsimp only at hSw); obtain ⟨⟨a0, a1, a2, a3, a4⟩, _⟩ := hSw; go_simp; (try with_reducible rfl)); simp only [Act.put, List.setIfInBounds_toArray, List.set_cons_zero, List.set_cons_succ]) | (refine SeqH.skip rfl (by rfl) ?_; simp only [Act.put, List.setIfInBounds_toArray, List.set_cons_zero, List.set_cons_succ]))
        refine SeqH.step rfl (by rfl) (fun K hK => ?_)
        go_simp
        go_at_call 58
        refine (C0.out _).mono ?_
        rintro e w7 ⟨rfl, rfl⟩
        try dsimp only
        refine hK.out _ _ (HW.out.1) (fun _ => ?_)
        clear hK K
        try simp only [Act.put, List.setIfInBounds_toArray, List.set_cons_zero, List.set_cons_succ]
        repeat (first | (refine SeqH.take (v := ?_) rfl (by rfl) ?_ ?_; rotate_left; (· intro w hSw; (try dsimp only at hSw); obtain ⟨⟨a0, a1, a2, a3, a4⟩, _⟩ := hSw; go_simp; (try with_reducible rfl)); simp only [Act.put, List.setIfInBounds_toArray, List.set_cons_zero, List.set_cons_succ]) | (refine SeqH.skip rfl (by rfl) ?_; simp only [Act.put, List.setIfInBounds_toArray, List.set_cons_zero, List.set_cons_succ]))
        refine SeqH.step rfl (by rfl) (fun K hK => ?_)
        go_simp
        go_at_call 58
        refine (C1.out _).mono ?_
        rintro e w7 ⟨rfl, rfl⟩
        try dsimp only
        refine hK.out _ _ (HW.out.1) (fun _ => ?_)
        clear hK K
        try simp only [Act.put, List.setIfInBounds_toArray, List.set_cons_zero, List.set_cons_succ]
        repeat (first | (refine SeqH.take (v := ?_) rfl (by rfl) ?_ ?_; rotate_left; (· intro w hSw; (try dsimp only at hSw); obtain ⟨⟨a0, a1, a2, a3, a4⟩, _⟩ := hSw; go_simp; (try with_reducible rfl)); simp only [Act.put, List.setIfInBounds_toArray, List.set_cons_zero, List.set_cons_succ]) | (refine SeqH.skip rfl (by rfl) ?_; simp only [Act.put, List.setIfInBounds_toArray, List.set_cons_zero, List.set_cons_succ]))
        refine SeqH.step rfl (by rfl) (fun K hK => ?_)
        go_simp
        go_at_call 58
        refine (C2.out _).mono ?_
        rintro e w7 ⟨rfl, rfl⟩
        try dsimp only
        refine hK.out _ _ (HW.out.1) (fun _ => ?_)
        clear hK K
        try simp only [Act.put, List.setIfInBounds_toArray, List.set_cons_zero, List.set_cons_succ]
        repeat (first | (refine SeqH.take (v := ?_) rfl (by rfl) ?_ ?_; rotate_left; (· intro w hSw; (try dsimp only at hSw); obtain ⟨⟨a0, a1, a2, a3, a4⟩, _⟩ := hSw; go_simp; (try with_reducible rfl)); simp only [Act.put, List.setIfInBounds_toArray, List.set_cons_zero, List.set_cons_succ]) | (refine SeqH.skip rfl (by rfl) ?_; simp only [Act.put, List.setIfInBounds_toArray, List.set_cons_zero, List.set_cons_succ]) | (refine SeqH.pass rfl (by rfl) (by exact HW.out.1) ?_; simp only [Act.put, List.setIfInBounds_toArray, List.set_cons_zero, List.set_cons_succ]))
        refine SeqH.done ?_
        go_wp2
        go_ret
        exact ⟨by rw [HV.out]; rfl, HW.out.2⟩
      · have b2 := Lf.rng_iff.1 k2
        rw [k2] at C2 HV
        clear k2
        cases k3 : Lf.rng 0 100000 hr
        · rw [k3] at C3 HV
          clear k3 C4
          go_enter Try.func22, Try.ntmps22
          go_upto_region 1 with fail
          refine wp_region_seq [(0, true), (1, true), (2, false), (3, true), (4, true), (5, true), (6, true), (7, true), (8, true), (9, true), (10, false), (11, true), (12, true), (13, true), (14, true), (15, false), (16, true), (17, true), (18, true), (19, true), (20, false), (21, true), (22, true), (23, true), (24, true), (25, true), (26, true), (27, true), (28, true), (29, true), (30, false), (31, true), (32, true)] (fun W => HgB w.heap.size ⟨hd, hs, hy, hr, hf⟩ W)
            (by kernel_rfl) (by kernel_rfl) (by kernel_rfl) (by kernel_rfl) (fun d _ _ _ _ h => by cases d <;> exact h) HW.out.1 (fun _ => ?_)
          repeat (first | (refine SeqH.take (v := ?_) rfl (by rfl) ?_ ?_; rotate_left; (· intro w hSw; (try dsimp only at hSw); obtain ⟨⟨a0, a1, a2, a3, a4⟩, _⟩ := hSw; go_simp; (try with_reducible rfl)); simp only [Act.put, List.setIfInBounds_toArray, List.set_cons_zero, List.set_cons_succ]) | (refine SeqH.skip rfl (by rfl) ?_; simp only [Act.put, List.setIfInBounds_toArray, List.set_cons_zero, List.set_cons_succ]))
          refine SeqH.step rfl (by rfl) (fun K hK => ?_)
          go_simp
          go_at_call 58
          refine (C0.out _).mono ?_
          rintro e w7 ⟨rfl, rfl⟩
          try dsimp only
          refine hK.out _ _ (HW.out.1) (fun _ => ?_)
          clear hK K
          try simp only [Act.put, List.setIfInBounds_toArray, List.set_cons_zero, List.set_cons_succ]
          repeat (first | (refine SeqH.take (v := ?_) rfl (by rfl) ?_ ?_; rotate_left; (· intro w hSw; (try dsimp only at hSw); obtain ⟨⟨a0, a1, a2, a3, a4⟩, _⟩ := hSw; go_simp; (try with_reducible rfl)); simp only [Act.put, List.setIfInBounds_toArray, List.set_cons_zero, List.set_cons_succ]) | (refine SeqH.skip rfl (by rfl) ?_; simp only [Act.put, List.setIfInBounds_toArray, List.set_cons_zero, List.set_cons_succ]))
          refine SeqH.step rfl (by rfl) (fun K hK => ?_)
          go_simp
          go_at_call 58
          refine (C1.out _).mono ?_
          rintro e w7 ⟨rfl, rfl⟩
          try dsimp only
          refine hK.out _ _ (HW.out.1) (fun _ => ?_)
          clear hK K
          try simp only [Act.put, List.setIfInBounds_toArray, List.set_cons_zero, List.set_cons_succ]
          repeat (first | (refine SeqH.take (v := ?_) rfl (by rfl) ?_ ?_; rotate_left; (· intro w hSw; (try dsimp only at hSw); obtain ⟨⟨a0, a1, a2, a3, a4⟩, _⟩ := hSw; go_simp; (try with_reducible rfl)); simp only [Act.put, List.setIfInBounds_toArray, List.set_cons_zero, List.set_cons_succ]) | (refine SeqH.skip rfl (by rfl) ?_; simp only [Act.put, List.setIfInBounds_toArray, List.set_cons_zero, List.set_cons_succ]))
          refine SeqH.step rfl (by rfl) (fun K hK => ?_)
          go_simp
          go_at_call 58
          refine (C2.out _).mono ?_
          rintro e w7 ⟨rfl, rfl⟩
          try dsimp only
          refine hK.out _ _ (HW.out.1) (fun _ => ?_)
          clear hK K
          try simp only [Act.put, List.setIfInBounds_toArray, List.set_cons_zero, List.set_cons_succ]
          repeat (first | (refine SeqH.take (v := ?_) rfl (by rfl) ?_ ?_; rotate_left; (· intro w hSw; (try dsimp only at hSw); obtain ⟨⟨a0, a1, a2, a3, a4⟩, _⟩ := hSw; go_simp; (try with_reducible rfl)); simp only [Act.put, List.setIfInBounds_toArray, List.set_cons_zero, List.set_cons_succ]) | (refine SeqH.skip rfl (by rfl) ?_; simp only [Act.put, List.setIfInBounds_toArray, List.set_cons_zero, List.set_cons_succ]))
          refine SeqH.step rfl (by rfl) (fun K hK => ?_)
          go_simp
          go_at_call 58
          refine (C3.out _).mono ?_
          rintro e w7 ⟨rfl, rfl⟩
          try dsimp only
          refine hK.out _ _ (HW.out.1) (fun _ => ?_)
          clear hK K
          try simp only [Act.put, List.setIfInBounds_toArray, List.set_cons_zero, List.set_cons_succ]
          repeat (first | (refine SeqH.take (v := ?_) rfl (by rfl) ?_ ?_; rotate_left; (· intro w hSw; (try dsimp only at hSw); obtain ⟨⟨a0, a1, a2, a3, a4⟩, _⟩ := hSw; go_simp; (try with_reducible rfl)); simp only [Act.put, List.setIfInBounds_toArray, List.set_cons_zero, List.set_cons_succ]) | (refine SeqH.skip rfl (by rfl) ?_; simp only [Act.put, List.setIfInBounds_toArray, List.set_cons_zero, List.set_cons_succ]) | (refine SeqH.pass rfl (by rfl) (by exact HW.out.1) ?_; simp only [Act.put, List.setIfInBounds_toArray, List.set_cons_zero, List.set_cons_succ]))
          refine SeqH.done ?_
          go_wp2
          go_ret
          exact ⟨by rw [HV.out]; rfl, HW.out.2⟩
        · have b3 := Lf.rng_iff.1 k3
          rw [k3] at C3 HV
          clear k3
          have g2 : (hd == 0) = false := beq_eq_false_iff_ne.2 (by omega)
          have g3 : hd ≠ 0 := by omega
          have g4 : hr.tdiv hd = hr / hd := Int.tdiv_eq_ediv_of_nonneg (by omega)
          have g5 : 0 ≤ hr / hd := Int.ediv_nonneg (by omega) (by omega)
          have g6 : hr / hd ≤ hr := Int.ediv_le_self _ (by omega)
          have g7 : IntKind.i64.wrap (hr / hd) = hr / hd := IntWalk.i64_in _ ⟨by omega, by omega⟩
          generalize Lf.rng 0 (hr / hd) hf = r4 at *
          go_enter Try.func22, Try.ntmps22
          go_upto_region 1 with fail
          refine wp_region_seq [(0, true), (1, true), (2, false), (3, true), (4, true), (5, true), (6, true), (7, true), (8, true), (9, true), (10, false), (11, true), (12, true), (13, true), (14, true), (15, false), (16, true), (17, true), (18, true), (19, true), (20, false), (21, true), (22, true), (23, true), (24, true), (25, true), (26, true), (27, true), (28, true), (29, true), (30, false), (31, true), (32, true)] (fun W => HgB w.heap.size ⟨hd, hs, hy, hr, hf⟩ W)
            (by kernel_rfl) (by kernel_rfl) (by kernel_rfl) (by kernel_rfl) (fun d _ _ _ _ h => by cases d <;> exact h) HW.out.1 (fun _ => ?_)
          repeat (first | (refine SeqH.take (v := ?_) rfl (by rfl) ?_ ?_; rotate_left; (· intro w hSw; (try dsimp only at hSw); obtain ⟨⟨a0, a1, a2, a3, a4⟩, _⟩ := hSw; go_simp; (try with_reducible rfl)); simp only [Act.put, List.setIfInBounds_toArray, List.set_cons_zero, List.set_cons_succ]) | (refine SeqH.skip rfl (by rfl) ?_; simp only [Act.put, List.setIfInBounds_toArray, List.set_cons_zero, List.set_cons_succ]))
          refine SeqH.step rfl (by rfl) (fun K hK => ?_)
          go_simp
          go_at_call 58
          refine (C0.out _).mono ?_
          rintro e w7 ⟨rfl, rfl⟩
          try dsimp only
          refine hK.out _ _ (HW.out.1) (fun _ => ?_)
          clear hK K
          try simp only [Act.put, List.setIfInBounds_toArray, List.set_cons_zero, List.set_cons_succ]
          repeat (first | (refine SeqH.take (v := ?_) rfl (by rfl) ?_ ?_; rotate_left; (· intro w hSw; (try dsimp only at hSw); obtain ⟨⟨a0, a1, a2, a3, a4⟩, _⟩ := hSw; go_simp; (try with_reducible rfl)); simp only [Act.put, List.setIfInBounds_toArray, List.set_cons_zero, List.set_cons_succ]) | (refine SeqH.skip rfl (by rfl) ?_; simp only [Act.put, List.setIfInBounds_toArray, List.set_cons_zero, List.set_cons_succ]))
          refine SeqH.step rfl (by rfl) (fun K hK => ?_)
          go_simp
          go_at_call 58
          refine (C1.out _).mono ?_
          rintro e w7 ⟨rfl, rfl⟩
          try dsimp only
          refine hK.out _ _ (HW.out.1) (fun _ => ?_)
          clear hK K
          try simp only [Act.put, List.setIfInBounds_toArray, List.set_cons_zero, List.set_cons_succ]
          repeat (first | (refine SeqH.take (v := ?_) rfl (by rfl) ?_ ?_; rotate_left; (· intro w hSw; (try dsimp only at hSw); obtain ⟨⟨a0, a1, a2, a3, a4⟩, _⟩ := hSw; go_simp; (try with_reducible rfl)); simp only [Act.put, List.setIfInBounds_toArray, List.set_cons_zero, List.set_cons_succ]) | (refine SeqH.skip rfl (by rfl) ?_; simp only [Act.put, List.setIfInBounds_toArray, List.set_cons_zero, List.set_cons_succ]))
          refine SeqH.step rfl (by rfl) (fun K hK => ?_)
          go_simp
          go_at_call 58
          refine (C2.out _).mono ?_
          rintro e w7 ⟨rfl, rfl⟩
          try dsimp only
          refine hK.out _ _ (HW.out.1) (fun _ => ?_)
          clear hK K
          try simp only [Act.put, List.setIfInBounds_toArray, List.set_cons_zero, List.set_cons_succ]
          repeat (first | (refine SeqH.take (v := ?_) rfl (by rfl) ?_ ?_; rotate_left; (· intro w hSw; (try dsimp only at hSw); obtain ⟨⟨a0, a1, a2, a3, a4⟩, _⟩ := hSw; go_simp; (try with_reducible rfl)); simp only [Act.put, List.setIfInBounds_toArray, List.set_cons_zero, List.set_cons_succ]) | (refine SeqH.skip rfl (by rfl) ?_; simp only [Act.put, List.setIfInBounds_toArray, List.set_cons_zero, List.set_cons_succ]))
          refine SeqH.step rfl (by rfl) (fun K hK => ?_)
          go_simp
          go_at_call 58
          refine (C3.out _).mono ?_
          rintro e w7 ⟨rfl, rfl⟩
          try dsimp only
          refine hK.out _ _ (HW.out.1) (fun _ => ?_)
          clear hK K
          try simp only [Act.put, List.setIfInBounds_toArray, List.set_cons_zero, List.set_cons_succ]
          repeat (first | (refine SeqH.take (v := ?_) rfl (by rfl) ?_ ?_; rotate_left; (· intro w hSw; (try dsimp only at hSw); obtain ⟨⟨a0, a1, a2, a3, a4⟩, _⟩ := hSw; go_simp; (try with_reducible rfl)); simp only [Act.put, List.setIfInBounds_toArray, List.set_cons_zero, List.set_cons_succ]) | (refine SeqH.skip rfl (by rfl) ?_; simp only [Act.put, List.setIfInBounds_toArray, List.set_cons_zero, List.set_cons_succ]))
          refine SeqH.step rfl (by rfl) (fun K hK => ?_)
          go_simp
          go_at_call 58
          refine (C4.out _).mono ?_
          rintro e w7 ⟨rfl, rfl⟩
          try dsimp only
          refine hK.out _ _ (HW.out.1) (fun _ => ?_)
          clear hK K
          try simp only [Act.put, List.setIfInBounds_toArray, List.set_cons_zero, List.set_cons_succ]
          repeat (first | (refine SeqH.take (v := ?_) rfl (by rfl) ?_ ?_; rotate_left; (· intro w hSw; (try dsimp only at hSw); obtain ⟨⟨a0, a1, a2, a3, a4⟩, _⟩ := hSw; go_simp; (try with_reducible rfl)); simp only [Act.put, List.setIfInBounds_toArray, List.set_cons_zero, List.set_cons_succ]) | (refine SeqH.skip rfl (by rfl) ?_; simp only [Act.put, List.setIfInBounds_toArray, List.set_cons_zero, List.set_cons_succ]) | (refine SeqH.pass rfl (by rfl) (by exact HW.out.1) ?_; simp only [Act.put, List.setIfInBounds_toArray, List.set_cons_zero, List.set_cons_succ]))
          refine SeqH.done ?_
          go_wp2
          go_ret
          exact ⟨by rw [HV.out]; rfl, HW.out.2⟩
set_option maxRecDepth 100000 in
set_option maxHeartbeats 4000000 in
theorem rvHang_any (h : Lf.H) (w : World) : Calls Try.prog 23 #[hangV h] w fun e w' => e = .returned (.bool (Lf.vH h)) ∧ Below w.heap.size w w' := by
  have HW := Lib.hid (And.intro (HgB.of (BlockAt.new w (hangA h) RHangT).drew) (below_drewN (below_alloc2 (Below.refl w.heap.size w) (.cells (hangA h) RHangT)) 1))
  have HV : Hid (Lf.vH h = (Lf.rng 1 1000 h.d && (Lf.rng 0 (2 * h.d - 1) h.s && (Lf.rng 0 12 h.y && (Lf.rng 0 100000 h.r && Lf.rng 0 (h.r / h.d) h.f))))) := Lib.hid rfl
  generalize Lf.vH h = E at *
  obtain ⟨hd, hs, hy, hr, hf⟩ := h
  dsimp only at *
  have C0 := Lib.hid (fun W => within_any hd 1 1000 W)
  have C1 := Lib.hid (fun W => within_any hs 0 (2 * hd - 1) W)
  have C2 := Lib.hid (fun W => within_any hy 0 12 W)
  have C3 := Lib.hid (fun W => within_any hr 0 100000 W)
  have C4 := Lib.hid (fun W => within_any hf 0 (hr / hd) W)
  cases k0 : Lf.rng 1 1000 hd
  · rw [k0] at C0 HV
    clear k0 C1 C2 C3 C4
    go_enter Try.func23, Try.ntmps23
    go_upto_region 1 with fail
    refine wp_region_seq [(0, true), (1, true), (2, false), (3, true), (4, true), (5, true), (6, true), (7, true), (8, true), (9, true), (10, false), (11, true), (12, true), (13, true), (14, true), (15, false), (16, true), (17, true), (18, true), (19, true), (20, false), (21, true), (22, true), (23, true), (24, true), (25, true), (26, true), (27, true), (28, true), (29, true), (30, false), (31, true), (32, true)] (fun W => HgB w.heap.size ⟨hd, hs, hy, hr, hf⟩ W)
      (by kernel_rfl) (by kernel_rfl) (by kernel_rfl) (by kernel_rfl) (fun d _ _ _ _ h => by cases d <;> exact h) HW.out.1 (fun _ => ?_)
    repeat (first | (refine SeqH.take (v := ?_) rfl (by rfl) ?_ ?_; rotate_left; (· intro w hSw; (try dsimp only at hSw); obtain ⟨⟨a0, a1, a2, a3, a4⟩, _⟩ := hSw; go_simp; (try with_reducible rfl)); simp only [Act.put, List.setIfInBounds_toArray, List.set_cons_zero, List.set_cons_succ]) | (refine SeqH.skip rfl (by rfl) ?_; simp only [Act.put, List.setIfInBounds_toArray, List.set_cons_zero, List.set_cons_succ]))
    refine SeqH.step rfl (by rfl) (fun K hK => ?_)
    go_simp
    go_at_call 59
    refine (C0.out _).mono ?_
    rintro e w7 ⟨rfl, rfl⟩
    try dsimp only
    refine hK.out _ _ (HW.out.1) (fun _ => ?_)
    clear hK K
    try simp only [Act.put, List.setIfInBounds_toArray, List.set_cons_zero, List.set_cons_succ]
    repeat (first | (refine SeqH.take (v := ?_) rfl (by rfl) ?_ ?_; rotate_left; (· intro w hSw; (try dsimp only at hSw); obtain ⟨⟨a0, a1, a2, a3, a4⟩, _⟩ := hSw; go_simp; (try with_reducible rfl)); simp only [Act.put, List.setIfInBounds_toArray, List.set_cons_zero, List.set_cons_succ]) | (refine SeqH.skip rfl (by rfl) ?_; simp only [Act.put, List.setIfInBounds_toArray, List.set_cons_zero, List.set_cons_succ]) | (refine SeqH.pass rfl (by rfl) (by exact HW.out.1) ?_; simp only [Act.put, List.setIfInBounds_toArray, List.set_cons_zero, List.set_cons_succ]))
    refine SeqH.done ?_
    go_wp2
    go_ret
    exact ⟨by rw [HV.out]; rfl, HW.out.2⟩
  · have b0 := Lf.rng_iff.1 k0
    rw [k0] at C0 HV
    clear k0
    have g0 : IntKind.i64.wrap (2 * hd) = 2 * hd := IntWalk.i64_in _ ⟨by omega, by omega⟩
    have g1 : IntKind.i64.wrap (2 * hd - 1) = 2 * hd - 1 := IntWalk.i64_in _ ⟨by omega, by omega⟩
    cases k1 : Lf.rng 0 (2 * hd - 1) hs
    · rw [k1] at C1 HV
      clear k1 C2 C3 C4
      go_enter Try.func23, Try.ntmps23
      go_upto_region 1 with fail
      refine wp_region_seq [(0, true), (1, true), (2, false), (3, true), (4, true), (5, true), (6, true), (7, true), (8, true), (9, true), (10, false), (11, true), (12, true), (13, true), (14, true), (15, false), (16, true), (17, true), (18, true), (19, true), (20, false), (21, true), (22, true), (23, true), (24, true), (25, true), (26, true), (27, true), (28, true), (29, true), (30, false), (31, true), (32, true)] (fun W => HgB w.heap.size ⟨hd, hs, hy, hr, hf⟩ W)
        (by kernel_rfl) (by kernel_rfl) (by kernel_rfl) (by kernel_rfl) (fun d _ _ _ _ h => by cases d <;> exact h) HW.out.1 (fun _ => ?_)
      repeat (first | (refine SeqH.take (v := ?_) rfl (by rfl) ?_ ?_; rotate_left; (· intro w hSw; (try dsimp only at hSw); obtain ⟨⟨a0, a1, a2, a3, a4⟩, _⟩ := hSw; go_simp; (try with_reducible rfl)); simp only [Act.put, List.setIfInBounds_toArray, List.set_cons_zero, List.set_cons_succ]) | (refine SeqH.skip rfl (by rfl) ?_; simp only [Act.put, List.setIfInBounds_toArray, List.set_cons_zero, List.set_cons_succ]))
      refine SeqH.step rfl (by rfl) (fun K hK => ?_)
      go_simp
      go_at_call 59
      refine (C0.out _).mono ?_
      rintro e w7 ⟨rfl, rfl⟩
      try dsimp only
      refine hK.out _ _ (HW.out.1) (fun _ => ?_)
      clear hK K
      try simp only [Act.put, List.setIfInBounds_toArray, List.set_cons_zero, List.set_cons_succ]
      repeat (first | (refine SeqH.take (v := ?_) rfl (by rfl) ?_ ?_; rotate_left; (· intro w hSw; (try dsimp only at hSw); obtain ⟨⟨a0, a1, a2, a3, a4⟩, _⟩ := hSw; go_simp; (try with_reducible rfl)); simp only [Act.put, List.setIfInBounds_toArray, List.set_cons_zero, List.set_cons_succ]) | (refine SeqH.skip rfl (by rfl) ?_; simp only [Act.put, List.setIfInBounds_toArray, List.set_cons_zero, List.set_cons_succ]))
      refine SeqH.step rfl (by rfl) (fun K hK => ?_)
      go_simp
      go_at_call 59
      refine (C1.out _).mono ?_
      rintro e w7 ⟨rfl, rfl⟩
      try dsimp only
      refine hK.out _ _ (HW.out.1) (fun _ => ?_)
      clear hK K
      try simp only [Act.put, List.setIfInBounds_toArray, List.set_cons_zero, List.set_cons_succ]
      repeat (first | (refine SeqH.take (v := ?_) rfl (by rfl) ?_ ?_; rotate_left; (· intro w hSw; (try dsimp only at hSw); obtain ⟨⟨a0, a1, a2, a3, a4⟩, _⟩ := hSw; go_simp; (try with_reducible rfl)); simp only [Act.put, List.setIfInBounds_toArray, List.set_cons_zero, List.set_cons_succ]) | (refine SeqH.skip rfl (by rfl) ?_; simp only [Act.put, List.setIfInBounds_toArray, List.set_cons_zero, List.set_cons_succ]) | (refine SeqH.pass rfl (by rfl) (by exact HW.out.1) ?_; simp only [Act.put, List.setIfInBounds_toArray, List.set_cons_zero, List.set_cons_succ]))
      refine SeqH.done ?_
      go_wp2
      go_ret
      exact ⟨by rw [HV.out]; rfl, HW.out.2⟩
    · have b1 := Lf.rng_iff.1 k1
      rw [k1] at C1 HV
      clear k1
      cases k2 : Lf.rng 0 12 hy
      · rw [k2] at C2 HV
        clear k2 C3 C4
        go_enter Try.func23, Try.ntmps23
        go_upto_region 1 with fail
        refine wp_region_seq [(0, true), (1, true), (2, false), (3, true), (4, true), (5, true), (6, true), (7, true), (8, true), (9, true), (10, false), (11, true), (12, true), (13, true), (14, true), (15, false), (16, true), (17, true), (18, true), (19, true), (20, false), (21, true), (22, true), (23, true), (24, true), (25, true), (26, true), (27, true), (28, true), (29, true), (30, false), (31, true), (32, true)] (fun W => HgB w.heap.size ⟨hd, hs, hy, hr, hf⟩ W)
          (by kernel_rfl) (by kernel_rfl) (by kernel_rfl) (by kernel_rfl) (fun d _ _ _ _ h => by cases d <;> exact h) HW.out.1 (fun _ => ?_)
        repeat (first | (refine SeqH.take (v := ?_) rfl (by rfl) ?_ ?_; rotate_left; (· intro w hSw; (try dsimp only at hSw); obtain ⟨⟨a0, a1, a2, a3, a4⟩, _⟩ := hSw; go_simp; (try with_reducible rfl)); simp only [Act.put, List.setIfInBounds_toArray, List.set_cons_zero, List.set_cons_succ]) | (refine SeqH.skip rfl (by rfl) ?_; simp only [Act.put, List.setIfInBounds_toArray, List.set_cons_zero, List.set_cons_succ]))
        refine SeqH.step rfl (by rfl) (fun K hK => ?_)
        go_simp
        go_at_call 59
        refine (C0.out _).mono ?_
        rintro e w7 ⟨rfl, rfl⟩
        try dsimp only
        refine hK.out _ _ (HW.out.1) (fun _ => ?_)
        clear hK K
        try simp only [Act.put, List.setIfInBounds_toArray, List.set_cons_zero, List.set_cons_succ]
        repeat (first | (refine SeqH.take (v := ?_) rfl (by rfl) ?_ ?_; rotate_left; (· intro w hSw; (try dsimp only at hSw); obtain ⟨⟨a0, a1, a2, a3, a4⟩, _⟩ := hSw; go_simp; (try with_reducible rfl)); simp only [Act.put, List.setIfInBounds_toArray, List.set_cons_zero, List.set_cons_succ]) | (refine SeqH.skip rfl (by rfl) ?_; simp only [Act.put, List.setIfInBounds_toArray, List.set_cons_zero, List.set_cons_succ]))
        refine SeqH.step rfl (by rfl) (fun K hK => ?_)
        go_simp
        go_at_call 59
        refine (C1.out _).mono ?_
        rintro e w7 ⟨rfl, rfl⟩
        try dsimp only
        refine hK.out _ _ (HW.out.1) (fun _ => ?_)
        clear hK K
        try simp only [Act.put, List.setIfInBounds_toArray, List.set_cons_zero, List.set_cons_succ]
        repeat (first | (refine SeqH.take (v := ?_) rfl (by rfl) ?_ ?_; rotate_left; (· intro w hSw; (try dsimp only at hSw); obtain ⟨⟨a0, a1, a2, a3, a4⟩, _⟩ := hSw; go_simp; (try with_reducible rfl)); simp only [Act.put, List.setIfInBounds_toArray, List.set_cons_zero, List.set_cons_succ]) | (refine SeqH.skip rfl (by rfl) ?_; simp only [Act.put, List.setIfInBounds_toArray, List.set_cons_zero, List.set_cons_succ]))
        refine SeqH.step rfl (by rfl) (fun K hK => ?_)
        go_simp
        go_at_call 59
        refine (C2.out _).mono ?_
        rintro e w7 ⟨rfl, rfl⟩
        try dsimp only
        refine hK.out _ _ (HW.out.1) (fun _ => ?_)
        clear hK K
        try simp only [Act.put, List.setIfInBounds_toArray, List.set_cons_zero, List.set_cons_succ]
        repeat (first | (refine SeqH.take (v := ?_) rfl (by rfl) ?_ ?_; rotate_left; (· intro w hSw; (try dsimp only at hSw); obtain ⟨⟨a0, a1, a2, a3, a4⟩, _⟩ := hSw; go_simp; (try with_reducible rfl)); simp only [Act.put, List.setIfInBounds_toArray, List.set_cons_zero, List.set_cons_succ]) | (refine SeqH.skip rfl (by rfl) ?_; simp only [Act.put, List.setIfInBounds_toArray, List.set_cons_zero, List.set_cons_succ]) | (refine SeqH.pass rfl (by rfl) (by exact HW.out.1) ?_; simp only [Act.put, List.setIfInBounds_toArray, List.set_cons_zero, List.set_cons_succ]))
        refine SeqH.done ?_
        go_wp2
        go_ret
        exact ⟨by rw [HV.out]; rfl, HW.out.2⟩
      · have b2 := Lf.rng_iff.1 k2
        rw [k2] at C2 HV
        clear k2
        cases k3 : Lf.rng 0 100000 hr
        · rw [k3] at C3 HV
          clear k3 C4
          go_enter Try.func23, Try.ntmps23
          go_upto_region 1 with fail
          refine wp_region_seq [(0, true), (1, true), (2, false), (3, true), (4, true), (5, true), (6, true), (7, true), (8, true), (9, true), (10, false), (11, true), (12, true), (13, true), (14, true), (15, false), (16, true), (17, true), (18, true), (19, true), (20, false), (21, true), (22, true), (23, true), (24, true), (25, true), (26, true), (27, true), (28, true), (29, true), (30, false), (31, true), (32, true)] (fun W => HgB w.heap.size ⟨hd, hs, hy, hr, hf⟩ W)
            (by kernel_rfl) (by kernel_rfl) (by kernel_rfl) (by kernel_rfl) (fun d _ _ _ _ h => by cases d <;> exact h) HW.out.1 (fun _ => ?_)
          repeat (first | (refine SeqH.take (v := ?_) rfl (by rfl) ?_ ?_; rotate_left; (· intro w hSw; (try dsimp only at hSw); obtain ⟨⟨a0, a1, a2, a3, a4⟩, _⟩ := hSw; go_simp; (try with_reducible rfl)); simp only [Act.put, List.setIfInBounds_toArray, List.set_cons_zero, List.set_cons_succ]) | (refine SeqH.skip rfl (by rfl) ?_; simp only [Act.put, List.setIfInBounds_toArray, List.set_cons_zero, List.set_cons_succ]))
          refine SeqH.step rfl (by rfl) (fun K hK => ?_)
          go_simp
          go_at_call 59
          refine (C0.out _).mono ?_
          rintro e w7 ⟨rfl, rfl⟩
          try dsimp only
          refine hK.out _ _ (HW.out.1) (fun _ => ?_)
          clear hK K
          try simp only [Act.put, List.setIfInBounds_toArray, List.set_cons_zero, List.set_cons_succ]
          repeat (first | (refine SeqH.take (v := ?_) rfl (by rfl) ?_ ?_; rotate_left; (· intro w hSw; (try dsimp only at hSw); obtain ⟨⟨a0, a1, a2, a3, a4⟩, _⟩ := hSw; go_simp; (try with_reducible rfl)); simp only [Act.put, List.setIfInBounds_toArray, List.set_cons_zero, List.set_cons_succ]) | (refine SeqH.skip rfl (by rfl) ?_; simp only [Act.put, List.setIfInBounds_toArray, List.set_cons_zero, List.set_cons_succ]))
          refine SeqH.step rfl (by rfl) (fun K hK => ?_)
          go_simp
          go_at_call 59
          refine (C1.out _).mono ?_
          rintro e w7 ⟨rfl, rfl⟩
          try dsimp only
          refine hK.out _ _ (HW.out.1) (fun _ => ?_)
          clear hK K
          try simp only [Act.put, List.setIfInBounds_toArray, List.set_cons_zero, List.set_cons_succ]
          repeat (first | (refine SeqH.take (v := ?_) rfl (by rfl) ?_ ?_; rotate_left; (· intro w hSw; (try dsimp only at hSw); obtain ⟨⟨a0, a1, a2, a3, a4⟩, _⟩ := hSw; go_simp; (try with_reducible rfl)); simp only [Act.put, List.setIfInBounds_toArray, List.set_cons_zero, List.set_cons_succ]) | (refine SeqH.skip rfl (by rfl) ?_; simp only [Act.put, List.setIfInBounds_toArray, List.set_cons_zero, List.set_cons_succ]))
          refine SeqH.step rfl (by rfl) (fun K hK => ?_)
          go_simp
          go_at_call 59
          refine (C2.out _).mono ?_
          rintro e w7 ⟨rfl, rfl⟩
          try dsimp only
          refine hK.out _ _ (HW.out.1) (fun _ => ?_)
          clear hK K
          try simp only [Act.put, List.setIfInBounds_toArray, List.set_cons_zero, List.set_cons_succ]
          repeat (first | (refine SeqH.take (v := ?_) rfl (by rfl) ?_ ?_; rotate_left; (· intro w hSw; (try dsimp only at hSw); obtain ⟨⟨a0, a1, a2, a3, a4⟩, _⟩ := hSw; go_simp; (try with_reducible rfl)); simp only [Act.put, List.setIfInBounds_toArray, List.set_cons_zero, List.set_cons_succ]) | (refine SeqH.skip rfl (by rfl) ?_; simp only [Act.put, List.setIfInBounds_toArray, List.set_cons_zero, List.set_cons_succ]))
          refine SeqH.step rfl (by rfl) (fun K hK => ?_)
          go_simp
          go_at_call 59
          refine (C3.out _).mono ?_
          rintro e w7 ⟨rfl, rfl⟩
          try dsimp only
          refine hK.out _ _ (HW.out.1) (fun _ => ?_)
          clear hK K
          try simp only [Act.put, List.setIfInBounds_toArray, List.set_cons_zero, List.set_cons_succ]
          repeat (first | (refine SeqH.take (v := ?_) rfl (by rfl) ?_ ?_; rotate_left; (· intro w hSw; (try dsimp only at hSw); obtain ⟨⟨a0, a1, a2, a3, a4⟩, _⟩ := hSw; go_simp; (try with_reducible rfl)); simp only [Act.put, List.setIfInBounds_toArray, List.set_cons_zero, List.set_cons_succ]) | (refine SeqH.skip rfl (by rfl) ?_; simp only [Act.put, List.setIfInBounds_toArray, List.set_cons_zero, List.set_cons_succ]) | (refine SeqH.pass rfl (by rfl) (by exact HW.out.1) ?_; simp only [Act.put, List.setIfInBounds_toArray, List.set_cons_zero, List.set_cons_succ]))
          refine SeqH.done ?_
          go_wp2
          go_ret
          exact ⟨by rw [HV.out]; rfl, HW.out.2⟩
        · have b3 := Lf.rng_iff.1 k3
          rw [k3] at C3 HV
          clear k3
          have g2 : (hd == 0) = false := beq_eq_false_iff_ne.2 (by omega)
          have g3 : hd ≠ 0 := by omega
          have g4 : hr.tdiv hd = hr / hd := Int.tdiv_eq_ediv_of_nonneg (by omega)
          have g5 : 0 ≤ hr / hd := Int.ediv_nonneg (by omega) (by omega)
          have g6 : hr / hd ≤ hr := Int.ediv_le_self _ (by omega)
          have g7 : IntKind.i64.wrap (hr / hd) = hr / hd := IntWalk.i64_in _ ⟨by omega, by omega⟩
          generalize Lf.rng 0 (hr / hd) hf = r4 at *
          go_enter Try.func23, Try.ntmps23
          go_upto_region 1 with fail
          refine wp_region_seq [(0, true), (1, true), (2, false), (3, true), (4, true), (5, true), (6, true), (7, true), (8, true), (9, true), (10, false), (11, true), (12, true), (13, true), (14, true), (15, false), (16, true), (17, true), (18, true), (19, true), (20, false), (21, true), (22, true), (23, true), (24, true), (25, true), (26, true), (27, true), (28, true), (29, true), (30, false), (31, true), (32, true)] (fun W => HgB w.heap.size ⟨hd, hs, hy, hr, hf⟩ W)
            (by kernel_rfl) (by kernel_rfl) (by kernel_rfl) (by kernel_rfl) (fun d _ _ _ _ h => by cases d <;> exact h) HW.out.1 (fun _ => ?_)
          repeat (first | (refine SeqH.take (v := ?_) rfl (by rfl) ?_ ?_; rotate_left; (· intro w hSw; (try dsimp only at hSw); obtain ⟨⟨a0, a1, a2, a3, a4⟩, _⟩ := hSw; go_simp; (try with_reducible rfl)); simp only [Act.put, List.setIfInBounds_toArray, List.set_cons_zero, List.set_cons_succ]) | (refine SeqH.skip rfl (by rfl) ?_; simp only [Act.put, List.setIfInBounds_toArray, List.set_cons_zero, List.set_cons_succ]))
          refine SeqH.step rfl (by rfl) (fun K hK => ?_)
          go_simp
          go_at_call 59
          refine (C0.out _).mono ?_
          rintro e w7 ⟨rfl, rfl⟩
          try dsimp only
          refine hK.out _ _ (HW.out.1) (fun _ => ?_)
          clear hK K
          try simp only [Act.put, List.setIfInBounds_toArray, List.set_cons_zero, List.set_cons_succ]
          repeat (first | (refine SeqH.take (v := ?_) rfl (by rfl) ?_ ?_; rotate_left; (· intro w hSw; (try dsimp only at hSw); obtain ⟨⟨a0, a1, a2, a3, a4⟩, _⟩ := hSw; go_simp; (try with_reducible rfl)); simp only [Act.put, List.setIfInBounds_toArray, List.set_cons_zero, List.set_cons_succ]) | (refine SeqH.skip rfl (by rfl) ?_; simp only [Act.put, List.setIfInBounds_toArray, List.set_cons_zero, List.set_cons_succ]))
          refine SeqH.step rfl (by rfl) (fun K hK => ?_)
          go_simp
          go_at_call 59
          refine (C1.out _).mono ?_
          rintro e w7 ⟨rfl, rfl⟩
          try dsimp only
          refine hK.out _ _ (HW.out.1) (fun _ => ?_)
          clear hK K
          try simp only [Act.put, List.setIfInBounds_toArray, List.set_cons_zero, List.set_cons_succ]
          repeat (first | (refine SeqH.take (v := ?_) rfl (by rfl) ?_ ?_; rotate_left; (· intro w hSw; (try dsimp only at hSw); obtain ⟨⟨a0, a1, a2, a3, a4⟩, _⟩ := hSw; go_simp; (try with_reducible rfl)); simp only [Act.put, List.setIfInBounds_toArray, List.set_cons_zero, List.set_cons_succ]) | (refine SeqH.skip rfl (by rfl) ?_; simp only [Act.put, List.setIfInBounds_toArray, List.set_cons_zero, List.set_cons_succ]))
          refine SeqH.step rfl (by rfl) (fun K hK => ?_)
          go_simp
          go_at_call 59
          refine (C2.out _).mono ?_
          rintro e w7 ⟨rfl, rfl⟩
          try dsimp only
          refine hK.out _ _ (HW.out.1) (fun _ => ?_)
          clear hK K
          try simp only [Act.put, List.setIfInBounds_toArray, List.set_cons_zero, List.set_cons_succ]
          repeat (first | (refine SeqH.take (v := ?_) rfl (by rfl) ?_ ?_; rotate_left; (· intro w hSw; (try dsimp only at hSw); obtain ⟨⟨a0, a1, a2, a3, a4⟩, _⟩ := hSw; go_simp; (try with_reducible rfl)); simp only [Act.put, List.setIfInBounds_toArray, List.set_cons_zero, List.set_cons_succ]) | (refine SeqH.skip rfl (by rfl) ?_; simp only [Act.put, List.setIfInBounds_toArray, List.set_cons_zero, List.set_cons_succ]))
          refine SeqH.step rfl (by rfl) (fun K hK => ?_)
          go_simp
          go_at_call 59
          refine (C3.out _).mono ?_
          rintro e w7 ⟨rfl, rfl⟩
          try dsimp only
          refine hK.out _ _ (HW.out.1) (fun _ => ?_)
          clear hK K
          try simp only [Act.put, List.setIfInBounds_toArray, List.set_cons_zero, List.set_cons_succ]
          repeat (first | (refine SeqH.take (v := ?_) rfl (by rfl) ?_ ?_; rotate_left; (· intro w hSw; (try dsimp only at hSw); obtain ⟨⟨a0, a1, a2, a3, a4⟩, _⟩ := hSw; go_simp; (try with_reducible rfl)); simp only [Act.put, List.setIfInBounds_toArray, List.set_cons_zero, List.set_cons_succ]) | (refine SeqH.skip rfl (by rfl) ?_; simp only [Act.put, List.setIfInBounds_toArray, List.set_cons_zero, List.set_cons_succ]))
          refine SeqH.step rfl (by rfl) (fun K hK => ?_)
          go_simp
          go_at_call 59
          refine (C4.out _).mono ?_
          rintro e w7 ⟨rfl, rfl⟩
          try dsimp only
          refine hK.out _ _ (HW.out.1) (fun _ => ?_)
          clear hK K
          try simp only [Act.put, List.setIfInBounds_toArray, List.set_cons_zero, List.set_cons_succ]
          repeat (first | (refine SeqH.take (v := ?_) rfl (by rfl) ?_ ?_; rotate_left; (· intro w hSw; (try dsimp only at hSw); obtain ⟨⟨a0, a1, a2, a3, a4⟩, _⟩ := hSw; go_simp; (try with_reducible rfl)); simp only [Act.put, List.setIfInBounds_toArray, List.set_cons_zero, List.set_cons_succ]) | (refine SeqH.skip rfl (by rfl) ?_; simp only [Act.put, List.setIfInBounds_toArray, List.set_cons_zero, List.set_cons_succ]) | (refine SeqH.pass rfl (by rfl) (by exact HW.out.1) ?_; simp only [Act.put, List.setIfInBounds_toArray, List.set_cons_zero, List.set_cons_succ]))
          refine SeqH.done ?_
          go_wp2
          go_ret
          exact ⟨by rw [HV.out]; rfl, HW.out.2⟩
end Go.Proofs.Ytabfcnfddemblaa.Lo
