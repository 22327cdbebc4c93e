/- NumShareFair: the walk. -/
import Derived.Test.YtmmmlcnclehilaaDoorShare5
import Derived.Test.YtmmmlcnclehilaaDoorMoney0
import Derived.Test.YtmmmlcnclehilaaDoorSeq
import Derived.IntWalk
namespace Go.Proofs.YtmmmlcnclehilaaDoor
open Go.RowKit Go.Sort

theorem Ints.form0 {w : World} {v : Value} {ws : List Int} (h : Ints w v ws) : ∃ a c, v = .slice a ws.length c := by
  rcases h with ⟨a, c, rfl, rfl⟩ | ⟨b, off, cap, rfl, _⟩
  · exact ⟨a, c, rfl⟩
  · exact ⟨_, cap, rfl⟩
theorem part_bd {T : Int} {ws : List Int} (hs : Sh.sumB ws = true) (h0 : 0 ≤ T) (h1 : T ≤ 1099511627776) {k : Nat} (hk : k < ws.length) : 0 ≤ Lr.partF T ws k ∧ Lr.partF T ws k ≤ 1152921504606846977 := by
  obtain ⟨_, _, _, _, q0, q1, _, _⟩ := Lr.round_ok hs h0 h1 hk
  unfold Lr.partF
  split <;> omega

set_option maxRecDepth 20000 in
set_option maxHeartbeats 2000000 in
theorem fair_walk (T : Int) (v : Value) (ws : List Int) (w : World) (hv : Ints w v ws) :
    Calls Tryd.prog 4 #[.int .i64 T, v] w fun e w' => e = .returned (.bool true) ∧ Below w.heap.size w w' := by
  by_cases hl : 100 < ws.length
  · obtain ⟨a, c, rfl⟩ := hv.form0
    have hl' : (100 : Int) < (ws.length : Int) := by omega
    clear hv hl
    go_enter Tryd.func4, Tryd.ntmps4
    go_wp2_with fail
    refine (known_any _).mono ?_
    rintro e w1 ⟨rfl, hb1⟩
    go_wp2
    go_ret
    exact ⟨rfl, hb1⟩
  · have hl' : ¬ (100 : Int) < (ws.length : Int) := by omega
    cases hok : shareOk T ws with
    | false =>
      have C := Lib.hid (share_bad T v ws w hv (by omega) hok)
      obtain ⟨a, c, rfl⟩ := hv.form0
      clear hv hl hok
      go_enter Tryd.func4, Tryd.ntmps4
      go_wp2_with fail
      refine C.out.mono ?_
      rintro e w1 ⟨rfl, hb1⟩
      go_wp2_with fail
      refine (known_any _).mono ?_
      rintro e w2 ⟨rfl, hb2⟩
      have hb := hb1.trans (hb2.mono hb1.size)
      go_wp2
      go_ret
      exact ⟨rfl, hb⟩
    | true =>
      unfold shareOk at hok
      simp only [Bool.and_eq_true, decide_eq_true_eq] at hok
      obtain ⟨⟨hs, h0⟩, h1⟩ := hok
      have C := Lib.hid (share_good T v ws w hv (by omega) hs h0 h1)
      obtain ⟨u1, u2, _⟩ := Sh.usable hs
      have hf := Sh.fits_of hs h0
      have HZ := Lib.hid (fun i (hi : i < ws.length) => Lr.part_zero hf hi)
      have HS := Lib.hid (fun i k (hik : i < k) (hk : k < ws.length) => Lr.part_same hf hik hk)
      have HM := Lib.hid (fun i k (hi : i < ws.length) (hk : k < ws.length) => Lr.part_more hf hi hk)
      have HB := Lib.hid (fun k (hk : k < ws.length) => part_bd hs h0 h1 hk)
      have HW := Lib.hid (fun k (hk : k < ws.length) => (Sh.usable hs).2.2.2.2 k hk)
      have hcell : ∃ b off cap, v = .slice (some ⟨b, off, none⟩) ws.length cap ∧ b < w.heap.size ∧ ∀ k, k < ws.length → w.cell? ⟨b, off + k, none⟩ = some (.int .i64 (Lr.wt ws k)) := by
        rcases hv with ⟨a, c, rfl, rfl⟩ | ⟨b, off, cap, rfl, _, hb, hc⟩
        · simp at u2
        · exact ⟨b, off, cap, rfl, hb, hc⟩
      obtain ⟨b, off, cap, rfl, hbl, hc⟩ := hcell
      have HC := Lib.hid hc
      clear hv hl hs h0 h1 hf hc
      generalize hp : Lr.partF T ws = p at *
      go_enter Tryd.func4, Tryd.ntmps4
      go_wp2_with fail
      refine C.out.mono ?_
      rintro e w1 ⟨⟨rfl, hblk⟩, hb1⟩
      have HK := Lib.hid (fun W (h : w1.heap = World.heap W) k (hk : k < ws.length) => hk)
      have HG := Lib.hid (And.intro hblk hb1)
      clear hblk hb1 C HK
      go_wp2
      go_loopw [7] (fun t wr => ∃ i : Nat, i ≤ ws.length ∧ t = .int .i64 i ∧ Hid (BlockAt wr w.heap.size (fnC ws.length p) 3 ∧ Below w.heap.size w wr)) (fun t _ => ws.length - (intOf t).toNat)
      case atStart => exact ⟨0, Nat.zero_le _, rfl, HG⟩
      case round =>
        obtain ⟨i, hi, rfl, hg⟩ := hrel
        clear HG
        by_cases hlt : i < ws.length
        · obtain ⟨hblk, hb1⟩ := hg.out
          have ci := (hb1.cell (p := ⟨b, off + i, none⟩) hbl).trans (HC.out i hlt)
          have di := (hblk.cell i).trans (fnC_at hlt)
          have z := HZ.out i hlt
          have HX := Lib.hid (And.intro (HW.out i hlt) (HB.out i hlt))
          have HZ1 := Lib.hid z
          clear z hblk hb1
          by_cases hz : Lr.wt ws i = 0
          all_goals
            first
              | have hpz := HZ1.out hz
              | skip
            clear HZ1
            go_wp2
            go_loopw [8] (fun t w2 => ∃ k : Nat, k ≤ ws.length ∧ t = .int .i64 k ∧ Hid (BlockAt w2 w.heap.size (fnC ws.length p) 3 ∧ Below w.heap.size w w2)) (fun t _ => ws.length - (intOf t).toNat)
            case atStart => exact ⟨0, Nat.zero_le _, rfl, hg⟩
            case round =>
              obtain ⟨k, hk, rfl, hg2⟩ := hrel
              by_cases hkl : k < ws.length
              · obtain ⟨hblk, hb1⟩ := hg2.out
                have ck := (hb1.cell (p := ⟨b, off + k, none⟩) hbl).trans (HC.out k hkl)
                have ci := (hb1.cell (p := ⟨b, off + i, none⟩) hbl).trans (HC.out i hlt)
                have dk := (hblk.cell k).trans (fnC_at hkl)
                have di := (hblk.cell i).trans (fnC_at hlt)
                have hS := fun (hik : i < k) => HS.out i k hik hkl
                have hM := HM.out i k hlt hkl
                obtain ⟨x0, x1⟩ := HW.out i hlt
                obtain ⟨y0, y1⟩ := HW.out k hkl
                obtain ⟨a0, a1⟩ := HB.out i hlt
                obtain ⟨c0, c1⟩ := HB.out k hkl
                have HH := Lib.hid (And.intro hblk hb1)
                clear hg2 hblk hb1 HX
                try clear hpz
                try clear hz
                generalize Lr.wt ws i = x at *
                generalize Lr.wt ws k = y at *
                generalize p i = a at *
                generalize p k = c at *
                rcases Int.lt_trichotomy x y with hxy | hxy | hxy
                · have q1 : decide (y < x) = false := decide_eq_false (by omega)
                  have q3 : (x == y) = false := beq_eq_false_iff_ne.2 (by omega)
                  clear hS hM
                  try clear hxy
                  try clear hik
                  try clear he
                  go_wp2_with fail
                  refine wp_region_seq [(0, true), (1, true), (2, true), (3, true), (4, true), (5, true), (6, true), (7, true), (8, true), (9, true), (10, true), (11, true), (12, true), (13, true), (14, true), (15, true), (16, true), (17, true), (18, true), (19, true), (20, true), (21, true), (22, true), (23, true), (24, true), (25, true), (26, true), (27, true), (28, true), (29, true), (30, true), (31, true), (32, true), (33, true), (34, true), (35, true), (36, true), (37, true), (38, true), (39, true), (40, true), (41, true), (42, true), (43, true), (44, true), (45, true), (46, true), (47, true), (48, true), (49, true), (50, true), (51, true), (52, true), (53, true), (54, true), (55, true), (56, true), (57, true), (58, true)]
                    (fun W => (W.cell? ⟨b, off + i, none⟩ = some (.int .i64 x) ∧ W.cell? ⟨b, off + k, none⟩ = some (.int .i64 y) ∧ W.cell? ⟨w.heap.size, i, none⟩ = some (.int .i64 a) ∧ W.cell? ⟨w.heap.size, k, none⟩ = some (.int .i64 c)) ∧ Hid (BlockAt W w.heap.size (fnC ws.length p) 3 ∧ Below w.heap.size w W))
                    (by kernel_rfl) (by kernel_rfl) (by kernel_rfl) (by kernel_rfl) (fun d _ _ _ _ h => by cases d <;> exact h)
                    (by exact ⟨⟨ci, ck, di, dk⟩, Lib.hid ⟨HH.out.1.drew, HH.out.2.drew⟩⟩) (fun hS => ?_)
                  clear ci ck di dk HH
                  repeat (first
                    | (refine SeqH.skip rfl (by rfl) ?_; simp only [Act.put, List.setIfInBounds_toArray, List.set_cons_zero, List.set_cons_succ])
                    | (refine SeqH.take (v := ?_) rfl (by rfl) ?_ ?_; rotate_left; (· intro w hSw; (try dsimp only at hSw); obtain ⟨⟨c0, c1, c2, c3⟩, _⟩ := hSw; go_simp; (try with_reducible rfl)); simp only [Act.put, List.setIfInBounds_toArray, List.set_cons_zero, List.set_cons_succ]))
                  refine SeqH.done ?_
                  have HH := hS.2
                  clear hS
                  go_wp2
                  go_roundw
                  case rel => exact ⟨k + 1, by omega, by go_num, Lib.hid ⟨HH.out.1, HH.out.2⟩⟩
                  case measure => simp [intOf]; omega
                · by_cases hik : i < k
                  · rcases hS hik hxy with he | he
                    · have q1 : decide (y < x) = false := decide_eq_false (by omega)
                      have q3 : (x == y) = true := beq_iff_eq.2 hxy
                      have q4 : decide ((i : Int) < (k : Int)) = true := decide_eq_true (by omega)
                      have q4n : decide (i < k) = true := decide_eq_true hik
                      have q5 : (a != c) = false := by rw [he]; simp
                      clear hS hM
                      try clear hxy
                      try clear hik
                      try clear he
                      go_wp2_with fail
                      refine wp_region_seq [(0, true), (1, true), (2, true), (3, true), (4, true), (5, true), (6, true), (7, true), (8, true), (9, true), (10, true), (11, true), (12, true), (13, true), (14, true), (15, true), (16, true), (17, true), (18, true), (19, true), (20, true), (21, true), (22, true), (23, true), (24, true), (25, true), (26, true), (27, true), (28, true), (29, true), (30, true), (31, true), (32, true), (33, true), (34, true), (35, true), (36, true), (37, true), (38, true), (39, true), (40, true), (41, true), (42, true), (43, true), (44, true), (45, true), (46, true), (47, true), (48, true), (49, true), (50, true), (51, true), (52, true), (53, true), (54, true), (55, true), (56, true), (57, true), (58, true)]
                        (fun W => (W.cell? ⟨b, off + i, none⟩ = some (.int .i64 x) ∧ W.cell? ⟨b, off + k, none⟩ = some (.int .i64 y) ∧ W.cell? ⟨w.heap.size, i, none⟩ = some (.int .i64 a) ∧ W.cell? ⟨w.heap.size, k, none⟩ = some (.int .i64 c)) ∧ Hid (BlockAt W w.heap.size (fnC ws.length p) 3 ∧ Below w.heap.size w W))
                        (by kernel_rfl) (by kernel_rfl) (by kernel_rfl) (by kernel_rfl) (fun d _ _ _ _ h => by cases d <;> exact h)
                        (by exact ⟨⟨ci, ck, di, dk⟩, Lib.hid ⟨HH.out.1.drew, HH.out.2.drew⟩⟩) (fun hS => ?_)
                      clear ci ck di dk HH
                      repeat (first
                        | (refine SeqH.skip rfl (by rfl) ?_; simp only [Act.put, List.setIfInBounds_toArray, List.set_cons_zero, List.set_cons_succ])
                        | (refine SeqH.take (v := ?_) rfl (by rfl) ?_ ?_; rotate_left; (· intro w hSw; (try dsimp only at hSw); obtain ⟨⟨c0, c1, c2, c3⟩, _⟩ := hSw; go_simp; (try with_reducible rfl)); simp only [Act.put, List.setIfInBounds_toArray, List.set_cons_zero, List.set_cons_succ]))
                      refine SeqH.done ?_
                      have HH := hS.2
                      clear hS
                      go_wp2
                      go_roundw
                      case rel => exact ⟨k + 1, by omega, by go_num, Lib.hid ⟨HH.out.1, HH.out.2⟩⟩
                      case measure => simp [intOf]; omega
                    · have q1 : decide (y < x) = false := decide_eq_false (by omega)
                      have q3 : (x == y) = true := beq_iff_eq.2 hxy
                      have q4 : decide ((i : Int) < (k : Int)) = true := decide_eq_true (by omega)
                      have q4n : decide (i < k) = true := decide_eq_true hik
                      have q5 : (a != c) = true := bne_iff_ne.2 (by omega)
                      have hwc : IntKind.i64.wrap (c + 1) = c + 1 := IntWalk.i64_in _ ⟨by omega, by omega⟩
                      have q6 : (a != c + 1) = false := by rw [he]; simp
                      clear hS hM
                      try clear hxy
                      try clear hik
                      try clear he
                      go_wp2_with fail
                      refine wp_region_seq [(0, true), (1, true), (2, true), (3, true), (4, true), (5, true), (6, true), (7, true), (8, true), (9, true), (10, true), (11, true), (12, true), (13, true), (14, true), (15, true), (16, true), (17, true), (18, true), (19, true), (20, true), (21, true), (22, true), (23, true), (24, true), (25, true), (26, true), (27, true), (28, true), (29, true), (30, true), (31, true), (32, true), (33, true), (34, true), (35, true), (36, true), (37, true), (38, true), (39, true), (40, true), (41, true), (42, true), (43, true), (44, true), (45, true), (46, true), (47, true), (48, true), (49, true), (50, true), (51, true), (52, true), (53, true), (54, true), (55, true), (56, true), (57, true), (58, true)]
                        (fun W => (W.cell? ⟨b, off + i, none⟩ = some (.int .i64 x) ∧ W.cell? ⟨b, off + k, none⟩ = some (.int .i64 y) ∧ W.cell? ⟨w.heap.size, i, none⟩ = some (.int .i64 a) ∧ W.cell? ⟨w.heap.size, k, none⟩ = some (.int .i64 c)) ∧ Hid (BlockAt W w.heap.size (fnC ws.length p) 3 ∧ Below w.heap.size w W))
                        (by kernel_rfl) (by kernel_rfl) (by kernel_rfl) (by kernel_rfl) (fun d _ _ _ _ h => by cases d <;> exact h)
                        (by exact ⟨⟨ci, ck, di, dk⟩, Lib.hid ⟨HH.out.1.drew, HH.out.2.drew⟩⟩) (fun hS => ?_)
                      clear ci ck di dk HH
                      repeat (first
                        | (refine SeqH.skip rfl (by rfl) ?_; simp only [Act.put, List.setIfInBounds_toArray, List.set_cons_zero, List.set_cons_succ])
                        | (refine SeqH.take (v := ?_) rfl (by rfl) ?_ ?_; rotate_left; (· intro w hSw; (try dsimp only at hSw); obtain ⟨⟨c0, c1, c2, c3⟩, _⟩ := hSw; go_simp; (try with_reducible rfl)); simp only [Act.put, List.setIfInBounds_toArray, List.set_cons_zero, List.set_cons_succ]))
                      refine SeqH.done ?_
                      have HH := hS.2
                      clear hS
                      go_wp2
                      go_roundw
                      case rel => exact ⟨k + 1, by omega, by go_num, Lib.hid ⟨HH.out.1, HH.out.2⟩⟩
                      case measure => simp [intOf]; omega
                  · have q1 : decide (y < x) = false := decide_eq_false (by omega)
                    have q3 : (x == y) = true := beq_iff_eq.2 hxy
                    have q4 : decide ((i : Int) < (k : Int)) = false := decide_eq_false (by omega)
                    have q4n : decide (i < k) = false := decide_eq_false hik
                    clear hS hM
                    try clear hxy
                    try clear hik
                    try clear he
                    go_wp2_with fail
                    refine wp_region_seq [(0, true), (1, true), (2, true), (3, true), (4, true), (5, true), (6, true), (7, true), (8, true), (9, true), (10, true), (11, true), (12, true), (13, true), (14, true), (15, true), (16, true), (17, true), (18, true), (19, true), (20, true), (21, true), (22, true), (23, true), (24, true), (25, true), (26, true), (27, true), (28, true), (29, true), (30, true), (31, true), (32, true), (33, true), (34, true), (35, true), (36, true), (37, true), (38, true), (39, true), (40, true), (41, true), (42, true), (43, true), (44, true), (45, true), (46, true), (47, true), (48, true), (49, true), (50, true), (51, true), (52, true), (53, true), (54, true), (55, true), (56, true), (57, true), (58, true)]
                      (fun W => (W.cell? ⟨b, off + i, none⟩ = some (.int .i64 x) ∧ W.cell? ⟨b, off + k, none⟩ = some (.int .i64 y) ∧ W.cell? ⟨w.heap.size, i, none⟩ = some (.int .i64 a) ∧ W.cell? ⟨w.heap.size, k, none⟩ = some (.int .i64 c)) ∧ Hid (BlockAt W w.heap.size (fnC ws.length p) 3 ∧ Below w.heap.size w W))
                      (by kernel_rfl) (by kernel_rfl) (by kernel_rfl) (by kernel_rfl) (fun d _ _ _ _ h => by cases d <;> exact h)
                      (by exact ⟨⟨ci, ck, di, dk⟩, Lib.hid ⟨HH.out.1.drew, HH.out.2.drew⟩⟩) (fun hS => ?_)
                    clear ci ck di dk HH
                    repeat (first
                      | (refine SeqH.skip rfl (by rfl) ?_; simp only [Act.put, List.setIfInBounds_toArray, List.set_cons_zero, List.set_cons_succ])
                      | (refine SeqH.take (v := ?_) rfl (by rfl) ?_ ?_; rotate_left; (· intro w hSw; (try dsimp only at hSw); obtain ⟨⟨c0, c1, c2, c3⟩, _⟩ := hSw; go_simp; (try with_reducible rfl)); simp only [Act.put, List.setIfInBounds_toArray, List.set_cons_zero, List.set_cons_succ]))
                    refine SeqH.done ?_
                    have HH := hS.2
                    clear hS
                    go_wp2
                    go_roundw
                    case rel => exact ⟨k + 1, by omega, by go_num, Lib.hid ⟨HH.out.1, HH.out.2⟩⟩
                    case measure => simp [intOf]; omega
                · have q1 : decide (y < x) = true := decide_eq_true hxy
                  have q2 : decide (a < c) = false := decide_eq_false (by have := hM hxy; omega)
                  have q3 : (x == y) = false := beq_eq_false_iff_ne.2 (by omega)
                  clear hS hM
                  try clear hxy
                  try clear hik
                  try clear he
                  go_wp2_with fail
                  refine wp_region_seq [(0, true), (1, true), (2, true), (3, true), (4, true), (5, true), (6, true), (7, true), (8, true), (9, true), (10, true), (11, true), (12, true), (13, true), (14, true), (15, true), (16, true), (17, true), (18, true), (19, true), (20, true), (21, true), (22, true), (23, true), (24, true), (25, true), (26, true), (27, true), (28, true), (29, true), (30, true), (31, true), (32, true), (33, true), (34, true), (35, true), (36, true), (37, true), (38, true), (39, true), (40, true), (41, true), (42, true), (43, true), (44, true), (45, true), (46, true), (47, true), (48, true), (49, true), (50, true), (51, true), (52, true), (53, true), (54, true), (55, true), (56, true), (57, true), (58, true)]
                    (fun W => (W.cell? ⟨b, off + i, none⟩ = some (.int .i64 x) ∧ W.cell? ⟨b, off + k, none⟩ = some (.int .i64 y) ∧ W.cell? ⟨w.heap.size, i, none⟩ = some (.int .i64 a) ∧ W.cell? ⟨w.heap.size, k, none⟩ = some (.int .i64 c)) ∧ Hid (BlockAt W w.heap.size (fnC ws.length p) 3 ∧ Below w.heap.size w W))
                    (by kernel_rfl) (by kernel_rfl) (by kernel_rfl) (by kernel_rfl) (fun d _ _ _ _ h => by cases d <;> exact h)
                    (by exact ⟨⟨ci, ck, di, dk⟩, Lib.hid ⟨HH.out.1.drew, HH.out.2.drew⟩⟩) (fun hS => ?_)
                  clear ci ck di dk HH
                  repeat (first
                    | (refine SeqH.skip rfl (by rfl) ?_; simp only [Act.put, List.setIfInBounds_toArray, List.set_cons_zero, List.set_cons_succ])
                    | (refine SeqH.take (v := ?_) rfl (by rfl) ?_ ?_; rotate_left; (· intro w hSw; (try dsimp only at hSw); obtain ⟨⟨c0, c1, c2, c3⟩, _⟩ := hSw; go_simp; (try with_reducible rfl)); simp only [Act.put, List.setIfInBounds_toArray, List.set_cons_zero, List.set_cons_succ]))
                  refine SeqH.done ?_
                  have HH := hS.2
                  clear hS
                  go_wp2
                  go_roundw
                  case rel => exact ⟨k + 1, by omega, by go_num, Lib.hid ⟨HH.out.1, HH.out.2⟩⟩
                  case measure => simp [intOf]; omega
              · obtain rfl : k = ws.length := by omega
                have HH := Lib.hid hg2.out
                clear hg2
                go_wp2
                go_roundw
                case rel => exact ⟨i + 1, by omega, by go_num, HH⟩
                case measure => simp [intOf]; omega
        · obtain rfl : i = ws.length := by omega
          obtain ⟨hblk, hb1⟩ := hg.out
          clear hblk hg
          go_wp2_with fail
          refine (known_any _).mono ?_
          rintro e w2 ⟨rfl, hb2⟩
          have hb := hb1.trans (hb2.mono hb1.size)
          go_wp2
          go_ret
          exact ⟨rfl, hb⟩
end Go.Proofs.YtmmmlcnclehilaaDoor
