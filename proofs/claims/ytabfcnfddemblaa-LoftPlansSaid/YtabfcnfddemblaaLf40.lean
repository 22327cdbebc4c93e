/- Sets of numbers below a limit: of the program and of the reference. -/
import Derived.Test.YtabfcnfddemblaaLf27
import Derived.Test.YtabfcnfddemblaaLfS
namespace Go.Proofs.Ytabfcnfddemblaa.Lo
open Go.RowKit

theorem lsz_succ (l : List Int) (k : Nat) : Lf.lsz l (k + 1) = l.getD k 0 + 1 := rfl
theorem stAt_def (l : List Int) (n : Int) (k : Nat) : Lf.stAt l n k = Lf.rng (Lf.lsz l k) (n - 1) (l.getD k 0) := rfl
theorem st_ok {l : List Int} {n : Int} (h : ∀ k, k < l.length → Lf.stAt l n k = true) : Lf.stB l n = true := Lf.stB_iff.2 h
set_option maxRecDepth 100000 in
set_option maxHeartbeats 2000000 in
theorem isSetB_any (v : Value) (l : List Int) (n : Int) (w : World) (hI : Ints w v l) (hn : 0 ≤ n ∧ n ≤ 1000) : Calls Try.prog 125 #[v, .int .i64 n] w fun e w' => e = .returned (.bool (Lf.stB l n)) ∧ w = w' := by
  obtain ⟨a, c, rfl⟩ := hI.form
  have HA := Lib.hid (Ints.at hI)
  have CR := Lib.hid (fun x y n W => isFrom_any x y n W)
  clear hI
  have HBad := Lib.hid (fun k (hk : k < l.length) h => Lf.stB_bad (l := l) (n := n) hk h)
  have HOk := Lib.hid (fun h => st_ok (l := l) (n := n) h)
  have HD := Lib.hid (fun k => stAt_def l n k)
  have HL := Lib.hid (fun k => lsz_succ l k)
  have HL0 : Hid (Lf.lsz l 0 = 0) := Lib.hid rfl
  have HRI := Lib.hid (fun (a b c : Int) (h : Lf.rng a b c = true) => Lf.rng_iff.1 h)
  generalize Lf.stB l n = E at *
  have g9 : IntKind.i64.wrap (n - 1) = n - 1 := IntWalk.i64_in _ ⟨by omega, by omega⟩
  go_enter Try.func125, Try.ntmps125
  go_wp2
  go_loop [5, 10] (fun s t => ∃ (k : Nat) (x : Int), k ≤ l.length ∧ t = .int .i64 k ∧ ((k : Int) ≤ x ∧ x ≤ 1000) ∧ s = .int .i64 x ∧ Hid ((∀ j, j < k → Lf.stAt l n j = true) ∧ x = Lf.lsz l k)) (fun _ t => l.length - (intOf t).toNat)
  case atStart => exact ⟨0, 0, Nat.zero_le _, rfl, ⟨by omega, by omega⟩, rfl, Lib.hid ⟨fun j h => absurd h (Nat.not_lt_zero _), HL0.out.symm⟩⟩
  case round =>
    obtain ⟨k, x, hk, rfl, ⟨hx0, hx4⟩, rfl, hg⟩ := hrel
    by_cases hlt : k < l.length
    · obtain ⟨b, off, rfl, hb, c0⟩ := HA.out k hlt
      have HB1 := Lib.hid (HBad.out k hlt)
      have HDk := HD.out k
      have HLk := HL.out k
      have HI : Hid (Lf.stAt l n k = true → ∀ j, j < k + 1 → Lf.stAt l n j = true) := Lib.hid fun h j hjk => by
        by_cases e : j = k
        · subst e; exact h
        · exact hg.out.1 j (by omega)
      have CK := Lib.hid (CR.out x (n - 1) (l.getD k 0))
      have HRk := Lib.hid (HRI.out x (n - 1) (l.getD k 0))
      rw [← hg.out.2] at HDk
      have HX2 := Lib.hid HLk
      generalize l.getD k 0 = y at *
      rw [← HDk] at CK HRk
      clear hg HBad HDk HLk
      generalize hV : Lf.stAt l n k = o at *
      clear hV
      cases o
      · have HE := Lib.hid (HB1.out rfl)
        clear HI HB1 HRk
        go_wp2_with fail
        refine (CK.out _).mono ?_
        rintro e w1 ⟨rfl, rfl⟩
        go_wp2
        go_ret
        exact ⟨by rw [HE.out] <;> rfl, rfl⟩
      · have HI2 := Lib.hid (HI.out rfl)
        have hy := HRk.out rfl
        clear HI HB1 HRk
        go_wp2_with fail
        refine (CK.out _).mono ?_
        rintro e w1 ⟨rfl, rfl⟩
        have g8 : IntKind.i64.wrap (y + 1) = y + 1 := IntWalk.i64_in _ ⟨by omega, by omega⟩
        go_wp2
        go_round
        case rel => exact ⟨k + 1, y + 1, by omega, by go_num, ⟨by omega, by omega⟩, rfl, Lib.hid ⟨HI2.out, HX2.out.symm⟩⟩
        case measure => simp [intOf]; omega
    · obtain rfl : k = l.length := by omega
      have HE := Lib.hid (HOk.out fun j hj => hg.out.1 j hj)
      clear hg
      go_wp2
      go_ret
      exact ⟨by rw [HE.out] <;> rfl, rfl⟩
theorem st_low {l : List Int} {n : Int} {k : Nat} (h : ∀ j, j < k → Lf.stAt l n j = true) (hk : k ≤ l.length) : (k : Int) ≤ Lf.lsz l k := by
  induction k with
  | zero => simp [Lf.lsz]
  | succ k ih =>
    have a := ih (fun j hj => h j (by omega)) (by omega)
    have b := Lf.rng_iff.1 (h k (by omega))
    rw [lsz_succ]; omega
theorem rng_no1 {a b c : Int} (h : c < a) : Lf.rng a b c = false := Bool.eq_false_iff.2 fun hc => by have := Lf.rng_iff.1 hc; omega
theorem rng_no2 {a b c : Int} (h : b < c) : Lf.rng a b c = false := Bool.eq_false_iff.2 fun hc => by have := Lf.rng_iff.1 hc; omega
set_option maxRecDepth 100000 in
set_option maxHeartbeats 4000000 in
theorem isSetR_any (v : Value) (l : List Int) (n : Int) (w : World) (hI : Ints w v l) (hn : 0 ≤ n ∧ n ≤ 1000) : Calls Try.prog 133 #[v, .int .i64 n] w fun e w' => e = .returned (.bool (Lf.stB l n)) ∧ Below w.heap.size w w' := by
  obtain ⟨a, c, rfl⟩ := hI.form
  have HA := Lib.hid (fun W (hW : Below w.heap.size w W) => Ints.at (hI.all hW))
  have hw0 := Lib.hid (Below.refl w.heap.size w)
  clear hI
  have HBad := Lib.hid (fun k (hk : k < l.length) h => Lf.stB_bad (l := l) (n := n) hk h)
  have HOk := Lib.hid (fun h => st_ok (l := l) (n := n) h)
  have HD := Lib.hid (fun k => stAt_def l n k)
  have HL := Lib.hid (fun k => lsz_succ l k)
  have HL0 : Hid (Lf.lsz l 0 = 0) := Lib.hid rfl
  have HLW := Lib.hid (fun k h hk => st_low (l := l) (n := n) (k := k) h hk)
  generalize Lf.stB l n = E at *
  go_enter Try.func133, Try.ntmps133
  go_wp2
  go_loopw [5] (fun t wr => ∃ (k : Nat), (k ≤ l.length ∧ (k : Int) ≤ n) ∧ t = .int .i64 k ∧ Hid ((∀ j, j < k → Lf.stAt l n j = true) ∧ Below w.heap.size w wr)) (fun t _ => l.length - (intOf t).toNat)
  case atStart => exact ⟨0, ⟨Nat.zero_le _, by omega⟩, rfl, Lib.hid ⟨fun j h => absurd h (Nat.not_lt_zero _), hw0.out⟩⟩
  case round =>
    obtain ⟨k, ⟨hk, hkn⟩, rfl, hg⟩ := hrel
    clear hw0
    by_cases hlt : k < l.length
    · obtain ⟨b, off, rfl, hb, c0⟩ := HA.out _ hg.out.2 k hlt
      have HB1 := Lib.hid (HBad.out k hlt)
      have HDk := HD.out k
      have HLWk := Lib.hid (HLW.out k hg.out.1 hk)
      have HI : Hid (Lf.stAt l n k = true → ∀ j, j < k + 1 → Lf.stAt l n j = true) := Lib.hid fun h j hjk => by
        by_cases e : j = k
        · subst e; exact h
        · exact hg.out.1 j (by omega)
      have HW := Lib.hid hg.out.2
      have HC := Lib.hid (show wr.drew.cell? ⟨b, off + k, none⟩ = _ from c0)
      have hdl : decide ((k : Int) < (l.length : Int)) = true := decide_eq_true (by omega)
      have hdl2 : decide (k < l.length) = true := decide_eq_true hlt
      clear hg c0 HBad
      obtain ⟨y, hy⟩ : ∃ y, y = l.getD k 0 := ⟨_, rfl⟩
      rw [← hy] at HC HDk
      by_cases h1 : y < 0
      · have HE := Lib.hid (HB1.out (by rw [HDk]; exact rng_no1 (by have := HLWk.out; omega)))
        have hd1 : decide (y < 0) = true := decide_eq_true h1
        clear h1 HDk HI HB1 HLWk hy HL HLW
        go_wp2
        refine wp_region_seq [(0, true), (1, true), (2, true), (3, true), (4, true), (5, true), (6, true), (7, true), (8, true), (9, true), (10, true), (11, true), (12, true), (13, true), (14, true), (15, true), (16, true), (17, true), (18, true), (19, true), (20, true), (21, true), (22, true), (23, true), (24, true), (25, true), (26, true), (27, true), (28, true)] (fun W => W.cell? ⟨b, off + k, none⟩ = some (.int .i64 y) ∧ True)
          (by kernel_rfl) (by kernel_rfl) (by kernel_rfl) (by kernel_rfl) (fun d _ _ _ _ h => by cases d <;> exact h) (⟨HC.out, trivial⟩) (fun _ => ?_)
        repeat (first | (refine SeqH.take (v := ?_) rfl (by rfl) ?_ ?_; rotate_left; (· intro w hSw; (try dsimp only at hSw); obtain ⟨q0, _⟩ := hSw; go_simp; (try rw [if_pos (by omega)]); (try with_reducible rfl)); simp only [Act.put, List.setIfInBounds_toArray, List.set_cons_zero, List.set_cons_succ]) | (refine SeqH.skip rfl (by rfl) ?_; simp only [Act.put, List.setIfInBounds_toArray, List.set_cons_zero, List.set_cons_succ]))
        refine SeqH.done ?_
        go_wp2
        go_ret
        exact ⟨by rw [HE.out] <;> rfl, below_drewN HW.out 1⟩
      have hd1 : decide (y < 0) = false := decide_eq_false h1
      by_cases h2 : n ≤ y
      · have HE := Lib.hid (HB1.out (by rw [HDk]; exact rng_no2 (by omega)))
        have hd2 : decide (n ≤ y) = true := decide_eq_true h2
        have hd3 : decide (y ≥ n) = true := decide_eq_true h2
        clear h1 h2 HDk HI HB1 HLWk hy HL HLW
        go_wp2
        refine wp_region_seq [(0, true), (1, true), (2, true), (3, true), (4, true), (5, true), (6, true), (7, true), (8, true), (9, true), (10, true), (11, true), (12, true), (13, true), (14, true), (15, true), (16, true), (17, true), (18, true), (19, true), (20, true), (21, true), (22, true), (23, true), (24, true), (25, true), (26, true), (27, true), (28, true)] (fun W => W.cell? ⟨b, off + k, none⟩ = some (.int .i64 y) ∧ True)
          (by kernel_rfl) (by kernel_rfl) (by kernel_rfl) (by kernel_rfl) (fun d _ _ _ _ h => by cases d <;> exact h) (⟨HC.out, trivial⟩) (fun _ => ?_)
        repeat (first | (refine SeqH.take (v := ?_) rfl (by rfl) ?_ ?_; rotate_left; (· intro w hSw; (try dsimp only at hSw); obtain ⟨q0, _⟩ := hSw; go_simp; (try rw [if_pos (by omega)]); (try with_reducible rfl)); simp only [Act.put, List.setIfInBounds_toArray, List.set_cons_zero, List.set_cons_succ]) | (refine SeqH.skip rfl (by rfl) ?_; simp only [Act.put, List.setIfInBounds_toArray, List.set_cons_zero, List.set_cons_succ]))
        refine SeqH.done ?_
        go_wp2
        go_ret
        exact ⟨by rw [HE.out] <;> rfl, below_drewN HW.out 1⟩
      have hd2 : decide (n ≤ y) = false := decide_eq_false h2
      have hd3 : decide (y ≥ n) = false := decide_eq_false h2
      by_cases hk0 : k = 0
      · subst hk0
        have HI2 := Lib.hid (HI.out (by rw [HDk, HL0.out]; exact Lf.rng_iff.2 ⟨by omega, by omega⟩))
        have hd4 : decide ((0 : Int) < 0) = false := by decide
        have hk1 : (0 : Int) + 1 ≤ n := by omega
        clear h1 h2 HDk HI HB1 HLWk hy HL HLW
        go_wp2
        refine wp_region_seq [(0, true), (1, true), (2, true), (3, true), (4, true), (5, true), (6, true), (7, true), (8, true), (9, true), (10, true), (11, true), (12, true), (13, true), (14, true), (15, true), (16, true), (17, true), (18, true), (19, true), (20, true), (21, true), (22, true), (23, true), (24, true), (25, true), (26, true), (27, true), (28, true)] (fun W => W.cell? ⟨b, off, none⟩ = some (.int .i64 y) ∧ True)
          (by kernel_rfl) (by kernel_rfl) (by kernel_rfl) (by kernel_rfl) (fun d _ _ _ _ h => by cases d <;> exact h) (⟨by simpa using HC.out, trivial⟩) (fun _ => ?_)
        repeat (first | (refine SeqH.take (v := ?_) rfl (by rfl) ?_ ?_; rotate_left; (· intro w hSw; (try dsimp only at hSw); obtain ⟨q0, _⟩ := hSw; go_simp; (try rw [if_pos (by omega)]); (try with_reducible rfl)); simp only [Act.put, List.setIfInBounds_toArray, List.set_cons_zero, List.set_cons_succ]) | (refine SeqH.skip rfl (by rfl) ?_; simp only [Act.put, List.setIfInBounds_toArray, List.set_cons_zero, List.set_cons_succ]))
        refine SeqH.done ?_
        go_wp2
        go_roundw
        case rel => exact ⟨0 + 1, by omega, by go_num, Lib.hid ⟨HI2.out, below_drewN HW.out 1⟩⟩
        case measure => simp [intOf]; omega
      · obtain ⟨m, hm⟩ : ∃ m : Nat, k = m + 1 := ⟨k - 1, by omega⟩
        obtain ⟨b2, off2, e2, hb2, c2⟩ := HA.out _ HW.out m (by omega)
        injection e2 with e2
        injection e2 with e3 e4
        subst e3
        subst e4
        have HC2 := Lib.hid (show wr.drew.cell? ⟨b, off + m, none⟩ = _ from c2)
        clear c2
        have HLm := HL.out m
        rw [← hm] at HLm
        obtain ⟨z, hz⟩ : ∃ z, z = l.getD m 0 := ⟨_, rfl⟩
        rw [← hz] at HC2 HLm
        have hd4 : decide ((0 : Int) < (k : Int)) = true := decide_eq_true (by omega)
        have hd5 : decide ((k : Int) > 0) = true := decide_eq_true (by omega)
        have hd6 : decide (0 < k) = true := decide_eq_true (by omega)
        have g1 : IntKind.i64.wrap ((k : Int) - 1) = (m : Int) := by rw [IntWalk.i64_in _ ⟨by omega, by omega⟩]; omega
        have hml : m < l.length := by omega
        have HM := Lib.hid hm
        by_cases h3 : y ≤ z
        · have HE := Lib.hid (HB1.out (by rw [HDk, HLm]; exact rng_no1 (by omega)))
          have hd7 : decide (y ≤ z) = true := decide_eq_true h3
          clear h1 h2 h3 HDk HI HB1 HLWk hy hz HL HLW HLm hm hk0
          go_wp2
          refine wp_region_seq [(0, true), (1, true), (2, true), (3, true), (4, true), (5, true), (6, true), (7, true), (8, true), (9, true), (10, true), (11, true), (12, true), (13, true), (14, true), (15, true), (16, true), (17, true), (18, true), (19, true), (20, true), (21, true), (22, true), (23, true), (24, true), (25, true), (26, true), (27, true), (28, true)] (fun W => W.cell? ⟨b, off + k, none⟩ = some (.int .i64 y) ∧ W.cell? ⟨b, off + m, none⟩ = some (.int .i64 z))
            (by kernel_rfl) (by kernel_rfl) (by kernel_rfl) (by kernel_rfl) (fun d _ _ _ _ h => by cases d <;> exact h) (⟨HC.out, HC2.out⟩) (fun _ => ?_)
          repeat (first | (refine SeqH.take (v := ?_) rfl (by rfl) ?_ ?_; rotate_left; (· intro w hSw; (try dsimp only at hSw); obtain ⟨q0, q1⟩ := hSw; go_simp; (try rw [if_pos (by omega)]); (try with_reducible rfl)); simp only [Act.put, List.setIfInBounds_toArray, List.set_cons_zero, List.set_cons_succ]) | (refine SeqH.skip rfl (by rfl) ?_; simp only [Act.put, List.setIfInBounds_toArray, List.set_cons_zero, List.set_cons_succ]))
          refine SeqH.done ?_
          go_wp2
          go_ret
          exact ⟨by rw [HE.out] <;> rfl, below_drewN HW.out 1⟩
        have hd7 : decide (y ≤ z) = false := decide_eq_false h3
        have HI2 := Lib.hid (HI.out (by rw [HDk, HLm]; exact Lf.rng_iff.2 ⟨by omega, by omega⟩))
        have hk1 : (k : Int) + 1 ≤ n := by have := HLWk.out; rw [HLm] at this; omega
        clear h1 h2 h3 HDk HI HB1 HLWk hy hz HL HLW HLm hm hk0
        go_wp2
        refine wp_region_seq [(0, true), (1, true), (2, true), (3, true), (4, true), (5, true), (6, true), (7, true), (8, true), (9, true), (10, true), (11, true), (12, true), (13, true), (14, true), (15, true), (16, true), (17, true), (18, true), (19, true), (20, true), (21, true), (22, true), (23, true), (24, true), (25, true), (26, true), (27, true), (28, true)] (fun W => W.cell? ⟨b, off + k, none⟩ = some (.int .i64 y) ∧ W.cell? ⟨b, off + m, none⟩ = some (.int .i64 z))
          (by kernel_rfl) (by kernel_rfl) (by kernel_rfl) (by kernel_rfl) (fun d _ _ _ _ h => by cases d <;> exact h) (⟨HC.out, HC2.out⟩) (fun _ => ?_)
        repeat (first | (refine SeqH.take (v := ?_) rfl (by rfl) ?_ ?_; rotate_left; (· intro w hSw; (try dsimp only at hSw); obtain ⟨q0, q1⟩ := hSw; go_simp; (try rw [if_pos (by omega)]); (try with_reducible rfl)); simp only [Act.put, List.setIfInBounds_toArray, List.set_cons_zero, List.set_cons_succ]) | (refine SeqH.skip rfl (by rfl) ?_; simp only [Act.put, List.setIfInBounds_toArray, List.set_cons_zero, List.set_cons_succ]))
        refine SeqH.done ?_
        go_wp2
        go_roundw
        case rel => exact ⟨k + 1, by omega, by go_num, Lib.hid ⟨HI2.out, below_drewN HW.out 1⟩⟩
        case measure => simp [intOf]; omega
    · obtain rfl : k = l.length := by omega
      have HE := Lib.hid (HOk.out fun j hj => hg.out.1 j hj)
      have HW := Lib.hid hg.out.2
      clear hg
      go_wp2
      go_ret
      exact ⟨by rw [HE.out] <;> rfl, HW.out⟩
end Go.Proofs.Ytabfcnfddemblaa.Lo
