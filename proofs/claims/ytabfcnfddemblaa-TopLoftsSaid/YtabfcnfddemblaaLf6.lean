/- Which lofts and heats are valid: of the program and of the reference. -/
import Derived.Test.YtabfcnfddemblaaLf5
namespace Go.Proofs.Ytabfcnfddemblaa.Lo
open Go.RowKit

/-- A list of numbers at a place. -/
theorem Ints.form {w : World} {v : Value} {xs : List Int} (h : Ints w v xs) : ∃ a c, v = .slice a xs.length c := RowsOf.form h
theorem Ints.at {w : World} {a : Option Addr} {n c : Nat} {xs : List Int} (h : Ints w (.slice a n c) xs) (k : Nat) (hk : k < xs.length) : ∃ b off, a = some ⟨b, off, none⟩ ∧ b < w.heap.size ∧ w.cell? ⟨b, off + k, none⟩ = some (.int .i64 (xs.getD k 0)) := by
  obtain ⟨a', c', he, _, h2⟩ := h
  simp only [Value.slice.injEq] at he
  obtain ⟨rfl, _, _⟩ := he
  obtain ⟨b, off, e1, e2, e3⟩ := h2 k hk
  have := int_at e3
  rw [Nat.mul_one] at this
  exact ⟨b, off, e1, e2, by rw [this]; simp [hk]⟩
set_option maxRecDepth 20000 in
theorem lowest_any (x : Int) (w : World) (h : 0 ≤ x ∧ x ≤ 4) : Calls Try.prog 76 #[.int .i64 x] w fun e w' => e = .returned (.int .i64 (max 0 (x - 1))) ∧ w = w' := by
  obtain ⟨h0, h1⟩ := h
  by_cases c : 0 < x - 1
  all_goals
    go_enter Try.func76, Try.ntmps76
    go_wp2
  all_goals
    go_ret
    exact ⟨ret_int (by omega), rfl⟩
set_option maxRecDepth 20000 in
theorem highest_any (x : Int) (w : World) (h : 0 ≤ x ∧ x ≤ 4) : Calls Try.prog 77 #[.int .i64 x] w fun e w' => e = .returned (.int .i64 (min 4 (x + 1))) ∧ w = w' := by
  obtain ⟨h0, h1⟩ := h
  by_cases c : 4 < x + 1
  all_goals
    go_enter Try.func77, Try.ntmps77
    go_wp2
  all_goals
    go_ret
    exact ⟨ret_int (by omega), rfl⟩
theorem isRp_def (n m : Int) : Lf.isRp n m = (Lf.rng 1 60 n && Lf.rng n 60 m) := rfl
set_option maxRecDepth 20000 in
theorem isRipe_any (n m : Int) (w : World) : Calls Try.prog 79 #[.int .i64 n, .int .i64 m] w fun e w' => e = .returned (.bool (Lf.isRp n m)) ∧ w = w' := by
  have HE := Lib.hid (isRp_def n m)
  generalize Lf.isRp n m = r at *
  have C1 := Lib.hid (fun W => isFrom_any 1 60 n W)
  have C2 := Lib.hid (fun W => isFrom_any n 60 m W)
  cases h1 : Lf.rng 1 60 n
  · rw [h1] at C1 HE
    clear h1 C2
    go_enter Try.func79, Try.ntmps79
    go_wp2_with fail
    refine (C1.out _).mono ?_
    rintro e w1 ⟨rfl, rfl⟩
    go_wp2
    go_ret
    exact ⟨by rw [HE.out]; rfl, rfl⟩
  · rw [h1] at C1 HE
    clear h1
    generalize Lf.rng n 60 m = b at *
    go_enter Try.func79, Try.ntmps79
    go_wp2_with fail
    refine (C1.out _).mono ?_
    rintro e w1 ⟨rfl, rfl⟩
    go_wp2_with fail
    refine (C2.out _).mono ?_
    rintro e w1 ⟨rfl, rfl⟩
    go_wp2
    go_ret
    exact ⟨by rw [HE.out]; rfl, rfl⟩
theorem lst_succ (l : List Int) (k : Nat) : Lf.lst l (k + 1) = l.getD k 0 := rfl
theorem okRt_def (l : List Int) (k : Nat) : Lf.okRt l k = Lf.rng (Lf.lst l k) 9 (l.getD k 0) := rfl
/-- A loft lies in a block. -/
theorem loft_box (w : World) (p : Int) (v : Value) : BlockAt (w.alloc (.cells (loftA p v) LoftT)) w.heap.size (loftA p v) LoftT ∧ Below w.heap.size w (w.alloc (.cells (loftA p v) LoftT)) := ⟨BlockAt.new _ _ _, below_alloc2 (Below.refl _ _) _⟩
set_option maxRecDepth 100000 in
set_option maxHeartbeats 2000000 in
theorem isLoft_any (p : Int) (v : Value) (rs : List Int) (w : World) (hI : Ints w v rs) : Calls Try.prog 78 #[loftV p v] w fun e w' => e = .returned (.bool (Lf.okF ⟨p, rs⟩)) ∧ Below w.heap.size w w' := by
  have HI := Lib.hid hI
  obtain ⟨a, c, rfl⟩ := hI.form
  have HW := Lib.hid (loft_box w p (.slice a rs.length c))
  have x0 : World.cell? _ _ = some (.int .i64 p) := HW.out.1.cell 0
  have x1 : World.cell? _ _ = some (.slice a rs.length c) := HW.out.1.cell 1
  have HA := Lib.hid (Ints.at (HI.out.all HW.out.2))
  have C1 := Lib.hid (fun W => isFrom_any 1 40 p W)
  have CR := Lib.hid (fun x n W => isFrom_any x 9 n W)
  clear hI HI
  cases h1 : Lf.rng 1 40 p
  · have HE := Lib.hid (Lf.okF_poles (f := ⟨p, rs⟩) h1)
    generalize Lf.okF ⟨p, rs⟩ = E at *
    rw [h1] at C1
    clear h1 CR HA
    go_enter Try.func78, Try.ntmps78
    go_wp2_with fail
    refine (C1.out _).mono ?_
    rintro e w1 ⟨rfl, rfl⟩
    go_wp2
    go_ret
    exact ⟨by rw [HE.out] <;> rfl, HW.out.2⟩
  by_cases h5 : rs.length = 5
  case neg =>
    have HE := Lib.hid (Lf.okF_len (f := ⟨p, rs⟩) h5)
    generalize Lf.okF ⟨p, rs⟩ = E at *
    rw [h1] at C1
    have hd1 : ((rs.length : Int) == 5) = false := beq_eq_false_iff_ne.2 (by omega)
    have hd2 : ((rs.length : Int) != 5) = true := by rw [bne, hd1]; rfl
    have hd3 : decide (rs.length = 5) = false := decide_eq_false h5
    clear h1 CR HA h5
    go_enter Try.func78, Try.ntmps78
    go_wp2_with fail
    refine (C1.out _).mono ?_
    rintro e w1 ⟨rfl, rfl⟩
    go_wp2
    go_ret
    exact ⟨by rw [HE.out] <;> rfl, HW.out.2⟩
  have HBad := Lib.hid (fun k (hk : k < 5) h => Lf.okF_bad (f := ⟨p, rs⟩) hk h)
  have HOk := Lib.hid (fun h => Lf.okF_ok (f := ⟨p, rs⟩) h1 h5 h)
  have H5 := Lib.hid h5
  have hl5 : rs.length ≤ 5 := by omega
  have hd1 : ((rs.length : Int) == 5) = true := beq_iff_eq.2 (by omega)
  have hd2 : ((rs.length : Int) != 5) = false := by rw [bne, hd1]; rfl
  have hd3 : decide (rs.length = 5) = true := decide_eq_true h5
  have HD := Lib.hid (fun k => okRt_def rs k)
  have HL := Lib.hid (fun k => lst_succ rs k)
  have HL0 : Hid (Lf.lst rs 0 = 0) := Lib.hid rfl
  rw [h1] at C1
  generalize Lf.okF ⟨p, rs⟩ = E at *
  clear h1 h5
  go_enter Try.func78, Try.ntmps78
  go_wp2_with fail
  refine (C1.out _).mono ?_
  rintro e w1 ⟨rfl, rfl⟩
  go_wp2
  clear x0 x1 hd1 hd2 hd3
  go_loopw [3, 19] (fun s t wr => ∃ (k : Nat) (x : Int), k ≤ rs.length ∧ t = .int .i64 k ∧ s = .int .i64 x ∧ Hid (((∀ j, j < k → Lf.okRt rs j = true) ∧ x = Lf.lst rs k) ∧ wr = w.alloc (.cells (loftA p (.slice a rs.length c)) LoftT))) (fun _ t _ => rs.length - (intOf t).toNat)
  case atStart => exact ⟨0, 0, Nat.zero_le _, rfl, rfl, Lib.hid ⟨⟨fun j h => absurd h (Nat.not_lt_zero _), HL0.out.symm⟩, rfl⟩⟩
  case round =>
    obtain ⟨k, x, hk, rfl, rfl, hg⟩ := hrel
    obtain ⟨⟨hok, hx⟩, hw⟩ := hg.out
    subst hw
    by_cases hlt : k < rs.length
    · obtain ⟨b, off, rfl, hb, c0⟩ := HA.out k hlt
      have HB1 := Lib.hid (HBad.out k (by have := H5.out; omega))
      have HDk := HD.out k
      have HLk := HL.out k
      have HI : Hid (Lf.okRt rs k = true → ∀ j, j < k + 1 → Lf.okRt rs j = true) := Lib.hid fun h j hjk => by
        by_cases e : j = k
        · subst e; exact h
        · exact hok j (by omega)
      have CK := Lib.hid (CR.out x (rs.getD k 0))
      rw [← hx] at HDk
      have HX2 := Lib.hid HLk
      generalize rs.getD k 0 = y at *
      rw [← HDk] at CK
      clear hg HBad HDk HLk hok hx
      generalize hV : Lf.okRt rs k = o at *
      clear hV
      cases o
      · have HE := Lib.hid (HB1.out rfl)
        clear HI HB1
        go_wp2_with fail
        refine (CK.out _).mono ?_
        rintro e w1 ⟨rfl, rfl⟩
        go_wp2
        go_ret
        exact ⟨by rw [HE.out] <;> rfl, HW.out.2⟩
      · have HI2 := Lib.hid (HI.out rfl)
        clear HI HB1
        go_wp2_with fail
        refine (CK.out _).mono ?_
        rintro e w1 ⟨rfl, rfl⟩
        go_wp2
        go_roundw
        case rel => exact ⟨k + 1, y, by omega, by go_num, rfl, Lib.hid ⟨⟨HI2.out, HX2.out.symm⟩, by first | rfl | trivial⟩⟩
        case measure => simp [intOf]; omega
    · have HE := Lib.hid (HOk.out fun j hj => hok j (by have := H5.out; omega))
      clear hg hok hx
      go_wp2
      go_ret
      exact ⟨by rw [HE.out] <;> rfl, HW.out.2⟩
set_option maxRecDepth 100000 in
set_option maxHeartbeats 2000000 in
theorem valLofts_any (v : Value) (l : List Lf.F) (w : World) (hl : Lofts w v l) : Calls Try.prog 39 #[v] w fun e w' => e = .returned (.int .i64 (Lf.valF l)) ∧ Below w.heap.size w w' := by
  obtain ⟨ao, c, rfl, _, hlk⟩ := hl
  have HK := Lib.hid hlk
  have hw0 := Lib.hid (Below.refl w.heap.size w)
  have FV := Lib.hid (fun p v rs W h => isLoft_any p v rs W h)
  have F0 := Lib.hid (fun W => isFrom_any 1 3 (l.length : Int) W)
  clear hlk
  cases h5 : Lf.rng 1 3 (l.length : Int)
  · have HE := Lib.hid (Lf.valF_len h5)
    rw [h5] at F0
    generalize Lf.valF l = E at *
    clear h5
    go_enter Try.func39, Try.ntmps39
    go_wp2_with fail
    refine (F0.out _).mono ?_
    rintro e w1 ⟨rfl, rfl⟩
    go_wp2
    go_ret
    exact ⟨ret_int HE.out.symm, hw0.out⟩
  have HBad := Lib.hid (fun k (hk : k < l.length) h => Lf.valF_bad (l := l) hk h)
  have HOk := Lib.hid (fun h => Lf.valF_ok h5 h)
  have hl3 : l.length ≤ 3 := by have := Lf.rng_iff.1 h5; omega
  rw [h5] at F0
  generalize Lf.valF l = E at *
  clear h5
  go_enter Try.func39, Try.ntmps39
  go_wp2_with fail
  refine (F0.out _).mono ?_
  rintro e w1 ⟨rfl, rfl⟩
  go_wp2
  go_loopw [11] (fun t wr => ∃ k : Nat, k ≤ l.length ∧ t = .int .i64 k ∧ Hid ((∀ j (hj : j < l.length), j < k → Lf.okF l[j] = true) ∧ Below w.heap.size w wr)) (fun t _ => l.length - (intOf t).toNat)
  case atStart => exact ⟨0, Nat.zero_le _, rfl, Lib.hid ⟨fun j _ h => absurd h (Nat.not_lt_zero _), hw0.out⟩⟩
  case round =>
    obtain ⟨k, hk, rfl, hg⟩ := hrel
    clear hw0
    by_cases hlt : k < l.length
    · obtain ⟨b, off, rfl, hb, hr⟩ := HK.out k hlt
      obtain ⟨v, ⟨c0, c1⟩, hI⟩ := hr.all hg.out.2 hb
      have HB1 := Lib.hid (HBad.out k hlt)
      have HI : Hid (Lf.okF l[k] = true → ∀ j (hj : j < l.length), j < k + 1 → Lf.okF l[j] = true) := Lib.hid fun h j hj hjk => by
        by_cases e : j = k
        · subst e; exact h
        · exact hg.out.1 j hj (by omega)
      have HG := Lib.hid (below_alloc2 hg.out.2 (.cells (loftA l[k].p v) LoftT))
      have CV := Lib.hid (FV.out l[k].p v l[k].rs _ (hI.all (below_alloc2 (Below.refl wr.heap.size wr) (.cells (loftA l[k].p v) LoftT))))
      obtain ⟨va, vc, rfl⟩ := hI.form
      clear hg hr HBad FV hI
      have CV2 : Hid (Calls Try.prog _ _ _ fun e w' => e = .returned (.bool (Lf.okF l[k])) ∧ _) := CV
      clear CV
      generalize hV : Lf.okF l[k] = o at *
      clear hV
      generalize l[k] = f at *
      obtain ⟨fp, fr⟩ := f
      dsimp only at *
      cases o
      · have HE := Lib.hid (HB1.out rfl)
        clear HI HB1
        go_wp2_with fail
        refine CV2.out.mono ?_
        rintro e w7 ⟨rfl, hb1⟩
        have HN := Lib.hid (below_step HG.out hb1)
        clear hb1 c0 c1 CV2
        go_wp2
        go_ret
        exact ⟨ret_int HE.out.symm, HN.out⟩
      · have HI2 := Lib.hid (HI.out rfl)
        clear HB1 HI
        go_wp2_with fail
        refine CV2.out.mono ?_
        rintro e w7 ⟨rfl, hb1⟩
        have HN := Lib.hid (below_step HG.out hb1)
        clear hb1 c0 c1 CV2
        go_wp2
        go_roundw
        case rel => exact ⟨k + 1, by omega, by go_num, Lib.hid ⟨HI2.out, HN.out⟩⟩
        case measure => simp [intOf]; omega
    · obtain rfl : k = l.length := by omega
      have HE := Lib.hid (HOk.out fun j hj => hg.out.1 j hj hj)
      have HG := Lib.hid hg.out.2
      clear hg
      go_wp2
      go_ret
      exact ⟨ret_int HE.out.symm, HG.out⟩
set_option maxRecDepth 100000 in
set_option maxHeartbeats 4000000 in
theorem rvalLofts_any (v : Value) (l : List Lf.F) (w : World) (hl : Lofts w v l) : Calls Try.prog 40 #[v] w fun e w' => e = .returned (.int .i64 (Lf.valF l)) ∧ w = w' := by
  obtain ⟨ao, c, rfl, _, hlk⟩ := hl
  have HK := Lib.hid hlk
  have FP := Lib.hid (fun p W => within_any p 1 40 W)
  have FR := Lib.hid (fun n x W => within_any n x 9 W)
  have F0 := Lib.hid (fun W => within_any (l.length : Int) 1 3 W)
  clear hlk
  cases h5 : Lf.rng 1 3 (l.length : Int)
  · have HE := Lib.hid (Lf.valF_len h5)
    rw [h5] at F0
    generalize Lf.valF l = E at *
    clear h5
    go_enter Try.func40, Try.ntmps40
    go_wp2_with fail
    refine (F0.out _).mono ?_
    rintro e w1 ⟨rfl, rfl⟩
    go_wp2
    go_ret
    exact ⟨ret_int HE.out.symm, rfl⟩
  have HBad := Lib.hid (fun k (hk : k < l.length) h => Lf.valF_bad (l := l) hk h)
  have HOk := Lib.hid (fun h => Lf.valF_ok h5 h)
  have hl3 : l.length ≤ 3 := by have := Lf.rng_iff.1 h5; omega
  rw [h5] at F0
  generalize Lf.valF l = E at *
  clear h5
  go_enter Try.func40, Try.ntmps40
  go_wp2_with fail
  refine (F0.out _).mono ?_
  rintro e w1 ⟨rfl, rfl⟩
  go_wp2
  go_loop [3] (fun t => ∃ k : Nat, k ≤ l.length ∧ t = .int .i64 k ∧ Hid (∀ j (hj : j < l.length), j < k → Lf.okF l[j] = true)) (fun t => l.length - (intOf t).toNat)
  case atStart => exact ⟨0, Nat.zero_le _, rfl, Lib.hid fun j _ h => absurd h (Nat.not_lt_zero _)⟩
  case round =>
    obtain ⟨k, hk, rfl, hg⟩ := hrel
    by_cases hlt : k < l.length
    · obtain ⟨b, off, rfl, hb, v, ⟨c0, c1⟩, hI⟩ := HK.out k hlt
      have HB1 := Lib.hid (HBad.out k hlt)
      have HI : Hid (Lf.okF l[k] = true → ∀ j (hj : j < l.length), j < k + 1 → Lf.okF l[j] = true) := Lib.hid fun h j hj hjk => by
        by_cases e : j = k
        · subst e; exact h
        · exact hg.out j hj (by omega)
      obtain ⟨va, vc, rfl⟩ := hI.form
      have HA := Lib.hid (Ints.at hI)
      have hdk : decide ((k : Int) < (l.length : Int)) = true := decide_eq_true (by omega)
      have hdk2 : decide (k < l.length) = true := decide_eq_true hlt
      clear hg HBad hI
      have HXP := Lib.hid (Lf.okF_poles (f := l[k]))
      have HXL := Lib.hid (Lf.okF_len (f := l[k]))
      have HXB := Lib.hid (fun (j : Nat) (hj : j < 5) (h : Lf.okRt (l[k]'hlt).rs j = false) => Lf.okF_bad (f := l[k]'hlt) hj h)
      have HXO := Lib.hid (@Lf.okF_ok (l[k]'hlt))
      generalize Lf.okF l[k] = o at *
      generalize l[k] = f at *
      obtain ⟨p, rs⟩ := f
      dsimp only at *
      have C1 := Lib.hid (FP.out p)
      cases h1 : Lf.rng 1 40 p
      · have HE := Lib.hid (HB1.out (HXP.out h1))
        rw [h1] at C1
        clear h1 HXP HXL HXB HXO HI HB1 HA
        go_wp2_with fail
        refine (C1.out _).mono ?_
        rintro e w1 ⟨rfl, rfl⟩
        go_wp2
        go_ret
        exact ⟨ret_int HE.out.symm, rfl⟩
      by_cases h5 : rs.length = 5
      case neg =>
        have HE := Lib.hid (HB1.out (HXL.out h5))
        rw [h1] at C1
        have hd1 : ((rs.length : Int) == 5) = false := beq_eq_false_iff_ne.2 (by omega)
        have hd2 : ((rs.length : Int) != 5) = true := by rw [bne, hd1]; rfl
        have hd3 : decide (rs.length = 5) = false := decide_eq_false h5
        clear h1 HXP HXL HXB HXO HI HB1 HA h5
        go_wp2_with fail
        refine (C1.out _).mono ?_
        rintro e w1 ⟨rfl, rfl⟩
        go_wp2
        go_ret
        exact ⟨ret_int HE.out.symm, rfl⟩
      have HO := Lib.hid (fun h => HI.out (HXO.out h1 h5 h))
      have H5 := Lib.hid h5
      have hl5 : rs.length ≤ 5 := by omega
      have hd1 : ((rs.length : Int) == 5) = true := beq_iff_eq.2 (by omega)
      have hd2 : ((rs.length : Int) != 5) = false := by rw [bne, hd1]; rfl
      have hd3 : decide (rs.length = 5) = true := decide_eq_true h5
      have HD := Lib.hid (fun k => okRt_def rs k)
      have HL := Lib.hid (fun k => lst_succ rs k)
      have HL0 : Hid (Lf.lst rs 0 = 0) := Lib.hid rfl
      rw [h1] at C1
      clear h1 h5 HXP HXL HXO HI
      go_wp2_with fail
      refine (C1.out _).mono ?_
      rintro e w1 ⟨rfl, rfl⟩
      go_wp2
      clear hd1 hd2 hd3
      go_loop [4, 5] (fun s t => ∃ (j : Nat) (x : Int), j ≤ rs.length ∧ t = .int .i64 j ∧ s = .int .i64 x ∧ Hid ((∀ i, i < j → Lf.okRt rs i = true) ∧ x = Lf.lst rs j)) (fun _ t => rs.length - (intOf t).toNat)
      case atStart => exact ⟨0, 0, Nat.zero_le _, rfl, rfl, Lib.hid ⟨fun j h => absurd h (Nat.not_lt_zero _), HL0.out.symm⟩⟩
      case round =>
        obtain ⟨j, x, hj, rfl, rfl, hg⟩ := hrel
        by_cases hlj : j < rs.length
        · obtain ⟨b2, off2, rfl, hb2, d0⟩ := HA.out j hlj
          have HBj := Lib.hid (fun h => HB1.out (HXB.out j (by have := H5.out; omega) h))
          have HDk := HD.out j
          have HLk := HL.out j
          have HI2 : Hid (Lf.okRt rs j = true → ∀ i, i < j + 1 → Lf.okRt rs i = true) := Lib.hid fun h i hij => by
            by_cases e : i = j
            · subst e; exact h
            · exact hg.out.1 i (by omega)
          have CK := Lib.hid (FR.out (rs.getD j 0) x)
          rw [← hg.out.2] at HDk
          have HX2 := Lib.hid HLk
          generalize rs.getD j 0 = y at *
          rw [← HDk] at CK
          clear hg HDk HLk
          generalize hV : Lf.okRt rs j = o2 at *
          clear hV
          cases o2
          · have HE := Lib.hid (HBj.out rfl)
            clear HI2 HB1 HBj
            go_wp2_with fail
            refine (CK.out _).mono ?_
            rintro e w1 ⟨rfl, rfl⟩
            go_wp2
            go_ret
            exact ⟨ret_int HE.out.symm, rfl⟩
          · have HI3 := Lib.hid (HI2.out rfl)
            clear HI2 HBj
            go_wp2_with fail
            refine (CK.out _).mono ?_
            rintro e w1 ⟨rfl, rfl⟩
            go_wp2
            go_round
            case rel => exact ⟨j + 1, y, by omega, by go_num, rfl, Lib.hid ⟨HI3.out, HX2.out.symm⟩⟩
            case measure => simp [intOf]; omega
        · have HF := Lib.hid (HO.out fun i hi => hg.out.1 i (by have := H5.out; omega))
          clear hg HO
          go_wp2
          go_round
          case rel => exact ⟨k + 1, by omega, by go_num, HF⟩
          case measure => simp [intOf]; omega
    · obtain rfl : k = l.length := by omega
      have HE := Lib.hid (HOk.out fun j hj => hg.out j hj hj)
      clear hg
      go_wp2
      go_ret
      exact ⟨ret_int HE.out.symm, rfl⟩
end Go.Proofs.Ytabfcnfddemblaa.Lo
