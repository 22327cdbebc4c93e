/- Fractions that are read: the reference's. -/
import Derived.Test.YtmmmlcnclehilaaDoorText5
namespace Go.Proofs.YtmmmlcnclehilaaDoor
open Go.RowKit Go.Sort

theorem spl_bd (c : UInt8) : ∀ (l : List UInt8), ∀ x ∈ Tx.spl c l, x.length ≤ l.length
  | [], x, h => by
    have : x = [] := by simpa [Tx.spl] using h
    subst this; simp
  | b :: r, x, h => by
    have ih := spl_bd c r
    rw [Tx.spl] at h
    split at h
    · rcases List.mem_cons.1 h with rfl | h
      · simp
      · have := ih x h; rw [List.length_cons]; omega
    · split at h
      · rename_i e
        exact absurd e (Tx.spl_ne c r)
      · rename_i y t e
        rw [e] at ih
        rcases List.mem_cons.1 h with rfl | h
        · have := ih y (by simp); rw [List.length_cons, List.length_cons]; omega
        · have := ih x (by simp [h]); rw [List.length_cons]; omega

theorem RatAt.other {W : World} {b B o : Nat} {x y : Int} (h : RatAt W b x y) (hne : B ≠ b) (v : Value) : RatAt (W.setCell ⟨B, o, none⟩ v) b x y := by
  obtain ⟨h0, h1, h2, h3, h4⟩ := h
  have hb : (W.setCell ⟨B, o, none⟩ v).heap[b]? = W.heap[b]? := Below.heap_setCell _ _ _ _ (Ne.symm hne)
  have c : ∀ i, (W.setCell ⟨B, o, none⟩ v).cell? ⟨b, i, none⟩ = W.cell? ⟨b, i, none⟩ := fun i => by unfold World.cell?; rw [hb]
  have f : ∀ i, (W.setCell ⟨B, o, none⟩ v).frozen? ⟨b, i, none⟩ = W.frozen? ⟨b, i, none⟩ := fun i => by unfold World.frozen?; rw [hb]
  exact ⟨(c 0).trans h0, (c 1).trans h1, (f 0).trans h2, (f 1).trans h3, by simpa using h4⟩
theorem RatAt.second {W : World} {b : Nat} {x y : Int} (h : RatAt W b x y) (v : Int) : RatAt (W.setCell ⟨b, 1, none⟩ (.int .i64 v)) b x v := by
  obtain ⟨h0, h1, h2, h3, h4⟩ := h
  exact ⟨by go_simp, by go_simp, by go_simp, by go_simp, by simpa using h4⟩

set_option maxRecDepth 20000 in
set_option maxHeartbeats 1000000 in
theorem refParseRat_any (s : ByteArray) (w : World) (hs : s.size ≤ 100000) :
    Calls Tryd.prog 14 #[.string s] w (RatSays (Tx.ansR Fr.ok s.data.toList (Tx.rR s.data.toList)) w) := by
  have HC := Lib.hid (fun W => split_any s 47 W hs)
  have hsz : s.data.toList.length = s.size := by rw [Array.length_toList]; rfl
  have hbd := spl_bd 47 s.data.toList
  have hlen := Tx.spl_len 47 s.data.toList
  have hne := Tx.spl_ne 47 s.data.toList
  have hp : Tx.rR s.data.toList = match Tx.spl 47 s.data.toList with
    | [] => none
    | a :: t => match t with
      | [b] => if (Tx.numR a).2 = true ∧ (Tx.numR b).2 = true then some ((Tx.numR a).1, (Tx.numR b).1) else none
      | _ => if (Tx.numR a).2 = true then some ((Tx.numR a).1, 1) else none := rfl
  have b1 := (below_alloc (Below.refl w.heap.size w) (.cells #[.int .i64 0, .int .i64 0] 29))
  have R0 := RatAt.fresh w 0 0 29
  unfold SplSays at HC
  generalize Tx.spl 47 s.data.toList = L at *
  obtain ⟨a, t, rfl⟩ : ∃ a t, L = a :: t := by
    cases L with
    | nil => exact absurd rfl hne
    | cons a t => exact ⟨a, t, rfl⟩
  dsimp only at hp
  have ha : (⟨a.toArray⟩ : ByteArray).size ≤ 100000 := by have := hbd a (by simp); show a.toArray.size ≤ _; simp; omega
  have CA := Lib.hid (fun W => number_any ⟨a.toArray⟩ W ha)
  have hbA := Tx.numR_bd a
  have HB := Lib.hid hbd
  have HSZ := Lib.hid hsz
  have HP := Lib.hid hp
  have hln : (a :: t).length ≤ 100001 := by omega
  clear hp hbd hsz hlen hne ha
  have CA : Hid (∀ W : World, Calls Tryd.prog 36 #[.string ⟨a.toArray⟩] W fun e w' => e = .returned (.tuple #[.int .i64 (Tx.numR a).1, .bool (Tx.numR a).2]) ∧ Below W.heap.size W w') := CA
  cases hA : (Tx.numR a).2 with
  | false =>
    have hno : Tx.ansR Fr.ok s.data.toList (Tx.rR s.data.toList) = ((0, 0), 3) := by
      rw [HP.out]
      split
      · rw [if_neg (by rw [hA]; simp)]; rfl
      · rw [if_neg (by rw [hA]; simp)]; rfl
    have HN := Lib.hid hno
    rw [hA] at CA
    obtain ⟨a1, a2⟩ := hbA
    have CF := Lib.hid (fun W (hW : Below w.heap.size w W) => refFormatRat_any (Tx.numR a).1 1 W (by omega) (by omega) (by omega) (by omega))
    clear hno hA HP HB HSZ
    generalize (Tx.numR a).1 = vn at *
    generalize (if Fr.ok vn 1 = true then Tx.fmtR vn 1 else []) = tx at *
    generalize (if Fr.ok vn 1 = true then (0 : Int) else 1) = te at *
    go_enter Tryd.func14, Tryd.ntmps14
    go_wp2_with fail
    refine (HC.out _).mono ?_
    rintro e w1 ⟨u, rfl, hown, hb1⟩
    obtain ⟨g, cp, rfl, hcp, hg1, hg2, hcell⟩ := hown.form (by simp)
    have R1 := R0.all hb1
    have hw1 := below_step b1 hb1
    have k0 := hcell 0 (by simp)
    have HCELL := Lib.hid hcell
    clear hb1 R0 b1 HC hown hcell
    go_wp2_with fail
    refine (CA.out _).mono ?_
    rintro e w2 ⟨rfl, hb2⟩
    have R2 := R1.all hb2
    have hw2 := below_step hw1 hb2
    have hg3 := Nat.lt_of_lt_of_le hg2 hb2.size
    have HB2 := Lib.hid hb2
    clear hb2 R1 hw1 k0
    have RR := RatAt.fresh w2 vn 1 29
    have hwr := below_alloc hw2 (.cells #[.int .i64 vn, .int .i64 1] 29)
    have RX := R2.all (below_alloc (Below.refl w2.heap.size w2) (.cells #[.int .i64 vn, .int .i64 1] 29))
    obtain ⟨c0, c1, z0, z1, _⟩ := id RX
    obtain ⟨r0, r1, y0, y1, _⟩ := id RR
    have hs0 := R2.2.2.2.2
    clear R2 hw2
    go_wp2_with fail
    refine (CF.out _ hwr).mono ?_
    rintro e w4 ⟨rfl, hb4⟩
    have R4 := RX.all hb4
    have RR4 := RR.all hb4
    have hw4 := below_step hwr hb4
    clear hb4 RX RR hwr c0 c1 z0 z1 r0 r1 y0 y1
    try clear p0 p1 p2 p3
    obtain ⟨c0, c1, z0, z1, _⟩ := id R4
    obtain ⟨r0, r1, _, _, _⟩ := id RR4
    clear R4 RR4
    go_wp2
    exact bodyPost_ret (v := .tuple #[.agg #[.int .i64 0, .int .i64 0], .int .i64 3]) (by simp [results, Tryd.results14, go_sem, c0, c1]) rfl ⟨ret_rat HN.out, (hw4.setCell (Nat.le_refl _) _).setCell (Nat.le_refl _) _⟩
  | true =>
    rw [hA] at CA
    obtain ⟨a1, a2⟩ := hbA
    by_cases ht : t.length = 1
    case neg =>
      have hp2 : Tx.rR s.data.toList = some ((Tx.numR a).1, 1) := by
        rw [HP.out]
        split
        · simp at ht
        · rw [if_pos hA]
      have HP2 := Lib.hid hp2
      have q0 : (((a :: t).length : Int) == 2) = false := beq_eq_false_iff_ne.2 (by rw [List.length_cons]; omega)
      have q9 : (((t.length : Int) + 1) == 2) = false := beq_eq_false_iff_ne.2 (by omega)
      clear hp2 hA ht HB HSZ
      generalize (Tx.numR a).1 = vn at *
      have CF := Lib.hid (fun W (hW : Below w.heap.size w W) => refFormatRat_any vn 1 W (by omega) (by omega) (by omega) (by omega))
      by_cases hk : Fr.ok vn 1 = true
      case neg =>
        have hno : Tx.ansR Fr.ok s.data.toList (Tx.rR s.data.toList) = ((0, 0), 3) := by
          rw [HP2.out]
          show (if Tx.okR Fr.ok s.data.toList (vn, 1) = true then _ else _) = _
          rw [if_neg (by unfold Tx.okR; simp [hk])]
        rw [if_neg hk, if_neg hk] at CF
        have HN := Lib.hid hno
        clear hno hk HP2 HP
        go_enter Tryd.func14, Tryd.ntmps14
        go_wp2_with fail
        refine (HC.out _).mono ?_
        rintro e w1 ⟨u, rfl, hown, hb1⟩
        obtain ⟨g, cp, rfl, hcp, hg1, hg2, hcell⟩ := hown.form (by simp)
        have R1 := R0.all hb1
        have hw1 := below_step b1 hb1
        have k0 := hcell 0 (by simp)
        have HCELL := Lib.hid hcell
        clear hb1 R0 b1 HC hown hcell
        go_wp2_with fail
        refine (CA.out _).mono ?_
        rintro e w2 ⟨rfl, hb2⟩
        have R2 := R1.all hb2
        have hw2 := below_step hw1 hb2
        have hg3 := Nat.lt_of_lt_of_le hg2 hb2.size
        have HB2 := Lib.hid hb2
        clear hb2 R1 hw1 k0
        have RR := RatAt.fresh w2 vn 1 29
        have hwr := below_alloc hw2 (.cells #[.int .i64 vn, .int .i64 1] 29)
        have RX := R2.all (below_alloc (Below.refl w2.heap.size w2) (.cells #[.int .i64 vn, .int .i64 1] 29))
        obtain ⟨c0, c1, z0, z1, _⟩ := id RX
        obtain ⟨r0, r1, y0, y1, _⟩ := id RR
        have hs0 := R2.2.2.2.2
        clear R2 hw2
        go_wp2_with fail
        refine (CF.out _ hwr).mono ?_
        rintro e w4 ⟨rfl, hb4⟩
        have R4 := RX.all hb4
        have RR4 := RR.all hb4
        have hw4 := below_step hwr hb4
        clear hb4 RX RR hwr c0 c1 z0 z1 r0 r1 y0 y1
        try clear p0 p1 p2 p3
        obtain ⟨c0, c1, z0, z1, _⟩ := id R4
        obtain ⟨r0, r1, _, _, _⟩ := id RR4
        clear R4 RR4
        go_wp2
        exact bodyPost_ret (v := .tuple #[.agg #[.int .i64 0, .int .i64 0], .int .i64 3]) (by simp [results, Tryd.results14, go_sem, c0, c1]) rfl ⟨ret_rat HN.out, (hw4.setCell (Nat.le_refl _) _).setCell (Nat.le_refl _) _⟩
      rw [if_pos hk, if_pos hk] at CF
      by_cases he : Tx.fmtR vn 1 = s.data.toList
      case neg =>
        have hno : Tx.ansR Fr.ok s.data.toList (Tx.rR s.data.toList) = ((0, 0), 3) := by
          rw [HP2.out]
          show (if Tx.okR Fr.ok s.data.toList (vn, 1) = true then _ else _) = _
          rw [if_neg (by unfold Tx.okR; simp [he])]
        have HN := Lib.hid hno
        have q1 : (Tx.fmtR vn 1 == s.toList) = false := by rw [toList_data]; simpa using he
        have q2 : (Tx.fmtR vn 1 != s.toList) = true := by rw [toList_data]; simpa using he
        clear hno hk he HP2 HP
        go_enter Tryd.func14, Tryd.ntmps14
        go_wp2_with fail
        refine (HC.out _).mono ?_
        rintro e w1 ⟨u, rfl, hown, hb1⟩
        obtain ⟨g, cp, rfl, hcp, hg1, hg2, hcell⟩ := hown.form (by simp)
        have R1 := R0.all hb1
        have hw1 := below_step b1 hb1
        have k0 := hcell 0 (by simp)
        have HCELL := Lib.hid hcell
        clear hb1 R0 b1 HC hown hcell
        go_wp2_with fail
        refine (CA.out _).mono ?_
        rintro e w2 ⟨rfl, hb2⟩
        have R2 := R1.all hb2
        have hw2 := below_step hw1 hb2
        have hg3 := Nat.lt_of_lt_of_le hg2 hb2.size
        have HB2 := Lib.hid hb2
        clear hb2 R1 hw1 k0
        have RR := RatAt.fresh w2 vn 1 29
        have hwr := below_alloc hw2 (.cells #[.int .i64 vn, .int .i64 1] 29)
        have RX := R2.all (below_alloc (Below.refl w2.heap.size w2) (.cells #[.int .i64 vn, .int .i64 1] 29))
        obtain ⟨c0, c1, z0, z1, _⟩ := id RX
        obtain ⟨r0, r1, y0, y1, _⟩ := id RR
        have hs0 := R2.2.2.2.2
        clear R2 hw2
        go_wp2_with fail
        refine (CF.out _ hwr).mono ?_
        rintro e w4 ⟨rfl, hb4⟩
        have R4 := RX.all hb4
        have RR4 := RR.all hb4
        have hw4 := below_step hwr hb4
        clear hb4 RX RR hwr c0 c1 z0 z1 r0 r1 y0 y1
        try clear p0 p1 p2 p3
        obtain ⟨c0, c1, z0, z1, _⟩ := id R4
        obtain ⟨r0, r1, _, _, _⟩ := id RR4
        clear R4 RR4
        go_wp2
        exact bodyPost_ret (v := .tuple #[.agg #[.int .i64 0, .int .i64 0], .int .i64 3]) (by simp [results, Tryd.results14, go_sem, c0, c1]) rfl ⟨ret_rat HN.out, (hw4.setCell (Nat.le_refl _) _).setCell (Nat.le_refl _) _⟩
      have hno : Tx.ansR Fr.ok s.data.toList (Tx.rR s.data.toList) = ((vn, 1), 0) := by
        rw [HP2.out]
        show (if Tx.okR Fr.ok s.data.toList (vn, 1) = true then _ else _) = _
        rw [if_pos (by unfold Tx.okR; simp [he, hk])]
      have HN := Lib.hid hno
      have q1 : (Tx.fmtR vn 1 == s.toList) = true := by rw [toList_data]; simpa using he
      have q2 : (Tx.fmtR vn 1 != s.toList) = false := by rw [toList_data]; simpa using he
      clear hno hk he HP2 HP
      go_enter Tryd.func14, Tryd.ntmps14
      go_wp2_with fail
      refine (HC.out _).mono ?_
      rintro e w1 ⟨u, rfl, hown, hb1⟩
      obtain ⟨g, cp, rfl, hcp, hg1, hg2, hcell⟩ := hown.form (by simp)
      have R1 := R0.all hb1
      have hw1 := below_step b1 hb1
      have k0 := hcell 0 (by simp)
      have HCELL := Lib.hid hcell
      clear hb1 R0 b1 HC hown hcell
      go_wp2_with fail
      refine (CA.out _).mono ?_
      rintro e w2 ⟨rfl, hb2⟩
      have R2 := R1.all hb2
      have hw2 := below_step hw1 hb2
      have hg3 := Nat.lt_of_lt_of_le hg2 hb2.size
      have HB2 := Lib.hid hb2
      clear hb2 R1 hw1 k0
      have RR := RatAt.fresh w2 vn 1 29
      have hwr := below_alloc hw2 (.cells #[.int .i64 vn, .int .i64 1] 29)
      have RX := R2.all (below_alloc (Below.refl w2.heap.size w2) (.cells #[.int .i64 vn, .int .i64 1] 29))
      obtain ⟨c0, c1, z0, z1, _⟩ := id RX
      obtain ⟨r0, r1, y0, y1, _⟩ := id RR
      have hs0 := R2.2.2.2.2
      clear R2 hw2
      go_wp2_with fail
      refine (CF.out _ hwr).mono ?_
      rintro e w4 ⟨rfl, hb4⟩
      have R4 := RX.all hb4
      have RR4 := RR.all hb4
      have hw4 := below_step hwr hb4
      clear hb4 RX RR hwr c0 c1 z0 z1 r0 r1 y0 y1
      try clear p0 p1 p2 p3
      obtain ⟨c0, c1, z0, z1, _⟩ := id R4
      obtain ⟨r0, r1, _, _, _⟩ := id RR4
      clear R4 RR4
      go_wp2
      exact bodyPost_ret (v := .tuple #[.agg #[.int .i64 vn, .int .i64 1], .int .i64 0]) (by simp [results, Tryd.results14, go_sem, c0, c1]) rfl ⟨ret_rat HN.out, (hw4.setCell (Nat.le_refl _) _).setCell (Nat.le_refl _) _⟩
    obtain ⟨b, rfl⟩ : ∃ b, t = [b] := by
      match t, ht with
      | [b], _ => exact ⟨b, rfl⟩
    have hb : (⟨b.toArray⟩ : ByteArray).size ≤ 100000 := by have := HB.out b (by simp); have := HSZ.out; show b.toArray.size ≤ _; simp; omega
    have CB := Lib.hid (fun W => number_any ⟨b.toArray⟩ W hb)
    have CB : Hid (∀ W : World, Calls Tryd.prog 36 #[.string ⟨b.toArray⟩] W fun e w' => e = .returned (.tuple #[.int .i64 (Tx.numR b).1, .bool (Tx.numR b).2]) ∧ Below W.heap.size W w') := CB
    obtain ⟨b3, b4⟩ := Tx.numR_bd b
    have q0 : ((([a, b] : List (List UInt8)).length : Int) == 2) = true := rfl
    clear hb HB HSZ ht
    cases hB : (Tx.numR b).2 with
    | false =>
      have hno : Tx.ansR Fr.ok s.data.toList (Tx.rR s.data.toList) = ((0, 0), 3) := by
        rw [HP.out]
        show Tx.ansR Fr.ok s.data.toList (if _ then _ else _) = _
        rw [if_neg (by rw [hB]; simp)]; rfl
      have HN := Lib.hid hno
      rw [hB] at CB
      have CF := Lib.hid (fun W (hW : Below w.heap.size w W) => refFormatRat_any (Tx.numR a).1 (Tx.numR b).1 W (by omega) (by omega) (by omega) (by omega))
      clear hno hA hB HP
      generalize (Tx.numR a).1 = vn at *
      generalize (Tx.numR b).1 = vd at *
      generalize (if Fr.ok vn vd = true then Tx.fmtR vn vd else []) = tx at *
      generalize (if Fr.ok vn vd = true then (0 : Int) else 1) = te at *
      go_enter Tryd.func14, Tryd.ntmps14
      go_wp2_with fail
      refine (HC.out _).mono ?_
      rintro e w1 ⟨u, rfl, hown, hb1⟩
      obtain ⟨g, cp, rfl, hcp, hg1, hg2, hcell⟩ := hown.form (by simp)
      have R1 := R0.all hb1
      have hw1 := below_step b1 hb1
      have k0 := hcell 0 (by simp)
      have HCELL := Lib.hid hcell
      clear hb1 R0 b1 HC hown hcell
      go_wp2_with fail
      refine (CA.out _).mono ?_
      rintro e w2 ⟨rfl, hb2⟩
      have R2 := R1.all hb2
      have hw2 := below_step hw1 hb2
      have hg3 := Nat.lt_of_lt_of_le hg2 hb2.size
      have HB2 := Lib.hid hb2
      clear hb2 R1 hw1 k0
      have RR := RatAt.fresh w2 vn 1 29
      have hwr := below_alloc hw2 (.cells #[.int .i64 vn, .int .i64 1] 29)
      have RX := R2.all (below_alloc (Below.refl w2.heap.size w2) (.cells #[.int .i64 vn, .int .i64 1] 29))
      obtain ⟨c0, c1, z0, z1, _⟩ := id RX
      obtain ⟨r0, r1, y0, y1, _⟩ := id RR
      have hs0 := R2.2.2.2.2
      clear R2 hw2
      have k1 := (below_alloc HB2.out (.cells #[.int .i64 vn, .int .i64 1] 29)).cell (p := ⟨g, 1, none⟩) hg2 |>.trans (HCELL.out 1 (by simp))
      go_wp2_with fail
      refine (CB.out _).mono ?_
      rintro e w3 ⟨rfl, hb3⟩
      have R3 := RX.all hb3
      have RR3 := RR.all hb3
      have hw3 := below_step hwr hb3
      clear hb3 RX RR hwr c0 c1 z0 z1 r0 r1 y0 y1 k1 HCELL HB2
      obtain ⟨p0, p1, p2, p3, _⟩ := id RR3
      have hs1 : w2.heap.size ≠ w.heap.size := by omega
      have RX := R3.other (o := 1) hs1 (Value.int .i64 vd)
      have RR := RR3.second vd
      have hwr : Below w.heap.size w (w3.setCell ⟨w2.heap.size, 1, none⟩ (.int .i64 vd)) := hw3.setCell (Nat.le_of_lt hs0) _
      obtain ⟨c0, c1, z0, z1, _⟩ := id RX
      clear R3 RR3 hw3
      obtain ⟨r0, r1, y0, y1, _⟩ := id RR
      go_wp2_with fail
      refine (CF.out _ hwr).mono ?_
      rintro e w4 ⟨rfl, hb4⟩
      have R4 := RX.all hb4
      have RR4 := RR.all hb4
      have hw4 := below_step hwr hb4
      clear hb4 RX RR hwr c0 c1 z0 z1 r0 r1 y0 y1
      try clear p0 p1 p2 p3
      obtain ⟨c0, c1, z0, z1, _⟩ := id R4
      obtain ⟨r0, r1, _, _, _⟩ := id RR4
      clear R4 RR4
      go_wp2
      exact bodyPost_ret (v := .tuple #[.agg #[.int .i64 0, .int .i64 0], .int .i64 3]) (by simp [results, Tryd.results14, go_sem, c0, c1]) rfl ⟨ret_rat HN.out, (hw4.setCell (Nat.le_refl _) _).setCell (Nat.le_refl _) _⟩
    | true =>
      have hp2 : Tx.rR s.data.toList = some ((Tx.numR a).1, (Tx.numR b).1) := by
        rw [HP.out]
        show (if _ then _ else _) = _
        rw [if_pos ⟨hA, hB⟩]
      have HP2 := Lib.hid hp2
      rw [hB] at CB
      clear hp2 hA hB
      generalize (Tx.numR a).1 = vn at *
      generalize (Tx.numR b).1 = vd at *
      have CF := Lib.hid (fun W (hW : Below w.heap.size w W) => refFormatRat_any vn vd W (by omega) (by omega) (by omega) (by omega))
      by_cases hk : Fr.ok vn vd = true
      case neg =>
        have hno : Tx.ansR Fr.ok s.data.toList (Tx.rR s.data.toList) = ((0, 0), 3) := by
          rw [HP2.out]
          show (if Tx.okR Fr.ok s.data.toList (vn, vd) = true then _ else _) = _
          rw [if_neg (by unfold Tx.okR; simp [hk])]
        rw [if_neg hk, if_neg hk] at CF
        have HN := Lib.hid hno
        clear hno hk HP2 HP
        go_enter Tryd.func14, Tryd.ntmps14
        go_wp2_with fail
        refine (HC.out _).mono ?_
        rintro e w1 ⟨u, rfl, hown, hb1⟩
        obtain ⟨g, cp, rfl, hcp, hg1, hg2, hcell⟩ := hown.form (by simp)
        have R1 := R0.all hb1
        have hw1 := below_step b1 hb1
        have k0 := hcell 0 (by simp)
        have HCELL := Lib.hid hcell
        clear hb1 R0 b1 HC hown hcell
        go_wp2_with fail
        refine (CA.out _).mono ?_
        rintro e w2 ⟨rfl, hb2⟩
        have R2 := R1.all hb2
        have hw2 := below_step hw1 hb2
        have hg3 := Nat.lt_of_lt_of_le hg2 hb2.size
        have HB2 := Lib.hid hb2
        clear hb2 R1 hw1 k0
        have RR := RatAt.fresh w2 vn 1 29
        have hwr := below_alloc hw2 (.cells #[.int .i64 vn, .int .i64 1] 29)
        have RX := R2.all (below_alloc (Below.refl w2.heap.size w2) (.cells #[.int .i64 vn, .int .i64 1] 29))
        obtain ⟨c0, c1, z0, z1, _⟩ := id RX
        obtain ⟨r0, r1, y0, y1, _⟩ := id RR
        have hs0 := R2.2.2.2.2
        clear R2 hw2
        have k1 := (below_alloc HB2.out (.cells #[.int .i64 vn, .int .i64 1] 29)).cell (p := ⟨g, 1, none⟩) hg2 |>.trans (HCELL.out 1 (by simp))
        go_wp2_with fail
        refine (CB.out _).mono ?_
        rintro e w3 ⟨rfl, hb3⟩
        have R3 := RX.all hb3
        have RR3 := RR.all hb3
        have hw3 := below_step hwr hb3
        clear hb3 RX RR hwr c0 c1 z0 z1 r0 r1 y0 y1 k1 HCELL HB2
        obtain ⟨p0, p1, p2, p3, _⟩ := id RR3
        have hs1 : w2.heap.size ≠ w.heap.size := by omega
        have RX := R3.other (o := 1) hs1 (Value.int .i64 vd)
        have RR := RR3.second vd
        have hwr : Below w.heap.size w (w3.setCell ⟨w2.heap.size, 1, none⟩ (.int .i64 vd)) := hw3.setCell (Nat.le_of_lt hs0) _
        obtain ⟨c0, c1, z0, z1, _⟩ := id RX
        clear R3 RR3 hw3
        obtain ⟨r0, r1, y0, y1, _⟩ := id RR
        go_wp2_with fail
        refine (CF.out _ hwr).mono ?_
        rintro e w4 ⟨rfl, hb4⟩
        have R4 := RX.all hb4
        have RR4 := RR.all hb4
        have hw4 := below_step hwr hb4
        clear hb4 RX RR hwr c0 c1 z0 z1 r0 r1 y0 y1
        try clear p0 p1 p2 p3
        obtain ⟨c0, c1, z0, z1, _⟩ := id R4
        obtain ⟨r0, r1, _, _, _⟩ := id RR4
        clear R4 RR4
        go_wp2
        exact bodyPost_ret (v := .tuple #[.agg #[.int .i64 0, .int .i64 0], .int .i64 3]) (by simp [results, Tryd.results14, go_sem, c0, c1]) rfl ⟨ret_rat HN.out, (hw4.setCell (Nat.le_refl _) _).setCell (Nat.le_refl _) _⟩
      rw [if_pos hk, if_pos hk] at CF
      by_cases he : Tx.fmtR vn vd = s.data.toList
      case neg =>
        have hno : Tx.ansR Fr.ok s.data.toList (Tx.rR s.data.toList) = ((0, 0), 3) := by
          rw [HP2.out]
          show (if Tx.okR Fr.ok s.data.toList (vn, vd) = true then _ else _) = _
          rw [if_neg (by unfold Tx.okR; simp [he])]
        have HN := Lib.hid hno
        have q1 : (Tx.fmtR vn vd == s.toList) = false := by rw [toList_data]; simpa using he
        have q2 : (Tx.fmtR vn vd != s.toList) = true := by rw [toList_data]; simpa using he
        clear hno hk he HP2 HP
        go_enter Tryd.func14, Tryd.ntmps14
        go_wp2_with fail
        refine (HC.out _).mono ?_
        rintro e w1 ⟨u, rfl, hown, hb1⟩
        obtain ⟨g, cp, rfl, hcp, hg1, hg2, hcell⟩ := hown.form (by simp)
        have R1 := R0.all hb1
        have hw1 := below_step b1 hb1
        have k0 := hcell 0 (by simp)
        have HCELL := Lib.hid hcell
        clear hb1 R0 b1 HC hown hcell
        go_wp2_with fail
        refine (CA.out _).mono ?_
        rintro e w2 ⟨rfl, hb2⟩
        have R2 := R1.all hb2
        have hw2 := below_step hw1 hb2
        have hg3 := Nat.lt_of_lt_of_le hg2 hb2.size
        have HB2 := Lib.hid hb2
        clear hb2 R1 hw1 k0
        have RR := RatAt.fresh w2 vn 1 29
        have hwr := below_alloc hw2 (.cells #[.int .i64 vn, .int .i64 1] 29)
        have RX := R2.all (below_alloc (Below.refl w2.heap.size w2) (.cells #[.int .i64 vn, .int .i64 1] 29))
        obtain ⟨c0, c1, z0, z1, _⟩ := id RX
        obtain ⟨r0, r1, y0, y1, _⟩ := id RR
        have hs0 := R2.2.2.2.2
        clear R2 hw2
        have k1 := (below_alloc HB2.out (.cells #[.int .i64 vn, .int .i64 1] 29)).cell (p := ⟨g, 1, none⟩) hg2 |>.trans (HCELL.out 1 (by simp))
        go_wp2_with fail
        refine (CB.out _).mono ?_
        rintro e w3 ⟨rfl, hb3⟩
        have R3 := RX.all hb3
        have RR3 := RR.all hb3
        have hw3 := below_step hwr hb3
        clear hb3 RX RR hwr c0 c1 z0 z1 r0 r1 y0 y1 k1 HCELL HB2
        obtain ⟨p0, p1, p2, p3, _⟩ := id RR3
        have hs1 : w2.heap.size ≠ w.heap.size := by omega
        have RX := R3.other (o := 1) hs1 (Value.int .i64 vd)
        have RR := RR3.second vd
        have hwr : Below w.heap.size w (w3.setCell ⟨w2.heap.size, 1, none⟩ (.int .i64 vd)) := hw3.setCell (Nat.le_of_lt hs0) _
        obtain ⟨c0, c1, z0, z1, _⟩ := id RX
        clear R3 RR3 hw3
        obtain ⟨r0, r1, y0, y1, _⟩ := id RR
        go_wp2_with fail
        refine (CF.out _ hwr).mono ?_
        rintro e w4 ⟨rfl, hb4⟩
        have R4 := RX.all hb4
        have RR4 := RR.all hb4
        have hw4 := below_step hwr hb4
        clear hb4 RX RR hwr c0 c1 z0 z1 r0 r1 y0 y1
        try clear p0 p1 p2 p3
        obtain ⟨c0, c1, z0, z1, _⟩ := id R4
        obtain ⟨r0, r1, _, _, _⟩ := id RR4
        clear R4 RR4
        go_wp2
        exact bodyPost_ret (v := .tuple #[.agg #[.int .i64 0, .int .i64 0], .int .i64 3]) (by simp [results, Tryd.results14, go_sem, c0, c1]) rfl ⟨ret_rat HN.out, (hw4.setCell (Nat.le_refl _) _).setCell (Nat.le_refl _) _⟩
      have hno : Tx.ansR Fr.ok s.data.toList (Tx.rR s.data.toList) = ((vn, vd), 0) := by
        rw [HP2.out]
        show (if Tx.okR Fr.ok s.data.toList (vn, vd) = true then _ else _) = _
        rw [if_pos (by unfold Tx.okR; simp [he, hk])]
      have HN := Lib.hid hno
      have q1 : (Tx.fmtR vn vd == s.toList) = true := by rw [toList_data]; simpa using he
      have q2 : (Tx.fmtR vn vd != s.toList) = false := by rw [toList_data]; simpa using he
      clear hno hk he HP2 HP
      go_enter Tryd.func14, Tryd.ntmps14
      go_wp2_with fail
      refine (HC.out _).mono ?_
      rintro e w1 ⟨u, rfl, hown, hb1⟩
      obtain ⟨g, cp, rfl, hcp, hg1, hg2, hcell⟩ := hown.form (by simp)
      have R1 := R0.all hb1
      have hw1 := below_step b1 hb1
      have k0 := hcell 0 (by simp)
      have HCELL := Lib.hid hcell
      clear hb1 R0 b1 HC hown hcell
      go_wp2_with fail
      refine (CA.out _).mono ?_
      rintro e w2 ⟨rfl, hb2⟩
      have R2 := R1.all hb2
      have hw2 := below_step hw1 hb2
      have hg3 := Nat.lt_of_lt_of_le hg2 hb2.size
      have HB2 := Lib.hid hb2
      clear hb2 R1 hw1 k0
      have RR := RatAt.fresh w2 vn 1 29
      have hwr := below_alloc hw2 (.cells #[.int .i64 vn, .int .i64 1] 29)
      have RX := R2.all (below_alloc (Below.refl w2.heap.size w2) (.cells #[.int .i64 vn, .int .i64 1] 29))
      obtain ⟨c0, c1, z0, z1, _⟩ := id RX
      obtain ⟨r0, r1, y0, y1, _⟩ := id RR
      have hs0 := R2.2.2.2.2
      clear R2 hw2
      have k1 := (below_alloc HB2.out (.cells #[.int .i64 vn, .int .i64 1] 29)).cell (p := ⟨g, 1, none⟩) hg2 |>.trans (HCELL.out 1 (by simp))
      go_wp2_with fail
      refine (CB.out _).mono ?_
      rintro e w3 ⟨rfl, hb3⟩
      have R3 := RX.all hb3
      have RR3 := RR.all hb3
      have hw3 := below_step hwr hb3
      clear hb3 RX RR hwr c0 c1 z0 z1 r0 r1 y0 y1 k1 HCELL HB2
      obtain ⟨p0, p1, p2, p3, _⟩ := id RR3
      have hs1 : w2.heap.size ≠ w.heap.size := by omega
      have RX := R3.other (o := 1) hs1 (Value.int .i64 vd)
      have RR := RR3.second vd
      have hwr : Below w.heap.size w (w3.setCell ⟨w2.heap.size, 1, none⟩ (.int .i64 vd)) := hw3.setCell (Nat.le_of_lt hs0) _
      obtain ⟨c0, c1, z0, z1, _⟩ := id RX
      clear R3 RR3 hw3
      obtain ⟨r0, r1, y0, y1, _⟩ := id RR
      go_wp2_with fail
      refine (CF.out _ hwr).mono ?_
      rintro e w4 ⟨rfl, hb4⟩
      have R4 := RX.all hb4
      have RR4 := RR.all hb4
      have hw4 := below_step hwr hb4
      clear hb4 RX RR hwr c0 c1 z0 z1 r0 r1 y0 y1
      try clear p0 p1 p2 p3
      obtain ⟨c0, c1, z0, z1, _⟩ := id R4
      obtain ⟨r0, r1, _, _, _⟩ := id RR4
      clear R4 RR4
      go_wp2
      exact bodyPost_ret (v := .tuple #[.agg #[.int .i64 vn, .int .i64 vd], .int .i64 0]) (by simp [results, Tryd.results14, go_sem, c0, c1]) rfl ⟨ret_rat HN.out, (hw4.setCell (Nat.le_refl _) _).setCell (Nat.le_refl _) _⟩
end Go.Proofs.YtmmmlcnclehilaaDoor
