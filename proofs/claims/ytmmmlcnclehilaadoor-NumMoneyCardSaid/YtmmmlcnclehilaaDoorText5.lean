/- Fractions that are read: the program's. -/
import Derived.Test.YtmmmlcnclehilaaDoorText4
namespace Go.Proofs.YtmmmlcnclehilaaDoor
open Go.RowKit Go.Sort
namespace Tx
theorem cut_len (l : List UInt8) (c : UInt8) : (Lib.cut l [c]).1.length ≤ l.length ∧ (Lib.cut l [c]).2.1.length ≤ l.length := by
  unfold Lib.cut
  split
  · simp
    omega
  · simp
theorem atoi_bd {l : List UInt8} {v : Int} (h : Lib.atoiAll l = .ok v) : -9223372036854775808 ≤ v ∧ v ≤ 9223372036854775807 := by
  cases l with
  | nil => simp [Lib.atoiAll] at h
  | cons c r =>
    simp only [Lib.atoiAll] at h
    split at h
    · cases h
    · cases h
    · split at h
      · cases h
      · split at h
        · cases h
        · simp only [Lib.NumEnd.ok.injEq] at h
          split at h <;> omega
theorem near_ok : Near Fr.ok := fun n d h => by
  unfold Fr.ok at h
  have := of_decide_eq_true h
  omega
end Tx
theorem ret_rat {n d e : Int} {x : (Int × Int) × Int} (h : x = ((n, d), e)) : Ending.returned (.tuple #[.agg #[.int .i64 n, .int .i64 d], .int .i64 e]) = .returned (.tuple #[.agg #[.int .i64 x.1.1, .int .i64 x.1.2], .int .i64 x.2]) := by rw [h]
def RatSays (x : (Int × Int) × Int) (w : World) (e : Ending) (w' : World) : Prop := e = .returned (.tuple #[.agg #[.int .i64 x.1.1, .int .i64 x.1.2], .int .i64 x.2]) ∧ Below w.heap.size w w'
theorem cut_any (s : ByteArray) (w : World) (h : Env w) (hs : s.size ≤ 100000) :
    Calls Tryd.prog 33 #[.string s, .string ⟨#[47]⟩] w fun e w' => e = .returned (.tuple #[.string ⟨(Lib.cut s.data.toList [47]).1.toArray⟩, .string ⟨(Lib.cut s.data.toList [47]).2.1.toArray⟩, .bool (Lib.cut s.data.toList [47]).2.2]) ∧ Below w.heap.size w w' := by
  obtain ⟨_, ⟨m, hm⟩, _⟩ := h
  exact (Tryd.strings_Cut s ⟨#[47]⟩ m w (by omega) hm).mono fun e w' ⟨he, n, hw⟩ => ⟨he, by rw [hw]; exact ⟨rfl, rfl, rfl, Nat.le_refl _, fun _ _ => rfl⟩⟩

set_option maxRecDepth 20000 in
set_option maxHeartbeats 1000000 in
theorem parseRat_any (s : ByteArray) (w : World) (h : Env w) (hs : s.size ≤ 100000) :
    Calls Tryd.prog 13 #[.string s] w (RatSays (Tx.ansR Fr.ok s.data.toList (Tx.pR s.data.toList)) w) := by
  have HC := Lib.hid (fun W (hW : Below w.heap.size w W) => cut_any s W (h.all hW) hs)
  have hlen := Tx.cut_len s.data.toList 47
  have hsz : s.data.toList.length = s.size := by rw [Array.length_toList]; rfl
  have hp : Tx.pR s.data.toList = match Lib.atoiAll (Lib.cut s.data.toList [47]).1, Lib.atoiAll (if (Lib.cut s.data.toList [47]).2.2 = true then (Lib.cut s.data.toList [47]).2.1 else [49]) with
    | .ok n, .ok d => some (n, d)
    | _, _ => none := rfl
  obtain ⟨A, B, f, hcut⟩ : ∃ A B f, Lib.cut s.data.toList [47] = (A, B, f) := ⟨_, _, _, rfl⟩
  rw [hcut] at HC hlen hp
  dsimp only at HC hlen hp
  have hA : (⟨A.toArray⟩ : ByteArray).size ≤ 100000 := by show A.toArray.size ≤ _; simp; omega
  have hB : (⟨(if f = true then B else [49]).toArray⟩ : ByteArray).size ≤ 100000 := by
    show (if f = true then B else [49]).toArray.size ≤ _
    simp only [List.size_toArray]
    split
    · omega
    · simp
  have HE := Lib.hid h
  have b1 := (below_alloc (Below.refl w.heap.size w) (.cells #[.int .i64 0, .int .i64 0] 29))
  have R0 := RatAt.fresh w 0 0 29
  have HEQ := Lib.hid toList_data
  have HP := Lib.hid hp
  have HCUT := Lib.hid hcut
  clear hp hcut hlen hsz h
  by_cases hAo : ∃ n, Lib.atoiAll A = .ok n
  case neg =>
    have hno : Tx.ansR Fr.ok s.data.toList (Tx.pR s.data.toList) = ((0, 0), 3) := by
      rw [HP.out]
      cases hx : Lib.atoiAll A with
      | ok n => exact absurd ⟨n, hx⟩ hAo
      | «syntax» => rfl
      | range => rfl
    have HN := Lib.hid hno
    have CA := Lib.hid (fun W (hW : Below w.heap.size w W) => atoi_bad ⟨A.toArray⟩ W (HE.out.all hW) hA fun v hv => hAo ⟨v, hv⟩)
    clear hno hAo HP
    by_cases hBo : ∃ n, Lib.atoiAll (if f = true then B else [49]) = .ok n
    · obtain ⟨d, hd⟩ := hBo
      have CB := Lib.hid (fun W => atoi_ok ⟨(if f = true then B else [49]).toArray⟩ W hB hd)
      clear hd hA hB
      cases f with
      | false =>
        go_enter Tryd.func13, Tryd.ntmps13
        go_wp2_with fail
        refine (HC.out _ b1).mono ?_
        rintro e w1 ⟨rfl, hb1⟩
        have R1 := R0.all hb1
        have hw1 := below_step b1 hb1
        clear hb1 R0 b1 HC
        go_wp2_with fail
        refine (CA.out _ hw1).mono ?_
        rintro e w2 ⟨va, ta, pa, rfl, ⟨_, _⟩, hb2⟩
        have R2 := R1.all hb2
        have hw2 := below_step hw1 hb2
        clear hb2 R1 hw1
        go_wp2_with fail
        refine (CB.out _).mono ?_
        rintro e w3 ⟨rfl, hb3⟩
        have R3 := R2.all hb3
        have hw3 := below_step hw2 hb3
        clear hb3 R2 hw2
        obtain ⟨c0, c1, z0, z1, _⟩ := id R3
        clear R3
        go_wp2
        exact bodyPost_ret (v := .tuple #[.agg #[.int .i64 0, .int .i64 0], .int .i64 3]) (by simp [results, Tryd.results13, go_sem, c0, c1]) rfl ⟨ret_rat (HN.out), (hw3.setCell (Nat.le_refl _) _).setCell (Nat.le_refl _) _⟩
      | true =>
        go_enter Tryd.func13, Tryd.ntmps13
        go_wp2_with fail
        refine (HC.out _ b1).mono ?_
        rintro e w1 ⟨rfl, hb1⟩
        have R1 := R0.all hb1
        have hw1 := below_step b1 hb1
        clear hb1 R0 b1 HC
        go_wp2_with fail
        refine (CA.out _ hw1).mono ?_
        rintro e w2 ⟨va, ta, pa, rfl, ⟨_, _⟩, hb2⟩
        have R2 := R1.all hb2
        have hw2 := below_step hw1 hb2
        clear hb2 R1 hw1
        go_wp2_with fail
        refine (CB.out _).mono ?_
        rintro e w3 ⟨rfl, hb3⟩
        have R3 := R2.all hb3
        have hw3 := below_step hw2 hb3
        clear hb3 R2 hw2
        obtain ⟨c0, c1, z0, z1, _⟩ := id R3
        clear R3
        go_wp2
        exact bodyPost_ret (v := .tuple #[.agg #[.int .i64 0, .int .i64 0], .int .i64 3]) (by simp [results, Tryd.results13, go_sem, c0, c1]) rfl ⟨ret_rat (HN.out), (hw3.setCell (Nat.le_refl _) _).setCell (Nat.le_refl _) _⟩
    · have CB := Lib.hid (fun W (hW : Below w.heap.size w W) => atoi_bad ⟨(if f = true then B else [49]).toArray⟩ W (HE.out.all hW) hB fun v hv => hBo ⟨v, hv⟩)
      clear hBo hA hB
      cases f with
      | false =>
        go_enter Tryd.func13, Tryd.ntmps13
        go_wp2_with fail
        refine (HC.out _ b1).mono ?_
        rintro e w1 ⟨rfl, hb1⟩
        have R1 := R0.all hb1
        have hw1 := below_step b1 hb1
        clear hb1 R0 b1 HC
        go_wp2_with fail
        refine (CA.out _ hw1).mono ?_
        rintro e w2 ⟨va, ta, pa, rfl, ⟨_, _⟩, hb2⟩
        have R2 := R1.all hb2
        have hw2 := below_step hw1 hb2
        clear hb2 R1 hw1
        go_wp2_with fail
        refine (CB.out _ hw2).mono ?_
        rintro e w3 ⟨vb, tb, pb, rfl, ⟨_, _⟩, hb3⟩
        have R3 := R2.all hb3
        have hw3 := below_step hw2 hb3
        clear hb3 R2 hw2
        obtain ⟨c0, c1, z0, z1, _⟩ := id R3
        clear R3
        go_wp2
        exact bodyPost_ret (v := .tuple #[.agg #[.int .i64 0, .int .i64 0], .int .i64 3]) (by simp [results, Tryd.results13, go_sem, c0, c1]) rfl ⟨ret_rat (HN.out), (hw3.setCell (Nat.le_refl _) _).setCell (Nat.le_refl _) _⟩
      | true =>
        go_enter Tryd.func13, Tryd.ntmps13
        go_wp2_with fail
        refine (HC.out _ b1).mono ?_
        rintro e w1 ⟨rfl, hb1⟩
        have R1 := R0.all hb1
        have hw1 := below_step b1 hb1
        clear hb1 R0 b1 HC
        go_wp2_with fail
        refine (CA.out _ hw1).mono ?_
        rintro e w2 ⟨va, ta, pa, rfl, ⟨_, _⟩, hb2⟩
        have R2 := R1.all hb2
        have hw2 := below_step hw1 hb2
        clear hb2 R1 hw1
        go_wp2_with fail
        refine (CB.out _ hw2).mono ?_
        rintro e w3 ⟨vb, tb, pb, rfl, ⟨_, _⟩, hb3⟩
        have R3 := R2.all hb3
        have hw3 := below_step hw2 hb3
        clear hb3 R2 hw2
        obtain ⟨c0, c1, z0, z1, _⟩ := id R3
        clear R3
        go_wp2
        exact bodyPost_ret (v := .tuple #[.agg #[.int .i64 0, .int .i64 0], .int .i64 3]) (by simp [results, Tryd.results13, go_sem, c0, c1]) rfl ⟨ret_rat (HN.out), (hw3.setCell (Nat.le_refl _) _).setCell (Nat.le_refl _) _⟩
  obtain ⟨n, hn⟩ := hAo
  have CA := Lib.hid (fun W => atoi_ok ⟨A.toArray⟩ W hA hn)
  by_cases hBo : ∃ n, Lib.atoiAll (if f = true then B else [49]) = .ok n
  case neg =>
    have hno : Tx.ansR Fr.ok s.data.toList (Tx.pR s.data.toList) = ((0, 0), 3) := by
      rw [HP.out]
      cases hx : Lib.atoiAll (if f = true then B else [49]) with
      | ok n => exact absurd ⟨n, hx⟩ hBo
      | «syntax» => rw [hn]; rfl
      | range => rw [hn]; rfl
    have HN := Lib.hid hno
    have CB := Lib.hid (fun W (hW : Below w.heap.size w W) => atoi_bad ⟨(if f = true then B else [49]).toArray⟩ W (HE.out.all hW) hB fun v hv => hBo ⟨v, hv⟩)
    clear hno hBo hn hA hB HP
    cases f with
    | false =>
      go_enter Tryd.func13, Tryd.ntmps13
      go_wp2_with fail
      refine (HC.out _ b1).mono ?_
      rintro e w1 ⟨rfl, hb1⟩
      have R1 := R0.all hb1
      have hw1 := below_step b1 hb1
      clear hb1 R0 b1 HC
      go_wp2_with fail
      refine (CA.out _).mono ?_
      rintro e w2 ⟨rfl, hb2⟩
      have R2 := R1.all hb2
      have hw2 := below_step hw1 hb2
      clear hb2 R1 hw1
      go_wp2_with fail
      refine (CB.out _ hw2).mono ?_
      rintro e w3 ⟨vb, tb, pb, rfl, ⟨_, _⟩, hb3⟩
      have R3 := R2.all hb3
      have hw3 := below_step hw2 hb3
      clear hb3 R2 hw2
      obtain ⟨c0, c1, z0, z1, _⟩ := id R3
      clear R3
      go_wp2
      exact bodyPost_ret (v := .tuple #[.agg #[.int .i64 0, .int .i64 0], .int .i64 3]) (by simp [results, Tryd.results13, go_sem, c0, c1]) rfl ⟨ret_rat (HN.out), (hw3.setCell (Nat.le_refl _) _).setCell (Nat.le_refl _) _⟩
    | true =>
      go_enter Tryd.func13, Tryd.ntmps13
      go_wp2_with fail
      refine (HC.out _ b1).mono ?_
      rintro e w1 ⟨rfl, hb1⟩
      have R1 := R0.all hb1
      have hw1 := below_step b1 hb1
      clear hb1 R0 b1 HC
      go_wp2_with fail
      refine (CA.out _).mono ?_
      rintro e w2 ⟨rfl, hb2⟩
      have R2 := R1.all hb2
      have hw2 := below_step hw1 hb2
      clear hb2 R1 hw1
      go_wp2_with fail
      refine (CB.out _ hw2).mono ?_
      rintro e w3 ⟨vb, tb, pb, rfl, ⟨_, _⟩, hb3⟩
      have R3 := R2.all hb3
      have hw3 := below_step hw2 hb3
      clear hb3 R2 hw2
      obtain ⟨c0, c1, z0, z1, _⟩ := id R3
      clear R3
      go_wp2
      exact bodyPost_ret (v := .tuple #[.agg #[.int .i64 0, .int .i64 0], .int .i64 3]) (by simp [results, Tryd.results13, go_sem, c0, c1]) rfl ⟨ret_rat (HN.out), (hw3.setCell (Nat.le_refl _) _).setCell (Nat.le_refl _) _⟩
  obtain ⟨d, hd⟩ := hBo
  have CB := Lib.hid (fun W => atoi_ok ⟨(if f = true then B else [49]).toArray⟩ W hB hd)
  have hp2 : Tx.pR s.data.toList = some (n, d) := by rw [HP.out, hn, hd]
  obtain ⟨n1, n2⟩ := Tx.atoi_bd hn
  obtain ⟨d1, d2⟩ := Tx.atoi_bd hd
  have CF := Lib.hid (fun W (hW : Below w.heap.size w W) => formatRat_any n d W (HE.out.all hW) n1 n2 d1 d2)
  have HP2 := Lib.hid hp2
  clear hp2 hn hd hA hB HP
  by_cases hk : Fr.ok n d = true
  case neg =>
    have hno : Tx.ansR Fr.ok s.data.toList (Tx.pR s.data.toList) = ((0, 0), 3) := by
      rw [HP2.out]
      show (if Tx.okR Fr.ok s.data.toList (n, d) = true then _ else _) = _
      rw [if_neg (by unfold Tx.okR; simp [hk])]
    rw [if_neg hk, if_neg hk] at CF
    have HN := Lib.hid hno
    clear hno hk HP2
    cases f with
    | false =>
      go_enter Tryd.func13, Tryd.ntmps13
      go_wp2_with fail
      refine (HC.out _ b1).mono ?_
      rintro e w1 ⟨rfl, hb1⟩
      have R1 := R0.all hb1
      have hw1 := below_step b1 hb1
      clear hb1 R0 b1 HC
      go_wp2_with fail
      refine (CA.out _).mono ?_
      rintro e w2 ⟨rfl, hb2⟩
      have R2 := R1.all hb2
      have hw2 := below_step hw1 hb2
      clear hb2 R1 hw1
      go_wp2_with fail
      refine (CB.out _).mono ?_
      rintro e w3 ⟨rfl, hb3⟩
      have R3 := R2.all hb3
      have hw3 := below_step hw2 hb3
      clear hb3 R2 hw2
      have zz := R3
      have RR := RatAt.fresh w3 n d 29
      have hwr := below_alloc hw3 (.cells #[.int .i64 n, .int .i64 d] 29)
      have RX := R3.all (below_alloc (Below.refl w3.heap.size w3) (.cells #[.int .i64 n, .int .i64 d] 29))
      obtain ⟨c0, c1, z0, z1, _⟩ := id RX
      obtain ⟨r0, r1, _, _, _⟩ := id RR
      go_wp2_with fail
      refine (CF.out _ hwr).mono ?_
      rintro e w4 ⟨rfl, hb4⟩
      have R4 := RX.all hb4
      have RR4 := RR.all hb4
      have hw4 := below_step hwr hb4
      clear hb4 RX RR hwr hw3 R3 zz c0 c1 z0 z1 r0 r1
      obtain ⟨c0, c1, z0, z1, _⟩ := id R4
      obtain ⟨r0, r1, _, _, _⟩ := id RR4
      clear R4 RR4
      go_wp2
      exact bodyPost_ret (v := .tuple #[.agg #[.int .i64 0, .int .i64 0], .int .i64 3]) (by simp [results, Tryd.results13, go_sem, c0, c1]) rfl ⟨ret_rat HN.out, (hw4.setCell (Nat.le_refl _) _).setCell (Nat.le_refl _) _⟩
    | true =>
      go_enter Tryd.func13, Tryd.ntmps13
      go_wp2_with fail
      refine (HC.out _ b1).mono ?_
      rintro e w1 ⟨rfl, hb1⟩
      have R1 := R0.all hb1
      have hw1 := below_step b1 hb1
      clear hb1 R0 b1 HC
      go_wp2_with fail
      refine (CA.out _).mono ?_
      rintro e w2 ⟨rfl, hb2⟩
      have R2 := R1.all hb2
      have hw2 := below_step hw1 hb2
      clear hb2 R1 hw1
      go_wp2_with fail
      refine (CB.out _).mono ?_
      rintro e w3 ⟨rfl, hb3⟩
      have R3 := R2.all hb3
      have hw3 := below_step hw2 hb3
      clear hb3 R2 hw2
      have zz := R3
      have RR := RatAt.fresh w3 n d 29
      have hwr := below_alloc hw3 (.cells #[.int .i64 n, .int .i64 d] 29)
      have RX := R3.all (below_alloc (Below.refl w3.heap.size w3) (.cells #[.int .i64 n, .int .i64 d] 29))
      obtain ⟨c0, c1, z0, z1, _⟩ := id RX
      obtain ⟨r0, r1, _, _, _⟩ := id RR
      go_wp2_with fail
      refine (CF.out _ hwr).mono ?_
      rintro e w4 ⟨rfl, hb4⟩
      have R4 := RX.all hb4
      have RR4 := RR.all hb4
      have hw4 := below_step hwr hb4
      clear hb4 RX RR hwr hw3 R3 zz c0 c1 z0 z1 r0 r1
      obtain ⟨c0, c1, z0, z1, _⟩ := id R4
      obtain ⟨r0, r1, _, _, _⟩ := id RR4
      clear R4 RR4
      go_wp2
      exact bodyPost_ret (v := .tuple #[.agg #[.int .i64 0, .int .i64 0], .int .i64 3]) (by simp [results, Tryd.results13, go_sem, c0, c1]) rfl ⟨ret_rat HN.out, (hw4.setCell (Nat.le_refl _) _).setCell (Nat.le_refl _) _⟩
  rw [if_pos hk, if_pos hk] at CF
  by_cases he : Tx.fmtR n d = s.data.toList
  case neg =>
    have hno : Tx.ansR Fr.ok s.data.toList (Tx.pR s.data.toList) = ((0, 0), 3) := by
      rw [HP2.out]
      show (if Tx.okR Fr.ok s.data.toList (n, d) = true then _ else _) = _
      rw [if_neg (by unfold Tx.okR; simp [he])]
    have HN := Lib.hid hno
    have q1 : (Tx.fmtR n d == s.toList) = false := by rw [toList_data]; simpa using he
    have q2 : (Tx.fmtR n d != s.toList) = true := by rw [toList_data]; simpa using he
    clear hno hk he HP2
    cases f with
    | false =>
      go_enter Tryd.func13, Tryd.ntmps13
      go_wp2_with fail
      refine (HC.out _ b1).mono ?_
      rintro e w1 ⟨rfl, hb1⟩
      have R1 := R0.all hb1
      have hw1 := below_step b1 hb1
      clear hb1 R0 b1 HC
      go_wp2_with fail
      refine (CA.out _).mono ?_
      rintro e w2 ⟨rfl, hb2⟩
      have R2 := R1.all hb2
      have hw2 := below_step hw1 hb2
      clear hb2 R1 hw1
      go_wp2_with fail
      refine (CB.out _).mono ?_
      rintro e w3 ⟨rfl, hb3⟩
      have R3 := R2.all hb3
      have hw3 := below_step hw2 hb3
      clear hb3 R2 hw2
      have zz := R3
      have RR := RatAt.fresh w3 n d 29
      have hwr := below_alloc hw3 (.cells #[.int .i64 n, .int .i64 d] 29)
      have RX := R3.all (below_alloc (Below.refl w3.heap.size w3) (.cells #[.int .i64 n, .int .i64 d] 29))
      obtain ⟨c0, c1, z0, z1, _⟩ := id RX
      obtain ⟨r0, r1, _, _, _⟩ := id RR
      go_wp2_with fail
      refine (CF.out _ hwr).mono ?_
      rintro e w4 ⟨rfl, hb4⟩
      have R4 := RX.all hb4
      have RR4 := RR.all hb4
      have hw4 := below_step hwr hb4
      clear hb4 RX RR hwr hw3 R3 zz c0 c1 z0 z1 r0 r1
      obtain ⟨c0, c1, z0, z1, _⟩ := id R4
      obtain ⟨r0, r1, _, _, _⟩ := id RR4
      clear R4 RR4
      go_wp2
      exact bodyPost_ret (v := .tuple #[.agg #[.int .i64 0, .int .i64 0], .int .i64 3]) (by simp [results, Tryd.results13, go_sem, c0, c1]) rfl ⟨ret_rat HN.out, (hw4.setCell (Nat.le_refl _) _).setCell (Nat.le_refl _) _⟩
    | true =>
      go_enter Tryd.func13, Tryd.ntmps13
      go_wp2_with fail
      refine (HC.out _ b1).mono ?_
      rintro e w1 ⟨rfl, hb1⟩
      have R1 := R0.all hb1
      have hw1 := below_step b1 hb1
      clear hb1 R0 b1 HC
      go_wp2_with fail
      refine (CA.out _).mono ?_
      rintro e w2 ⟨rfl, hb2⟩
      have R2 := R1.all hb2
      have hw2 := below_step hw1 hb2
      clear hb2 R1 hw1
      go_wp2_with fail
      refine (CB.out _).mono ?_
      rintro e w3 ⟨rfl, hb3⟩
      have R3 := R2.all hb3
      have hw3 := below_step hw2 hb3
      clear hb3 R2 hw2
      have zz := R3
      have RR := RatAt.fresh w3 n d 29
      have hwr := below_alloc hw3 (.cells #[.int .i64 n, .int .i64 d] 29)
      have RX := R3.all (below_alloc (Below.refl w3.heap.size w3) (.cells #[.int .i64 n, .int .i64 d] 29))
      obtain ⟨c0, c1, z0, z1, _⟩ := id RX
      obtain ⟨r0, r1, _, _, _⟩ := id RR
      go_wp2_with fail
      refine (CF.out _ hwr).mono ?_
      rintro e w4 ⟨rfl, hb4⟩
      have R4 := RX.all hb4
      have RR4 := RR.all hb4
      have hw4 := below_step hwr hb4
      clear hb4 RX RR hwr hw3 R3 zz c0 c1 z0 z1 r0 r1
      obtain ⟨c0, c1, z0, z1, _⟩ := id R4
      obtain ⟨r0, r1, _, _, _⟩ := id RR4
      clear R4 RR4
      go_wp2
      exact bodyPost_ret (v := .tuple #[.agg #[.int .i64 0, .int .i64 0], .int .i64 3]) (by simp [results, Tryd.results13, go_sem, c0, c1]) rfl ⟨ret_rat HN.out, (hw4.setCell (Nat.le_refl _) _).setCell (Nat.le_refl _) _⟩
  have hno : Tx.ansR Fr.ok s.data.toList (Tx.pR s.data.toList) = ((n, d), 0) := by
    rw [HP2.out]
    show (if Tx.okR Fr.ok s.data.toList (n, d) = true then _ else _) = _
    rw [if_pos (by unfold Tx.okR; simp [he, hk])]
  have HN := Lib.hid hno
  have q1 : (Tx.fmtR n d == s.toList) = true := by rw [toList_data]; simpa using he
  have q2 : (Tx.fmtR n d != s.toList) = false := by rw [toList_data]; simpa using he
  clear hno hk he HP2
  cases f with
  | false =>
    go_enter Tryd.func13, Tryd.ntmps13
    go_wp2_with fail
    refine (HC.out _ b1).mono ?_
    rintro e w1 ⟨rfl, hb1⟩
    have R1 := R0.all hb1
    have hw1 := below_step b1 hb1
    clear hb1 R0 b1 HC
    go_wp2_with fail
    refine (CA.out _).mono ?_
    rintro e w2 ⟨rfl, hb2⟩
    have R2 := R1.all hb2
    have hw2 := below_step hw1 hb2
    clear hb2 R1 hw1
    go_wp2_with fail
    refine (CB.out _).mono ?_
    rintro e w3 ⟨rfl, hb3⟩
    have R3 := R2.all hb3
    have hw3 := below_step hw2 hb3
    clear hb3 R2 hw2
    have zz := R3
    have RR := RatAt.fresh w3 n d 29
    have hwr := below_alloc hw3 (.cells #[.int .i64 n, .int .i64 d] 29)
    have RX := R3.all (below_alloc (Below.refl w3.heap.size w3) (.cells #[.int .i64 n, .int .i64 d] 29))
    obtain ⟨c0, c1, z0, z1, _⟩ := id RX
    obtain ⟨r0, r1, _, _, _⟩ := id RR
    go_wp2_with fail
    refine (CF.out _ hwr).mono ?_
    rintro e w4 ⟨rfl, hb4⟩
    have R4 := RX.all hb4
    have RR4 := RR.all hb4
    have hw4 := below_step hwr hb4
    clear hb4 RX RR hwr hw3 R3 zz c0 c1 z0 z1 r0 r1
    obtain ⟨c0, c1, z0, z1, _⟩ := id R4
    obtain ⟨r0, r1, _, _, _⟩ := id RR4
    clear R4 RR4
    go_wp2
    exact bodyPost_ret (v := .tuple #[.agg #[.int .i64 n, .int .i64 d], .int .i64 0]) (by simp [results, Tryd.results13, go_sem, c0, c1]) rfl ⟨ret_rat HN.out, (hw4.setCell (Nat.le_refl _) _).setCell (Nat.le_refl _) _⟩
  | true =>
    go_enter Tryd.func13, Tryd.ntmps13
    go_wp2_with fail
    refine (HC.out _ b1).mono ?_
    rintro e w1 ⟨rfl, hb1⟩
    have R1 := R0.all hb1
    have hw1 := below_step b1 hb1
    clear hb1 R0 b1 HC
    go_wp2_with fail
    refine (CA.out _).mono ?_
    rintro e w2 ⟨rfl, hb2⟩
    have R2 := R1.all hb2
    have hw2 := below_step hw1 hb2
    clear hb2 R1 hw1
    go_wp2_with fail
    refine (CB.out _).mono ?_
    rintro e w3 ⟨rfl, hb3⟩
    have R3 := R2.all hb3
    have hw3 := below_step hw2 hb3
    clear hb3 R2 hw2
    have zz := R3
    have RR := RatAt.fresh w3 n d 29
    have hwr := below_alloc hw3 (.cells #[.int .i64 n, .int .i64 d] 29)
    have RX := R3.all (below_alloc (Below.refl w3.heap.size w3) (.cells #[.int .i64 n, .int .i64 d] 29))
    obtain ⟨c0, c1, z0, z1, _⟩ := id RX
    obtain ⟨r0, r1, _, _, _⟩ := id RR
    go_wp2_with fail
    refine (CF.out _ hwr).mono ?_
    rintro e w4 ⟨rfl, hb4⟩
    have R4 := RX.all hb4
    have RR4 := RR.all hb4
    have hw4 := below_step hwr hb4
    clear hb4 RX RR hwr hw3 R3 zz c0 c1 z0 z1 r0 r1
    obtain ⟨c0, c1, z0, z1, _⟩ := id R4
    obtain ⟨r0, r1, _, _, _⟩ := id RR4
    clear R4 RR4
    go_wp2
    exact bodyPost_ret (v := .tuple #[.agg #[.int .i64 n, .int .i64 d], .int .i64 0]) (by simp [results, Tryd.results13, go_sem, c0, c1]) rfl ⟨ret_rat HN.out, (hw4.setCell (Nat.le_refl _) _).setCell (Nat.le_refl _) _⟩
end Go.Proofs.YtmmmlcnclehilaaDoor
