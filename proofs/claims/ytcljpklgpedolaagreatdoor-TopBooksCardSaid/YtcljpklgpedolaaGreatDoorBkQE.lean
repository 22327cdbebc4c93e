/- Right texts and a line as it is written: of the reference. The reference's reading of one line. -/
import Derived.Test.YtcljpklgpedolaaGreatDoorBkQA
import Derived.Test.YtcljpklgpedolaaGreatDoorBkQB
namespace Go.Proofs.YtcljpklgpedolaaGreatDoor
open Go.RowKit Go.Sort

theorem head_is (s : ByteArray) (h : 0 < s.size) : s.data.toList.head? = some (s[0]'h) := by
  have hl := len_size s
  rw [List.head?_eq_getElem?, List.getElem?_eq_getElem (by omega)]; rfl
theorem last_is (s : ByteArray) (h : 0 < s.size) : s.data.toList.getLast? = some (s[s.size - 1]'(by omega)) := by
  have hl := len_size s
  rw [List.getLast?_eq_getElem?, List.getElem?_eq_getElem (by omega)]
  congr 1
theorem byte_eq (c : UInt8) : ((c.toNat : Int) == 32) = decide (c = 32) := by
  by_cases h : c = 32
  · subst h; rfl
  · rw [decide_eq_false h, beq_eq_false_iff_ne]
    intro e
    apply h
    apply UInt8.toNat_inj.1
    show c.toNat = 32
    omega
set_option maxRecDepth 20000 in
set_option maxHeartbeats 1000000 in
theorem refRight_any (s : ByteArray) (w : World) (hs : s.size ≤ 9223372036854775807) :
    Calls Tryz.prog 65 #[.string s] w fun e w' => e = .returned (.bool (Bk.right s.data.toList)) ∧ w' = w := by
  have hl := len_size s
  by_cases h0 : s.size < 1
  · have HR : Hid (Bk.right s.data.toList = false) := Lib.hid (by
      have : s.data.toList = [] := List.length_eq_zero_iff.1 (by omega)
      rw [this]; rfl)
    clear hl
    generalize Bk.right s.data.toList = R at *
    go_enter Tryz.func65, Tryz.ntmps65
    go_wp2
    go_ret
    exact ⟨by rw [HR.out]; rfl, rfl⟩
  by_cases h1 : 80 < s.size
  · have HR : Hid (Bk.right s.data.toList = false) := Lib.hid (by
      have h2 : ¬ s.data.toList.length ≤ 80 := by omega
      unfold Bk.right; rw [decide_eq_false h2, Bool.false_and, Bool.and_false])
    have q3 : decide ((80 : Int) < (s.size : Int)) = true := by rw [decide_eq_true_eq]; omega
    clear hl
    generalize Bk.right s.data.toList = R at *
    go_enter Tryz.func65, Tryz.ntmps65
    go_wp2
    go_ret
    exact ⟨by rw [HR.out]; rfl, rfl⟩
  have hp : 0 < s.size := by omega
  have hp1 : s.size - 1 < s.size := by omega
  have hne : s.data.toList ≠ [] := fun e => by rw [e] at hl; simp at hl; omega
  have hhd := head_is s hp
  have hla := last_is s hp
  have hrr : Bk.right s.data.toList = (decide (s[0]'hp ≠ 32) && (decide (s[s.size - 1]'hp1 ≠ 32) && s.data.toList.all Bk.okc)) := by
    unfold Bk.right
    rw [decide_eq_true hne, decide_eq_true (show s.data.toList.length ≤ 80 by omega), hhd, hla]
    simp
  have b0 := byte_eq (s[0]'hp)
  have b1 := byte_eq (s[s.size - 1]'hp1)
  have e1 : ((s.size : Int) - 1).toNat = s.size - 1 := by omega
  by_cases h2 : s[0]'hp = 32
  · have HR : Hid (Bk.right s.data.toList = false) := Lib.hid (by rw [hrr, decide_eq_false (by simpa using h2)]; rfl)
    rw [decide_eq_true (show s[0]'hp = 32 from h2)] at b0
    clear hl hrr hhd hla h2 b1 hne
    generalize Bk.right s.data.toList = R at *
    go_enter Tryz.func65, Tryz.ntmps65
    go_wp2
    go_ret
    exact ⟨by rw [HR.out]; rfl, rfl⟩
  rw [decide_eq_false (show ¬ s[0]'hp = 32 from h2)] at b0
  by_cases h3 : s[s.size - 1]'hp1 = 32
  · have HR : Hid (Bk.right s.data.toList = false) := Lib.hid (by rw [hrr, decide_eq_false (show ¬ s[s.size - 1]'hp1 ≠ 32 by simpa using h3)]; simp)
    rw [decide_eq_true (show s[s.size - 1]'hp1 = 32 from h3)] at b1
    clear hl hrr hhd hla h2 h3 hne
    generalize Bk.right s.data.toList = R at *
    go_enter Tryz.func65, Tryz.ntmps65
    go_wp2
    go_ret
    exact ⟨by rw [HR.out]; rfl, rfl⟩
  rw [decide_eq_false (show ¬ s[s.size - 1]'hp1 = 32 from h3)] at b1
  have HR : Hid (Bk.right s.data.toList = s.data.toList.all Bk.okc) := Lib.hid (by
    rw [hrr, decide_eq_true (show s[0]'hp ≠ 32 from h2), decide_eq_true (show s[s.size - 1]'hp1 ≠ 32 from h3)]; rfl)
  have HA := Lib.hid (fun k (h : k < s.size) => all_take s Bk.okc h)
  have HF := Lib.hid (fun k (h : k < s.size) => all_false s Bk.okc h)
  have HZ : Hid ((s.data.toList.take s.size).all Bk.okc = s.data.toList.all Bk.okc) := Lib.hid (by rw [take_all])
  clear hl hrr hhd hla h2 h3 hne
  generalize Bk.right s.data.toList = R at *
  go_enter Tryz.func65, Tryz.ntmps65
  go_wp2
  go_loopw [3] (fun t wr => ∃ k : Nat, k ≤ s.size ∧ t = .int .i64 (k : Int) ∧ Hid ((s.data.toList.take k).all Bk.okc = true ∧ wr = w)) (fun t _ => s.size - (intOf t).toNat)
  case atStart => exact ⟨0, Nat.zero_le _, rfl, Lib.hid ⟨rfl, rfl⟩⟩
  case round =>
    obtain ⟨k, hk, rfl, hg⟩ := hrel
    obtain rfl := hg.out.2
    by_cases hlt : k < s.size
    · by_cases hc : 32 ≤ (s[k]'hlt).toNat ∧ (s[k]'hlt).toNat ≤ 126
      · have HX : Hid ((s.data.toList.take (k + 1)).all Bk.okc = true) := Lib.hid (by rw [HA.out k hlt, hg.out.1, byte_okc.2 hc]; rfl)
        obtain ⟨hc1, hc2⟩ := hc
        clear hg
        go_wp2
        go_roundw
        case rel => exact ⟨k + 1, by omega, by go_num, Lib.hid ⟨HX.out, by first | rfl | trivial⟩⟩
        case measure => simp [intOf]; omega
      · have HX : Hid (s.data.toList.all Bk.okc = false) := Lib.hid (HF.out k hlt (by rw [← Bool.not_eq_true, byte_okc]; exact hc))
        have hc3 : ((s[k]'hlt).toNat : Int) < 32 ∨ (¬ ((s[k]'hlt).toNat : Int) < 32 ∧ (126 : Int) < ((s[k]'hlt).toNat : Int)) := by omega
        clear hg
        rcases hc3 with hc3 | ⟨hc3, hc4⟩
        · go_wp2
          go_ret
          exact ⟨by rw [HR.out, HX.out]; rfl, rfl⟩
        · go_wp2
          go_ret
          exact ⟨by rw [HR.out, HX.out]; rfl, rfl⟩
    · obtain rfl : k = s.size := by omega
      have HX : Hid (s.data.toList.all Bk.okc = true) := Lib.hid (by rw [← HZ.out]; exact hg.out.1)
      clear hg
      go_wp2
      go_ret
      exact ⟨by rw [HR.out, HX.out]; rfl, rfl⟩
set_option maxRecDepth 20000 in
set_option maxHeartbeats 1000000 in
theorem refWrite_any (n : Nat) (b : Int) (t : List UInt8) (w : World) (hE : EnvB w) (hn : n ≤ 1000000) (ht : t.length ≤ 90000) (b0 : -9223372036854775808 ≤ b) (b1 : b ≤ 9223372036854775807) :
    Calls Tryz.prog 66 #[.int .i64 n, .int .i64 b, sv t] w fun e w' => e = .returned (sv (Bk.wr n b t)) ∧ Below w.heap.size w w' := by
  have HI := Lib.hid (fun W hW => itoa_any (n : Int) W hW (by omega) (by omega))
  have hl := Bk.itoa_short (n := (n : Int)) (by omega) (by omega)
  have HC2 : Hid ((⟨(Lib.itoa n).toArray⟩ : ByteArray) ++ (⟨#[32]⟩ : ByteArray) ++ (⟨t.toArray⟩ : ByteArray) = ⟨(Bk.told n t).toArray⟩) := Lib.hid (by
    rw [show (⟨#[32]⟩ : ByteArray) = ⟨[(32 : UInt8)].toArray⟩ from rfl, bytes_append, bytes_append]; unfold Bk.told; simp)
  have HS := Lib.hid (fun W => refSum_any b ⟨(Bk.told n t).toArray⟩ W (by show (Bk.told n t).toArray.size ≤ _; rw [List.size_toArray]; unfold Bk.told; rw [List.length_append, List.length_cons]; omega) b0 b1)
  have hs : (⟨(Bk.told n t).toArray⟩ : ByteArray).data.toList = Bk.told n t := rfl
  have hin := Bk.sum_in b (Bk.told n t)
  rw [hs] at HS
  have HI2 := Lib.hid (fun W hW => itoa_any (Bk.sum b (Bk.told n t)) W hW (by omega) (by omega))
  have hl2 := Bk.itoa_short (n := Bk.sum b (Bk.told n t)) (by omega) (by omega)
  have hsv : sv (Bk.wr n b t) = .string ⟨(Bk.wr n b t).toArray⟩ := rfl
  have hC : (⟨(Lib.itoa n).toArray⟩ : ByteArray) ++ (⟨#[32]⟩ : ByteArray) ++ (⟨(Lib.itoa (Bk.sum b (Bk.told n t))).toArray⟩ : ByteArray) ++ (⟨#[32]⟩ : ByteArray) ++ (⟨t.toArray⟩ : ByteArray) ++ (⟨#[10]⟩ : ByteArray) = ⟨(Bk.wr n b t).toArray⟩ := by
    rw [show (⟨#[32]⟩ : ByteArray) = ⟨[(32 : UInt8)].toArray⟩ from rfl, show (⟨#[10]⟩ : ByteArray) = ⟨[(10 : UInt8)].toArray⟩ from rfl, bytes_append, bytes_append, bytes_append, bytes_append, bytes_append]
    unfold Bk.wr Bk.body; simp
  have HC := Lib.hid hC
  rw [hsv]
  have HE := Lib.hid hE
  clear hE hs hin hsv hC
  generalize Bk.sum b (Bk.told n t) = S at *
  generalize Bk.wr n b t = WR at *
  generalize Bk.told n t = tl at *
  go_enter Tryz.func66, Tryz.ntmps66
  go_wp2_with fail
  refine (HI.out _ HE.out.1).mono ?_
  rintro e w1 ⟨rfl, hb1⟩
  have hw1 := hb1
  clear hb1
  go_wp2_with fail
  refine (HI.out _ (HE.out.all hw1).1).mono ?_
  rintro e w2 ⟨rfl, hb2⟩
  have hw2 := below_step hw1 hb2
  clear hb2 hw1 HI
  go_wp2_with fail
  try rw [HC2.out]
  refine (HS.out _).mono ?_
  rintro e w3 ⟨rfl, hb3⟩
  have hw3 := below_step hw2 hb3
  clear hb3 hw2 HS
  go_wp2_with fail
  refine (HI2.out _ (HE.out.all hw3).1).mono ?_
  rintro e w4 ⟨rfl, hb4⟩
  have hw4 := below_step hw3 hb4
  clear hb4 hw3 HI2
  go_wp2
  go_ret
  exact ⟨by rw [← HC.out]; rfl, hw4⟩
end Go.Proofs.YtcljpklgpedolaaGreatDoor
namespace Go.Proofs.YtcljpklgpedolaaGreatDoor
open Go.RowKit Go.Sort

theorem Bk.lin_take {k : List UInt8} {e : Nat} (h : (10 : UInt8) ∉ k.take e) (h2 : k.length ≤ e ∨ k[e]? = some 10) : Bk.lin k = k.take e := by
  rcases h2 with h2 | h2
  · rw [List.take_of_length_le h2] at h ⊢
    exact (Bk.lin_none h).1
  · obtain ⟨hlt, he⟩ := List.getElem?_eq_some_iff.1 h2
    have e1 : k = k.take e ++ 10 :: k.drop (e + 1) := by
      conv => lhs; rw [← List.take_append_drop e k, List.drop_eq_getElem_cons hlt, he]
    have := (Bk.lin_here (k.drop (e + 1)) h).1
    rwa [← e1] at this
/-- Where the search for the text stands: at f, behind so many blanks. -/
def Bk.Thd (L : List UInt8) (f bl : Nat) : Prop := (bl = 0 ∧ Bk.thd L = Bk.aft (Bk.aft (L.drop f))) ∨ (bl = 1 ∧ Bk.thd L = Bk.aft (L.drop f)) ∨ (bl = 2 ∧ Bk.thd L = L.drop f)
theorem Bk.Thd.start (L : List UInt8) : Bk.Thd L 0 0 := .inl ⟨rfl, rfl⟩
theorem Bk.Thd.le {L : List UInt8} {f bl : Nat} (h : Bk.Thd L f bl) : bl ≤ 2 := by rcases h with h | h | h <;> omega
theorem Bk.Thd.blank {L : List UInt8} {f bl : Nat} (h : Bk.Thd L f bl) (hb : bl < 2) (hf : L[f]? = some 32) : Bk.Thd L (f + 1) (bl + 1) := by
  obtain ⟨hlt, he⟩ := List.getElem?_eq_some_iff.1 hf
  have hd : L.drop f = 32 :: L.drop (f + 1) := by rw [List.drop_eq_getElem_cons hlt, he]
  rcases h with ⟨rfl, h⟩ | ⟨rfl, h⟩ | ⟨rfl, _⟩
  · rw [hd, Bk.aft, if_pos rfl] at h; exact .inr (.inl ⟨rfl, h⟩)
  · rw [hd, Bk.aft, if_pos rfl] at h; exact .inr (.inr ⟨rfl, h⟩)
  · omega
theorem Bk.Thd.other {L : List UInt8} {f bl : Nat} {c : UInt8} (h : Bk.Thd L f bl) (hb : bl < 2) (hf : L[f]? = some c) (hc : c ≠ 32) : Bk.Thd L (f + 1) bl := by
  obtain ⟨hlt, he⟩ := List.getElem?_eq_some_iff.1 hf
  have hd : L.drop f = c :: L.drop (f + 1) := by rw [List.drop_eq_getElem_cons hlt, he]
  rcases h with ⟨rfl, h⟩ | ⟨rfl, h⟩ | ⟨rfl, _⟩
  · rw [hd, Bk.aft, if_neg hc] at h; exact .inl ⟨rfl, h⟩
  · rw [hd, Bk.aft, if_neg hc] at h; exact .inr (.inl ⟨rfl, h⟩)
  · omega
theorem Bk.Thd.stop {L : List UInt8} {f bl : Nat} (h : Bk.Thd L f bl) (hs : L.length ≤ f ∨ 2 ≤ bl) : Bk.thd L = L.drop f := by
  rcases h with ⟨rfl, h⟩ | ⟨rfl, h⟩ | ⟨_, h⟩
  · rw [List.drop_of_length_le (by omega)] at h ⊢; exact h
  · rw [List.drop_of_length_le (by omega)] at h ⊢; exact h
  · exact h
/-- What is told of the line that stands first, by the reference. -/
def FstSays (k : List UInt8) (n : Nat) (b : Int) (w : World) (e : Ending) (w' : World) : Prop :=
  e = .returned (match Bk.fst n b k with | none => .tuple #[sv [], .bool false] | some t => .tuple #[sv t, .bool true]) ∧ Below w.heap.size w w'
theorem Bk.fst_end {n : Nat} {b : Int} {k : List UInt8} (h : (10 : UInt8) ∉ k) : Bk.fst n b k = none := by
  cases hf : Bk.fst n b k with
  | none => rfl
  | some t =>
    obtain ⟨h1, h2⟩ := Bk.fst_some.1 hf
    exact absurd ((Bk.wr_pre h1).1 h2).1 h
theorem Bk.fst_full {n : Nat} {b : Int} {k : List UInt8} {e : Nat} (hn : (10 : UInt8) ∉ k.take e) (h2 : k[e]? = some 10) (hr : Bk.right (Bk.thd (Bk.lin k)) = true) :
    (Bk.wr n b (Bk.thd (Bk.lin k)) = k.take (e + 1) → Bk.fst n b k = some (Bk.thd (Bk.lin k))) ∧ (Bk.wr n b (Bk.thd (Bk.lin k)) ≠ k.take (e + 1) → Bk.fst n b k = none) := by
  obtain ⟨hlt, he⟩ := List.getElem?_eq_some_iff.1 h2
  have hl := Bk.lin_take hn (.inr h2)
  have ht : k.take (e + 1) = Bk.lin k ++ [10] := by rw [List.take_succ_eq_append_getElem hlt, he, hl]
  refine ⟨fun h => Bk.fst_some.2 ⟨hr, ?_⟩, fun h => ?_⟩
  · rw [h]; exact List.take_prefix _ _
  · cases hf : Bk.fst n b k with
    | none => rfl
    | some t =>
      exfalso
      obtain ⟨h3, h4⟩ := Bk.fst_some.1 hf
      obtain ⟨h5, h6⟩ := (Bk.wr_pre h3).1 h4
      have h7 : Bk.thd (Bk.lin k) = t := by rw [← h6, Bk.body_thd]
      apply h
      rw [h7, ht, ← h6]; rfl
set_option maxRecDepth 20000 in
set_option maxHeartbeats 2000000 in
theorem first_any (s : ByteArray) (n : Nat) (b : Int) (w : World) (hE : EnvB w) (hs : s.size ≤ 80000) (hn : n ≤ 1000000) (b0 : -9223372036854775808 ≤ b) (b1 : b ≤ 9223372036854775807) :
    Calls Tryz.prog 59 #[.string s, .int .i64 n, .int .i64 b] w (FstSays s.data.toList n b w) := by
  have HL := Lib.hid (len_size s)
  obtain ⟨R, hR⟩ : ∃ R, R = (match Bk.fst n b s.data.toList with | none => Value.tuple #[sv [], .bool false] | some t => .tuple #[sv t, .bool true]) := ⟨_, rfl⟩
  unfold FstSays
  rw [← hR]
  have HE := Lib.hid hE
  have HNO : Hid (Bk.fst n b s.data.toList = none → R = .tuple #[sv [], .bool false]) := Lib.hid (fun h => by rw [hR, h])
  have HYES : Hid (∀ t, Bk.fst n b s.data.toList = some t → R = .tuple #[sv t, .bool true]) := Lib.hid (fun t h => by rw [hR, h])
  have HAT : Hid (∀ k (h : k < s.size), s.data.toList[k]? = some (s[k]'h)) := Lib.hid (fun k h => by rw [List.getElem?_eq_getElem (by rw [len_size]; exact h)]; rfl)
  have HTN : Hid (∀ k (h : k < s.size), s.data.toList.take (k + 1) = s.data.toList.take k ++ [s[k]'h]) := Lib.hid (fun k h => take_next s h)
  clear hE hR
  go_enter Tryz.func59, Tryz.ntmps59
  go_wp2
  go_loopw [8] (fun t wr => ∃ e : Nat, e ≤ s.size ∧ t = .int .i64 (e : Int) ∧ Hid ((10 : UInt8) ∉ s.data.toList.take e ∧ w = wr)) (fun t _ => s.size - (intOf t).toNat)
  case atStart => exact ⟨0, Nat.zero_le _, rfl, Lib.hid ⟨by simp, rfl⟩⟩
  case round =>
    obtain ⟨e, hk, rfl, hg⟩ := hrel
    obtain rfl := hg.out.2
    have HG := Lib.hid hg.out.1
    clear hg
    have hcase : (∃ h : e < s.size, s[e]'h ≠ 10) ∨ (e = s.size ∨ ∃ h : e < s.size, s[e]'h = 10) := by
      by_cases h : e < s.size
      · by_cases h2 : s[e]'h = 10
        · exact .inr (.inr ⟨h, h2⟩)
        · exact .inl ⟨h, h2⟩
      · exact .inr (.inl (by omega))
    rcases hcase with ⟨hlt, hne⟩ | hstop
    · have q1 : (((s[e]'hlt).toNat : Int) == 10) = false := by
        rw [beq_eq_false_iff_ne]; intro h; exact hne (UInt8.toNat_inj.1 (by show _ = 10; omega))
      have q2 : (((s[e]'hlt).toNat : Int) != 10) = true := by simp only [bne, q1]; rfl
      have HX : Hid ((10 : UInt8) ∉ s.data.toList.take (e + 1)) := Lib.hid (by
        rw [HTN.out e hlt]
        intro h
        rcases List.mem_append.1 h with h | h
        · exact HG.out h
        · exact hne (List.mem_singleton.1 h).symm)
      clear hne
      go_wp2
      go_roundw
      case rel => exact ⟨e + 1, by omega, by go_num, Lib.hid ⟨HX.out, by first | rfl | trivial⟩⟩
      case measure => simp [intOf]; omega
    · have HLN : Hid (Bk.lin s.data.toList = s.data.toList.take e) := Lib.hid (Bk.lin_take HG.out (by
        rcases hstop with h | ⟨h, h2⟩
        · exact .inl (by rw [HL.out]; omega)
        · exact .inr (by rw [HAT.out e h, h2])))
      have hst : (e = s.size) ∨ (∃ h : e < s.size, (((s[e]'h).toNat : Int) == 10) = true ∧ (((s[e]'h).toNat : Int) != 10) = false) := by
        rcases hstop with h | ⟨h, h2⟩
        · exact .inl h
        · exact .inr ⟨h, by rw [h2]; rfl, by rw [h2]; rfl⟩
      have hstop2 : (e = s.size ∧ Hid ((10 : UInt8) ∉ s.data.toList)) ∨ (e < s.size ∧ Hid (s.data.toList[e]? = some 10)) := by
        rcases hstop with h | ⟨h, h2⟩
        · exact .inl ⟨h, Lib.hid (by have := HG.out; rwa [h, take_all] at this)⟩
        · exact .inr ⟨h, Lib.hid (by rw [HAT.out e h, h2])⟩
      clear hstop
      have HTH : Hid (∃ L, L = s.data.toList.take e ∧ L.length = e ∧ ∀ k (h : k < s.size), k < e → L[k]? = some (s[k]'h)) := Lib.hid ⟨_, rfl, by rw [List.length_take, HL.out]; omega, fun k h hk => by rw [List.getElem?_take, if_pos hk, HAT.out k h]⟩
      obtain ⟨L, hL, hLl, hLk⟩ := HTH.out
      have HLL := Lib.hid hL
      have HLE := Lib.hid hLl
      have HLK := Lib.hid hLk
      clear hL hLl hLk HTH
      rcases hst with hes0 | ⟨hlt0, q1, q2⟩
      · have q0 : decide ((e : Int) < (s.size : Int)) = false := by rw [decide_eq_false_iff_not]; omega
        go_wp2
        go_loopw [9, 10] (fun t u wr => ∃ (f bl : Nat), f ≤ e ∧ bl ≤ 2 ∧ t = .int .i64 (f : Int) ∧ u = .int .i64 (bl : Int) ∧ Hid (Bk.Thd L f bl ∧ w = wr)) (fun t _ _ => e - (intOf t).toNat)
        case atStart => exact ⟨0, 0, Nat.zero_le _, Nat.zero_le _, rfl, rfl, Lib.hid ⟨Bk.Thd.start L, rfl⟩⟩
        case round =>
          obtain ⟨f, bl, hf, hbl, rfl, rfl, hg⟩ := hrel
          obtain rfl := hg.out.2
          have HG2 := Lib.hid hg.out.1
          clear hg
          by_cases hlt : f < e
          case neg =>
            have HT := Lib.hid (HG2.out.stop (.inl (by rw [HLE.out]; omega)))
            have hwr : IntKind.i64.wrap ((e : Int) - (f : Int)) = (e : Int) - (f : Int) := IntWalk.i64_in _ ⟨by omega, by omega⟩
            have hwr2 : IntKind.i64.wrap ((e : Int) + 1) = (e : Int) + 1 := IntWalk.i64_in _ ⟨by omega, by omega⟩
            have HT2 : Hid (Bk.thd (Bk.lin s.data.toList) = L.drop f) := Lib.hid (by rw [HLN.out, ← HLL.out]; exact HT.out)
            have HEX : Hid (s.extract f e = ⟨(L.drop f).toArray⟩) := Lib.hid (by rw [extract_is, ← HLL.out])
            have HEX2 : Hid (s.extract 0 (e + 1) = ⟨(s.data.toList.take (e + 1)).toArray⟩) := Lib.hid (by rw [extract_is, List.drop_zero])
            have HTL : Hid ((L.drop f).length = e - f) := Lib.hid (by rw [List.length_drop, HLE.out])
            rcases hstop2 with ⟨hes, HN⟩ | ⟨hes, HN⟩
            · have HR := Lib.hid (HNO.out (Bk.fst_end HN.out))
              have q5 : ((e : Int) == (s.size : Int)) = true := by rw [hes]; simp
              clear HT HT2 HEX HEX2 HTL HN HG2
              go_upto_region 9 with fail
              refine wp_region_seq [(0, true), (1, true), (2, true), (3, true), (4, true), (5, true), (6, true), (7, true), (8, true), (9, true), (10, true), (11, true), (12, true), (13, true), (14, true), (15, false), (16, true), (17, true), (18, true), (19, true), (20, true), (21, true), (22, true), (23, true), (24, true), (26, true), (27, true), (28, true), (29, true), (25, false), (30, true), (31, true)] (fun W => Below w.heap.size w W)
                (by kernel_rfl) (by kernel_rfl) (by kernel_rfl) (by kernel_rfl) (fun d _ _ _ _ h => by cases d <;> exact h) (Below.refl _ _).drew (fun hS0 => ?_)
              repeat (first
                | (refine SeqH.take (v := ?_) rfl (by rfl) ?_ ?_; rotate_left; (· intro w hSw; go_simp; (try rw [if_pos (by omega)]); (try with_reducible rfl)); simp only [Act.put, List.setIfInBounds_toArray, List.set_cons_zero, List.set_cons_succ])
                | (refine SeqH.skip rfl (by rfl) ?_; simp only [Act.put, List.setIfInBounds_toArray, List.set_cons_zero, List.set_cons_succ]))
              refine SeqH.pass (by rfl) (by rfl) (by exact hS0) ?_
              try simp only [Act.put, List.setIfInBounds_toArray, List.set_cons_zero, List.set_cons_succ]
              repeat (first
                | (refine SeqH.take (v := ?_) rfl (by rfl) ?_ ?_; rotate_left; (· intro w hSw; go_simp; (try rw [if_pos (by omega)]); (try with_reducible rfl)); simp only [Act.put, List.setIfInBounds_toArray, List.set_cons_zero, List.set_cons_succ])
                | (refine SeqH.skip rfl (by rfl) ?_; simp only [Act.put, List.setIfInBounds_toArray, List.set_cons_zero, List.set_cons_succ]))
              refine SeqH.pass (by rfl) (by rfl) (by exact hS0) ?_
              try simp only [Act.put, List.setIfInBounds_toArray, List.set_cons_zero, List.set_cons_succ]
              repeat (first
                | (refine SeqH.take (v := ?_) rfl (by rfl) ?_ ?_; rotate_left; (· intro w hSw; go_simp; (try rw [if_pos (by omega)]); (try with_reducible rfl)); simp only [Act.put, List.setIfInBounds_toArray, List.set_cons_zero, List.set_cons_succ])
                | (refine SeqH.skip rfl (by rfl) ?_; simp only [Act.put, List.setIfInBounds_toArray, List.set_cons_zero, List.set_cons_succ]))
              refine SeqH.done ?_
              go_wp2
              go_ret2
              exact ⟨by rw [HR.out]; rfl, hS0⟩
            exact absurd hes (by omega)
          by_cases hb2 : bl < 2
          case neg =>
            have HT := Lib.hid (HG2.out.stop (.inr (by omega)))
            have hwr : IntKind.i64.wrap ((e : Int) - (f : Int)) = (e : Int) - (f : Int) := IntWalk.i64_in _ ⟨by omega, by omega⟩
            have hwr2 : IntKind.i64.wrap ((e : Int) + 1) = (e : Int) + 1 := IntWalk.i64_in _ ⟨by omega, by omega⟩
            have HT2 : Hid (Bk.thd (Bk.lin s.data.toList) = L.drop f) := Lib.hid (by rw [HLN.out, ← HLL.out]; exact HT.out)
            have HEX : Hid (s.extract f e = ⟨(L.drop f).toArray⟩) := Lib.hid (by rw [extract_is, ← HLL.out])
            have HEX2 : Hid (s.extract 0 (e + 1) = ⟨(s.data.toList.take (e + 1)).toArray⟩) := Lib.hid (by rw [extract_is, List.drop_zero])
            have HTL : Hid ((L.drop f).length = e - f) := Lib.hid (by rw [List.length_drop, HLE.out])
            rcases hstop2 with ⟨hes, HN⟩ | ⟨hes, HN⟩
            · have HR := Lib.hid (HNO.out (Bk.fst_end HN.out))
              have q5 : ((e : Int) == (s.size : Int)) = true := by rw [hes]; simp
              clear HT HT2 HEX HEX2 HTL HN HG2
              go_upto_region 9 with fail
              refine wp_region_seq [(0, true), (1, true), (2, true), (3, true), (4, true), (5, true), (6, true), (7, true), (8, true), (9, true), (10, true), (11, true), (12, true), (13, true), (14, true), (15, false), (16, true), (17, true), (18, true), (19, true), (20, true), (21, true), (22, true), (23, true), (24, true), (26, true), (27, true), (28, true), (29, true), (25, false), (30, true), (31, true)] (fun W => Below w.heap.size w W)
                (by kernel_rfl) (by kernel_rfl) (by kernel_rfl) (by kernel_rfl) (fun d _ _ _ _ h => by cases d <;> exact h) (Below.refl _ _).drew (fun hS0 => ?_)
              repeat (first
                | (refine SeqH.take (v := ?_) rfl (by rfl) ?_ ?_; rotate_left; (· intro w hSw; go_simp; (try rw [if_pos (by omega)]); (try with_reducible rfl)); simp only [Act.put, List.setIfInBounds_toArray, List.set_cons_zero, List.set_cons_succ])
                | (refine SeqH.skip rfl (by rfl) ?_; simp only [Act.put, List.setIfInBounds_toArray, List.set_cons_zero, List.set_cons_succ]))
              refine SeqH.pass (by rfl) (by rfl) (by exact hS0) ?_
              try simp only [Act.put, List.setIfInBounds_toArray, List.set_cons_zero, List.set_cons_succ]
              repeat (first
                | (refine SeqH.take (v := ?_) rfl (by rfl) ?_ ?_; rotate_left; (· intro w hSw; go_simp; (try rw [if_pos (by omega)]); (try with_reducible rfl)); simp only [Act.put, List.setIfInBounds_toArray, List.set_cons_zero, List.set_cons_succ])
                | (refine SeqH.skip rfl (by rfl) ?_; simp only [Act.put, List.setIfInBounds_toArray, List.set_cons_zero, List.set_cons_succ]))
              refine SeqH.pass (by rfl) (by rfl) (by exact hS0) ?_
              try simp only [Act.put, List.setIfInBounds_toArray, List.set_cons_zero, List.set_cons_succ]
              repeat (first
                | (refine SeqH.take (v := ?_) rfl (by rfl) ?_ ?_; rotate_left; (· intro w hSw; go_simp; (try rw [if_pos (by omega)]); (try with_reducible rfl)); simp only [Act.put, List.setIfInBounds_toArray, List.set_cons_zero, List.set_cons_succ])
                | (refine SeqH.skip rfl (by rfl) ?_; simp only [Act.put, List.setIfInBounds_toArray, List.set_cons_zero, List.set_cons_succ]))
              refine SeqH.done ?_
              go_wp2
              go_ret2
              exact ⟨by rw [HR.out]; rfl, hS0⟩
            exact absurd hes (by omega)
          have hfs : f < s.size := by omega
          by_cases hc : s[f]'hfs = 32
          · have q1 : (((s[f]'hfs).toNat : Int) == 32) = true := by rw [byte_eq]; simpa using hc
            have HX := Lib.hid (HG2.out.blank hb2 (by rw [HLK.out f hfs hlt, hc]))
            clear hc HG2
            go_wp2
            go_roundw
            case rel => exact ⟨f + 1, bl + 1, by omega, by omega, by go_num, by go_num, Lib.hid ⟨HX.out, by first | rfl | trivial⟩⟩
            case measure => simp [intOf]; omega
          · have q1 : (((s[f]'hfs).toNat : Int) == 32) = false := by rw [byte_eq]; simpa using hc
            have HX := Lib.hid (HG2.out.other hb2 (HLK.out f hfs hlt) hc)
            clear hc HG2
            go_wp2
            go_roundw
            case rel => exact ⟨f + 1, bl, by omega, hbl, by go_num, rfl, Lib.hid ⟨HX.out, by first | rfl | trivial⟩⟩
            case measure => simp [intOf]; omega
      · go_wp2
        go_loopw [9, 10] (fun t u wr => ∃ (f bl : Nat), f ≤ e ∧ bl ≤ 2 ∧ t = .int .i64 (f : Int) ∧ u = .int .i64 (bl : Int) ∧ Hid (Bk.Thd L f bl ∧ w = wr)) (fun t _ _ => e - (intOf t).toNat)
        case atStart => exact ⟨0, 0, Nat.zero_le _, Nat.zero_le _, rfl, rfl, Lib.hid ⟨Bk.Thd.start L, rfl⟩⟩
        case round =>
          obtain ⟨f, bl, hf, hbl, rfl, rfl, hg⟩ := hrel
          obtain rfl := hg.out.2
          have HG2 := Lib.hid hg.out.1
          clear hg
          by_cases hlt : f < e
          case neg =>
            have HT := Lib.hid (HG2.out.stop (.inl (by rw [HLE.out]; omega)))
            have hwr : IntKind.i64.wrap ((e : Int) - (f : Int)) = (e : Int) - (f : Int) := IntWalk.i64_in _ ⟨by omega, by omega⟩
            have hwr2 : IntKind.i64.wrap ((e : Int) + 1) = (e : Int) + 1 := IntWalk.i64_in _ ⟨by omega, by omega⟩
            have HT2 : Hid (Bk.thd (Bk.lin s.data.toList) = L.drop f) := Lib.hid (by rw [HLN.out, ← HLL.out]; exact HT.out)
            have HEX : Hid (s.extract f e = ⟨(L.drop f).toArray⟩) := Lib.hid (by rw [extract_is, ← HLL.out])
            have HEX2 : Hid (s.extract 0 (e + 1) = ⟨(s.data.toList.take (e + 1)).toArray⟩) := Lib.hid (by rw [extract_is, List.drop_zero])
            have HTL : Hid ((L.drop f).length = e - f) := Lib.hid (by rw [List.length_drop, HLE.out])
            rcases hstop2 with ⟨hes, HN⟩ | ⟨hes, HN⟩
            · exact absurd hes (by omega)
            have q5 : ((e : Int) == (s.size : Int)) = false := by rw [beq_eq_false_iff_ne]; omega
            by_cases h80 : 80 < e - f
            · have HR := Lib.hid (HNO.out (Bk.fst_no1 (by
                rw [HT2.out]
                have : ¬ (L.drop f).length ≤ 80 := by rw [HTL.out]; omega
                unfold Bk.right; rw [decide_eq_false this, Bool.false_and, Bool.and_false])))
              have q6 : decide ((80 : Int) < (e : Int) - (f : Int)) = true := by rw [decide_eq_true_eq]; omega
              clear HT HT2 HEX HEX2 HTL HN HG2
              go_upto_region 9 with fail
              refine wp_region_seq [(0, true), (1, true), (2, true), (3, true), (4, true), (5, true), (6, true), (7, true), (8, true), (9, true), (10, true), (11, true), (12, true), (13, true), (14, true), (15, false), (16, true), (17, true), (18, true), (19, true), (20, true), (21, true), (22, true), (23, true), (24, true), (26, true), (27, true), (28, true), (29, true), (25, false), (30, true), (31, true)] (fun W => Below w.heap.size w W)
                (by kernel_rfl) (by kernel_rfl) (by kernel_rfl) (by kernel_rfl) (fun d _ _ _ _ h => by cases d <;> exact h) (Below.refl _ _).drew (fun hS0 => ?_)
              repeat (first
                | (refine SeqH.take (v := ?_) rfl (by rfl) ?_ ?_; rotate_left; (· intro w hSw; go_simp; (try rw [if_pos (by omega)]); (try with_reducible rfl)); simp only [Act.put, List.setIfInBounds_toArray, List.set_cons_zero, List.set_cons_succ])
                | (refine SeqH.skip rfl (by rfl) ?_; simp only [Act.put, List.setIfInBounds_toArray, List.set_cons_zero, List.set_cons_succ]))
              refine SeqH.pass (by rfl) (by rfl) (by exact hS0) ?_
              try simp only [Act.put, List.setIfInBounds_toArray, List.set_cons_zero, List.set_cons_succ]
              repeat (first
                | (refine SeqH.take (v := ?_) rfl (by rfl) ?_ ?_; rotate_left; (· intro w hSw; go_simp; (try rw [if_pos (by omega)]); (try with_reducible rfl)); simp only [Act.put, List.setIfInBounds_toArray, List.set_cons_zero, List.set_cons_succ])
                | (refine SeqH.skip rfl (by rfl) ?_; simp only [Act.put, List.setIfInBounds_toArray, List.set_cons_zero, List.set_cons_succ]))
              refine SeqH.pass (by rfl) (by rfl) (by exact hS0) ?_
              try simp only [Act.put, List.setIfInBounds_toArray, List.set_cons_zero, List.set_cons_succ]
              repeat (first
                | (refine SeqH.take (v := ?_) rfl (by rfl) ?_ ?_; rotate_left; (· intro w hSw; go_simp; (try rw [if_pos (by omega)]); (try with_reducible rfl)); simp only [Act.put, List.setIfInBounds_toArray, List.set_cons_zero, List.set_cons_succ])
                | (refine SeqH.skip rfl (by rfl) ?_; simp only [Act.put, List.setIfInBounds_toArray, List.set_cons_zero, List.set_cons_succ]))
              refine SeqH.done ?_
              go_wp2
              go_ret2
              exact ⟨by rw [HR.out]; rfl, hS0⟩
            have q6 : decide ((80 : Int) < (e : Int) - (f : Int)) = false := by rw [decide_eq_false_iff_not]; omega
            have HRI := Lib.hid (fun W => refRight_any (s.extract f e) W (by rw [HEX.out]; show (L.drop f).toArray.size ≤ _; rw [List.size_toArray, HTL.out]; omega))
            have hrx : (s.extract f e).data.toList = L.drop f := by rw [HEX.out]
            rw [hrx] at HRI
            cases hr : Bk.right (L.drop f) with
            | false =>
              have HR := Lib.hid (HNO.out (Bk.fst_no1 (by rw [HT2.out]; exact hr)))
              rw [hr] at HRI
              clear HT HT2 HEX HEX2 HTL HN HG2 hr hrx
              go_upto_region 9 with fail
              refine wp_region_seq [(0, true), (1, true), (2, true), (3, true), (4, true), (5, true), (6, true), (7, true), (8, true), (9, true), (10, true), (11, true), (12, true), (13, true), (14, true), (15, false), (16, true), (17, true), (18, true), (19, true), (20, true), (21, true), (22, true), (23, true), (24, true), (26, true), (27, true), (28, true), (29, true), (25, false), (30, true), (31, true)] (fun W => Below w.heap.size w W)
                (by kernel_rfl) (by kernel_rfl) (by kernel_rfl) (by kernel_rfl) (fun d _ _ _ _ h => by cases d <;> exact h) (Below.refl _ _).drew (fun hS0 => ?_)
              repeat (first
                | (refine SeqH.take (v := ?_) rfl (by rfl) ?_ ?_; rotate_left; (· intro w hSw; go_simp; (try rw [if_pos (by omega)]); (try with_reducible rfl)); simp only [Act.put, List.setIfInBounds_toArray, List.set_cons_zero, List.set_cons_succ])
                | (refine SeqH.skip rfl (by rfl) ?_; simp only [Act.put, List.setIfInBounds_toArray, List.set_cons_zero, List.set_cons_succ]))
              refine SeqH.step rfl (by rfl) (fun K hK => ?_)
              go_simp
              go_at_call 65
              refine (HRI.out _).mono ?_
              rintro e9 w1 ⟨rfl, rfl⟩
              try dsimp only
              refine hK.out _ _ hS0 (fun hS1 => ?_)
              clear hK K
              try simp only [Act.put, List.setIfInBounds_toArray, List.set_cons_zero, List.set_cons_succ]
              repeat (first
                | (refine SeqH.take (v := ?_) rfl (by rfl) ?_ ?_; rotate_left; (· intro w hSw; go_simp; (try rw [if_pos (by omega)]); (try with_reducible rfl)); simp only [Act.put, List.setIfInBounds_toArray, List.set_cons_zero, List.set_cons_succ])
                | (refine SeqH.skip rfl (by rfl) ?_; simp only [Act.put, List.setIfInBounds_toArray, List.set_cons_zero, List.set_cons_succ]))
              refine SeqH.pass (by rfl) (by rfl) (by exact hS1) ?_
              try simp only [Act.put, List.setIfInBounds_toArray, List.set_cons_zero, List.set_cons_succ]
              repeat (first
                | (refine SeqH.take (v := ?_) rfl (by rfl) ?_ ?_; rotate_left; (· intro w hSw; go_simp; (try rw [if_pos (by omega)]); (try with_reducible rfl)); simp only [Act.put, List.setIfInBounds_toArray, List.set_cons_zero, List.set_cons_succ])
                | (refine SeqH.skip rfl (by rfl) ?_; simp only [Act.put, List.setIfInBounds_toArray, List.set_cons_zero, List.set_cons_succ]))
              refine SeqH.done ?_
              go_wp2
              go_ret2
              exact ⟨by rw [HR.out]; rfl, hS1⟩
            | true =>
              rw [hr] at HRI
              have hfull := Bk.fst_full (n := n) (b := b) HG.out HN.out (by rw [HT2.out]; exact hr)
              rw [HT2.out] at hfull
              have HWI := Lib.hid (fun W hW => refWrite_any n b (L.drop f) W hW hn (by rw [HTL.out]; omega) b0 b1)
              have hsvx : sv (L.drop f) = .string (s.extract f e) := by rw [HEX.out]
              rw [hsvx] at HWI
              by_cases hw : Bk.wr n b (L.drop f) = s.data.toList.take (e + 1)
              · have HR := Lib.hid (HYES.out _ (hfull.1 hw))
                rw [hsvx] at HR
                have q7 : (Bk.wr n b (L.drop f) == (s.extract 0 (e + 1)).toList) = true := by rw [toList_data, HEX2.out]; simpa using hw
                have q8 : (Bk.wr n b (L.drop f) != (s.extract 0 (e + 1)).toList) = false := by rw [toList_data, HEX2.out]; simpa using hw
                clear HT HT2 HEX2 HTL HN HG2 hr hrx hfull hsvx hw HEX
                generalize Bk.wr n b (L.drop f) = WR at *
                go_upto_region 9 with fail
                refine wp_region_seq [(0, true), (1, true), (2, true), (3, true), (4, true), (5, true), (6, true), (7, true), (8, true), (9, true), (10, true), (11, true), (12, true), (13, true), (14, true), (15, false), (16, true), (17, true), (18, true), (19, true), (20, true), (21, true), (22, true), (23, true), (24, true), (26, true), (27, true), (28, true), (29, true), (25, false), (30, true), (31, true)] (fun W => Below w.heap.size w W)
                  (by kernel_rfl) (by kernel_rfl) (by kernel_rfl) (by kernel_rfl) (fun d _ _ _ _ h => by cases d <;> exact h) (Below.refl _ _).drew (fun hS0 => ?_)
                repeat (first
                  | (refine SeqH.take (v := ?_) rfl (by rfl) ?_ ?_; rotate_left; (· intro w hSw; go_simp; (try rw [if_pos (by omega)]); (try with_reducible rfl)); simp only [Act.put, List.setIfInBounds_toArray, List.set_cons_zero, List.set_cons_succ])
                  | (refine SeqH.skip rfl (by rfl) ?_; simp only [Act.put, List.setIfInBounds_toArray, List.set_cons_zero, List.set_cons_succ]))
                refine SeqH.step rfl (by rfl) (fun K hK => ?_)
                go_simp
                go_at_call 65
                refine (HRI.out _).mono ?_
                rintro e9 w1 ⟨rfl, rfl⟩
                try dsimp only
                refine hK.out _ _ hS0 (fun hS1 => ?_)
                clear hK K
                try simp only [Act.put, List.setIfInBounds_toArray, List.set_cons_zero, List.set_cons_succ]
                repeat (first
                  | (refine SeqH.take (v := ?_) rfl (by rfl) ?_ ?_; rotate_left; (· intro w hSw; go_simp; (try rw [if_pos (by omega)]); (try with_reducible rfl)); simp only [Act.put, List.setIfInBounds_toArray, List.set_cons_zero, List.set_cons_succ])
                  | (refine SeqH.skip rfl (by rfl) ?_; simp only [Act.put, List.setIfInBounds_toArray, List.set_cons_zero, List.set_cons_succ]))
                refine SeqH.step rfl (by rfl) (fun K hK => ?_)
                go_simp
                go_at_call 66
                refine (HWI.out _ (HE.out.all hS1)).mono ?_
                rintro e9 w2 ⟨rfl, hb2⟩
                try dsimp only
                refine hK.out _ _ (hS1.trans (hb2.mono hS1.size)) (fun hS2 => ?_)
                clear hK K
                try simp only [Act.put, List.setIfInBounds_toArray, List.set_cons_zero, List.set_cons_succ]
                repeat (first
                  | (refine SeqH.take (v := ?_) rfl (by rfl) ?_ ?_; rotate_left; (· intro w hSw; go_simp; (try rw [if_pos (by omega)]); (try with_reducible rfl)); simp only [Act.put, List.setIfInBounds_toArray, List.set_cons_zero, List.set_cons_succ])
                  | (refine SeqH.skip rfl (by rfl) ?_; simp only [Act.put, List.setIfInBounds_toArray, List.set_cons_zero, List.set_cons_succ]))
                refine SeqH.done ?_
                go_wp2
                go_ret2
                exact ⟨by rw [HR.out]; rfl, hS2⟩
              · have HR := Lib.hid (HNO.out (hfull.2 hw))
                have q7 : (Bk.wr n b (L.drop f) == (s.extract 0 (e + 1)).toList) = false := by rw [toList_data, HEX2.out]; simpa using hw
                have q8 : (Bk.wr n b (L.drop f) != (s.extract 0 (e + 1)).toList) = true := by rw [toList_data, HEX2.out]; simpa using hw
                clear HT HT2 HEX2 HTL HN HG2 hr hrx hfull hsvx hw HEX
                generalize Bk.wr n b (L.drop f) = WR at *
                go_upto_region 9 with fail
                refine wp_region_seq [(0, true), (1, true), (2, true), (3, true), (4, true), (5, true), (6, true), (7, true), (8, true), (9, true), (10, true), (11, true), (12, true), (13, true), (14, true), (15, false), (16, true), (17, true), (18, true), (19, true), (20, true), (21, true), (22, true), (23, true), (24, true), (26, true), (27, true), (28, true), (29, true), (25, false), (30, true), (31, true)] (fun W => Below w.heap.size w W)
                  (by kernel_rfl) (by kernel_rfl) (by kernel_rfl) (by kernel_rfl) (fun d _ _ _ _ h => by cases d <;> exact h) (Below.refl _ _).drew (fun hS0 => ?_)
                repeat (first
                  | (refine SeqH.take (v := ?_) rfl (by rfl) ?_ ?_; rotate_left; (· intro w hSw; go_simp; (try rw [if_pos (by omega)]); (try with_reducible rfl)); simp only [Act.put, List.setIfInBounds_toArray, List.set_cons_zero, List.set_cons_succ])
                  | (refine SeqH.skip rfl (by rfl) ?_; simp only [Act.put, List.setIfInBounds_toArray, List.set_cons_zero, List.set_cons_succ]))
                refine SeqH.step rfl (by rfl) (fun K hK => ?_)
                go_simp
                go_at_call 65
                refine (HRI.out _).mono ?_
                rintro e9 w1 ⟨rfl, rfl⟩
                try dsimp only
                refine hK.out _ _ hS0 (fun hS1 => ?_)
                clear hK K
                try simp only [Act.put, List.setIfInBounds_toArray, List.set_cons_zero, List.set_cons_succ]
                repeat (first
                  | (refine SeqH.take (v := ?_) rfl (by rfl) ?_ ?_; rotate_left; (· intro w hSw; go_simp; (try rw [if_pos (by omega)]); (try with_reducible rfl)); simp only [Act.put, List.setIfInBounds_toArray, List.set_cons_zero, List.set_cons_succ])
                  | (refine SeqH.skip rfl (by rfl) ?_; simp only [Act.put, List.setIfInBounds_toArray, List.set_cons_zero, List.set_cons_succ]))
                refine SeqH.step rfl (by rfl) (fun K hK => ?_)
                go_simp
                go_at_call 66
                refine (HWI.out _ (HE.out.all hS1)).mono ?_
                rintro e9 w2 ⟨rfl, hb2⟩
                try dsimp only
                refine hK.out _ _ (hS1.trans (hb2.mono hS1.size)) (fun hS2 => ?_)
                clear hK K
                try simp only [Act.put, List.setIfInBounds_toArray, List.set_cons_zero, List.set_cons_succ]
                repeat (first
                  | (refine SeqH.take (v := ?_) rfl (by rfl) ?_ ?_; rotate_left; (· intro w hSw; go_simp; (try rw [if_pos (by omega)]); (try with_reducible rfl)); simp only [Act.put, List.setIfInBounds_toArray, List.set_cons_zero, List.set_cons_succ])
                  | (refine SeqH.skip rfl (by rfl) ?_; simp only [Act.put, List.setIfInBounds_toArray, List.set_cons_zero, List.set_cons_succ]))
                refine SeqH.done ?_
                go_wp2
                go_ret2
                exact ⟨by rw [HR.out]; rfl, hS2⟩
          by_cases hb2 : bl < 2
          case neg =>
            have HT := Lib.hid (HG2.out.stop (.inr (by omega)))
            have hwr : IntKind.i64.wrap ((e : Int) - (f : Int)) = (e : Int) - (f : Int) := IntWalk.i64_in _ ⟨by omega, by omega⟩
            have hwr2 : IntKind.i64.wrap ((e : Int) + 1) = (e : Int) + 1 := IntWalk.i64_in _ ⟨by omega, by omega⟩
            have HT2 : Hid (Bk.thd (Bk.lin s.data.toList) = L.drop f) := Lib.hid (by rw [HLN.out, ← HLL.out]; exact HT.out)
            have HEX : Hid (s.extract f e = ⟨(L.drop f).toArray⟩) := Lib.hid (by rw [extract_is, ← HLL.out])
            have HEX2 : Hid (s.extract 0 (e + 1) = ⟨(s.data.toList.take (e + 1)).toArray⟩) := Lib.hid (by rw [extract_is, List.drop_zero])
            have HTL : Hid ((L.drop f).length = e - f) := Lib.hid (by rw [List.length_drop, HLE.out])
            rcases hstop2 with ⟨hes, HN⟩ | ⟨hes, HN⟩
            · exact absurd hes (by omega)
            have q5 : ((e : Int) == (s.size : Int)) = false := by rw [beq_eq_false_iff_ne]; omega
            by_cases h80 : 80 < e - f
            · have HR := Lib.hid (HNO.out (Bk.fst_no1 (by
                rw [HT2.out]
                have : ¬ (L.drop f).length ≤ 80 := by rw [HTL.out]; omega
                unfold Bk.right; rw [decide_eq_false this, Bool.false_and, Bool.and_false])))
              have q6 : decide ((80 : Int) < (e : Int) - (f : Int)) = true := by rw [decide_eq_true_eq]; omega
              clear HT HT2 HEX HEX2 HTL HN HG2
              go_upto_region 9 with fail
              refine wp_region_seq [(0, true), (1, true), (2, true), (3, true), (4, true), (5, true), (6, true), (7, true), (8, true), (9, true), (10, true), (11, true), (12, true), (13, true), (14, true), (15, false), (16, true), (17, true), (18, true), (19, true), (20, true), (21, true), (22, true), (23, true), (24, true), (26, true), (27, true), (28, true), (29, true), (25, false), (30, true), (31, true)] (fun W => Below w.heap.size w W)
                (by kernel_rfl) (by kernel_rfl) (by kernel_rfl) (by kernel_rfl) (fun d _ _ _ _ h => by cases d <;> exact h) (Below.refl _ _).drew (fun hS0 => ?_)
              repeat (first
                | (refine SeqH.take (v := ?_) rfl (by rfl) ?_ ?_; rotate_left; (· intro w hSw; go_simp; (try rw [if_pos (by omega)]); (try with_reducible rfl)); simp only [Act.put, List.setIfInBounds_toArray, List.set_cons_zero, List.set_cons_succ])
                | (refine SeqH.skip rfl (by rfl) ?_; simp only [Act.put, List.setIfInBounds_toArray, List.set_cons_zero, List.set_cons_succ]))
              refine SeqH.pass (by rfl) (by rfl) (by exact hS0) ?_
              try simp only [Act.put, List.setIfInBounds_toArray, List.set_cons_zero, List.set_cons_succ]
              repeat (first
                | (refine SeqH.take (v := ?_) rfl (by rfl) ?_ ?_; rotate_left; (· intro w hSw; go_simp; (try rw [if_pos (by omega)]); (try with_reducible rfl)); simp only [Act.put, List.setIfInBounds_toArray, List.set_cons_zero, List.set_cons_succ])
                | (refine SeqH.skip rfl (by rfl) ?_; simp only [Act.put, List.setIfInBounds_toArray, List.set_cons_zero, List.set_cons_succ]))
              refine SeqH.pass (by rfl) (by rfl) (by exact hS0) ?_
              try simp only [Act.put, List.setIfInBounds_toArray, List.set_cons_zero, List.set_cons_succ]
              repeat (first
                | (refine SeqH.take (v := ?_) rfl (by rfl) ?_ ?_; rotate_left; (· intro w hSw; go_simp; (try rw [if_pos (by omega)]); (try with_reducible rfl)); simp only [Act.put, List.setIfInBounds_toArray, List.set_cons_zero, List.set_cons_succ])
                | (refine SeqH.skip rfl (by rfl) ?_; simp only [Act.put, List.setIfInBounds_toArray, List.set_cons_zero, List.set_cons_succ]))
              refine SeqH.done ?_
              go_wp2
              go_ret2
              exact ⟨by rw [HR.out]; rfl, hS0⟩
            have q6 : decide ((80 : Int) < (e : Int) - (f : Int)) = false := by rw [decide_eq_false_iff_not]; omega
            have HRI := Lib.hid (fun W => refRight_any (s.extract f e) W (by rw [HEX.out]; show (L.drop f).toArray.size ≤ _; rw [List.size_toArray, HTL.out]; omega))
            have hrx : (s.extract f e).data.toList = L.drop f := by rw [HEX.out]
            rw [hrx] at HRI
            cases hr : Bk.right (L.drop f) with
            | false =>
              have HR := Lib.hid (HNO.out (Bk.fst_no1 (by rw [HT2.out]; exact hr)))
              rw [hr] at HRI
              clear HT HT2 HEX HEX2 HTL HN HG2 hr hrx
              go_upto_region 9 with fail
              refine wp_region_seq [(0, true), (1, true), (2, true), (3, true), (4, true), (5, true), (6, true), (7, true), (8, true), (9, true), (10, true), (11, true), (12, true), (13, true), (14, true), (15, false), (16, true), (17, true), (18, true), (19, true), (20, true), (21, true), (22, true), (23, true), (24, true), (26, true), (27, true), (28, true), (29, true), (25, false), (30, true), (31, true)] (fun W => Below w.heap.size w W)
                (by kernel_rfl) (by kernel_rfl) (by kernel_rfl) (by kernel_rfl) (fun d _ _ _ _ h => by cases d <;> exact h) (Below.refl _ _).drew (fun hS0 => ?_)
              repeat (first
                | (refine SeqH.take (v := ?_) rfl (by rfl) ?_ ?_; rotate_left; (· intro w hSw; go_simp; (try rw [if_pos (by omega)]); (try with_reducible rfl)); simp only [Act.put, List.setIfInBounds_toArray, List.set_cons_zero, List.set_cons_succ])
                | (refine SeqH.skip rfl (by rfl) ?_; simp only [Act.put, List.setIfInBounds_toArray, List.set_cons_zero, List.set_cons_succ]))
              refine SeqH.step rfl (by rfl) (fun K hK => ?_)
              go_simp
              go_at_call 65
              refine (HRI.out _).mono ?_
              rintro e9 w1 ⟨rfl, rfl⟩
              try dsimp only
              refine hK.out _ _ hS0 (fun hS1 => ?_)
              clear hK K
              try simp only [Act.put, List.setIfInBounds_toArray, List.set_cons_zero, List.set_cons_succ]
              repeat (first
                | (refine SeqH.take (v := ?_) rfl (by rfl) ?_ ?_; rotate_left; (· intro w hSw; go_simp; (try rw [if_pos (by omega)]); (try with_reducible rfl)); simp only [Act.put, List.setIfInBounds_toArray, List.set_cons_zero, List.set_cons_succ])
                | (refine SeqH.skip rfl (by rfl) ?_; simp only [Act.put, List.setIfInBounds_toArray, List.set_cons_zero, List.set_cons_succ]))
              refine SeqH.pass (by rfl) (by rfl) (by exact hS1) ?_
              try simp only [Act.put, List.setIfInBounds_toArray, List.set_cons_zero, List.set_cons_succ]
              repeat (first
                | (refine SeqH.take (v := ?_) rfl (by rfl) ?_ ?_; rotate_left; (· intro w hSw; go_simp; (try rw [if_pos (by omega)]); (try with_reducible rfl)); simp only [Act.put, List.setIfInBounds_toArray, List.set_cons_zero, List.set_cons_succ])
                | (refine SeqH.skip rfl (by rfl) ?_; simp only [Act.put, List.setIfInBounds_toArray, List.set_cons_zero, List.set_cons_succ]))
              refine SeqH.done ?_
              go_wp2
              go_ret2
              exact ⟨by rw [HR.out]; rfl, hS1⟩
            | true =>
              rw [hr] at HRI
              have hfull := Bk.fst_full (n := n) (b := b) HG.out HN.out (by rw [HT2.out]; exact hr)
              rw [HT2.out] at hfull
              have HWI := Lib.hid (fun W hW => refWrite_any n b (L.drop f) W hW hn (by rw [HTL.out]; omega) b0 b1)
              have hsvx : sv (L.drop f) = .string (s.extract f e) := by rw [HEX.out]
              rw [hsvx] at HWI
              by_cases hw : Bk.wr n b (L.drop f) = s.data.toList.take (e + 1)
              · have HR := Lib.hid (HYES.out _ (hfull.1 hw))
                rw [hsvx] at HR
                have q7 : (Bk.wr n b (L.drop f) == (s.extract 0 (e + 1)).toList) = true := by rw [toList_data, HEX2.out]; simpa using hw
                have q8 : (Bk.wr n b (L.drop f) != (s.extract 0 (e + 1)).toList) = false := by rw [toList_data, HEX2.out]; simpa using hw
                clear HT HT2 HEX2 HTL HN HG2 hr hrx hfull hsvx hw HEX
                generalize Bk.wr n b (L.drop f) = WR at *
                go_upto_region 9 with fail
                refine wp_region_seq [(0, true), (1, true), (2, true), (3, true), (4, true), (5, true), (6, true), (7, true), (8, true), (9, true), (10, true), (11, true), (12, true), (13, true), (14, true), (15, false), (16, true), (17, true), (18, true), (19, true), (20, true), (21, true), (22, true), (23, true), (24, true), (26, true), (27, true), (28, true), (29, true), (25, false), (30, true), (31, true)] (fun W => Below w.heap.size w W)
                  (by kernel_rfl) (by kernel_rfl) (by kernel_rfl) (by kernel_rfl) (fun d _ _ _ _ h => by cases d <;> exact h) (Below.refl _ _).drew (fun hS0 => ?_)
                repeat (first
                  | (refine SeqH.take (v := ?_) rfl (by rfl) ?_ ?_; rotate_left; (· intro w hSw; go_simp; (try rw [if_pos (by omega)]); (try with_reducible rfl)); simp only [Act.put, List.setIfInBounds_toArray, List.set_cons_zero, List.set_cons_succ])
                  | (refine SeqH.skip rfl (by rfl) ?_; simp only [Act.put, List.setIfInBounds_toArray, List.set_cons_zero, List.set_cons_succ]))
                refine SeqH.step rfl (by rfl) (fun K hK => ?_)
                go_simp
                go_at_call 65
                refine (HRI.out _).mono ?_
                rintro e9 w1 ⟨rfl, rfl⟩
                try dsimp only
                refine hK.out _ _ hS0 (fun hS1 => ?_)
                clear hK K
                try simp only [Act.put, List.setIfInBounds_toArray, List.set_cons_zero, List.set_cons_succ]
                repeat (first
                  | (refine SeqH.take (v := ?_) rfl (by rfl) ?_ ?_; rotate_left; (· intro w hSw; go_simp; (try rw [if_pos (by omega)]); (try with_reducible rfl)); simp only [Act.put, List.setIfInBounds_toArray, List.set_cons_zero, List.set_cons_succ])
                  | (refine SeqH.skip rfl (by rfl) ?_; simp only [Act.put, List.setIfInBounds_toArray, List.set_cons_zero, List.set_cons_succ]))
                refine SeqH.step rfl (by rfl) (fun K hK => ?_)
                go_simp
                go_at_call 66
                refine (HWI.out _ (HE.out.all hS1)).mono ?_
                rintro e9 w2 ⟨rfl, hb2⟩
                try dsimp only
                refine hK.out _ _ (hS1.trans (hb2.mono hS1.size)) (fun hS2 => ?_)
                clear hK K
                try simp only [Act.put, List.setIfInBounds_toArray, List.set_cons_zero, List.set_cons_succ]
                repeat (first
                  | (refine SeqH.take (v := ?_) rfl (by rfl) ?_ ?_; rotate_left; (· intro w hSw; go_simp; (try rw [if_pos (by omega)]); (try with_reducible rfl)); simp only [Act.put, List.setIfInBounds_toArray, List.set_cons_zero, List.set_cons_succ])
                  | (refine SeqH.skip rfl (by rfl) ?_; simp only [Act.put, List.setIfInBounds_toArray, List.set_cons_zero, List.set_cons_succ]))
                refine SeqH.done ?_
                go_wp2
                go_ret2
                exact ⟨by rw [HR.out]; rfl, hS2⟩
              · have HR := Lib.hid (HNO.out (hfull.2 hw))
                have q7 : (Bk.wr n b (L.drop f) == (s.extract 0 (e + 1)).toList) = false := by rw [toList_data, HEX2.out]; simpa using hw
                have q8 : (Bk.wr n b (L.drop f) != (s.extract 0 (e + 1)).toList) = true := by rw [toList_data, HEX2.out]; simpa using hw
                clear HT HT2 HEX2 HTL HN HG2 hr hrx hfull hsvx hw HEX
                generalize Bk.wr n b (L.drop f) = WR at *
                go_upto_region 9 with fail
                refine wp_region_seq [(0, true), (1, true), (2, true), (3, true), (4, true), (5, true), (6, true), (7, true), (8, true), (9, true), (10, true), (11, true), (12, true), (13, true), (14, true), (15, false), (16, true), (17, true), (18, true), (19, true), (20, true), (21, true), (22, true), (23, true), (24, true), (26, true), (27, true), (28, true), (29, true), (25, false), (30, true), (31, true)] (fun W => Below w.heap.size w W)
                  (by kernel_rfl) (by kernel_rfl) (by kernel_rfl) (by kernel_rfl) (fun d _ _ _ _ h => by cases d <;> exact h) (Below.refl _ _).drew (fun hS0 => ?_)
                repeat (first
                  | (refine SeqH.take (v := ?_) rfl (by rfl) ?_ ?_; rotate_left; (· intro w hSw; go_simp; (try rw [if_pos (by omega)]); (try with_reducible rfl)); simp only [Act.put, List.setIfInBounds_toArray, List.set_cons_zero, List.set_cons_succ])
                  | (refine SeqH.skip rfl (by rfl) ?_; simp only [Act.put, List.setIfInBounds_toArray, List.set_cons_zero, List.set_cons_succ]))
                refine SeqH.step rfl (by rfl) (fun K hK => ?_)
                go_simp
                go_at_call 65
                refine (HRI.out _).mono ?_
                rintro e9 w1 ⟨rfl, rfl⟩
                try dsimp only
                refine hK.out _ _ hS0 (fun hS1 => ?_)
                clear hK K
                try simp only [Act.put, List.setIfInBounds_toArray, List.set_cons_zero, List.set_cons_succ]
                repeat (first
                  | (refine SeqH.take (v := ?_) rfl (by rfl) ?_ ?_; rotate_left; (· intro w hSw; go_simp; (try rw [if_pos (by omega)]); (try with_reducible rfl)); simp only [Act.put, List.setIfInBounds_toArray, List.set_cons_zero, List.set_cons_succ])
                  | (refine SeqH.skip rfl (by rfl) ?_; simp only [Act.put, List.setIfInBounds_toArray, List.set_cons_zero, List.set_cons_succ]))
                refine SeqH.step rfl (by rfl) (fun K hK => ?_)
                go_simp
                go_at_call 66
                refine (HWI.out _ (HE.out.all hS1)).mono ?_
                rintro e9 w2 ⟨rfl, hb2⟩
                try dsimp only
                refine hK.out _ _ (hS1.trans (hb2.mono hS1.size)) (fun hS2 => ?_)
                clear hK K
                try simp only [Act.put, List.setIfInBounds_toArray, List.set_cons_zero, List.set_cons_succ]
                repeat (first
                  | (refine SeqH.take (v := ?_) rfl (by rfl) ?_ ?_; rotate_left; (· intro w hSw; go_simp; (try rw [if_pos (by omega)]); (try with_reducible rfl)); simp only [Act.put, List.setIfInBounds_toArray, List.set_cons_zero, List.set_cons_succ])
                  | (refine SeqH.skip rfl (by rfl) ?_; simp only [Act.put, List.setIfInBounds_toArray, List.set_cons_zero, List.set_cons_succ]))
                refine SeqH.done ?_
                go_wp2
                go_ret2
                exact ⟨by rw [HR.out]; rfl, hS2⟩
          have hfs : f < s.size := by omega
          by_cases hc : s[f]'hfs = 32
          · have q1 : (((s[f]'hfs).toNat : Int) == 32) = true := by rw [byte_eq]; simpa using hc
            have HX := Lib.hid (HG2.out.blank hb2 (by rw [HLK.out f hfs hlt, hc]))
            clear hc HG2
            go_wp2
            go_roundw
            case rel => exact ⟨f + 1, bl + 1, by omega, by omega, by go_num, by go_num, Lib.hid ⟨HX.out, by first | rfl | trivial⟩⟩
            case measure => simp [intOf]; omega
          · have q1 : (((s[f]'hfs).toNat : Int) == 32) = false := by rw [byte_eq]; simpa using hc
            have HX := Lib.hid (HG2.out.other hb2 (HLK.out f hfs hlt) hc)
            clear hc HG2
            go_wp2
            go_roundw
            case rel => exact ⟨f + 1, bl, by omega, hbl, by go_num, rfl, Lib.hid ⟨HX.out, by first | rfl | trivial⟩⟩
            case measure => simp [intOf]; omega
end Go.Proofs.YtcljpklgpedolaaGreatDoor
