/- Fractions that are read: the program's. Sums of money that are written. Sums of money that are written: the program's and the reference's. The pence of a word, as the program reads them. Sums of money that are read: the program's. -/
import Derived.Test.YtcljpklgpedolaaGreatDoorTextA
import Derived.Deep.CutRange
namespace Go.Proofs.YtcljpklgpedolaaGreatDoor
open Go.RowKit Go.Sort
namespace Tx
theorem cut_len (l : List UInt8) (c : UInt8) : (Lib.cut l [c]).1.length ≤ l.length ∧ (Lib.cut l [c]).2.1.length ≤ l.length := by
  unfold Lib.cut
  split
  · simp
    omega
  · simp
theorem atoi_bd {l : List UInt8} {v : Int} (h : Lib.atoiAll l = .ok v) : -9223372036854775808 ≤ v ∧ v ≤ 9223372036854775807 := by
  cases l with
  | nil => simp [Lib.atoiAll] at h
  | cons c r =>
    simp only [Lib.atoiAll] at h
    split at h
    · cases h
    · cases h
    · split at h
      · cases h
      · split at h
        · cases h
        · simp only [Lib.NumEnd.ok.injEq] at h
          split at h <;> omega
theorem near_ok : Near Fr.ok := fun n d h => by
  unfold Fr.ok at h
  have := of_decide_eq_true h
  omega
end Tx
theorem ret_rat {n d e : Int} {x : (Int × Int) × Int} (h : x = ((n, d), e)) : Ending.returned (.tuple #[.agg #[.int .i64 n, .int .i64 d], .int .i64 e]) = .returned (.tuple #[.agg #[.int .i64 x.1.1, .int .i64 x.1.2], .int .i64 x.2]) := by rw [h]
def RatSays (x : (Int × Int) × Int) (w : World) (e : Ending) (w' : World) : Prop := e = .returned (.tuple #[.agg #[.int .i64 x.1.1, .int .i64 x.1.2], .int .i64 x.2]) ∧ Below w.heap.size w w'
theorem cut_any (s : ByteArray) (w : World) (h : Env w) (hs : s.size ≤ 100000) :
    Calls Tryz.prog 92 #[.string s, .string ⟨#[47]⟩] w fun e w' => e = .returned (.tuple #[.string ⟨(Lib.cut s.data.toList [47]).1.toArray⟩, .string ⟨(Lib.cut s.data.toList [47]).2.1.toArray⟩, .bool (Lib.cut s.data.toList [47]).2.2]) ∧ Below w.heap.size w w' := by
  obtain ⟨_, ⟨m, hm⟩, _⟩ := h
  exact (Tryz.strings_Cut s ⟨#[47]⟩ m w (by omega) hm).mono fun e w' ⟨he, n, hw⟩ => ⟨he, by rw [hw]; exact ⟨rfl, rfl, rfl, Nat.le_refl _, fun _ _ => rfl⟩⟩

end Go.Proofs.YtcljpklgpedolaaGreatDoor
namespace Go.Proofs.YtcljpklgpedolaaGreatDoor
open Go.RowKit Go.Sort
namespace Tx
theorem join_len (c : UInt8) (ws : List (List UInt8)) : (Lib.join ws [c]).length ≤ (ws.map fun w => w.length + 1).sum := by
  induction ws with
  | nil => simp [Lib.join, List.intercalate]
  | cons w r ih =>
    cases r with
    | nil => rw [Lib.join_one]; simp
    | cons x r =>
      have e : Lib.join (w :: x :: r) [c] = w ++ c :: Lib.join (x :: r) [c] := by unfold Lib.join List.intercalate; simp
      rw [e]
      simp only [List.length_append, List.length_cons, List.map_cons, List.sum_cons] at ih ⊢
      omega
theorem dec_len19 {a : Nat} (h : a < 10000000000000000000) : (Lib.decDigits a).length ≤ 19 := dec_len 18 a (by
  have : (10 : Nat) ^ (18 + 1) = 10000000000000000000 := by decide
  omega)
theorem unit_sum {a : Nat} {c : UInt8} (h : a < 10000000000000000000) : ((unit a c).map fun w => w.length + 1).sum ≤ 21 := by
  have := dec_len19 h
  unfold unit
  split <;> simp
  omega
theorem mW_join_len {n : Nat} (h : n < 10000000000000000000) : (Lib.join (mW n) [32]).length ≤ 63 := by
  have h1 := unit_sum (a := n / 240) (c := 108) (by omega)
  have h2 := unit_sum (a := n / 12 % 20) (c := 115) (by omega)
  have h3 := unit_sum (a := n % 12) (c := 100) (by omega)
  have := join_len 32 (mW n)
  unfold mW at this ⊢
  rw [List.map_append, List.map_append, List.sum_append, List.sum_append] at this
  omega
/-- The words, each behind a space. -/
def pre (ws : List (List UInt8)) : List UInt8 := ws.flatMap fun w => 32 :: w
theorem pre_join (ws : List (List UInt8)) (h : ws ≠ []) : pre ws = 32 :: Lib.join ws [32] := by
  induction ws with
  | nil => exact absurd rfl h
  | cons w r ih =>
    cases r with
    | nil => rw [Lib.join_one]; simp [pre]
    | cons x r =>
      have e : Lib.join (w :: x :: r) [32] = w ++ 32 :: Lib.join (x :: r) [32] := by unfold Lib.join List.intercalate; simp
      rw [e, show pre (w :: x :: r) = 32 :: w ++ pre (x :: r) by simp [pre], ih (by simp)]
      simp
theorem pre_append (a b : List (List UInt8)) : pre (a ++ b) = pre a ++ pre b := by simp [pre]
end Tx

theorem OwnS.grow {base : Nat} {w w' : World} {v : Value} {ss : List (List UInt8)} (h : OwnS base w v ss) (hb : Below w.heap.size w w') : OwnS base w' v ss := by
  obtain ⟨h0, h1 | ⟨g, cap, cur, h1, h2, h3, h4⟩⟩ := h
  · exact ⟨h0, .inl h1⟩
  · have hg : g < w.heap.size := (Array.getElem?_eq_some_iff.1 h3).1
    exact ⟨h0, .inr ⟨g, cap, cur, h1, h2, by rw [hb.block g hg]; exact h3, h4⟩⟩

set_option maxRecDepth 20000 in
theorem unit_any (v : Value) (ss : List (List UInt8)) (a : Nat) (c : UInt8) (w : World) (base : Nat) (hE : Env w) (hB : base ≤ w.heap.size) (hown : OwnS base w v ss) (ha : a < 1000000000000000000) (hn : ss.length ≤ 10) :
    Calls Tryz.prog 101 #[v, .int .i64 (a : Int), .string ⟨[c].toArray⟩] w fun e w' => ∃ v', e = .returned v' ∧ OwnS base w' v' (ss ++ Tx.unit a c) ∧ Below base w w' := by
  obtain ⟨i0, hi, hz0, hz1, hz2⟩ := info_parts infoStr
  by_cases h0 : a = 0
  · subst h0
    have hu : Hid (ss ++ Tx.unit 0 c = ss) := Lib.hid (by simp [Tx.unit])
    go_enter Tryz.func101, Tryz.ntmps101
    go_wp2
    go_ret
    exact ⟨_, rfl, by rw [hu.out]; exact hown, Below.refl _ _⟩
  · have hu : Hid (Tx.unit a c = [Lib.decDigits a ++ [c]]) := Lib.hid (by unfold Tx.unit; rw [if_neg h0])
    have h1 : ((a : Int) == 0) = false := beq_eq_false_iff_ne.2 (by omega)
    have I := Lib.hid (itoa_any (a : Int) w hE (by omega) (by omega))
    rw [Tx.itoa_nat] at I
    have HX := Lib.hid (bytes_append (Lib.decDigits a) [c])
    have hlen := Tx.dec_len19 (a := a) (by omega)
    clear h0 hE ha
    generalize Lib.decDigits a = x at *
    go_enter Tryz.func101, Tryz.ntmps101
    go_wp2_with fail
    refine I.out.mono ?_
    rintro e w1 ⟨rfl, hb1⟩
    have hown1 := hown.grow hb1
    have hs1 := hb1.size
    clear hown
    go_wp2_with (at_builtin; refine wpList_append_own _ rfl _ _ 44 rfl base 9 i0 (.string ⟨#[]⟩) 1 16 Tryz.underlying44 hi hz0 hz1 hz2 rfl (by decide) _ _ _ rfl (hown1.alloc _) ⟨_, 0, none⟩ 1 1 (strL (x ++ [c])) rfl rfl (by rw [HX.out]; exact strL_at _ _ _) (strL_one _) (by unfold maxLen; omega) (by omega) (by simp; omega) ?_)
    intro v' w2 hown2 hgrow _
    have hx := OwnS.pushed hown2
    have hw2 : Below base w w2 := ((hb1.mono hB).alloc (by omega) (.cells #[.string ((⟨x.toArray⟩ : ByteArray) ++ ⟨[c].toArray⟩)] 9)).grown hgrow (by simp; omega) (fun j e => (World.ownsRow.lt hown1 j e).1)
    clear hown2 hgrow hown1 hb1
    go_wp2
    go_ret
    exact ⟨_, rfl, by rw [hu.out]; exact hx, hw2⟩
def MonSays (p : Int) (w : World) (e : Ending) (w' : World) : Prop := e = .returned (.tuple #[.string ⟨(if Tx.inM p = true then Tx.fmtM p else []).toArray⟩, .int .i64 (if Tx.inM p = true then 0 else 1)]) ∧ Below w.heap.size w w'
end Go.Proofs.YtcljpklgpedolaaGreatDoor
namespace Go.Proofs.YtcljpklgpedolaaGreatDoor
open Go.RowKit Go.Sort

theorem strs_back (l : List (List UInt8)) : (l.map fun x => (⟨x.toArray⟩ : ByteArray)).map (·.data.toList) = l := by
  rw [List.map_map]
  conv => rhs; rw [← List.map_id l]
  refine List.map_congr_left fun x _ => ?_
  simp

set_option maxRecDepth 20000 in
set_option maxHeartbeats 1000000 in
theorem formatMoney_any (p : Int) (w : World) (hE : Env w) :
    Calls Tryz.prog 78 #[.int .i64 p] w (MonSays p w) := by
  by_cases hi : Tx.inM p = true
  case neg =>
    have hlo : p < -1099511627776 ∨ 1099511627776 < p := by
      unfold Tx.inM at hi
      simp only [Bool.and_eq_true, decide_eq_true_eq] at hi
      omega
    have HI := Lib.hid hi
    rcases hlo with hlo | hlo
    · have hd : decide (p < -1099511627776) = true := decide_eq_true hlo
      clear hi hE
      go_enter Tryz.func78, Tryz.ntmps78
      go_wp2
      go_ret2
      refine ⟨?_, Below.refl _ _⟩
      rw [if_neg HI.out, if_neg HI.out]
      rfl
    · have hd : decide (p < -1099511627776) = false := decide_eq_false (by omega)
      have hd2 : decide (1099511627776 < p) = true := decide_eq_true hlo
      clear hi hE
      go_enter Tryz.func78, Tryz.ntmps78
      go_wp2
      go_ret2
      refine ⟨?_, Below.refl _ _⟩
      rw [if_neg HI.out, if_neg HI.out]
      rfl
  obtain ⟨p1, p2⟩ := Tx.inM_of hi
  have HI := Lib.hid hi
  clear hi
  have hda : decide (p < -1099511627776) = false := decide_eq_false (by omega)
  have hdb : decide (1099511627776 < p) = false := decide_eq_false (by omega)
  by_cases h0 : p = 0
  · subst h0
    go_enter Tryz.func78, Tryz.ntmps78
    go_wp2
    go_ret2
    refine ⟨?_, Below.refl _ _⟩
    rw [if_pos HI.out, if_pos HI.out]
    rfl
  have hne : (p == 0) = false := beq_eq_false_iff_ne.2 h0
  obtain ⟨n, hn⟩ : ∃ n : Nat, n = p.natAbs := ⟨_, rfl⟩
  have hn0 : 0 < n := by omega
  have hn1 : n ≤ 1099511627776 := by omega
  have HW := Lib.hid (Tx.mW_ne hn0)
  have HM : Hid (Tx.mW n = (([] ++ Tx.unit (n / 240) 108) ++ Tx.unit (n % 240 / 12) 115) ++ Tx.unit (n % 12) 100) := Lib.hid (by
    rw [show n % 240 / 12 = n / 12 % 20 by omega]; rfl)
  have hlen := Tx.mW_join_len (n := n) (by omega)
  have u1 : (Tx.unit (n / 240) 108).length ≤ 1 := by unfold Tx.unit; split <;> simp
  have u2 : (Tx.unit (n % 240 / 12) 115).length ≤ 1 := by unfold Tx.unit; split <;> simp
  have u3 : (Tx.unit (n % 12) 100).length ≤ 1 := by unfold Tx.unit; split <;> simp
  have HE := Lib.hid hE
  have A1 := Lib.hid (unit_any (.slice none 0 0) [] (n / 240) 108 w w.heap.size hE (Nat.le_refl _) (OwnS.nil _ _) (by omega) (by simp))
  have A2 := Lib.hid (fun v W (hb : Below w.heap.size w W) (ho : OwnS w.heap.size W v ([] ++ Tx.unit (n / 240) 108)) => unit_any v _ (n % 240 / 12) 115 W w.heap.size (HE.out.all hb) hb.size ho (by omega) (by simp; omega))
  have A3 := Lib.hid (fun v W (hb : Below w.heap.size w W) (ho : OwnS w.heap.size W v (([] ++ Tx.unit (n / 240) 108) ++ Tx.unit (n % 240 / 12) 115)) => unit_any v _ (n % 12) 100 W w.heap.size (HE.out.all hb) hb.size ho (by omega) (by simp; omega))
  have A1' : Hid (Calls Tryz.prog 101 #[.slice none 0 0, .int .i64 ((n : Int) / 240), .string ⟨#[108]⟩] w fun e w' => ∃ v', e = .returned v' ∧ OwnS w.heap.size w' v' ([] ++ Tx.unit (n / 240) 108) ∧ Below w.heap.size w w') := Lib.hid (by
    have := A1.out; rwa [show ((n / 240 : Nat) : Int) = (n : Int) / 240 by omega] at this)
  have A2' : Hid (∀ v W, Below w.heap.size w W → OwnS w.heap.size W v ([] ++ Tx.unit (n / 240) 108) → Calls Tryz.prog 101 #[v, .int .i64 ((n : Int) % 240 / 12), .string ⟨#[115]⟩] W fun e w' => ∃ v', e = .returned v' ∧ OwnS w.heap.size w' v' (([] ++ Tx.unit (n / 240) 108) ++ Tx.unit (n % 240 / 12) 115) ∧ Below w.heap.size W w') := Lib.hid (fun v W hb ho => by
    have := A2.out v W hb ho; rwa [show ((n % 240 / 12 : Nat) : Int) = (n : Int) % 240 / 12 by omega] at this)
  have A3' : Hid (∀ v W, Below w.heap.size w W → OwnS w.heap.size W v (([] ++ Tx.unit (n / 240) 108) ++ Tx.unit (n % 240 / 12) 115) → Calls Tryz.prog 101 #[v, .int .i64 ((n : Int) % 12), .string ⟨#[100]⟩] W fun e w' => ∃ v', e = .returned v' ∧ OwnS w.heap.size w' v' (Tx.mW n) ∧ Below w.heap.size W w') := Lib.hid (fun v W hb ho => by
    have := A3.out v W hb ho; rwa [show ((n % 12 : Nat) : Int) = (n : Int) % 12 by omega, ← HM.out] at this)
  have hL3 : (Tx.mW n).length ≤ 3 := Tx.mW_len n
  have hL0 : 0 < (Tx.mW n).length := List.length_pos_iff.2 HW.out
  clear A1 A2 A3 u1 u2 u3 hE HM HW h0 hn1
  have HN := Lib.hid hn
  by_cases hs : p < 0
  · have e1 : -p = (n : Int) := by omega
    have HFM : Hid (Tx.fmtM p = [45] ++ Lib.join (Tx.mW n) [32]) := Lib.hid (by unfold Tx.fmtM; rw [if_neg (by omega), if_pos hs, ← hn])
    have HX := Lib.hid (bytes_append [45] (Lib.join (Tx.mW n) [32]))
    have HE1 := Lib.hid e1
    have n0 : (0 : Int) ≤ (n : Int) := by omega
    have n2 : (n : Int) ≤ 1099511627776 := by omega
    clear hn e1 HN hn0
    generalize Tx.mW n = ss at *
    generalize ((n : Nat) : Int) = z at *
    go_enter Tryz.func78, Tryz.ntmps78
    go_upto_region 9 with fail
    rw [HE1.out]
    clear hs hda hdb hne p1 p2
    go_wp2_with fail
    refine A1'.out.mono ?_
    rintro e w1 ⟨v1, rfl, ho1, hb1⟩
    go_wp2_with fail
    refine (A2'.out _ _ hb1 ho1).mono ?_
    rintro e w2 ⟨v2, rfl, ho2, hb2⟩
    have hw2 := hb1.trans hb2
    clear hb1 hb2 ho1
    go_wp2_with fail
    refine (A3'.out _ _ hw2 ho2).mono ?_
    rintro e w3 ⟨v3, rfl, ho3, hb3⟩
    have hw3 := hw2.trans hb3
    clear hw2 hb3 ho2 A1' A2' A3'
    obtain ⟨g, cap, rfl, hcap, hg1, hg2, hcell⟩ := ho3.form hL0
    have J := Lib.hid (Tryz.strings_Join g 0 cap (ss.map fun x => (⟨x.toArray⟩ : ByteArray)) ⟨#[32]⟩ w3 (fun j x hx => by
      rw [List.getElem?_map] at hx
      cases hj : ss[j]? with
      | none => rw [hj] at hx; simp at hx
      | some y =>
        rw [hj] at hx
        simp only [Option.map_some, Option.some.injEq] at hx
        obtain ⟨hj1, hj2⟩ := List.getElem?_eq_some_iff.1 hj
        rw [Nat.zero_add, hcell j hj1, hj2, ← hx]) hg2 (by simp; omega) (by simpa using hcap) (by rw [strs_back]; show (Lib.join ss [32]).length ≤ _; omega))
    rw [strs_back, List.length_map] at J
    clear hcell
    go_wp2_with fail
    refine J.out.mono ?_
    rintro e w4 ⟨rfl, hb4⟩
    have hw4 := hw3.trans (hb4.mono (by omega))
    have hlen' : (Lib.join ss [32]).length ≤ 63 := hlen
    clear hb4 hw3 J ho3
    have hj : Lib.join ss (⟨#[32]⟩ : ByteArray).data.toList = Lib.join ss [32] := rfl
    rw [hj]
    clear hj
    generalize Lib.join ss [32] = x at *
    go_wp2
    go_ret2
    refine ⟨?_, hw4⟩
    rw [if_pos HI.out, if_pos HI.out, HFM.out, ← HX.out]
    rfl
  · have e1 : p = (n : Int) := by omega
    subst e1
    have HFM : Hid (Tx.fmtM (n : Int) = [] ++ Lib.join (Tx.mW n) [32]) := Lib.hid (by unfold Tx.fmtM; rw [if_neg (by omega), if_neg hs, ← hn])
    have HX := Lib.hid (bytes_append [] (Lib.join (Tx.mW n) [32]))
    have n0 : (0 : Int) ≤ (n : Int) := by omega
    have n2 : (n : Int) ≤ 1099511627776 := by omega
    clear hn HN hn0
    generalize Tx.mW n = ss at *
    generalize ((n : Nat) : Int) = z at *
    go_enter Tryz.func78, Tryz.ntmps78
    go_upto_region 9 with fail
    clear hs hda hdb hne p1 p2
    go_wp2_with fail
    refine A1'.out.mono ?_
    rintro e w1 ⟨v1, rfl, ho1, hb1⟩
    go_wp2_with fail
    refine (A2'.out _ _ hb1 ho1).mono ?_
    rintro e w2 ⟨v2, rfl, ho2, hb2⟩
    have hw2 := hb1.trans hb2
    clear hb1 hb2 ho1
    go_wp2_with fail
    refine (A3'.out _ _ hw2 ho2).mono ?_
    rintro e w3 ⟨v3, rfl, ho3, hb3⟩
    have hw3 := hw2.trans hb3
    clear hw2 hb3 ho2 A1' A2' A3'
    obtain ⟨g, cap, rfl, hcap, hg1, hg2, hcell⟩ := ho3.form hL0
    have J := Lib.hid (Tryz.strings_Join g 0 cap (ss.map fun x => (⟨x.toArray⟩ : ByteArray)) ⟨#[32]⟩ w3 (fun j x hx => by
      rw [List.getElem?_map] at hx
      cases hj : ss[j]? with
      | none => rw [hj] at hx; simp at hx
      | some y =>
        rw [hj] at hx
        simp only [Option.map_some, Option.some.injEq] at hx
        obtain ⟨hj1, hj2⟩ := List.getElem?_eq_some_iff.1 hj
        rw [Nat.zero_add, hcell j hj1, hj2, ← hx]) hg2 (by simp; omega) (by simpa using hcap) (by rw [strs_back]; show (Lib.join ss [32]).length ≤ _; omega))
    rw [strs_back, List.length_map] at J
    clear hcell
    go_wp2_with fail
    refine J.out.mono ?_
    rintro e w4 ⟨rfl, hb4⟩
    have hw4 := hw3.trans (hb4.mono (by omega))
    clear hb4 hw3 J ho3
    have hj : Lib.join ss (⟨#[32]⟩ : ByteArray).data.toList = Lib.join ss [32] := rfl
    rw [hj]
    clear hj
    generalize Lib.join ss [32] = x at *
    go_wp2
    go_ret2
    refine ⟨?_, hw4⟩
    rw [if_pos HI.out, if_pos HI.out, HFM.out, ← HX.out]
    rfl
end Go.Proofs.YtcljpklgpedolaaGreatDoor
namespace Go.Proofs.YtcljpklgpedolaaGreatDoor
open Go.RowKit Go.Sort

def wordR (l : List UInt8) : Int × Bool := match Tx.pV wrap64 l with
  | some v => (v, true)
  | none => (0, false)
def WordSays (l : List UInt8) (w : World) (e : Ending) (w' : World) : Prop := e = .returned (.tuple #[.int .i64 (wordR l).1, .bool (wordR l).2]) ∧ Below w.heap.size w w'
theorem word_none {l : List UInt8} (h : Tx.pV wrap64 l = none) : wordR l = (0, false) := by unfold wordR; rw [h]
theorem word_some {l : List UInt8} {v : Int} (h : Tx.pV wrap64 l = some v) : wordR l = (v, true) := by unfold wordR; rw [h]
theorem fits64 : Tx.Fits wrap64 := fun x h1 h2 => IntWalk.wrap64_in x ⟨h1, h2⟩

set_option maxRecDepth 20000 in
set_option maxHeartbeats 1000000 in
theorem word_any (s : ByteArray) (w : World) (hE : Env w) (hs : s.size ≤ 100000) :
    Calls Tryz.prog 108 #[.string s] w (WordSays s.data.toList w) := by
  have hsz : s.data.toList.length = s.size := by rw [Array.length_toList]; rfl
  by_cases h0 : s.size = 0
  · have hz : s.data.toList = [] := List.length_eq_zero_iff.1 (by omega)
    have hs0 : s = ⟨#[]⟩ := by
      apply ByteArray.ext; apply Array.ext'; rw [hz]
    have HN := Lib.hid (word_none (l := s.data.toList) (by rw [hz]; rfl))
    subst hs0
    clear hz hsz h0 hs
    go_enter Tryz.func108, Tryz.ntmps108
    go_wp2
    go_ret2
    refine ⟨?_, Below.refl _ _⟩
    rw [HN.out]
    rfl
  have hne : s.data.toList ≠ [] := fun h => h0 (by rw [← hsz, h]; rfl)
  have q1 : (s == ⟨#[]⟩) = false := by
    show ByteArray.beq _ _ = _
    unfold ByteArray.beq
    refine beq_eq_false_iff_ne.2 fun e => hne ?_
    rw [show s.data = #[] from e]
  have q2 : ¬ s.toList = [] := by rw [toList_data]; exact hne
  have q3 : s.toList.isEmpty = false := by rw [toList_data]; simpa using hne
  have hpos : 0 < s.size := by omega
  have hlast : s.size - 1 < s.size := by omega
  have hlb : Tx.lastB s.data.toList = s[s.size - 1]'hlast := by
    unfold Tx.lastB
    rw [hsz, List.getD_eq_getElem?_getD, List.getElem?_eq_getElem (by rw [hsz]; exact hlast)]; rfl
  have hx : s.extract 0 (s.size - 1) = ⟨(Tx.headW s.data.toList).toArray⟩ := by
    rw [extract_is]; unfold Tx.headW; rw [hsz]; simp
  have hhs : (⟨(Tx.headW s.data.toList).toArray⟩ : ByteArray).size ≤ 100000 := by
    show (Tx.headW s.data.toList).toArray.size ≤ _; unfold Tx.headW; simp; omega
  have hpV : Tx.pV wrap64 s.data.toList = match Lib.atoiAll (Tx.headW s.data.toList) with
    | .ok v => (Tx.unitV (s[s.size - 1]'hlast)).map fun k => wrap64 (v * k)
    | _ => none := by unfold Tx.pV; rw [if_neg hne, hlb]; cases Lib.atoiAll (Tx.headW s.data.toList) <;> rfl
  have HX := Lib.hid hx
  have HP := Lib.hid hpV
  have HE := Lib.hid hE
  clear hsz h0 hne hlb hx hpV hE
  by_cases ho : ∃ v, Lib.atoiAll (Tx.headW s.data.toList) = .ok v
  case neg =>
    have hnone : Tx.pV wrap64 s.data.toList = none := by
      rw [HP.out]
      cases hh : Lib.atoiAll (Tx.headW s.data.toList) with
      | ok v => exact absurd ⟨v, hh⟩ ho
      | «syntax» => rfl
      | range => rfl
    have HN := Lib.hid (word_none hnone)
    have C := Lib.hid (fun W (hW : Below w.heap.size w W) => atoi_bad ⟨(Tx.headW s.data.toList).toArray⟩ W (HE.out.all hW) hhs fun v hv => ho ⟨v, hv⟩)
    rw [← HX.out] at C
    clear ho hnone hhs HP
    go_enter Tryz.func108, Tryz.ntmps108
    go_wp2_with fail
    refine (C.out _ (Below.refl _ _)).mono ?_
    rintro e w1 ⟨v, t, p, rfl, ⟨_, _⟩, hb1⟩
    go_wp2
    go_ret2
    refine ⟨?_, hb1⟩
    rw [HN.out]
    rfl
  obtain ⟨v, hv⟩ := ho
  obtain ⟨v1, v2⟩ := Tx.atoi_bd hv
  have C := Lib.hid (fun W => atoi_ok ⟨(Tx.headW s.data.toList).toArray⟩ W hhs hv)
  rw [← HX.out] at C
  have hP2 : Tx.pV wrap64 s.data.toList = (Tx.unitV (s[s.size - 1]'hlast)).map fun k => wrap64 (v * k) := by rw [HP.out, hv]
  have HP2 := Lib.hid hP2
  have HV : Hid (wrap64 (v * 1) = v) := Lib.hid (by rw [Int.mul_one]; exact IntWalk.wrap64_in v ⟨v1, v2⟩)
  clear hP2 hv hhs HP HX
  by_cases hc : s[s.size - 1]'hlast = 108
  · have f1 : (((s[s.size - 1]'hlast).toNat : Int) == 108) = true := beq_iff_eq.2 (by rw [hc]; rfl)
    have HN := Lib.hid (word_some (l := s.data.toList) (v := wrap64 (v * 240)) (by rw [HP2.out, hc]; rfl))
    clear hc HP2
    go_enter Tryz.func108, Tryz.ntmps108
    go_wp2_with fail
    refine (C.out _).mono ?_
    rintro e w1 ⟨rfl, hb1⟩
    go_wp2
    go_ret2
    refine ⟨?_, hb1⟩
    rw [HN.out]
    rfl
  have f1 : (((s[s.size - 1]'hlast).toNat : Int) == 108) = false := beq_eq_false_iff_ne.2 fun e => hc (UInt8.toNat_inj.1 (by show _ = 108; omega))
  by_cases hc2 : s[s.size - 1]'hlast = 115
  · have f2 : (((s[s.size - 1]'hlast).toNat : Int) == 115) = true := beq_iff_eq.2 (by rw [hc2]; rfl)
    have HN := Lib.hid (word_some (l := s.data.toList) (v := wrap64 (v * 12)) (by rw [HP2.out, hc2]; rfl))
    clear hc hc2 HP2
    go_enter Tryz.func108, Tryz.ntmps108
    go_wp2_with fail
    refine (C.out _).mono ?_
    rintro e w1 ⟨rfl, hb1⟩
    go_wp2
    go_ret2
    refine ⟨?_, hb1⟩
    rw [HN.out]
    rfl
  have f2 : (((s[s.size - 1]'hlast).toNat : Int) == 115) = false := beq_eq_false_iff_ne.2 fun e => hc2 (UInt8.toNat_inj.1 (by show _ = 115; omega))
  by_cases hc3 : s[s.size - 1]'hlast = 100
  · have f3 : (((s[s.size - 1]'hlast).toNat : Int) == 100) = true := beq_iff_eq.2 (by rw [hc3]; rfl)
    have HN := Lib.hid (word_some (l := s.data.toList) (v := v) (by rw [HP2.out, hc3]; exact congrArg some HV.out))
    clear hc hc2 hc3 HP2
    go_enter Tryz.func108, Tryz.ntmps108
    go_wp2_with fail
    refine (C.out _).mono ?_
    rintro e w1 ⟨rfl, hb1⟩
    go_wp2
    go_ret2
    refine ⟨?_, hb1⟩
    rw [HN.out]
    rfl
  · have f3 : (((s[s.size - 1]'hlast).toNat : Int) == 100) = false := beq_eq_false_iff_ne.2 fun e => hc3 (UInt8.toNat_inj.1 (by show _ = 100; omega))
    have HN := Lib.hid (word_none (l := s.data.toList) (by rw [HP2.out]; unfold Tx.unitV; rw [if_neg hc, if_neg hc2, if_neg hc3]; rfl))
    clear hc hc2 hc3 HP2
    go_enter Tryz.func108, Tryz.ntmps108
    go_wp2_with fail
    refine (C.out _).mono ?_
    rintro e w1 ⟨rfl, hb1⟩
    go_wp2
    go_ret2
    refine ⟨?_, hb1⟩
    rw [HN.out]
    rfl
end Go.Proofs.YtcljpklgpedolaaGreatDoor
namespace Go.Proofs.YtcljpklgpedolaaGreatDoor
open Go.RowKit Go.Sort

theorem splitB_is (l : List UInt8) (c : UInt8) : Lib.splitB ⟨#[c]⟩ 0 (Lib.countB ⟨l.toArray⟩ ⟨#[c]⟩) ⟨l.toArray⟩ = (Tx.spl c l).map fun x => (⟨x.toArray⟩ : ByteArray) := by
  have h := Lib.splitB_data ⟨#[c]⟩ 0 (Lib.countB ⟨l.toArray⟩ ⟨#[c]⟩) ⟨l.toArray⟩
  have h2 : Lib.splitK (⟨#[c]⟩ : ByteArray).data.toList 0 (Lib.countB ⟨l.toArray⟩ ⟨#[c]⟩) (⟨l.toArray⟩ : ByteArray).data.toList = Tx.spl c l := by
    rw [← Tx.split_spl c _ l (Nat.le_refl _)]
    rfl
  rw [h2] at h
  rw [← h, List.map_map]
  conv => lhs; rw [← List.map_id (Lib.splitB _ _ _ _)]
  refine List.map_congr_left fun x _ => ?_
  show x = (⟨x.data.toList.toArray⟩ : ByteArray)
  rfl
theorem countB_is (l : List UInt8) (c : UInt8) : Lib.countB ⟨l.toArray⟩ ⟨#[c]⟩ + 1 = (Tx.spl c l).length := by
  have h := congrArg List.length (splitB_is l c)
  rw [List.length_map, Lib.splitB_all ⟨#[c]⟩ (Nat.le_refl 1) 0 _ _ rfl] at h
  exact h
def SplitSays (ws : List (List UInt8)) (W : World) (e : Ending) (w' : World) : Prop :=
  e = .returned (.slice (some ⟨W.heap.size, 0, none⟩) ws.length ws.length) ∧ (∀ k (hk : k < ws.length), w'.cell? ⟨W.heap.size, k, none⟩ = some (.string ⟨ws[k].toArray⟩)) ∧ W.heap.size < w'.heap.size ∧ Below W.heap.size W w'
theorem splitLib_any (l : List UInt8) (c : UInt8) (W : World) (hE : Env W) (hl : l.length ≤ 100000) :
    Calls Tryz.prog 107 #[.string ⟨l.toArray⟩, .string ⟨#[c]⟩] W (SplitSays (Tx.spl c l) W) := by
  obtain ⟨_, ⟨m, hm⟩, _⟩ := hE
  refine (Tryz.strings_Split ⟨l.toArray⟩ ⟨#[c]⟩ m W (by show l.toArray.size < _; simp; omega) hm (Nat.le_refl 1)).mono fun e w' ⟨he, hw⟩ => ?_
  rw [countB_is] at he
  rw [splitB_is, List.map_map] at hw
  subst hw
  refine ⟨he, fun k hk => ?_, by simp, (Below.refl _ W).alloc (Nat.le_refl _) _⟩
  rw [World.cell?_alloc_new]
  simp [hk]
theorem cutPrefix_any (s : ByteArray) (w : World) :
    Calls Tryz.prog 106 #[.string s, .string ⟨#[45]⟩] w fun e w' => e = .returned (.tuple #[.string ⟨(Tx.amount s.data.toList).toArray⟩, .bool (Tx.isNeg s.data.toList)]) ∧ w = w' :=
  (Tryz.strings_CutPrefix s ⟨#[45]⟩ w).mono fun _e _w' ⟨he, hw⟩ => ⟨he, hw.symm⟩
def ReadSays (x : Int × Int) (w : World) (e : Ending) (w' : World) : Prop := e = .returned (.tuple #[.int .i64 x.1, .int .i64 x.2]) ∧ Below w.heap.size w w'
theorem amount_len (l : List UInt8) : (Tx.amount l).length ≤ l.length := by
  unfold Tx.amount Lib.trimPrefix
  split
  · simp
  · exact Nat.le_refl _

set_option maxRecDepth 20000 in
set_option maxHeartbeats 2000000 in
theorem parseMoney_any (s : ByteArray) (w : World) (hE : Env w) (hs : s.size ≤ 100000) :
    Calls Tryz.prog 82 #[.string s] w (ReadSays (Tx.ansM s.data.toList (Tx.pT wrap64 s.data.toList)) w) := by
  have hsz : s.data.toList.length = s.size := by rw [Array.length_toList]; rfl
  have hal := amount_len s.data.toList
  have HC := Lib.hid (cutPrefix_any s w)
  have HS := Lib.hid (splitLib_any (Tx.amount s.data.toList) 32 w hE (by omega))
  have hbd := spl_bd 32 (Tx.amount s.data.toList)
  have hln := Tx.spl_len 32 (Tx.amount s.data.toList)
  have hT : Tx.pT wrap64 s.data.toList = (Tx.pSum wrap64 0 (Tx.spl 32 (Tx.amount s.data.toList))).map fun v => if Tx.isNeg s.data.toList = true then wrap64 (-v) else v := rfl
  unfold SplitSays at HS
  generalize Tx.spl 32 (Tx.amount s.data.toList) = ws at *
  have hn : ws.length ≤ 100001 := by omega
  have HW := Lib.hid (fun k (hk : k < ws.length) W (hW : Below w.heap.size w W) => word_any ⟨ws[k].toArray⟩ W (hE.all hW) (by
    have := hbd ws[k] (List.getElem_mem hk)
    show ws[k].toArray.size ≤ _
    simp
    omega))
  have HF := Lib.hid (fun p W (hW : Below w.heap.size w W) => formatMoney_any p W (hE.all hW))
  have HT := Lib.hid hT
  clear hsz hal hbd hln hT hE hs
  unfold WordSays at HW
  unfold MonSays at HF
  go_enter Tryz.func82, Tryz.ntmps82
  go_wp2_with fail
  refine HC.out.mono ?_
  rintro e w' ⟨rfl, rfl⟩
  go_wp2_with fail
  refine HS.out.mono ?_
  rintro e w1 ⟨rfl, hcell, hlt1, hb1⟩
  have HB := Lib.hid (And.intro hcell (And.intro hlt1 hb1))
  clear hcell hb1 HC HS hlt1
  go_wp2
  go_loopw [6, 21] (fun p t wr => ∃ (k : Nat) (acc : Int), k ≤ ws.length ∧ t = .int .i64 k ∧ p = .int .i64 acc ∧ Hid (Tx.pSum wrap64 0 ws = Tx.pSum wrap64 acc (ws.drop k) ∧ Below w.heap.size w wr ∧ Below w1.heap.size w1 wr)) (fun _ t _ => ws.length - (intOf t).toNat)
  case atStart => exact ⟨0, 0, Nat.zero_le _, rfl, rfl, Lib.hid ⟨rfl, HB.out.2.2, Below.refl _ _⟩⟩
  case round =>
    obtain ⟨k, acc, hk, rfl, rfl, hg⟩ := hrel
    by_cases hlt : k < ws.length
    · have c0 := (hg.out.2.2.cell (p := ⟨w.heap.size, k, none⟩) HB.out.2.1).trans (HB.out.1 k hlt)
      have C := Lib.hid (HW.out k hlt _ hg.out.2.1)
      have hdr : ws.drop k = ws[k] :: ws.drop (k + 1) := List.drop_eq_getElem_cons hlt
      have HD := Lib.hid hdr
      clear hdr HW
      generalize ws[k] = x at *
      cases hv : Tx.pV wrap64 x with
      | none =>
        rw [word_none hv] at C
        have hans : Tx.ansM s.data.toList (Tx.pT wrap64 s.data.toList) = (0, 3) := by
          rw [HT.out, hg.out.1, HD.out, Tx.pSum, hv]; rfl
        have HN := Lib.hid hans
        have hwg := Lib.hid hg.out.2.1
        clear hans hv hg HT HF HD
        go_wp2_with fail
        refine C.out.mono ?_
        rintro e w2 ⟨rfl, hb2⟩
        have hw2 := below_step hwg.out hb2
        clear hb2 c0
        go_wp2
        go_ret2
        refine ⟨?_, hw2⟩
        rw [HN.out]
        rfl
      | some v =>
        rw [word_some hv] at C
        have hnx : Tx.pSum wrap64 0 ws = Tx.pSum wrap64 (wrap64 (acc + v)) (ws.drop (k + 1)) := by
          rw [hg.out.1, HD.out, Tx.pSum, hv]
        have HN := Lib.hid hnx
        have hwg := Lib.hid hg.out.2
        clear hnx hv hg HT HF HD
        go_wp2_with fail
        refine C.out.mono ?_
        rintro e w2 ⟨rfl, hb2⟩
        have hw2 := Lib.hid (And.intro (below_step hwg.out.1 hb2) (below_step hwg.out.2 hb2))
        clear hb2 c0 hwg
        go_wp2
        go_roundw
        case rel => exact ⟨k + 1, wrap64 (acc + v), by omega, by go_num, rfl, Lib.hid ⟨HN.out, hw2.out.1, hw2.out.2⟩⟩
        case measure => simp [intOf]; omega
    · obtain rfl : k = ws.length := by omega
      have hsum : Tx.pSum wrap64 0 ws = some acc := by rw [hg.out.1, List.drop_length, Tx.pSum]
      have hw := Lib.hid hg.out.2.1
      have HT2 : Hid (Tx.pT wrap64 s.data.toList = some (if Tx.isNeg s.data.toList = true then wrap64 (-acc) else acc)) := Lib.hid (by rw [HT.out, hsum]; rfl)
      clear hsum hg HT HW HB
      cases hneg : Tx.isNeg s.data.toList with
      | false =>
        rw [hneg] at HT2
        have hp2 : Tx.pT wrap64 s.data.toList = some (acc) := HT2.out
        have C := Lib.hid (HF.out (acc) _ hw.out)
        have HP2 := Lib.hid hp2
        clear hp2 HT2 hneg HF
        by_cases hi : Tx.inM acc = true
        case neg =>
          have hans : Tx.ansM s.data.toList (Tx.pT wrap64 s.data.toList) = (0, 3) := by
            rw [HP2.out]
            show (if Tx.okM s.data.toList acc = true then _ else _) = _
            rw [if_neg (by unfold Tx.okM; simp [hi])]
          rw [if_neg hi, if_neg hi] at C
          have HN := Lib.hid hans
          clear hans hi HP2
          go_wp2_with fail
          refine C.out.mono ?_
          rintro e w2 ⟨rfl, hb2⟩
          have hw2 := below_step hw.out hb2
          clear hb2
          go_wp2
          go_ret2
          refine ⟨?_, hw2⟩
          rw [HN.out]
          rfl
        rw [if_pos hi, if_pos hi] at C
        by_cases he : Tx.fmtM acc = s.data.toList
        case neg =>
          have hans : Tx.ansM s.data.toList (Tx.pT wrap64 s.data.toList) = (0, 3) := by
            rw [HP2.out]
            show (if Tx.okM s.data.toList acc = true then _ else _) = _
            rw [if_neg (by unfold Tx.okM; simp [he])]
          have HN := Lib.hid hans
          have q1 : (Tx.fmtM acc == s.toList) = false := by rw [toList_data]; simpa using he
          have q2 : (Tx.fmtM acc != s.toList) = true := by rw [toList_data]; simpa using he
          clear hans hi he HP2
          generalize Tx.fmtM acc = tx at *
          go_wp2_with fail
          refine C.out.mono ?_
          rintro e w2 ⟨rfl, hb2⟩
          have hw2 := below_step hw.out hb2
          clear hb2
          go_wp2
          go_ret2
          refine ⟨?_, hw2⟩
          rw [HN.out]
          rfl
        have hans : Tx.ansM s.data.toList (Tx.pT wrap64 s.data.toList) = (acc, 0) := by
          rw [HP2.out]
          show (if Tx.okM s.data.toList acc = true then _ else _) = _
          rw [if_pos (by unfold Tx.okM; simp [he, hi])]
        have HN := Lib.hid hans
        have q1 : (Tx.fmtM acc == s.toList) = true := by rw [toList_data]; simpa using he
        have q2 : (Tx.fmtM acc != s.toList) = false := by rw [toList_data]; simpa using he
        clear hans hi he HP2
        generalize Tx.fmtM acc = tx at *
        go_wp2_with fail
        refine C.out.mono ?_
        rintro e w2 ⟨rfl, hb2⟩
        have hw2 := below_step hw.out hb2
        clear hb2
        go_wp2
        go_ret2
        refine ⟨?_, hw2⟩
        rw [HN.out]
        rfl
      | true =>
        rw [hneg] at HT2
        have hp2 : Tx.pT wrap64 s.data.toList = some (wrap64 (-acc)) := HT2.out
        have C := Lib.hid (HF.out (wrap64 (-acc)) _ hw.out)
        have HP2 := Lib.hid hp2
        clear hp2 HT2 hneg HF
        by_cases hi : Tx.inM (wrap64 (-acc)) = true
        case neg =>
          have hans : Tx.ansM s.data.toList (Tx.pT wrap64 s.data.toList) = (0, 3) := by
            rw [HP2.out]
            show (if Tx.okM s.data.toList (wrap64 (-acc)) = true then _ else _) = _
            rw [if_neg (by unfold Tx.okM; simp [hi])]
          rw [if_neg hi, if_neg hi] at C
          have HN := Lib.hid hans
          clear hans hi HP2
          go_wp2_with fail
          refine C.out.mono ?_
          rintro e w2 ⟨rfl, hb2⟩
          have hw2 := below_step hw.out hb2
          clear hb2
          go_wp2
          go_ret2
          refine ⟨?_, hw2⟩
          rw [HN.out]
          rfl
        rw [if_pos hi, if_pos hi] at C
        by_cases he : Tx.fmtM (wrap64 (-acc)) = s.data.toList
        case neg =>
          have hans : Tx.ansM s.data.toList (Tx.pT wrap64 s.data.toList) = (0, 3) := by
            rw [HP2.out]
            show (if Tx.okM s.data.toList (wrap64 (-acc)) = true then _ else _) = _
            rw [if_neg (by unfold Tx.okM; simp [he])]
          have HN := Lib.hid hans
          have q1 : (Tx.fmtM (wrap64 (-acc)) == s.toList) = false := by rw [toList_data]; simpa using he
          have q2 : (Tx.fmtM (wrap64 (-acc)) != s.toList) = true := by rw [toList_data]; simpa using he
          clear hans hi he HP2
          generalize Tx.fmtM (wrap64 (-acc)) = tx at *
          go_wp2_with fail
          refine C.out.mono ?_
          rintro e w2 ⟨rfl, hb2⟩
          have hw2 := below_step hw.out hb2
          clear hb2
          go_wp2
          go_ret2
          refine ⟨?_, hw2⟩
          rw [HN.out]
          rfl
        have hans : Tx.ansM s.data.toList (Tx.pT wrap64 s.data.toList) = (wrap64 (-acc), 0) := by
          rw [HP2.out]
          show (if Tx.okM s.data.toList (wrap64 (-acc)) = true then _ else _) = _
          rw [if_pos (by unfold Tx.okM; simp [he, hi])]
        have HN := Lib.hid hans
        have q1 : (Tx.fmtM (wrap64 (-acc)) == s.toList) = true := by rw [toList_data]; simpa using he
        have q2 : (Tx.fmtM (wrap64 (-acc)) != s.toList) = false := by rw [toList_data]; simpa using he
        clear hans hi he HP2
        generalize Tx.fmtM (wrap64 (-acc)) = tx at *
        go_wp2_with fail
        refine C.out.mono ?_
        rintro e w2 ⟨rfl, hb2⟩
        have hw2 := below_step hw.out hb2
        clear hb2
        go_wp2
        go_ret2
        refine ⟨?_, hw2⟩
        rw [HN.out]
        rfl
end Go.Proofs.YtcljpklgpedolaaGreatDoor
