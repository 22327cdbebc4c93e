/- Sums of money that are written. -/
import Derived.Test.YtcljpklgpedolaaGreatDoorText4
import Derived.Deep.CutRange
namespace Go.Proofs.YtcljpklgpedolaaGreatDoor
open Go.RowKit Go.Sort
namespace Tx
theorem join_len (c : UInt8) (ws : List (List UInt8)) : (Lib.join ws [c]).length ≤ (ws.map fun w => w.length + 1).sum := by
  induction ws with
  | nil => simp [Lib.join, List.intercalate]
  | cons w r ih =>
    cases r with
    | nil => rw [Lib.join_one]; simp
    | cons x r =>
      have e : Lib.join (w :: x :: r) [c] = w ++ c :: Lib.join (x :: r) [c] := by unfold Lib.join List.intercalate; simp
      rw [e]
      simp only [List.length_append, List.length_cons, List.map_cons, List.sum_cons] at ih ⊢
      omega
theorem dec_len19 {a : Nat} (h : a < 10000000000000000000) : (Lib.decDigits a).length ≤ 19 := dec_len 18 a (by
  have : (10 : Nat) ^ (18 + 1) = 10000000000000000000 := by decide
  omega)
theorem unit_sum {a : Nat} {c : UInt8} (h : a < 10000000000000000000) : ((unit a c).map fun w => w.length + 1).sum ≤ 21 := by
  have := dec_len19 h
  unfold unit
  split <;> simp
  omega
theorem mW_join_len {n : Nat} (h : n < 10000000000000000000) : (Lib.join (mW n) [32]).length ≤ 63 := by
  have h1 := unit_sum (a := n / 240) (c := 108) (by omega)
  have h2 := unit_sum (a := n / 12 % 20) (c := 115) (by omega)
  have h3 := unit_sum (a := n % 12) (c := 100) (by omega)
  have := join_len 32 (mW n)
  unfold mW at this ⊢
  rw [List.map_append, List.map_append, List.sum_append, List.sum_append] at this
  omega
/-- The words, each behind a space. -/
def pre (ws : List (List UInt8)) : List UInt8 := ws.flatMap fun w => 32 :: w
theorem pre_join (ws : List (List UInt8)) (h : ws ≠ []) : pre ws = 32 :: Lib.join ws [32] := by
  induction ws with
  | nil => exact absurd rfl h
  | cons w r ih =>
    cases r with
    | nil => rw [Lib.join_one]; simp [pre]
    | cons x r =>
      have e : Lib.join (w :: x :: r) [32] = w ++ 32 :: Lib.join (x :: r) [32] := by unfold Lib.join List.intercalate; simp
      rw [e, show pre (w :: x :: r) = 32 :: w ++ pre (x :: r) by simp [pre], ih (by simp)]
      simp
theorem pre_append (a b : List (List UInt8)) : pre (a ++ b) = pre a ++ pre b := by simp [pre]
end Tx

theorem OwnS.grow {base : Nat} {w w' : World} {v : Value} {ss : List (List UInt8)} (h : OwnS base w v ss) (hb : Below w.heap.size w w') : OwnS base w' v ss := by
  obtain ⟨h0, h1 | ⟨g, cap, cur, h1, h2, h3, h4⟩⟩ := h
  · exact ⟨h0, .inl h1⟩
  · have hg : g < w.heap.size := (Array.getElem?_eq_some_iff.1 h3).1
    exact ⟨h0, .inr ⟨g, cap, cur, h1, h2, by rw [hb.block g hg]; exact h3, h4⟩⟩

set_option maxRecDepth 20000 in
theorem unit_any (v : Value) (ss : List (List UInt8)) (a : Nat) (c : UInt8) (w : World) (base : Nat) (hE : Env w) (hB : base ≤ w.heap.size) (hown : OwnS base w v ss) (ha : a < 1000000000000000000) (hn : ss.length ≤ 10) :
    Calls Tryz.prog 101 #[v, .int .i64 (a : Int), .string ⟨[c].toArray⟩] w fun e w' => ∃ v', e = .returned v' ∧ OwnS base w' v' (ss ++ Tx.unit a c) ∧ Below base w w' := by
  obtain ⟨i0, hi, hz0, hz1, hz2⟩ := info_parts infoStr
  by_cases h0 : a = 0
  · subst h0
    have hu : Hid (ss ++ Tx.unit 0 c = ss) := Lib.hid (by simp [Tx.unit])
    go_enter Tryz.func101, Tryz.ntmps101
    go_wp2
    go_ret
    exact ⟨_, rfl, by rw [hu.out]; exact hown, Below.refl _ _⟩
  · have hu : Hid (Tx.unit a c = [Lib.decDigits a ++ [c]]) := Lib.hid (by unfold Tx.unit; rw [if_neg h0])
    have h1 : ((a : Int) == 0) = false := beq_eq_false_iff_ne.2 (by omega)
    have I := Lib.hid (itoa_any (a : Int) w hE (by omega) (by omega))
    rw [Tx.itoa_nat] at I
    have HX := Lib.hid (bytes_append (Lib.decDigits a) [c])
    have hlen := Tx.dec_len19 (a := a) (by omega)
    clear h0 hE ha
    generalize Lib.decDigits a = x at *
    go_enter Tryz.func101, Tryz.ntmps101
    go_wp2_with fail
    refine I.out.mono ?_
    rintro e w1 ⟨rfl, hb1⟩
    have hown1 := hown.grow hb1
    have hs1 := hb1.size
    clear hown
    go_wp2_with (at_builtin; refine wpList_append_own _ rfl _ _ 44 rfl base 9 i0 (.string ⟨#[]⟩) 1 16 Tryz.underlying44 hi hz0 hz1 hz2 rfl (by decide) _ _ _ rfl (hown1.alloc _) ⟨_, 0, none⟩ 1 1 (strL (x ++ [c])) rfl rfl (by rw [HX.out]; exact strL_at _ _ _) (strL_one _) (by unfold maxLen; omega) (by omega) (by simp; omega) ?_)
    intro v' w2 hown2 hgrow _
    have hx := OwnS.pushed hown2
    have hw2 : Below base w w2 := ((hb1.mono hB).alloc (by omega) (.cells #[.string ((⟨x.toArray⟩ : ByteArray) ++ ⟨[c].toArray⟩)] 9)).grown hgrow (by simp; omega) (fun j e => (World.ownsRow.lt hown1 j e).1)
    clear hown2 hgrow hown1 hb1
    go_wp2
    go_ret
    exact ⟨_, rfl, by rw [hu.out]; exact hx, hw2⟩
def MonSays (p : Int) (w : World) (e : Ending) (w' : World) : Prop := e = .returned (.tuple #[.string ⟨(if Tx.inM p = true then Tx.fmtM p else []).toArray⟩, .int .i64 (if Tx.inM p = true then 0 else 1)]) ∧ Below w.heap.size w w'
end Go.Proofs.YtcljpklgpedolaaGreatDoor
