/- What the program and the reference answer for fractions that are made and for valid fractions. -/
import Derived.Test.YtcljpklgpedolaaGreatDoorBase
namespace Go.Proofs.YtcljpklgpedolaaGreatDoor
open Go.RowKit

theorem below_drewN {B : Nat} {a w : World} (h : Below B a w) (n : Nat) : Below B a (w.drewN n) := ⟨h.os, h.tape, h.output, h.size, h.block⟩

/-- A fraction as a value; with an error behind it. -/
abbrev rat (n d : Int) : Value := .agg #[.int .i64 n, .int .i64 d]

/-- A fraction lies at the head of a block, and is not shut. -/
def RatAt (w : World) (b : Nat) (x y : Int) : Prop :=
  w.cell? ⟨b, 0, none⟩ = some (.int .i64 x) ∧ w.cell? ⟨b, 1, none⟩ = some (.int .i64 y) ∧ w.frozen? ⟨b, 0, none⟩ = false ∧ w.frozen? ⟨b, 1, none⟩ = false ∧ b < w.heap.size
theorem RatAt.fresh (w : World) (x y : Int) (t : TypeId) : RatAt (w.alloc (.cells #[.int .i64 x, .int .i64 y] t)) w.heap.size x y :=
  ⟨World.cell?_alloc_new _ _ _ _, World.cell?_alloc_new _ _ _ _, by simp [go_sem], by simp [go_sem], by simp⟩
theorem RatAt.keep {w w2 : World} {b : Nat} {x y : Int} {B : Nat} (h : RatAt w b x y) (hb : Below B w w2) (hB : b < B) : RatAt w2 b x y :=
  ⟨(hb.cell (p := ⟨b, 0, none⟩) hB).trans h.1, (hb.cell (p := ⟨b, 1, none⟩) hB).trans h.2.1, (hb.frozen (p := ⟨b, 0, none⟩) hB).trans h.2.2.1, (hb.frozen (p := ⟨b, 1, none⟩) hB).trans h.2.2.2.1, Nat.lt_of_lt_of_le h.2.2.2.2 hb.size⟩
theorem RatAt.all {w w2 : World} {b : Nat} {x y : Int} (h : RatAt w b x y) (hb : Below w.heap.size w w2) : RatAt w2 b x y := h.keep hb h.2.2.2.2
theorem RatAt.alloc {w : World} {b : Nat} {x y : Int} (h : RatAt w b x y) (o : Obj) : RatAt (w.alloc o) b x y :=
  h.keep ((Below.refl _ _).alloc (Nat.le_refl _) _) h.2.2.2.2
theorem RatAt.drewN {w : World} {b : Nat} {x y : Int} (h : RatAt w b x y) (n : Nat) : RatAt (w.drewN n) b x y := h

theorem u64_quo (a g u : Nat) (ha : a < 18446744073709551616) (h : a / g = u) : IntKind.u64.wrap ((a : Int) / (g : Int)) = u ∧ u ≤ a := by
  have h1 : (a : Int) / (g : Int) = u := by rw [← h]; exact (Int.natCast_ediv _ _).symm
  have h2 : u ≤ a := by rw [← h]; exact Nat.div_le_self _ _
  rw [h1]
  simp [IntKind.wrap, IntKind.bits, IntKind.signed]
  omega

/-- What is made of two numbers, the second one not 0, out of the reduced parts. -/
theorem made_large {n d : Int} (hd : d ≠ 0) (h : ¬ (Fr.up n d ≤ 1099511627776 ∧ Fr.dn n d ≤ 1048576)) : Fr.er n d = 4 ∧ Fr.nu n d = 0 ∧ Fr.de n d = 0 := by
  have e : Fr.er n d = 4 := by unfold Fr.er; rw [if_neg hd, if_neg h]
  exact ⟨e, Fr.nu_of (by rw [e]; decide), Fr.de_of (by rw [e]; decide)⟩
theorem made_fits {n d : Int} (hd : d ≠ 0) (h : Fr.up n d ≤ 1099511627776 ∧ Fr.dn n d ≤ 1048576) : Fr.er n d = 0 ∧ Fr.nu n d = Fr.sg n d ∧ Fr.de n d = Fr.dn n d := by
  have e : Fr.er n d = 0 := by unfold Fr.er; rw [if_neg hd, if_pos h]
  exact ⟨e, Fr.nu_ok e, Fr.de_ok e⟩

theorem make_any (n d : Int) (w : World) (n1 : -9223372036854775808 ≤ n) (n2 : n ≤ 9223372036854775807) (d1 : -9223372036854775808 ≤ d) (d2 : d ≤ 9223372036854775807) :
    Calls Tryz.prog 114 #[.int .i64 n, .int .i64 d] w fun e w' => e = .returned (.tuple #[rat (Fr.nu n d) (Fr.de n d), .int .i64 (Fr.er n d)]) ∧ Below w.heap.size w w' := by
  by_cases hd : d = 0
  · have he := Fr.er_zero n hd
    have h0 : (d == 0) = true := by simp [hd]
    have e1 : Fr.nu n d = 0 := Fr.nu_of (by rw [he]; decide)
    have e2 : Fr.de n d = 0 := Fr.de_of (by rw [he]; decide)
    rw [e1, e2, he]
    clear hd he e1 e2
    go_enter Tryz.func114, Tryz.ntmps114
    go_wp2
    exact bodyPost_ret (v := .tuple #[rat 0 0, .int .i64 1]) (by simp [results, Tryz.results114, go_sem]) rfl ⟨rfl, ((Below.refl _ _).alloc (Nat.le_refl _) _)⟩
  · have h0 : (d == 0) = false := by simp [hd]
    obtain ⟨qu, hu⟩ := u64_quo n.natAbs (Nat.gcd n.natAbs d.natAbs) (Fr.up n d) (by omega) rfl
    obtain ⟨qv, hv⟩ := u64_quo d.natAbs (Nat.gcd n.natAbs d.natAbs) (Fr.dn n d) (by omega) rfl
    have hp : 0 < Fr.dn n d := Fr.dn_pos hd
    have hg : 0 < Nat.gcd n.natAbs d.natAbs := Fr.gpos hd
    by_cases hf : Fr.up n d ≤ 1099511627776 ∧ Fr.dn n d ≤ 1048576
    · obtain ⟨e0, e1, e2⟩ := made_fits hd hf
      rw [e0, e1, e2]
      obtain ⟨f1, f2⟩ := hf
      have hs : Fr.sg n d = if (n < 0 ↔ d < 0) then (Fr.up n d : Int) else -(Fr.up n d : Int) := rfl
      have HS := Lib.hid hs
      clear e0 e1 e2 hs
      generalize hgg : Nat.gcd n.natAbs d.natAbs = g at *
      generalize Fr.sg n d = s at *
      generalize Fr.up n d = u at *
      generalize Fr.dn n d = v at *
      have G := Lib.hid hgg
      clear hgg
      rcases Bool.eq_false_or_eq_true (decide (n < 0)) with a' | a' <;> rcases Bool.eq_false_or_eq_true (decide (d < 0)) with b' | b'
      all_goals
        have a := a'
        have b := b'
        simp only [decide_eq_true_eq, decide_eq_false_iff_not] at a b
        go_enter Tryz.func114, Tryz.ntmps114
        go_wp2_with (first
          | (go_at_call 113; refine (magnitude_any _ _ (by assumption) (by assumption)).mono ?_; rintro e w' ⟨rfl, rfl⟩)
          | (go_at_call 112; refine (divisor_any _ _ _ (by omega) (by omega)).mono ?_; rintro e w' ⟨rfl, nq, rfl⟩; rw [G.out]))
        refine bodyPost_ret (v := .tuple #[.agg #[.int .i64 _, .int .i64 v], .int .i64 0]) (by simp [results, Tryz.results114, go_sem]; rfl) rfl ⟨?_, ?_⟩
        · rw [HS.out]
          first | rw [if_pos (by omega)] | rw [if_neg (by omega)]
        · repeat' (first | exact Below.refl _ _ | apply below_drewN | refine Below.setCell ?_ (by simp) _ | refine Below.alloc ?_ (by simp) _)
    · obtain ⟨e0, e1, e2⟩ := made_large hd hf
      rw [e0, e1, e2]
      clear e0 e1 e2
      generalize hgg : Nat.gcd n.natAbs d.natAbs = g at *
      generalize Fr.up n d = u at *
      generalize Fr.dn n d = v at *
      have G := Lib.hid hgg
      clear hgg
      by_cases f1 : u ≤ 1099511627776
      all_goals
        go_enter Tryz.func114, Tryz.ntmps114
        go_wp2_with (first
          | (go_at_call 113; refine (magnitude_any _ _ (by assumption) (by assumption)).mono ?_; rintro e w' ⟨rfl, rfl⟩)
          | (go_at_call 112; refine (divisor_any _ _ _ (by omega) (by omega)).mono ?_; rintro e w' ⟨rfl, nq, rfl⟩; rw [G.out]))
        exact bodyPost_ret (v := .tuple #[rat 0 0, .int .i64 4]) (by simp [results, Tryz.results114, go_sem]) rfl ⟨rfl, by repeat' (first | exact Below.refl _ _ | apply below_drewN | refine Below.setCell ?_ (by simp) _ | refine Below.alloc ?_ (by simp) _)⟩
end Go.Proofs.YtcljpklgpedolaaGreatDoor
