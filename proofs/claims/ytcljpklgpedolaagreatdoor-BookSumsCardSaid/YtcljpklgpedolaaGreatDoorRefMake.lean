/- What the reference answers for fractions that are made. -/
import Derived.Test.YtcljpklgpedolaaGreatDoorValid
namespace Go.Proofs.YtcljpklgpedolaaGreatDoor
open Go.RowKit

theorem build_any (b : Bool) (n d : Nat) (w : World) (hn : n < 18446744073709551616) (hd2 : d < 18446744073709551616) (hd : 0 < d) :
    Calls Tryz.prog 119 #[.bool b, .int .u64 n, .int .u64 d] w fun e w' =>
      e = .returned (.tuple #[rat (Fr.nu (Fr.sgn b n) d) (Fr.de (Fr.sgn b n) d), .bool (decide (Fr.er (Fr.sgn b n) d = 0))]) ∧ Below w.heap.size w w' := by
  have hd0 : (d : Int) ≠ 0 := by omega
  obtain ⟨qu, hu⟩ := u64_quo n (Nat.gcd n d) (Fr.up (Fr.sgn b n) d) (by omega) (by unfold Fr.up; rw [Fr.sgn_natAbs]; rfl)
  obtain ⟨qv, hv⟩ := u64_quo d (Nat.gcd n d) (Fr.dn (Fr.sgn b n) d) (by omega) (by unfold Fr.dn; rw [Fr.sgn_natAbs]; rfl)
  have hp : 0 < Fr.dn (Fr.sgn b n) d := Fr.dn_pos hd0
  have hg : 0 < Nat.gcd n d := Nat.gcd_pos_of_pos_right _ hd
  by_cases hf : Fr.up (Fr.sgn b n) d ≤ 1099511627776 ∧ Fr.dn (Fr.sgn b n) d ≤ 1048576
  · obtain ⟨e0, e1, e2⟩ := made_fits hd0 hf
    rw [e0, e1, e2, Fr.sgn_sg b n d hd]
    obtain ⟨f1, f2⟩ := hf
    clear e0 e1 e2
    generalize hgg : Nat.gcd n d = g at *
    generalize Fr.up (Fr.sgn b n) d = u at *
    generalize Fr.dn (Fr.sgn b n) d = v at *
    have G := Lib.hid hgg
    clear hgg
    cases b
    all_goals
      go_enter Tryz.func119, Tryz.ntmps119
      go_wp2_with (go_at_call 117; refine (gcd_any _ _ _ hn hd2).mono ?_; rintro e w' ⟨rfl, nq, rfl⟩; rw [G.out])
      go_quiet (fail)
      go_wp2
      exact bodyPost_ret (v := .tuple #[.agg #[.int .i64 _, .int .i64 v], .bool true]) (by simp [results, Tryz.results119, go_sem]) rfl ⟨rfl, by repeat' (first | exact Below.refl _ _ | apply below_drewN | refine Below.setCell ?_ (by simp) _ | refine Below.alloc ?_ (by simp) _)⟩
  · obtain ⟨e0, e1, e2⟩ := made_large hd0 hf
    rw [e0, e1, e2]
    clear e0 e1 e2
    generalize hgg : Nat.gcd n d = g at *
    generalize Fr.up (Fr.sgn b n) d = u at *
    generalize Fr.dn (Fr.sgn b n) d = v at *
    have G := Lib.hid hgg
    clear hgg
    by_cases f1 : u ≤ 1099511627776
    all_goals
      go_enter Tryz.func119, Tryz.ntmps119
      go_wp2_with (go_at_call 117; refine (gcd_any _ _ _ hn hd2).mono ?_; rintro e w' ⟨rfl, nq, rfl⟩; rw [G.out])
      go_quiet (fail)
      go_wp2
      exact bodyPost_ret (v := .tuple #[rat 0 0, .bool false]) (by simp [results, Tryz.results119, go_sem]) rfl ⟨rfl, by repeat' (first | exact Below.refl _ _ | apply below_drewN | refine Below.setCell ?_ (by simp) _ | refine Below.alloc ?_ (by simp) _)⟩

theorem ref_make_any (n d : Int) (w : World) (n1 : -9223372036854775808 ≤ n) (n2 : n ≤ 9223372036854775807) (d1 : -9223372036854775808 ≤ d) (d2 : d ≤ 9223372036854775807) :
    Calls Tryz.prog 89 #[.int .i64 n, .int .i64 d] w fun e w' => e = .returned (.tuple #[rat (Fr.nu n d) (Fr.de n d), .int .i64 (Fr.er n d)]) ∧ Below w.heap.size w w' := by
  by_cases hd : d = 0
  · have he := Fr.er_zero n hd
    have h0 : (d == 0) = true := by simp [hd]
    have e1 : Fr.nu n d = 0 := Fr.nu_of (by rw [he]; decide)
    have e2 : Fr.de n d = 0 := Fr.de_of (by rw [he]; decide)
    rw [e1, e2, he]
    clear hd he e1 e2
    go_enter Tryz.func89, Tryz.ntmps89
    go_wp2
    exact bodyPost_ret (v := .tuple #[rat 0 0, .int .i64 1]) (by simp [results, Tryz.results89, go_sem]) rfl ⟨rfl, ((Below.refl _ _).alloc (Nat.le_refl _) _)⟩
  · have h0 : (d == 0) = false := by simp [hd]
    obtain ⟨m1, m2, m3⟩ := Fr.sgn_made n d hd
    have hp : 0 < d.natAbs := by omega
    have hl : Fr.er n d ≠ 0 → Fr.er n d = 4 := by
      intro h
      rcases Fr.er_cases n d with h' | h' | h'
      · exact absurd h' h
      · unfold Fr.er at h'; rw [if_neg hd] at h'; split at h' <;> omega
      · exact h'
    have hb : Calls Tryz.prog 119 #[.bool (!(decide (n < 0) == decide (d < 0))), .int .u64 n.natAbs, .int .u64 d.natAbs] (w.alloc (.cells #[.int .i64 0, .int .i64 0] 70)) fun e w' =>
      e = .returned (.tuple #[rat (Fr.nu n d) (Fr.de n d), .bool (decide (Fr.er n d = 0))]) ∧ Below (w.heap.size + 1) (w.alloc (.cells #[.int .i64 0, .int .i64 0] 70)) w' := by
      have := build_any (decide (n < 0) != decide (d < 0)) n.natAbs d.natAbs (w.alloc (.cells #[.int .i64 0, .int .i64 0] 70)) (by omega) (by omega) hp
      rw [m1, m2, m3] at this
      rw [World.size_alloc] at this
      exact this
    have hz : Fr.er n d ≠ 0 → Fr.nu n d = 0 ∧ Fr.de n d = 0 := fun h => ⟨Fr.nu_of h, Fr.de_of h⟩
    have HB := Lib.hid hb
    clear m1 m2 m3 hb
    generalize Fr.nu n d = x at *
    generalize Fr.de n d = y at *
    generalize Fr.er n d = z at *
    by_cases h : z = 0
    · subst h
      clear hl hz
      go_enter Tryz.func89, Tryz.ntmps89
      go_wp2_with (first
        | (go_at_call 118; refine (size_any _ _ (by assumption) (by assumption)).mono ?_; rintro e w' ⟨rfl, rfl⟩))
      refine HB.out.mono ?_
      rintro e w1 ⟨rfl, hb1⟩
      obtain ⟨c0, c1, f0, f1, hz⟩ := (RatAt.fresh w 0 0 70).keep hb1 (by omega)
      have hs1 : w.heap.size ≤ w1.heap.size := by omega
      go_wp2
      refine bodyPost_ret (v := .tuple #[rat x y, .int .i64 0]) (by simp [results, Tryz.results89, go_sem, c0, c1, hz]) rfl ⟨rfl, ?_⟩
      have hb : Below w.heap.size w w1 := ((Below.refl _ _).alloc (Nat.le_refl _) _).trans (hb1.mono (by omega))
      repeat' (first | exact hb | refine Below.setCell ?_ (by simp) _ | refine Below.alloc ?_ (by simp; omega) _)
    · obtain ⟨rfl, rfl⟩ := hz h
      obtain rfl := hl h
      clear hl hz h
      go_enter Tryz.func89, Tryz.ntmps89
      go_wp2_with (first
        | (go_at_call 118; refine (size_any _ _ (by assumption) (by assumption)).mono ?_; rintro e w' ⟨rfl, rfl⟩))
      refine HB.out.mono ?_
      rintro e w1 ⟨rfl, hb1⟩
      obtain ⟨c0, c1, f0, f1, hz⟩ := (RatAt.fresh w 0 0 70).keep hb1 (by omega)
      have hs1 : w.heap.size ≤ w1.heap.size := by omega
      go_wp2
      refine bodyPost_ret (v := .tuple #[rat 0 0, .int .i64 4]) (by simp [results, Tryz.results89, go_sem, c0, c1, hz]) rfl ⟨rfl, ?_⟩
      have hb : Below w.heap.size w w1 := ((Below.refl _ _).alloc (Nat.le_refl _) _).trans (hb1.mono (by omega))
      repeat' (first | exact hb | refine Below.setCell ?_ (by simp) _ | refine Below.alloc ?_ (by simp; omega) _)
end Go.Proofs.YtcljpklgpedolaaGreatDoor
