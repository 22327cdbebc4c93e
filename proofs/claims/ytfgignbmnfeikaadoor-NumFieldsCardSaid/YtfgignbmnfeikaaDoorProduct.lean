/- What the reference answers for the product of two fractions that are given by their magnitudes. -/
import Derived.Test.YtfgignbmnfeikaaDoorProdN
import Derived.Test.YtfgignbmnfeikaaDoorSum
namespace Go.Proofs.YtfgignbmnfeikaaDoor
open Go.RowKit

theorem u64_div (a g u : Nat) (ha : a < 18446744073709551616) (h : a / g = u) : IntKind.u64.wrap ((a : Int) / (g : Int)) = u := (u64_quo a g u ha h).1

theorem le_div {k u v : Nat} (hu : 0 < u) : (k / u < v) ↔ ¬ (u * v ≤ k) := by
  rw [Nat.div_lt_iff_lt_mul hu, Nat.mul_comm]; omega

set_option maxRecDepth 20000 in
theorem product_any (b : Bool) (n d m e : Nat) (w : World) (hn : n ≤ 1099511627776) (hm : m ≤ 1099511627776) (hd : 0 < d) (hd2 : d ≤ 1099511627776) (he : 0 < e) (he2 : e ≤ 1099511627776)
    (h1 : Nat.gcd n d = 1) (h2 : Nat.gcd m e = 1) :
    Calls Tryd.prog 61 #[.bool b, .int .u64 n, .int .u64 d, .int .u64 m, .int .u64 e] w fun x w' =>
      x = .returned (.tuple #[rat (Fr.nu (Fr.sgn b (n * m)) ((d * e : Nat) : Int)) (Fr.de (Fr.sgn b (n * m)) ((d * e : Nat) : Int)), .int .i64 (Fr.er (Fr.sgn b (n * m)) ((d * e : Nat) : Int))]) ∧ Below w.heap.size w w' := by
  have hde : 0 < d * e := Nat.mul_pos hd he
  have hg : 0 < Nat.gcd n e := Nat.gcd_pos_of_pos_right _ he
  have hh : 0 < Nat.gcd m d := Nat.gcd_pos_of_pos_right _ hd
  by_cases hz : n = 0 ∨ m = 0
  · have hs : Fr.sgn b (n * m) = 0 := by
      have : n * m = 0 := by rcases hz with rfl | rfl <;> simp
      rw [this]; unfold Fr.sgn; split <;> rfl
    obtain ⟨e1, e2, e3⟩ := Fr.zero_made ((d * e : Nat) : Int) (by omega)
    rw [hs, e1, e2, e3]
    clear hs e1 e2 e3
    generalize hgg : Nat.gcd n e = g at *
    generalize hhh : Nat.gcd m d = h at *
    have G := Lib.hid hgg
    have H := Lib.hid hhh
    clear hgg hhh hde
    by_cases h0 : n = 0
    · have q0 : ((n : Int) == 0) = true := by simp [h0]
      clear hz h0 h1 h2
      go_enter Tryd.func61, Tryd.ntmps61
      go_wp2_with fail
      refine (gcd_any n e _ (by omega) (by omega)).mono ?_
      rintro x w' ⟨rfl, nq, rfl⟩
      go_wp2_with fail
      refine (gcd_any m d _ (by omega) (by omega)).mono ?_
      rintro x w' ⟨rfl, nr, rfl⟩
      go_wp2
      exact bodyPost_ret (v := .tuple #[rat 0 1, .int .i64 0]) (by simp [results, Tryd.results61, go_sem]) rfl ⟨rfl, by repeat' (first | exact Below.refl _ _ | apply below_drewN | refine Below.setCell ?_ (by simp) _ | refine Below.alloc ?_ (by simp) _)⟩
    · have q0 : ((n : Int) == 0) = false := by simp [h0]
      have q1 : ((m : Int) == 0) = true := by simp; omega
      clear hz h0 h1 h2
      go_enter Tryd.func61, Tryd.ntmps61
      go_wp2_with fail
      refine (gcd_any n e _ (by omega) (by omega)).mono ?_
      rintro x w' ⟨rfl, nq, rfl⟩
      go_wp2_with fail
      refine (gcd_any m d _ (by omega) (by omega)).mono ?_
      rintro x w' ⟨rfl, nr, rfl⟩
      go_wp2
      exact bodyPost_ret (v := .tuple #[rat 0 1, .int .i64 0]) (by simp [results, Tryd.results61, go_sem]) rfl ⟨rfl, by repeat' (first | exact Below.refl _ _ | apply below_drewN | refine Below.setCell ?_ (by simp) _ | refine Below.alloc ?_ (by simp) _)⟩
  · have q0 : ((n : Int) == 0) = false := by simp; omega
    have q1 : ((m : Int) == 0) = false := by simp; omega
    obtain ⟨c1, c2⟩ := Fr.cross b hd he h1 h2
    have hE := Fr.er_sgn b hd he h1 h2
    have a1 := u64_div n (Nat.gcd n e) _ (by omega) rfl
    have a2 := u64_div e (Nat.gcd n e) _ (by omega) rfl
    have a3 := u64_div m (Nat.gcd m d) _ (by omega) rfl
    have a4 := u64_div d (Nat.gcd m d) _ (by omega) rfl
    have s1 : 0 < n / Nat.gcd n e := Nat.div_gcd_pos_of_pos_left _ (by omega)
    have s2 : 0 < e / Nat.gcd n e := Nat.div_gcd_pos_of_pos_right _ he
    have s3 : 0 < m / Nat.gcd m d := Nat.div_gcd_pos_of_pos_left _ (by omega)
    have s4 : 0 < d / Nat.gcd m d := Nat.div_gcd_pos_of_pos_right _ hd
    have t1 : n / Nat.gcd n e ≤ n := Nat.div_le_self _ _
    have t2 : e / Nat.gcd n e ≤ e := Nat.div_le_self _ _
    have t3 : m / Nat.gcd m d ≤ m := Nat.div_le_self _ _
    have t4 : d / Nat.gcd m d ≤ d := Nat.div_le_self _ _
    have key : Fr.sgn b ((n / Nat.gcd n e) * (m / Nat.gcd m d)) * ((d * e : Nat) : Int) = Fr.sgn b (n * m) * (((d / Nat.gcd m d) * (e / Nat.gcd n e) : Nat) : Int) := by
      have hv := Fr.cross_val n d m e
      have : (((n / Nat.gcd n e) * (m / Nat.gcd m d) * (d * e) : Nat) : Int) = ((n * m * ((d / Nat.gcd m d) * (e / Nat.gcd n e)) : Nat) : Int) := by rw [hv]
      rw [Int.natCast_mul, Int.natCast_mul (n * m)] at this
      unfold Fr.sgn
      cases b
      · simpa using this
      · simp only [if_true, Int.neg_mul]; rw [this]
    have hd0 : ((d * e : Nat) : Int) ≠ 0 := by omega
    have hp : 0 < (d / Nat.gcd m d) * (e / Nat.gcd n e) := Nat.mul_pos s4 s2
    have mm := Fr.mk_congr (p := Fr.sgn b ((n / Nat.gcd n e) * (m / Nat.gcd m d))) (q := (((d / Nat.gcd m d) * (e / Nat.gcd n e) : Nat) : Int)) (n := Fr.sgn b (n * m)) (d := ((d * e : Nat) : Int)) (by omega) hd0 key
    clear key c1 c2
    have hlarge : Fr.er (Fr.sgn b (n * m)) ((d * e : Nat) : Int) ≠ 0 → Fr.nu (Fr.sgn b (n * m)) ((d * e : Nat) : Int) = 0 ∧ Fr.de (Fr.sgn b (n * m)) ((d * e : Nat) : Int) = 0 := fun h => ⟨Fr.nu_of h, Fr.de_of h⟩
    generalize Fr.er (Fr.sgn b (n * m)) ((d * e : Nat) : Int) = Z at *
    generalize Fr.nu (Fr.sgn b (n * m)) ((d * e : Nat) : Int) = X at *
    generalize Fr.de (Fr.sgn b (n * m)) ((d * e : Nat) : Int) = Y at *
    generalize hu : n / Nat.gcd n e = u at *
    generalize hy : e / Nat.gcd n e = y at *
    generalize hv : m / Nat.gcd m d = v at *
    generalize hx : d / Nat.gcd m d = x at *
    generalize hgg : Nat.gcd n e = g at *
    generalize hhh : Nat.gcd m d = h at *
    have G := Lib.hid hgg
    have H := Lib.hid hhh
    clear hgg hhh hu hy hv hx h1 h2 hde hd0
    have a5 : (1099511627776 : Int) / (u : Int) = ((1099511627776 / u : Nat) : Int) := (Int.natCast_ediv 1099511627776 u).symm
    have a6 : (1048576 : Int) / (x : Int) = ((1048576 / x : Nat) : Int) := (Int.natCast_ediv 1048576 x).symm
    have l5 := le_div (k := 1099511627776) (v := v) s1
    have l6 := le_div (k := 1048576) (v := y) s4
    have k5 : 1099511627776 / u ≤ 1099511627776 := Nat.div_le_self _ _
    have k6 : 1048576 / x ≤ 1048576 := Nat.div_le_self _ _
    generalize 1099511627776 / u = k at *
    generalize 1048576 / x = l at *
    by_cases f1 : u * v ≤ 1099511627776
    · have g5 : v ≤ k := by have := mt l5.1 (fun hc => hc f1); omega
      by_cases f2 : x * y ≤ 1048576
      · have g6 : y ≤ l := by have := mt l6.1 (fun hc => hc f2); omega
        rw [if_pos ⟨f1, f2⟩] at hE
        subst hE
        clear hlarge l5 l6
        obtain ⟨m0, m1, m2⟩ := mm
        have f3 : (u : Int) * (v : Int) ≤ 1099511627776 := by rw [← Int.natCast_mul]; omega
        have f4 : (x : Int) * (y : Int) ≤ 1048576 := by rw [← Int.natCast_mul]; omega
        have f5 : 0 ≤ (u : Int) * (v : Int) := by rw [← Int.natCast_mul]; omega
        have f6 : 0 ≤ (x : Int) * (y : Int) := by rw [← Int.natCast_mul]; omega
        have MK := Lib.hid (fun w => build_any b (u * v) (x * y) w (by omega) (by omega) hp)
        rw [m0, m1, m2, Int.natCast_mul, Int.natCast_mul] at MK
        clear m0 m1 m2 f1 f2
        go_enter Tryd.func61, Tryd.ntmps61
        go_wp2_with fail
        refine (gcd_any n e _ (by omega) (by omega)).mono ?_
        rintro r w' ⟨rfl, nq, rfl⟩
        rw [G.out]
        go_wp2_with fail
        refine (gcd_any m d _ (by omega) (by omega)).mono ?_
        rintro r w' ⟨rfl, nr, rfl⟩
        rw [H.out]
        go_wp2_with fail
        go_quiet (fail)
        go_wp2_with fail
        refine (MK.out _).mono ?_
        rintro r w1 ⟨rfl, hb1⟩
        obtain ⟨c0, c1, f7, f8, hz1⟩ := ((RatAt.fresh w 0 0 23).drewN _).all hb1
        have hbw : Below w.heap.size w w1 := (below_drewN ((Below.refl _ _).alloc (Nat.le_refl _) _) _).trans (hb1.mono (by show w.heap.size ≤ (w.alloc _).heap.size; simp))
        have hs1 : w.heap.size ≤ w1.heap.size := by omega
        go_wp2
        exact bodyPost_ret (v := .tuple #[rat X Y, .int .i64 0]) (by simp [results, Tryd.results61, go_sem, c0, c1, hz1]) rfl ⟨rfl, by repeat' (first | exact Below.refl _ _ | exact hbw | apply below_drewN | refine Below.setCell ?_ (by simp) _ | refine Below.alloc ?_ (by simp; try omega) _)⟩
      · have g6 : l < y := l6.2 f2
        rw [if_neg (fun hc => f2 hc.2)] at hE
        subst hE
        obtain ⟨rfl, rfl⟩ := hlarge (by decide)
        clear hlarge l5 l6 mm f1 f2
        go_enter Tryd.func61, Tryd.ntmps61
        go_wp2_with fail
        refine (gcd_any n e _ (by omega) (by omega)).mono ?_
        rintro r w' ⟨rfl, nq, rfl⟩
        rw [G.out]
        go_wp2_with fail
        refine (gcd_any m d _ (by omega) (by omega)).mono ?_
        rintro r w' ⟨rfl, nr, rfl⟩
        rw [H.out]
        go_wp2_with fail
        go_quiet (fail)
        go_wp2
        exact bodyPost_ret (v := .tuple #[rat 0 0, .int .i64 4]) (by simp [results, Tryd.results61, go_sem]) rfl ⟨rfl, by repeat' (first | exact Below.refl _ _ | exact hbw | apply below_drewN | refine Below.setCell ?_ (by simp) _ | refine Below.alloc ?_ (by simp; try omega) _)⟩
    · have g5 : k < v := l5.2 f1
      rw [if_neg (fun hc => f1 hc.1)] at hE
      subst hE
      obtain ⟨rfl, rfl⟩ := hlarge (by decide)
      clear hlarge l5 l6 mm f1
      go_enter Tryd.func61, Tryd.ntmps61
      go_wp2_with fail
      refine (gcd_any n e _ (by omega) (by omega)).mono ?_
      rintro r w' ⟨rfl, nq, rfl⟩
      rw [G.out]
      go_wp2_with fail
      refine (gcd_any m d _ (by omega) (by omega)).mono ?_
      rintro r w' ⟨rfl, nr, rfl⟩
      rw [H.out]
      go_wp2_with fail
      go_quiet (fail)
      go_wp2
      exact bodyPost_ret (v := .tuple #[rat 0 0, .int .i64 4]) (by simp [results, Tryd.results61, go_sem]) rfl ⟨rfl, by repeat' (first | exact Below.refl _ _ | apply below_drewN | refine Below.setCell ?_ (by simp) _ | refine Below.alloc ?_ (by simp; try omega) _)⟩
end Go.Proofs.YtfgignbmnfeikaaDoor
