/- LotCompares returns true, whatever the genealogy, the numbers and the fraction. -/
import Derived.Test.YtccjbefmcifaeaaCmpSh
import Derived.Test.YtccjbefmcifaeaaLong
namespace Go.Proofs.Ytccjbefmcifaeaa
open Go.RowKit

theorem sh_valid {ls : List Lt.L} {n m : Int} (h : shE ls n m = 0) : numE ls [n, m] = 0 ∧ ∃ s' d' g : Nat, 0 < g ∧ shN ls n m = s' ∧ shD ls n m = d' ∧ 1 ≤ d' ∧ d' ≤ 1048576 ∧ s' ≤ d' ∧ Nat.gcd s' d' = 1 ∧
    Sh.S ls (oneO n.toNat) m.toNat = g * s' ∧ Sh.D ls (m.toNat + 1) = g * d' := by
  have hz : numE ls [n, m] = 0 := by
    unfold shE at h
    by_cases hz : numE ls [n, m] = 0
    · exact hz
    · rw [if_neg hz] at h; exact absurd h hz
  refine ⟨hz, ?_⟩
  obtain ⟨h0, ⟨h1, h2⟩, h3, h4⟩ := numE_zero2 hz
  obtain ⟨hl, herr, _⟩ := Lt.valE_zero h0
  have hle := Sh.S_le (early_of herr) (oneO n.toNat) m.toNat (by omega)
  have hd := Sh.D_pos ls (m.toNat + 1)
  unfold shE at h
  unfold shN shD
  rw [if_pos hz] at h
  rw [if_pos hz, if_pos hz]
  generalize Sh.S ls (oneO n.toNat) m.toNat = s at *
  generalize Sh.D ls (m.toNat + 1) = d at *
  have hb : d / Nat.gcd s d ≤ 1048576 := by
    rcases Nat.lt_or_ge 1048576 (d / Nat.gcd s d) with hx | hx
    · unfold Rd.rE at h; rw [if_neg (by omega)] at h; cases h
    · exact hx
  have hg : 0 < Nat.gcd s d := Nat.gcd_pos_of_pos_right _ hd
  refine ⟨s / Nat.gcd s d, d / Nat.gcd s d, Nat.gcd s d, hg, ?_, ?_, ?_, hb, Nat.div_le_div_right hle, Nat.gcd_div_gcd_div_gcd_of_pos_right hd, ?_, ?_⟩
  · unfold Rd.rN; rw [if_pos hb]
  · unfold Rd.rD; rw [if_pos hb]
  · exact Nat.div_gcd_pos_of_pos_right _ hd
  · exact (Nat.mul_div_cancel' (Nat.gcd_dvd_left _ _)).symm
  · exact (Nat.mul_div_cancel' (Nat.gcd_dvd_right _ _)).symm
theorem sh_ok {ls : List Lt.L} {n m : Int} (h : shE ls n m = 0) : Fr.ok (shN ls n m) (shD ls n m) = true := by
  obtain ⟨_, s', d', g, hg, e1, e2, h1, h2, h3, h4, _⟩ := sh_valid h
  rw [e1, e2, Fr.ok_iff]
  exact ⟨by omega, by omega, by omega, by omega, by simpa using h4⟩
theorem cmp_agree {ls : List Lt.L} {n m rn rd : Int} (h : shE ls n m = 0) (hc : cmE ls n m rn rd = 0) : Fr.cmpE (shN ls n m) (shD ls n m) rn rd = 0 ∧ Fr.cmpN (shN ls n m) (shD ls n m) rn rd = cmR ls n m rn rd := by
  have hv := sh_ok h
  obtain ⟨hz, s', d', g, hg, e1, e2, h1, h2, h3, h4, e3, e4⟩ := sh_valid h
  have hk : Fr.ok rn rd = true := by
    unfold cmE at hc
    rw [if_pos hz] at hc
    cases hk : Fr.ok rn rd with
    | true => rfl
    | false => rw [hk, if_neg (by decide)] at hc; cases hc
  have hb : Fr.both (shN ls n m) (shD ls n m) rn rd = true := by unfold Fr.both; rw [hv, hk]; rfl
  obtain ⟨q1, q2⟩ := Fr.cmp_both hb
  refine ⟨q2, ?_⟩
  rw [q1]
  unfold cmR
  rw [if_pos hc, e1, e2, e3, e4]
  obtain ⟨k1, k2, k3, k4, _⟩ := Fr.ok_iff.1 hk
  unfold cmpV Fr.cmpI
  by_cases hn : rn < 0
  · rw [if_pos hn]
    have a1 : (0 : Int) ≤ (s' : Int) * rd := Int.mul_nonneg (by omega) (by omega)
    have a2 : rn * (d' : Int) < 0 := Int.mul_neg_of_neg_of_pos hn (by omega)
    rw [if_neg (by omega), if_pos (by omega)]
  · rw [if_neg hn]
    obtain ⟨a, rfl⟩ : ∃ a : Nat, rn = (a : Int) := ⟨rn.toNat, by omega⟩
    obtain ⟨b, rfl⟩ : ∃ b : Nat, rd = (b : Int) := ⟨rd.toNat, by omega⟩
    simp only [Int.toNat_natCast]
    have c1 : (s' : Int) * (b : Int) = ((s' * b : Nat) : Int) := by simp
    have c2 : (a : Int) * (d' : Int) = ((d' * a : Nat) : Int) := by rw [Int.natCast_mul, Int.mul_comm]
    rw [c1, c2]
    unfold cmpN
    have m1 : g * s' * b = g * (s' * b) := Nat.mul_assoc _ _ _
    have m2 : g * d' * a = g * (d' * a) := Nat.mul_assoc _ _ _
    rw [m1, m2]
    generalize s' * b = x at *
    generalize d' * a = y at *
    rcases Nat.lt_trichotomy x y with hh | hh | hh
    · rw [if_pos (by omega), if_pos (Nat.mul_lt_mul_of_pos_left hh hg)]
    · subst hh
      rw [if_neg (by omega), if_neg (by omega), if_neg (by omega), if_pos rfl]
    · have := Nat.mul_lt_mul_of_pos_left hh hg
      rw [if_neg (by omega), if_pos (by omega), if_neg (by omega), if_neg (by omega)]
theorem sh_bound (ls : List Lt.L) (n m : Int) : (-9223372036854775808 ≤ shN ls n m ∧ shN ls n m ≤ 9223372036854775807) ∧ -9223372036854775808 ≤ shD ls n m ∧ shD ls n m ≤ 9223372036854775807 := by
  by_cases h : shE ls n m = 0
  · obtain ⟨_, s', d', g, hg, e1, e2, h1, h2, h3, _⟩ := sh_valid h
    rw [e1, e2]; omega
  · unfold shE at h
    unfold shN shD
    by_cases hz : numE ls [n, m] = 0
    · rw [if_pos hz] at h
      rw [if_pos hz, if_pos hz]
      unfold Rd.rE at h
      unfold Rd.rN Rd.rD
      split at h
      · exact absurd rfl h
      · rename_i hx
        rw [if_neg hx, if_neg hx]; omega
    · rw [if_neg hz, if_neg hz]; omega

set_option maxRecDepth 20000 in
set_option maxHeartbeats 2000000 in
theorem compares_walk (v : Value) (ls : List Lt.L) (n m rn rd : Int) (w : World) (hv : Lots w v ls) (a1 : -9223372036854775808 ≤ rn) (a2 : rn ≤ 9223372036854775807) (a3 : -9223372036854775808 ≤ rd) (a4 : rd ≤ 9223372036854775807) :
    Calls Try.prog 6 #[v, .agg #[.int .i64 n, .int .i64 m], .agg #[.int .i64 rn, .int .i64 rd]] w fun e w' => e = .returned (.bool true) ∧ Below w.heap.size w w' := by
  have hw0 := below_alloc (below_alloc (Below.refl w.heap.size w) (.cells #[.int .i64 n, .int .i64 m] 41)) (.cells #[.int .i64 rn, .int .i64 rd] 43)
  have L := Lib.hid (long_any v ls _ (hv.all hw0))
  have bB := (BlockAt.new w #[.int .i64 n, .int .i64 m] 41).alloc (.cells #[.int .i64 rn, .int .i64 rd] 43)
  have bR := BlockAt.new (w.alloc (.cells #[.int .i64 n, .int .i64 m] 41)) #[.int .i64 rn, .int .i64 rd] 43
  simp only [World.size_alloc] at bR
  have HB := Lib.hid (And.intro bB (And.intro bR hw0))
  clear hw0 bB bR
  cases hb : longB ls with
  | true =>
    rw [hb] at L
    clear hb hv a1 a2 a3 a4
    go_enter Try.func6, Try.ntmps6
    go_wp2_with fail
    refine L.out.mono ?_
    rintro e w1 ⟨rfl, rfl⟩
    go_wp2_with fail
    refine (known_any _).mono ?_
    rintro e w2 ⟨rfl, hb2⟩
    have h2 := below_step HB.out.2.2 hb2
    go_wp2
    go_ret
    exact ⟨rfl, h2⟩
  | false =>
    rw [hb] at L
    have hsh := (longB_short hb).short
    have C1 := Lib.hid (fun W (hW : Below w.heap.size w W) => cmpSh_any v ls n m rn rd W (hv.all hW) hsh a1 a2 a3 a4)
    have C2 := Lib.hid (fun W (hW : Below w.heap.size w W) => refCmpSh_any v ls n m rn rd W (hv.all hW) hsh a1 a2 a3 a4)
    have C3 := Lib.hid (fun W (hW : Below w.heap.size w W) => share_any v ls n m W (hv.all hW) hsh)
    have sb := sh_bound ls n m
    have C4 := Lib.hid (fun W => numCompare_any (shN ls n m) (shD ls n m) rn rd W sb.1.1 sb.1.2 sb.2.1 sb.2.2 a1 a2 a3 a4)
    have AG := Lib.hid (fun h hc => cmp_agree (ls := ls) (n := n) (m := m) (rn := rn) (rd := rd) h hc)
    clear hb hv hsh a1 a2 a3 a4 sb
    generalize Fr.cmpN (shN ls n m) (shD ls n m) rn rd = cn at *
    generalize Fr.cmpE (shN ls n m) (shD ls n m) rn rd = ce at *
    generalize shN ls n m = s1 at *
    generalize shD ls n m = s2 at *
    generalize shE ls n m = e2 at *
    generalize cmR ls n m rn rd = r1 at *
    generalize cmE ls n m rn rd = e1 at *
    have q1 : (r1 != r1) = false := by simp
    have q2 : (e1 != e1) = false := by simp
    go_enter Try.func6, Try.ntmps6
    go_wp2_with fail
    refine L.out.mono ?_
    rintro e w1 ⟨rfl, rfl⟩
    have p0 := HB.out.1.cell 0
    have p1 := HB.out.1.cell 1
    have r0 := HB.out.2.1.cell 0
    have r1' := HB.out.2.1.cell 1
    go_wp2_with fail
    refine (C1.out _ HB.out.2.2).mono ?_
    rintro e w1 ⟨rfl, h1⟩
    have HB := Lib.hid (And.intro (HB.out.1.below h1 HB.out.1.lt) (And.intro (HB.out.2.1.below h1 HB.out.2.1.lt) (below_step HB.out.2.2 h1)))
    clear p0 p1 r0 r1' h1 C1
    have p0 := HB.out.1.cell 0
    have p1 := HB.out.1.cell 1
    have r0 := HB.out.2.1.cell 0
    have r1' := HB.out.2.1.cell 1
    go_wp2_with fail
    refine (C2.out _ HB.out.2.2).mono ?_
    rintro e w2 ⟨rfl, h1⟩
    have HB := Lib.hid (And.intro (HB.out.1.below h1 HB.out.1.lt) (And.intro (HB.out.2.1.below h1 HB.out.2.1.lt) (below_step HB.out.2.2 h1)))
    clear p0 p1 r0 r1' h1 C2
    have p0 := HB.out.1.cell 0
    have p1 := HB.out.1.cell 1
    go_wp2_with fail
    refine (C3.out _ HB.out.2.2).mono ?_
    rintro e w3 ⟨rfl, h1⟩
    have bS := BlockAt.new w3 #[.int .i64 s1, .int .i64 s2] 43
    have HB := Lib.hid (And.intro ((HB.out.2.1.below h1 HB.out.2.1.lt).alloc (.cells #[.int .i64 s1, .int .i64 s2] 43)) (below_alloc (below_step HB.out.2.2 h1) (.cells #[.int .i64 s1, .int .i64 s2] 43)))
    clear p0 p1 h1 C3
    have r0 := HB.out.1.cell 0
    have r1' := HB.out.1.cell 1
    have x0 := bS.cell 0
    have x1 := bS.cell 1
    clear bS
    go_wp2_with fail
    refine (C4.out _).mono ?_
    rintro e w4 ⟨rfl, h1⟩
    have h4 := below_step HB.out.2 h1
    clear r0 r1' x0 x1 h1 C4 HB
    by_cases z1 : e1 = 0
    · subst z1
      by_cases z2 : e2 = 0
      · subst z2
        obtain ⟨rfl, rfl⟩ := AG.out rfl rfl
        have q3 : (cn == cn) = true := by simp
        go_wp2_with fail
        refine (known_any _).mono ?_
        rintro e w7 ⟨rfl, h7⟩
        have h7 := below_step h4 h7
        go_wp2
        go_ret
        exact ⟨rfl, h7⟩
      · have q3 : (e2 != 0) = true := by simpa using z2
        clear z2 AG
        go_wp2_with fail
        refine (known_any _).mono ?_
        rintro e w7 ⟨rfl, h7⟩
        have h7 := below_step h4 h7
        go_wp2
        go_ret
        exact ⟨rfl, h7⟩
    · have q3 : (e1 != 0) = true := by simpa using z1
      clear z1 AG
      go_wp2_with fail
      refine (known_any _).mono ?_
      rintro e w7 ⟨rfl, h7⟩
      have h7 := below_step h4 h7
      go_wp2
      go_ret
      exact ⟨rfl, h7⟩
end Go.Proofs.Ytccjbefmcifaeaa
