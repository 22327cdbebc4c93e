/- LotSets returns true, whatever the genealogy and the numbers. -/
import Derived.Test.YtakccghmlcehnaaSets4
namespace Go.Proofs.Ytakccghmlcehnaa
open Go.RowKit

theorem srcR_len {ls : List Lt.L} (h : short ls) (n : Int) : (srcR ls n).length ≤ 1000 := by
  have := selK_len (srcP ls n.toNat) ls.length
  have := h.1
  unfold srcR
  split
  · omega
  · simp
theorem descR_len {ls : List Lt.L} (h : short ls) (n : Int) : (descR ls n).length ≤ 1000 := by
  have := selK_len (descP ls n.toNat) ls.length
  have := h.1
  unfold descR
  split
  · omega
  · simp
theorem selK_has {p : Nat → Bool} {k j : Nat} (h : j < k) : hasL (selK p k) j = p j := by
  unfold hasL selK
  rw [List.any_map]
  cases hp : p j with
  | true => exact List.any_eq_true.2 ⟨j, by simp [h, hp], by simp⟩
  | false =>
    rw [Bool.eq_false_iff]
    intro ha
    obtain ⟨x, hx, he⟩ := List.any_eq_true.1 ha
    have hxj : (x : Int) = (j : Int) := by simpa using he
    have : x = j := by omega
    subst this
    simp at hx
    rw [hp] at hx; simp at hx
/-- What the law asks of the four answers. -/
theorem sets_facts {ls : List Lt.L} {n m : Int} (h1 : numE ls [m] = 0) (h2 : numE ls [n] = 0) : numE ls [n, m] = 0 ∧ ∃ b x : Bool, decide (0 < pathsR ls n m) = b ∧ decide (0 < cmpR ls n m) = b ∧ (n != m) = x ∧ hasL (descR ls n) m = (b && x) := by
  obtain ⟨h0, a1, a2⟩ := numE_zero h1
  obtain ⟨_, b1, b2⟩ := numE_zero h2
  obtain ⟨hl, herr, _⟩ := Lt.valE_zero h0
  have hz : numE ls [n, m] = 0 := by
    rw [numE_two, if_pos h0, show inR ls n = true by unfold inR; simp; omega, show inR ls m = true by unfold inR; simp; omega]; rfl
  obtain ⟨i, rfl⟩ : ∃ i : Nat, n = (i : Int) := ⟨n.toNat, by omega⟩
  obtain ⟨q, rfl⟩ : ∃ i : Nat, m = (i : Int) := ⟨m.toNat, by omega⟩
  have hi : i < ls.length := by omega
  have hq : q < ls.length := by omega
  refine ⟨hz, decide (0 < pathsF ls i q), ((i : Int) != (q : Int)), ?_, ?_, rfl, ?_⟩
  · unfold pathsR; rw [if_pos hz]; rfl
  · unfold cmpR
    rw [if_pos hz, cmpN_zero]
    have h3 := (share_pos hl herr (i := i) q hq).trans (paths_pos hl herr hi hq).symm
    simp only [Int.toNat_natCast]
    by_cases hp : 0 < pathsF ls i q
    · have hS := h3.2 hp
      simp [hp, hS]
    · have hS : ¬ 0 < Sh.S ls (oneO i) q := fun h => hp (h3.1 h)
      have hS0 : Sh.S ls (oneO i) q = 0 := by omega
      rw [decide_eq_false hp]; simp [hS0]
  · unfold descR
    rw [if_pos h2, selK_has hq]
    unfold descP
    simp only [Int.toNat_natCast]
    rw [Bool.and_comm]
    congr 1
    by_cases e : q = i
    · subst e; simp
    · have : (i : Int) ≠ (q : Int) := by omega
      simp [e, this]

set_option maxRecDepth 20000 in
set_option maxHeartbeats 2000000 in
theorem sets_walk (v : Value) (ls : List Lt.L) (n m : Int) (w : World) (hv : Lots w v ls) :
    Calls Try.prog 9 #[v, .agg #[.int .i64 n, .int .i64 m]] w fun e w' => e = .returned (.bool true) ∧ Below w.heap.size w w' := by
  have hw0 := below_alloc (Below.refl w.heap.size w) (.cells #[.int .i64 n, .int .i64 m] 41)
  have L := Lib.hid (long_any v ls _ (hv.all hw0))
  have HW := Lib.hid hw0
  have HBB := Lib.hid (BlockAt.new w #[.int .i64 n, .int .i64 m] 41)
  clear hw0
  cases hb : longB ls with
  | true =>
    rw [hb] at L
    clear hb hv
    go_enter Try.func9, Try.ntmps9
    go_wp2_with fail
    refine L.out.mono ?_
    rintro e w1 ⟨rfl, rfl⟩
    go_wp2_with fail
    refine (known_any _).mono ?_
    rintro e w2 ⟨rfl, hb2⟩
    have h2 := below_step HW.out hb2
    go_wp2
    go_ret
    exact ⟨rfl, h2⟩
  | false =>
    rw [hb] at L
    have hsh := (longB_short hb).short
    have C1 := Lib.hid (fun W (hW : Below w.heap.size w W) => lotSources_any v ls m W (hv.all hW) hsh)
    have C2 := Lib.hid (fun W (hW : Below w.heap.size w W) => refSources_any v ls m W (hv.all hW) hsh)
    have C3 := Lib.hid (fun W (hW : Below w.heap.size w W) => lotDescend_any v ls n W (hv.all hW) hsh)
    have C4 := Lib.hid (fun W (hW : Below w.heap.size w W) => refDescend_any v ls n W (hv.all hW) hsh)
    have C5 := Lib.hid (fun W (hW : Below w.heap.size w W) => lotPaths_any v ls n m W (hv.all hW) hsh)
    have C6 := Lib.hid (fun W (hW : Below w.heap.size w W) => cmpShare_any v ls n m W (hv.all hW) hsh)
    have HL := Lib.hid (And.intro (srcR_len hsh m) (descR_len hsh n))
    have q1 : (numE ls [m] != numE ls [m]) = false := by simp
    have q2 : (numE ls [n] != numE ls [n]) = false := by simp
    have hF := @sets_facts ls n m
    generalize pathsR ls n m = pr at *
    generalize cmpR ls n m = cr at *
    generalize srcR ls m = xs at *
    generalize descR ls n = zs at *
    generalize numE ls [n, m] = e3 at *
    generalize numE ls [m] = e1 at *
    generalize numE ls [n] = e2 at *
    clear hb hv hsh
    by_cases hz1 : e1 = 0
    · by_cases hz2 : e2 = 0
      · obtain ⟨rfl, b, x, d1, d2, d3, d4⟩ := hF hz1 hz2
        subst hz1 hz2
        have HA := Lib.hid (fun y g U => has_any y zs m g U HL.out.2)
        generalize hasL zs m = h at *
        subst d4
        clear hF
        cases b <;> cases x
        all_goals
          go_enter Try.func9, Try.ntmps9
          go_wp2_with fail
          refine L.out.mono ?_
          rintro e w1 ⟨rfl, rfl⟩
          have p0 := HBB.out.cell 0
          have p1 := HBB.out.cell 1
          have g0 := HW.out
          go_wp2_with fail
          refine (C1.out _ g0).mono ?_
          rintro e y1 ⟨u1, rfl, hu, hb⟩
          have HBB := Lib.hid (HBB.out.below hb HBB.out.lt)
          have g1 := below_step g0 hb
          clear p0 p1
          clear g0 hb
          have p1 := HBB.out.cell 1
          have U1 := Lib.hid hu.ints
          clear hu
          go_wp2_with fail
          refine (C2.out _ g1).mono ?_
          rintro e y2 ⟨u2, rfl, hu, hb⟩
          have HBB := Lib.hid (HBB.out.below hb HBB.out.lt)
          have U1 := Lib.hid (U1.out.all hb)
          have g2 := below_step g1 hb
          clear p1
          clear g1 hb
          have p0 := HBB.out.cell 0
          have U2 := Lib.hid hu.ints
          clear hu
          go_wp2_with fail
          refine (C3.out _ g2).mono ?_
          rintro e y3 ⟨u3, rfl, hu, hb⟩
          have HBB := Lib.hid (HBB.out.below hb HBB.out.lt)
          have U1 := Lib.hid (U1.out.all hb)
          have U2 := Lib.hid (U2.out.all hb)
          have g3 := below_step g2 hb
          clear p0
          clear g2 hb
          have p0 := HBB.out.cell 0
          have U3 := Lib.hid hu.ints
          clear hu
          go_wp2_with fail
          refine (C4.out _ g3).mono ?_
          rintro e y4 ⟨u4, rfl, hu, hb⟩
          have HBB := Lib.hid (HBB.out.below hb HBB.out.lt)
          have U1 := Lib.hid (U1.out.all hb)
          have U2 := Lib.hid (U2.out.all hb)
          have U3 := Lib.hid (U3.out.all hb)
          have g4 := below_step g3 hb
          clear p0
          clear g3 hb
          have p0 := HBB.out.cell 0
          have p1 := HBB.out.cell 1
          have U4 := Lib.hid hu.ints
          clear hu
          go_wp2_with fail
          refine (sameInts_any _ _ _ _ U1.out U2.out HL.out.1).mono ?_
          rintro e y5 ⟨rfl, hb⟩
          have HBB := Lib.hid (HBB.out.below hb HBB.out.lt)
          have U3 := Lib.hid (U3.out.all hb)
          have U4 := Lib.hid (U4.out.all hb)
          have g5 := below_step g4 hb
          clear p0 p1
          clear g4 hb
          have p0 := HBB.out.cell 0
          have p1 := HBB.out.cell 1
          go_wp2_with fail
          refine (sameInts_any _ _ _ _ U3.out U4.out HL.out.2).mono ?_
          rintro e y6 ⟨rfl, hb⟩
          have HBB := Lib.hid (HBB.out.below hb HBB.out.lt)
          have U3 := Lib.hid (U3.out.all hb)
          have g6 := below_step g5 hb
          clear p0 p1
          clear g5 hb
          have p0 := HBB.out.cell 0
          have p1 := HBB.out.cell 1
          go_wp2_with fail
          refine (C5.out _ g6).mono ?_
          rintro e y7 ⟨rfl, hb⟩
          have HBB := Lib.hid (HBB.out.below hb HBB.out.lt)
          have U3 := Lib.hid (U3.out.all hb)
          have g7 := below_step g6 hb
          clear p0 p1
          clear g6 hb
          have p0 := HBB.out.cell 0
          have p1 := HBB.out.cell 1
          go_wp2_with fail
          refine (C6.out _ g7).mono ?_
          rintro e y8 ⟨rfl, hb⟩
          have HBB := Lib.hid (HBB.out.below hb HBB.out.lt)
          have U3 := Lib.hid (U3.out.all hb)
          have g8 := below_step g7 hb
          clear p0 p1
          clear g7 hb
          have p0 := HBB.out.cell 0
          have p1 := HBB.out.cell 1
          go_wp2_with fail
          refine (HA.out _ _ U3.out).mono ?_
          rintro e y9 ⟨rfl, hb⟩
          have HBB := Lib.hid (HBB.out.below hb HBB.out.lt)
          have g9 := below_step g8 hb
          clear p0 p1
          clear g8 hb
          have p0 := HBB.out.cell 0
          have p1 := HBB.out.cell 1
          go_wp2_with fail
          refine (known_any _).mono ?_
          rintro e z ⟨rfl, hb⟩
          have hz := below_step g9 hb
          go_wp2
          go_ret
          exact ⟨rfl, hz⟩
      · clear hF
        have hne2 : (e2 != 0) = true := by simpa using hz2
        subst hz1
        clear hz2
        go_enter Try.func9, Try.ntmps9
        go_wp2_with fail
        refine L.out.mono ?_
        rintro e w1 ⟨rfl, rfl⟩
        have p0 := HBB.out.cell 0
        have p1 := HBB.out.cell 1
        have g0 := HW.out
        go_wp2_with fail
        refine (C1.out _ g0).mono ?_
        rintro e y1 ⟨u1, rfl, hu, hb⟩
        have HBB := Lib.hid (HBB.out.below hb HBB.out.lt)
        have g1 := below_step g0 hb
        clear p0 p1
        clear g0 hb
        have p1 := HBB.out.cell 1
        have U1 := Lib.hid hu.ints
        clear hu
        go_wp2_with fail
        refine (C2.out _ g1).mono ?_
        rintro e y2 ⟨u2, rfl, hu, hb⟩
        have HBB := Lib.hid (HBB.out.below hb HBB.out.lt)
        have U1 := Lib.hid (U1.out.all hb)
        have g2 := below_step g1 hb
        clear p1
        clear g1 hb
        have p0 := HBB.out.cell 0
        have U2 := Lib.hid hu.ints
        clear hu
        go_wp2_with fail
        refine (C3.out _ g2).mono ?_
        rintro e y3 ⟨u3, rfl, hu, hb⟩
        have HBB := Lib.hid (HBB.out.below hb HBB.out.lt)
        have U1 := Lib.hid (U1.out.all hb)
        have U2 := Lib.hid (U2.out.all hb)
        have g3 := below_step g2 hb
        clear p0
        clear g2 hb
        have p0 := HBB.out.cell 0
        have U3 := Lib.hid hu.ints
        clear hu
        go_wp2_with fail
        refine (C4.out _ g3).mono ?_
        rintro e y4 ⟨u4, rfl, hu, hb⟩
        have HBB := Lib.hid (HBB.out.below hb HBB.out.lt)
        have U1 := Lib.hid (U1.out.all hb)
        have U2 := Lib.hid (U2.out.all hb)
        have U3 := Lib.hid (U3.out.all hb)
        have g4 := below_step g3 hb
        clear p0
        clear g3 hb
        have p0 := HBB.out.cell 0
        have p1 := HBB.out.cell 1
        have U4 := Lib.hid hu.ints
        clear hu
        go_wp2_with fail
        refine (sameInts_any _ _ _ _ U1.out U2.out HL.out.1).mono ?_
        rintro e y5 ⟨rfl, hb⟩
        have HBB := Lib.hid (HBB.out.below hb HBB.out.lt)
        have U3 := Lib.hid (U3.out.all hb)
        have U4 := Lib.hid (U4.out.all hb)
        have g5 := below_step g4 hb
        clear p0 p1
        clear g4 hb
        have p0 := HBB.out.cell 0
        have p1 := HBB.out.cell 1
        go_wp2_with fail
        refine (sameInts_any _ _ _ _ U3.out U4.out HL.out.2).mono ?_
        rintro e y6 ⟨rfl, hb⟩
        have HBB := Lib.hid (HBB.out.below hb HBB.out.lt)
        have U3 := Lib.hid (U3.out.all hb)
        have g6 := below_step g5 hb
        clear p0 p1
        clear g5 hb
        have p0 := HBB.out.cell 0
        have p1 := HBB.out.cell 1
        go_wp2_with fail
        refine (C5.out _ g6).mono ?_
        rintro e y7 ⟨rfl, hb⟩
        have HBB := Lib.hid (HBB.out.below hb HBB.out.lt)
        have U3 := Lib.hid (U3.out.all hb)
        have g7 := below_step g6 hb
        clear p0 p1
        clear g6 hb
        have p0 := HBB.out.cell 0
        have p1 := HBB.out.cell 1
        go_wp2_with fail
        refine (C6.out _ g7).mono ?_
        rintro e y8 ⟨rfl, hb⟩
        have HBB := Lib.hid (HBB.out.below hb HBB.out.lt)
        have U3 := Lib.hid (U3.out.all hb)
        have g8 := below_step g7 hb
        clear p0 p1
        clear g7 hb
        have p0 := HBB.out.cell 0
        have p1 := HBB.out.cell 1
        go_wp2_with fail
        refine (known_any _).mono ?_
        rintro e z ⟨rfl, hb⟩
        have hz := below_step g8 hb
        go_wp2
        go_ret
        exact ⟨rfl, hz⟩
    · clear hF
      have hne1 : (e1 != 0) = true := by simpa using hz1
      clear hz1
      go_enter Try.func9, Try.ntmps9
      go_wp2_with fail
      refine L.out.mono ?_
      rintro e w1 ⟨rfl, rfl⟩
      have p0 := HBB.out.cell 0
      have p1 := HBB.out.cell 1
      have g0 := HW.out
      go_wp2_with fail
      refine (C1.out _ g0).mono ?_
      rintro e y1 ⟨u1, rfl, hu, hb⟩
      have HBB := Lib.hid (HBB.out.below hb HBB.out.lt)
      have g1 := below_step g0 hb
      clear p0 p1
      clear g0 hb
      have p1 := HBB.out.cell 1
      have U1 := Lib.hid hu.ints
      clear hu
      go_wp2_with fail
      refine (C2.out _ g1).mono ?_
      rintro e y2 ⟨u2, rfl, hu, hb⟩
      have HBB := Lib.hid (HBB.out.below hb HBB.out.lt)
      have U1 := Lib.hid (U1.out.all hb)
      have g2 := below_step g1 hb
      clear p1
      clear g1 hb
      have p0 := HBB.out.cell 0
      have U2 := Lib.hid hu.ints
      clear hu
      go_wp2_with fail
      refine (C3.out _ g2).mono ?_
      rintro e y3 ⟨u3, rfl, hu, hb⟩
      have HBB := Lib.hid (HBB.out.below hb HBB.out.lt)
      have U1 := Lib.hid (U1.out.all hb)
      have U2 := Lib.hid (U2.out.all hb)
      have g3 := below_step g2 hb
      clear p0
      clear g2 hb
      have p0 := HBB.out.cell 0
      have U3 := Lib.hid hu.ints
      clear hu
      go_wp2_with fail
      refine (C4.out _ g3).mono ?_
      rintro e y4 ⟨u4, rfl, hu, hb⟩
      have HBB := Lib.hid (HBB.out.below hb HBB.out.lt)
      have U1 := Lib.hid (U1.out.all hb)
      have U2 := Lib.hid (U2.out.all hb)
      have U3 := Lib.hid (U3.out.all hb)
      have g4 := below_step g3 hb
      clear p0
      clear g3 hb
      have p0 := HBB.out.cell 0
      have p1 := HBB.out.cell 1
      have U4 := Lib.hid hu.ints
      clear hu
      go_wp2_with fail
      refine (sameInts_any _ _ _ _ U1.out U2.out HL.out.1).mono ?_
      rintro e y5 ⟨rfl, hb⟩
      have HBB := Lib.hid (HBB.out.below hb HBB.out.lt)
      have U3 := Lib.hid (U3.out.all hb)
      have U4 := Lib.hid (U4.out.all hb)
      have g5 := below_step g4 hb
      clear p0 p1
      clear g4 hb
      have p0 := HBB.out.cell 0
      have p1 := HBB.out.cell 1
      go_wp2_with fail
      refine (sameInts_any _ _ _ _ U3.out U4.out HL.out.2).mono ?_
      rintro e y6 ⟨rfl, hb⟩
      have HBB := Lib.hid (HBB.out.below hb HBB.out.lt)
      have U3 := Lib.hid (U3.out.all hb)
      have g6 := below_step g5 hb
      clear p0 p1
      clear g5 hb
      have p0 := HBB.out.cell 0
      have p1 := HBB.out.cell 1
      go_wp2_with fail
      refine (C5.out _ g6).mono ?_
      rintro e y7 ⟨rfl, hb⟩
      have HBB := Lib.hid (HBB.out.below hb HBB.out.lt)
      have U3 := Lib.hid (U3.out.all hb)
      have g7 := below_step g6 hb
      clear p0 p1
      clear g6 hb
      have p0 := HBB.out.cell 0
      have p1 := HBB.out.cell 1
      go_wp2_with fail
      refine (C6.out _ g7).mono ?_
      rintro e y8 ⟨rfl, hb⟩
      have HBB := Lib.hid (HBB.out.below hb HBB.out.lt)
      have U3 := Lib.hid (U3.out.all hb)
      have g8 := below_step g7 hb
      clear p0 p1
      clear g7 hb
      have p0 := HBB.out.cell 0
      have p1 := HBB.out.cell 1
      go_wp2_with fail
      refine (known_any _).mono ?_
      rintro e z ⟨rfl, hb⟩
      have hz := below_step g8 hb
      go_wp2
      go_ret
      exact ⟨rfl, hz⟩
end Go.Proofs.Ytakccghmlcehnaa
