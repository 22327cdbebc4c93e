/- Shares of both sides as fractions in lowest terms. The reference's Share. -/
import Derived.Test.YtccjbefmcifaeaaMix
import Derived.Test.YtccjbefmcifaeaaDivAll
import Derived.Test.YtccjbefmcifaeaaKnowns
import Derived.Test.YtccjbefmcifaeaaPath1
namespace Go.Proofs.Ytccjbefmcifaeaa
open Go.RowKit

theorem rat_zero {d : Nat} (hd : 0 < d) : Rd.rN 0 d = 0 ∧ Rd.rD 0 d = 1 ∧ Rd.rE 0 d = 0 := by
  unfold Rd.rN Rd.rD Rd.rE
  rw [Nat.gcd_zero_left, Nat.div_self hd, if_pos (by omega), if_pos (by omega), if_pos (by omega), Nat.zero_div]
  exact ⟨rfl, rfl, rfl⟩
set_option maxRecDepth 20000 in
set_option maxHeartbeats 1000000 in
theorem refFraction_any (n d : Nat) (v u : Value) (w : World) (hv : Wo w v n) (hu : Wo w u d) (hd : 0 < d) (hle : n ≤ d) (hnd : Wh.nd d ≤ 90) :
    Calls Try.prog 76 #[v, u] w fun e w' => e = .returned (.tuple #[rat (Rd.rN n d) (Rd.rD n d), .bool (decide (Rd.rE n d = 0))]) ∧ Below w.heap.size w w' := by
  have hnn : Wh.nd n ≤ 90 := Nat.le_trans (Wh.nd_mono hle) hnd
  have bR := BlockAt.new w #[.int .i64 0, .int .i64 0] 43
  have hb0 := below_alloc (Below.refl w.heap.size w) (.cells #[.int .i64 0, .int .i64 0] 43)
  by_cases h0 : n = 0
  · subst h0
    obtain ⟨r1, r2, r3⟩ := rat_zero hd
    rw [r1, r2, r3]
    obtain ⟨a, c, rfl⟩ := hv.form
    rw [show Wh.nd 0 = 0 from rfl]
    have d0 := bR.cell 0
    have e0 := bR.frozen 0
    have HB := Lib.hid hb0
    clear hv hu hb0 bR r1 r2 r3
    go_enter Try.func76, Try.ntmps76
    go_wp2
    exact bodyPost_ret (v := .tuple #[rat 0 1, .bool true]) (by simp [results, Try.results76, go_sem]) rfl ⟨rfl, below_alloc (Below.refl w.heap.size w) _⟩
  · have hn0 : 0 < n := by omega
    have hg0 : 0 < Nat.gcd n d := Nat.gcd_pos_of_pos_right _ hd
    have hne : ((Wh.nd n : Int) == 0) = false := by have := nd_pos hn0; simp; omega
    have C := Lib.hid (wCommon_any n d v u _ (hv.all hb0) (hu.all hb0) hn0 hd hnn hnd)
    have hdq : Nat.gcd n d * (d / Nat.gcd n d) = d := Nat.mul_div_cancel' (Nat.gcd_dvd_right _ _)
    have hnq : Nat.gcd n d * (n / Nat.gcd n d) = n := Nat.mul_div_cancel' (Nat.gcd_dvd_left _ _)
    have hgn : Nat.gcd n d ≤ n := gcd_le_left hn0
    have hng : Wh.nd (Nat.gcd n d) ≤ 95 := Nat.le_trans (Wh.nd_mono hgn) (by omega)
    have Q1 := Lib.hid (fun W z (hW : Below w.heap.size w W) (hz : Wo W z (Nat.gcd n d)) => wQuot_any (Nat.gcd n d) (d / Nat.gcd n d) 1048576 u z W (by rw [hdq]; exact hu.all hW) hz hg0 (by rw [hdq]; omega) hng (by omega))
    have Q2 := Lib.hid (fun W z (hW : Below w.heap.size w W) (hz : Wo W z (Nat.gcd n d)) => wQuot_any (Nat.gcd n d) (n / Nat.gcd n d) 1048576 v z W (by rw [hnq]; exact hv.all hW) hz hg0 (by rw [hnq]; omega) hng (by omega))
    have hqq : n / Nat.gcd n d ≤ d / Nat.gcd n d := Nat.div_le_div_right hle
    obtain ⟨a, c, rfl⟩ := hv.form
    have HB := Lib.hid (And.intro hb0 bR)
    by_cases hbig : d / Nat.gcd n d ≤ 1048576
    · have hN : Rd.rN n d = (n / Nat.gcd n d : Nat) := by unfold Rd.rN; rw [if_pos hbig]
      have hD : Rd.rD n d = (d / Nat.gcd n d : Nat) := by unfold Rd.rD; rw [if_pos hbig]
      have hE : Rd.rE n d = 0 := by unfold Rd.rE; rw [if_pos hbig]
      rw [if_pos hbig, decide_eq_true hbig] at Q1
      rw [if_pos (by omega), decide_eq_true (show n / Nat.gcd n d ≤ 1048576 by omega)] at Q2
      rw [hN, hD, hE, show decide ((0 : Int) = 0) = true from rfl]
      generalize n / Nat.gcd n d = x at *
      generalize d / Nat.gcd n d = y at *
      generalize Nat.gcd n d = g at *
      clear hv hu hb0 bR hN hD hE hdq hnq hgn hng hqq hg0
      go_enter Try.func76, Try.ntmps76
      go_wp2_with fail
      refine C.out.mono ?_
      rintro e w1 ⟨z, rfl, hz, hb1⟩
      have hw1 := below_step HB.out.1 hb1
      have Q1' := Lib.hid (Q1.out _ _ hw1 hz)
      have HZ := Lib.hid (And.intro hz (And.intro hw1 (HB.out.2.below hb1 HB.out.2.lt)))
      clear hz hb1 hw1 Q1 C
      go_wp2_with fail
      refine Q1'.out.mono ?_
      rintro e w2 ⟨rfl, hb2⟩
      obtain ⟨hz, hw1, bR⟩ := HZ.out
      have hw2 := below_step hw1 hb2
      have Q2' := Lib.hid (Q2.out _ _ hw2 (hz.all hb2))
      have HZ := Lib.hid (And.intro hw2 (bR.below hb2 bR.lt))
      clear hz hb2 hw1 hw2 bR Q2 Q1'
      go_wp2_with fail
      refine Q2'.out.mono ?_
      rintro e w3 ⟨rfl, hb3⟩
      obtain ⟨hw2, bR⟩ := HZ.out
      have hw3 := below_step hw2 hb3
      have bR3 := bR.below hb3 bR.lt
      have d0 := bR3.cell 0
      have d1 := bR3.cell 1
      have e0 := bR3.frozen 0
      have e1 := bR3.frozen 1
      have hsz := bR3.lt
      clear hw2 bR hb3 bR3 Q2' HB
      go_wp2
      exact bodyPost_ret (v := .tuple #[rat (x : Int) (y : Int), .bool true]) (by simp [results, Try.results76, go_sem, d0, d1, hsz]) rfl ⟨rfl, (hw3.setCell (by simp) _).setCell (by simp) _⟩
    · have hN : Rd.rN n d = 0 := by unfold Rd.rN; rw [if_neg hbig]
      have hD : Rd.rD n d = 0 := by unfold Rd.rD; rw [if_neg hbig]
      have hE : Rd.rE n d = 4 := by unfold Rd.rE; rw [if_neg hbig]
      rw [if_neg hbig, decide_eq_false hbig] at Q1
      rw [hN, hD, hE, show decide ((4 : Int) = 0) = false from rfl]
      generalize d / Nat.gcd n d = y at *
      generalize Nat.gcd n d = g at *
      clear hv hu hb0 bR hN hD hE hdq hnq hgn hng hqq hg0 Q2
      go_enter Try.func76, Try.ntmps76
      go_wp2_with fail
      refine C.out.mono ?_
      rintro e w1 ⟨z, rfl, hz, hb1⟩
      have hw1 := below_step HB.out.1 hb1
      have Q1' := Lib.hid (Q1.out _ _ hw1 hz)
      have HZ := Lib.hid (And.intro hw1 (HB.out.2.below hb1 HB.out.2.lt))
      clear hz hb1 hw1 Q1 C
      go_wp2_with fail
      refine Q1'.out.mono ?_
      rintro e w2 ⟨rfl, hb2⟩
      obtain ⟨hw1, bR⟩ := HZ.out
      have hw2 := below_step hw1 hb2
      have bR3 := bR.below hb2 bR.lt
      have d0 := bR3.cell 0
      have d1 := bR3.cell 1
      have e0 := bR3.frozen 0
      have e1 := bR3.frozen 1
      have hsz := bR3.lt
      clear hw1 bR hb2 bR3 Q1' HB
      go_wp2
      exact bodyPost_ret (v := .tuple #[rat 0 0, .bool false]) (by simp [results, Try.results76, go_sem, d0, d1, hsz]) rfl ⟨rfl, (hw2.setCell (by simp) _).setCell (by simp) _⟩

/-- The answer of Share. -/
def shE (ls : List Lt.L) (n m : Int) : Int := if numE ls [n, m] = 0 then Rd.rE (Sh.S ls (oneO n.toNat) m.toNat) (Sh.D ls (m.toNat + 1)) else numE ls [n, m]
def shN (ls : List Lt.L) (n m : Int) : Int := if numE ls [n, m] = 0 then Rd.rN (Sh.S ls (oneO n.toNat) m.toNat) (Sh.D ls (m.toNat + 1)) else 0
def shD (ls : List Lt.L) (n m : Int) : Int := if numE ls [n, m] = 0 then Rd.rD (Sh.S ls (oneO n.toNat) m.toNat) (Sh.D ls (m.toNat + 1)) else 0

set_option maxRecDepth 20000 in
set_option maxHeartbeats 1000000 in
theorem share_any (v : Value) (ls : List Lt.L) (n m : Int) (w : World) (hv : Lots w v ls) (hsh : short ls) :
    Calls Try.prog 30 #[v, .int .i64 n, .int .i64 m] w fun e w' => e = .returned (.tuple #[rat (shN ls n m) (shD ls n m), .int .i64 (shE ls n m)]) ∧ Below w.heap.size w w' := by
  by_cases hz : numE ls [n, m] = 0
  · unfold shN shD shE
    rw [if_pos hz, if_pos hz, if_pos hz]
    obtain ⟨h0, ⟨h1, h2⟩, h3, h4⟩ := numE_zero2 hz
    obtain ⟨i, rfl⟩ : ∃ i : Nat, n = (i : Int) := ⟨n.toNat, by omega⟩
    obtain ⟨q, rfl⟩ : ∃ i : Nat, m = (i : Int) := ⟨m.toNat, by omega⟩
    exact share_ok v ls i q w hv hsh h0 (by omega) (by omega) (fun a d _ h1 h2 => div_all h1 h2)
  · unfold shN shD shE
    rw [if_neg hz, if_neg hz, if_neg hz]
    have hb2 := below_alloc (below_alloc (Below.refl w.heap.size w) (.cells #[.int .i64 0, .int .i64 0] 43)) (.cells #[.int .i64 n, .int .i64 m] 3)
    have bN := BlockAt.new (w.alloc (.cells #[.int .i64 0, .int .i64 0] 43)) #[.int .i64 n, .int .i64 m] 3
    have bR := (BlockAt.new w #[.int .i64 0, .int .i64 0] 43).alloc (.cells #[.int .i64 n, .int .i64 m] 3)
    simp only [World.size_alloc] at bN
    have NT := Lib.hid (nums_two v ls n m (w.heap.size + 1) _ (hv.all hb2) hsh bN)
    have HB := Lib.hid (And.intro hb2 bR)
    obtain ⟨a, c, rfl⟩ := hv.form
    have hne : (numE ls [n, m] != 0) = true := by simpa using hz
    generalize hq : numE ls [n, m] = q at *
    clear hz hq hb2 bN bR hv hsh
    go_enter Try.func30, Try.ntmps30
    go_wp2_with fail
    refine NT.out.mono ?_
    rintro e w2 ⟨rfl, hb3⟩
    have hw := below_step HB.out.1 hb3
    have bR3 := HB.out.2.below hb3 HB.out.2.lt
    have d0 := bR3.cell 0
    have d1 := bR3.cell 1
    have e0 := bR3.frozen 0
    have e1 := bR3.frozen 1
    have hsz := bR3.lt
    clear hb3 NT HB bR3
    go_wp2
    exact bodyPost_ret (v := .tuple #[rat 0 0, .int .i64 q]) (by simp [results, Try.results30, go_sem, d0, d1, hsz]) rfl ⟨rfl, (hw.setCell (by simp) _).setCell (by simp) _⟩
end Go.Proofs.Ytccjbefmcifaeaa
namespace Go.Proofs.Ytccjbefmcifaeaa
open Go.RowKit

theorem updB_one (of : Nat) : updB (fun _ => false) of = oneO of := by
  funext j
  unfold updB oneO
  by_cases h : j = of
  · rw [if_pos h, decide_eq_true h]
  · rw [if_neg h, decide_eq_false h]
/-- The mixture of one lot. -/
theorem mixOne_any (v : Value) (ls : List Lt.L) (of m : Nat) (w W : World) (hv : Lots w v ls) (hl : ls.length ≤ 24) (herr : ∀ j, j < ls.length → Lt.errAt ls j = 0) (hm : m < ls.length) (g : Nat)
    (hW : Below w.heap.size w W) (hB : BlockAt W g (marksL ls.length (updB (fun _ => false) of)).toArray 4) :
    Calls Try.prog 74 #[v, .slice (some ⟨g, 0, none⟩) ls.length ls.length, .int .i64 m] W fun e w' => ∃ y z, e = .returned (.tuple #[y, z]) ∧ Wo w' y (Sh.S ls (oneO of) m) ∧ Wo w' z (Sh.D ls (m + 1)) ∧ Below W.heap.size W w' := by
  refine mixture_any v ls (oneO of) g ls.length m W (hv.all hW) hl herr hm hB.lt fun j hj => ?_
  rw [hB.cell j, List.getElem?_toArray, marksL_at hj, updB_one]
theorem nd_D {ls : List Lt.L} (herr : ∀ j, j < ls.length → Lt.errAt ls j = 0) {i : Nat} (hi : i ≤ 24) : Wh.nd (Sh.D ls i) ≤ 20 :=
  (Sh.D_nd (fun j hj => Lt.fine_of (herr j hj)) hi).1

set_option maxRecDepth 20000 in
set_option maxHeartbeats 1000000 in
theorem refShare_any (v : Value) (ls : List Lt.L) (n m : Int) (w : World) (hv : Lots w v ls) (hsh : short ls) :
    Calls Try.prog 31 #[v, .int .i64 n, .int .i64 m] w fun e w' => e = .returned (.tuple #[rat (shN ls n m) (shD ls n m), .int .i64 (shE ls n m)]) ∧ Below w.heap.size w w' := by
  have bR := BlockAt.new w #[.int .i64 0, .int .i64 0] 43
  have hb0 := below_alloc (Below.refl w.heap.size w) (.cells #[.int .i64 0, .int .i64 0] 43)
  have N := Lib.hid (named_any v ls n m _ (hv.all hb0) hsh)
  have hsame : numE ls [n, m] = numE ls [n, m] := rfl
  have HB := Lib.hid (And.intro hb0 (And.intro bR hv))
  unfold shN shD shE
  by_cases hz : numE ls [n, m] = 0
  · rw [if_pos hz, if_pos hz, if_pos hz]
    obtain ⟨h0, ⟨h1, h2⟩, h3, h4⟩ := numE_zero2 hz
    obtain ⟨hl, herr, _⟩ := Lt.valE_zero h0
    rw [hz] at N
    obtain ⟨i, rfl⟩ : ∃ i : Nat, n = (i : Int) := ⟨n.toNat, by omega⟩
    obtain ⟨q, rfl⟩ : ∃ i : Nat, m = (i : Int) := ⟨m.toNat, by omega⟩
    simp only [Int.toNat_natCast]
    have O := Lib.hid (fun W (hW : Below w.heap.size w W) => one_any _ ls i W (hv.all hW) hl (by omega))
    have M := Lib.hid (fun W g (hW : Below w.heap.size w W) hB => mixOne_any v ls i q w W hv hl herr (by omega) g hW hB)
    have F := Lib.hid (fun W y z (hy : Wo W y (Sh.S ls (oneO i) q)) (hz : Wo W z (Sh.D ls (q + 1))) => refFraction_any (Sh.S ls (oneO i) q) (Sh.D ls (q + 1)) y z W hy hz (Sh.D_pos ls _) (Sh.S_le (early_of herr) (oneO i) q (by omega)) (Nat.le_trans (nd_D herr (by omega)) (by omega)))
    have hcase : (Rd.rE (Sh.S ls (oneO i) q) (Sh.D ls (q + 1)) = 0) ∨ (Rd.rE (Sh.S ls (oneO i) q) (Sh.D ls (q + 1)) = 4 ∧ Rd.rN (Sh.S ls (oneO i) q) (Sh.D ls (q + 1)) = 0 ∧ Rd.rD (Sh.S ls (oneO i) q) (Sh.D ls (q + 1)) = 0) := by
      unfold Rd.rE Rd.rN Rd.rD; split <;> simp
    generalize hrn : Rd.rN (Sh.S ls (oneO i) q) (Sh.D ls (q + 1)) = rn at *
    generalize hrd : Rd.rD (Sh.S ls (oneO i) q) (Sh.D ls (q + 1)) = rd at *
    generalize hre : Rd.rE (Sh.S ls (oneO i) q) (Sh.D ls (q + 1)) = re at *
    obtain ⟨a, c, rfl⟩ := hv.form
    clear hv hb0 bR hsh hz h0 h1 h2 h3 h4 herr hsame hrn hrd hre
    rcases hcase with rfl | ⟨rfl, rfl, rfl⟩
    · rw [show decide ((0 : Int) = 0) = true from rfl] at F
      go_enter Try.func31, Try.ntmps31
      go_wp2_with fail
      refine N.out.mono ?_
      rintro e w1 ⟨rfl, hb1⟩
      have hw1 := below_step HB.out.1 hb1
      have HW := Lib.hid (And.intro hw1 (HB.out.2.1.below hb1 HB.out.2.1.lt))
      clear hb1 hw1 N
      go_wp2_with fail
      refine (O.out _ HW.out.1).mono ?_
      rintro e w2 ⟨rfl, hblk, hb2⟩
      have hw2 := below_step HW.out.1 hb2
      have M1 := Lib.hid (M.out _ _ hw2 hblk)
      have HW := Lib.hid (And.intro hw2 (HW.out.2.below hb2 HW.out.2.lt))
      clear hblk hb2 hw2 O M
      go_wp2_with fail
      refine M1.out.mono ?_
      rintro e w3 ⟨y, z, rfl, hy, hz, hb3⟩
      have F1 := Lib.hid (F.out _ _ _ hy hz)
      have HW := Lib.hid (And.intro (below_step HW.out.1 hb3) (HW.out.2.below hb3 HW.out.2.lt))
      clear hy hz hb3 M1 F
      go_wp2_with fail
      refine F1.out.mono ?_
      rintro e w4 ⟨rfl, hb4⟩
      have hw4 := below_step HW.out.1 hb4
      have bR4 := (HW.out.2.below hb4 HW.out.2.lt).alloc (.cells #[.int .i64 rn, .int .i64 rd] 43)
      have hw5 := below_alloc hw4 (.cells #[.int .i64 rn, .int .i64 rd] 43)
      have d0 := bR4.cell 0
      have d1 := bR4.cell 1
      have e0 := bR4.frozen 0
      have e1 := bR4.frozen 1
      have hsz := bR4.lt
      have HW := Lib.hid hw5
      clear hb4 hw4 bR4 hw5 F1 HB
      go_wp2
      exact bodyPost_ret (v := .tuple #[rat rn rd, .int .i64 0]) (by simp [results, Try.results31, go_sem, d0, d1, hsz]) rfl ⟨rfl, (HW.out.setCell (by simp) _).setCell (by simp) _⟩
    · rw [show decide ((4 : Int) = 0) = false from rfl] at F
      go_enter Try.func31, Try.ntmps31
      go_wp2_with fail
      refine N.out.mono ?_
      rintro e w1 ⟨rfl, hb1⟩
      have hw1 := below_step HB.out.1 hb1
      have HW := Lib.hid (And.intro hw1 (HB.out.2.1.below hb1 HB.out.2.1.lt))
      clear hb1 hw1 N
      go_wp2_with fail
      refine (O.out _ HW.out.1).mono ?_
      rintro e w2 ⟨rfl, hblk, hb2⟩
      have hw2 := below_step HW.out.1 hb2
      have M1 := Lib.hid (M.out _ _ hw2 hblk)
      have HW := Lib.hid (And.intro hw2 (HW.out.2.below hb2 HW.out.2.lt))
      clear hblk hb2 hw2 O M
      go_wp2_with fail
      refine M1.out.mono ?_
      rintro e w3 ⟨y, z, rfl, hy, hz, hb3⟩
      have F1 := Lib.hid (F.out _ _ _ hy hz)
      have HW := Lib.hid (And.intro (below_step HW.out.1 hb3) (HW.out.2.below hb3 HW.out.2.lt))
      clear hy hz hb3 M1 F
      go_wp2_with fail
      refine F1.out.mono ?_
      rintro e w4 ⟨rfl, hb4⟩
      have hw4 := below_step HW.out.1 hb4
      have bR4 := (HW.out.2.below hb4 HW.out.2.lt).alloc (.cells #[.int .i64 0, .int .i64 0] 43)
      have hw5 := below_alloc hw4 (.cells #[.int .i64 0, .int .i64 0] 43)
      have d0 := bR4.cell 0
      have d1 := bR4.cell 1
      have e0 := bR4.frozen 0
      have e1 := bR4.frozen 1
      have hsz := bR4.lt
      have HW := Lib.hid hw5
      clear hb4 hw4 bR4 hw5 F1 HB
      go_wp2
      exact bodyPost_ret (v := .tuple #[rat 0 0, .int .i64 4]) (by simp [results, Try.results31, go_sem, d0, d1, hsz]) rfl ⟨rfl, (HW.out.setCell (by simp) _).setCell (by simp) _⟩
  · rw [if_neg hz, if_neg hz, if_neg hz]
    obtain ⟨a, c, rfl⟩ := hv.form
    have hne : (numE ls [n, m] != 0) = true := by simpa using hz
    generalize hq : numE ls [n, m] = q at *
    clear hz hq hb0 bR hv hsh hsame
    go_enter Try.func31, Try.ntmps31
    go_wp2_with fail
    refine N.out.mono ?_
    rintro e w1 ⟨rfl, hb1⟩
    have hw := below_step HB.out.1 hb1
    have bR3 := HB.out.2.1.below hb1 HB.out.2.1.lt
    have d0 := bR3.cell 0
    have d1 := bR3.cell 1
    have e0 := bR3.frozen 0
    have e1 := bR3.frozen 1
    have hsz := bR3.lt
    clear hb1 N HB bR3
    go_wp2
    exact bodyPost_ret (v := .tuple #[rat 0 0, .int .i64 q]) (by simp [results, Try.results31, go_sem, d0, d1, hsz]) rfl ⟨rfl, (hw.setCell (by simp) _).setCell (by simp) _⟩
end Go.Proofs.Ytccjbefmcifaeaa
