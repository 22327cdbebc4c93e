/- LotDilutes returns true, whatever the genealogy and the numbers. -/
import Derived.Test.YtccjbefmcifaeaaDilN
import Derived.Test.YtccjbefmcifaeaaLong
namespace Go.Proofs.Ytccjbefmcifaeaa
open Go.RowKit

theorem sh_in {ls : List Lt.L} {n m : Int} (h : shE ls n m = 0) : (0 ≤ n ∧ n < ls.length) ∧ 0 ≤ m ∧ m < ls.length := by
  obtain ⟨_, h1, h2, h3⟩ := numE_zero2 (sh_valid h).1
  exact ⟨h1, h2, h3⟩
theorem rat_one {d : Nat} (hd : 0 < d) : Rd.rN d d = 1 ∧ Rd.rD d d = 1 := by
  unfold Rd.rN Rd.rD
  rw [Nat.gcd_self, Nat.div_self hd, if_pos (by omega)]
  exact ⟨rfl, rfl⟩
theorem sh_self {ls : List Lt.L} {i : Nat} (h : shE ls i i = 0) : shN ls i i = 1 ∧ shD ls i i = 1 := by
  have hz := (sh_valid h).1
  obtain ⟨h0, ⟨h1, h2⟩, h3, h4⟩ := numE_zero2 hz
  obtain ⟨hl, herr, _⟩ := Lt.valE_zero h0
  unfold shN shD
  rw [if_pos hz, if_pos hz, Int.toNat_natCast, Sh.S_eq (early_of herr) _ (by omega), if_pos (by simp [oneO])]
  exact rat_one (Sh.D_pos _ _)
theorem sh_none {ls : List Lt.L} {i j : Nat} (h : shE ls i j = 0) (hne : i ≠ j) (hp : (ls.getD j default).ps.length = 0) : shN ls i j = 0 ∧ shD ls i j = 1 := by
  have hz := (sh_valid h).1
  obtain ⟨h0, ⟨h1, h2⟩, h3, h4⟩ := numE_zero2 hz
  obtain ⟨hl, herr, _⟩ := Lt.valE_zero h0
  unfold shN shD
  rw [if_pos hz, if_pos hz, Int.toNat_natCast, Int.toNat_natCast, Sh.S_eq (early_of herr) _ (by omega), if_neg (by simp [oneO]; omega), List.length_eq_zero_iff.1 hp]
  have := rat_zero (Sh.D_pos ls (j + 1))
  exact ⟨this.1, this.2.1⟩

/-- What lies in memory while the sum is made. -/
def StD (w W : World) (B0 B5 B7 B8 : Nat) (n m xk xm : Int) (pv : Value) (rn rd a b : Int) : Prop :=
  (BlockAt W B0 #[.int .i64 n, .int .i64 m] 41 ∧ BlockAt W B5 #[.int .i64 rn, .int .i64 rd] 43 ∧ BlockAt W B7 #[.int .i64 xk, .int .i64 xm, pv] 25 ∧ BlockAt W B8 #[.int .i64 a, .int .i64 b] 43) ∧ Below w.heap.size w W ∧ w.heap.size ≤ B0 ∧ B0 < B5 ∧ B5 < B7 ∧ B7 < B8
section
variable {w W Y : World} {B0 B5 B7 B8 : Nat} {n m xk xm : Int} {pv : Value} {rn rd a b : Int}
theorem StD.below (h : StD w W B0 B5 B7 B8 n m xk xm pv rn rd a b) (hb : Below W.heap.size W Y) : StD w Y B0 B5 B7 B8 n m xk xm pv rn rd a b :=
  ⟨⟨h.1.1.below hb h.1.1.lt, h.1.2.1.below hb h.1.2.1.lt, h.1.2.2.1.below hb h.1.2.2.1.lt, h.1.2.2.2.below hb h.1.2.2.2.lt⟩, below_step h.2.1 hb, h.2.2⟩
theorem StD.drew (h : StD w W B0 B5 B7 B8 n m xk xm pv rn rd a b) : StD w W.drew B0 B5 B7 B8 n m xk xm pv rn rd a b :=
  ⟨⟨h.1.1.drew, h.1.2.1.drew, h.1.2.2.1.drew, h.1.2.2.2.drew⟩, h.2.1.drew, h.2.2⟩
theorem StD.store (h : StD w W B0 B5 B7 B8 n m xk xm pv rn rd a b) {x : Nat} (hx : B8 < x) (u v : Value) : StD w ((W.setCell ⟨x, 0, none⟩ u).setCell ⟨x, 1, none⟩ v) B0 B5 B7 B8 n m xk xm pv rn rd a b := by
  obtain ⟨⟨h0, h5, h7, h8⟩, hb, e0, e1, e2, e3⟩ := h
  exact ⟨⟨(h0.other (by omega) _).other (by omega) _, (h5.other (by omega) _).other (by omega) _, (h7.other (by omega) _).other (by omega) _, (h8.other (by omega) _).other (by omega) _⟩, (hb.setCell (by simp; omega) _).setCell (by simp; omega) _, e0, e1, e2, e3⟩
theorem StD.sum (h : StD w W B0 B5 B7 B8 n m xk xm pv rn rd a b) (a' b' : Int) : StD w ((W.setCell ⟨B8, 0, none⟩ (.int .i64 a')).setCell ⟨B8, 1, none⟩ (.int .i64 b')) B0 B5 B7 B8 n m xk xm pv rn rd a' b' := by
  obtain ⟨⟨h0, h5, h7, h8⟩, hb, e0, e1, e2, e3⟩ := h
  exact ⟨⟨(h0.other (by omega) _).other (by omega) _, (h5.other (by omega) _).other (by omega) _, (h7.other (by omega) _).other (by omega) _, (h8.set 0 _).set 1 _⟩, (hb.setCell (by simp; omega) _).setCell (by simp; omega) _, e0, e1, e2, e3⟩
theorem StD.lt8 (h : StD w W B0 B5 B7 B8 n m xk xm pv rn rd a b) : B8 < W.heap.size := h.1.2.2.2.lt
def CelD (W : World) (B0 B7 pb o : Nat) (n m xk xm : Int) (pv : Value) (q k : Int) : Prop :=
  (W.cell? ⟨B0, 0, none⟩ = some (.int .i64 n) ∧ W.cell? ⟨B0, 1, none⟩ = some (.int .i64 m)) ∧ (W.cell? ⟨B7, 0, none⟩ = some (.int .i64 xk) ∧ W.cell? ⟨B7, 1, none⟩ = some (.int .i64 xm) ∧ W.cell? ⟨B7, 2, none⟩ = some pv) ∧ W.cell? ⟨pb, o, none⟩ = some (.int .i64 q) ∧ W.cell? ⟨pb, o + 1, none⟩ = some (.int .i64 k)
theorem StD.cells (h : StD w W B0 B5 B7 B8 n m xk xm pv rn rd a b) {pb o : Nat} {q k : Int} (hp : pb < w.heap.size) (c0 : w.cell? ⟨pb, o, none⟩ = some (.int .i64 q)) (c1 : w.cell? ⟨pb, o + 1, none⟩ = some (.int .i64 k)) : CelD W B0 B7 pb o n m xk xm pv q k :=
  ⟨⟨h.1.1.cell 0, h.1.1.cell 1⟩, ⟨h.1.2.2.1.cell 0, h.1.2.2.1.cell 1, h.1.2.2.1.cell 2⟩, (h.2.1.cell (p := ⟨pb, o, none⟩) hp).trans c0, (h.2.1.cell (p := ⟨pb, o + 1, none⟩) hp).trans c1⟩
def StD2 (w W : World) (B0 B5 B7 B8 xs : Nat) (n m xk xm : Int) (pv : Value) (rn rd a b r1 r2 : Int) : Prop := StD w W B0 B5 B7 B8 n m xk xm pv rn rd a b ∧ BlockAt W xs #[.int .i64 r1, .int .i64 r2] 43 ∧ B8 < xs
variable {xs : Nat} {r1 r2 : Int}
theorem StD2.below (h : StD2 w W B0 B5 B7 B8 xs n m xk xm pv rn rd a b r1 r2) (hb : Below W.heap.size W Y) : StD2 w Y B0 B5 B7 B8 xs n m xk xm pv rn rd a b r1 r2 := ⟨h.1.below hb, h.2.1.below hb h.2.1.lt, h.2.2⟩
theorem StD2.drew (h : StD2 w W B0 B5 B7 B8 xs n m xk xm pv rn rd a b r1 r2) : StD2 w W.drew B0 B5 B7 B8 xs n m xk xm pv rn rd a b r1 r2 := ⟨h.1.drew, h.2.1.drew, h.2.2⟩
theorem StD2.store (h : StD2 w W B0 B5 B7 B8 xs n m xk xm pv rn rd a b r1 r2) {x : Nat} (hx : xs < x) (u v : Value) : StD2 w ((W.setCell ⟨x, 0, none⟩ u).setCell ⟨x, 1, none⟩ v) B0 B5 B7 B8 xs n m xk xm pv rn rd a b r1 r2 :=
  ⟨h.1.store (Nat.lt_trans h.2.2 hx) u v, (h.2.1.other (by omega) _).other (by omega) _, h.2.2⟩
theorem StD2.lt8 (h : StD2 w W B0 B5 B7 B8 xs n m xk xm pv rn rd a b r1 r2) : xs < W.heap.size := h.2.1.lt
theorem StD2.cells (h : StD2 w W B0 B5 B7 B8 xs n m xk xm pv rn rd a b r1 r2) {pb o : Nat} {q k : Int} (hp : pb < w.heap.size) (c0 : w.cell? ⟨pb, o, none⟩ = some (.int .i64 q)) (c1 : w.cell? ⟨pb, o + 1, none⟩ = some (.int .i64 k)) : CelD W B0 B7 pb o n m xk xm pv q k := h.1.cells hp c0 c1
end
set_option maxRecDepth 20000 in
set_option maxHeartbeats 4000000 in
theorem dilutes_walk (v : Value) (ls : List Lt.L) (n m : Int) (w : World) (hv : Lots w v ls) :
    Calls Try.prog 7 #[v, .agg #[.int .i64 n, .int .i64 m]] w fun e w' => e = .returned (.bool true) ∧ Below w.heap.size w w' := by
  have hw0 := below_alloc (Below.refl w.heap.size w) (.cells #[.int .i64 n, .int .i64 m] 41)
  have L := Lib.hid (long_any v ls _ (hv.all hw0))
  have bB := BlockAt.new w #[.int .i64 n, .int .i64 m] 41
  have HBB := Lib.hid (And.intro bB hw0)
  clear hw0 bB
  cases hb : longB ls with
  | true =>
    rw [hb] at L
    clear hb hv
    go_enter Try.func7, Try.ntmps7
    go_wp2_with fail
    refine L.out.mono ?_
    rintro e w1 ⟨rfl, rfl⟩
    go_wp2_with fail
    refine (known_any _).mono ?_
    rintro e w2 ⟨rfl, hb2⟩
    have h2 := below_step HBB.out.2 hb2
    go_wp2
    go_ret
    exact ⟨rfl, h2⟩
  | false =>
    rw [hb] at L
    have hsh := (longB_short hb).short
    have C1 := Lib.hid (fun W (hW : Below w.heap.size w W) => share_any v ls n m W (hv.all hW) hsh)
    have HV := Lib.hid (And.intro hv hsh)
    obtain ⟨la, lc, rfl, hlk⟩ := hv.look
    have HLK := Lib.hid hlk
    clear hb hv hsh hlk
    by_cases hE : shE ls n m = 0
    rotate_left
    · have q3 : (shE ls n m != 0) = true := by simpa using hE
      generalize shE ls n m = e1 at *
      generalize shN ls n m = s1 at *
      generalize shD ls n m = s2 at *
      clear hE HV HLK
      by_cases hm0 : m < 0
      · go_enter Try.func7, Try.ntmps7
        go_wp2_with fail
        refine L.out.mono ?_
        rintro e w1 ⟨rfl, rfl⟩
        have p0 := HBB.out.1.cell 0
        have p1 := HBB.out.1.cell 1
        go_wp2_with fail
        refine (C1.out _ HBB.out.2).mono ?_
        rintro e w1 ⟨rfl, h1⟩
        have bS := BlockAt.new w1 #[.int .i64 s1, .int .i64 s2] 43
        have HBB := Lib.hid (And.intro ((HBB.out.1.below h1 HBB.out.1.lt).alloc (.cells #[.int .i64 s1, .int .i64 s2] 43)) (And.intro bS (And.intro (below_alloc (below_step HBB.out.2 h1) (.cells #[.int .i64 s1, .int .i64 s2] 43)) (Nat.lt_of_lt_of_le HBB.out.1.lt h1.size))))
        clear p0 p1 h1 C1 bS
        have p0 := HBB.out.1.cell 0
        have p1 := HBB.out.1.cell 1
        have x0 := HBB.out.2.1.cell 0
        have x1 := HBB.out.2.1.cell 1
        go_wp2_with fail
        refine (known_any _).mono ?_
        rintro e w7 ⟨rfl, h7⟩
        have h7 := below_step HBB.out.2.2.1 h7
        go_wp2
        go_ret
        exact ⟨rfl, h7⟩
      · by_cases hm1 : (ls.length : Int) ≤ m
        · go_enter Try.func7, Try.ntmps7
          go_wp2_with fail
          refine L.out.mono ?_
          rintro e w1 ⟨rfl, rfl⟩
          have p0 := HBB.out.1.cell 0
          have p1 := HBB.out.1.cell 1
          go_wp2_with fail
          refine (C1.out _ HBB.out.2).mono ?_
          rintro e w1 ⟨rfl, h1⟩
          have bS := BlockAt.new w1 #[.int .i64 s1, .int .i64 s2] 43
          have HBB := Lib.hid (And.intro ((HBB.out.1.below h1 HBB.out.1.lt).alloc (.cells #[.int .i64 s1, .int .i64 s2] 43)) (And.intro bS (And.intro (below_alloc (below_step HBB.out.2 h1) (.cells #[.int .i64 s1, .int .i64 s2] 43)) (Nat.lt_of_lt_of_le HBB.out.1.lt h1.size))))
          clear p0 p1 h1 C1 bS
          have p0 := HBB.out.1.cell 0
          have p1 := HBB.out.1.cell 1
          have x0 := HBB.out.2.1.cell 0
          have x1 := HBB.out.2.1.cell 1
          go_wp2_with fail
          refine (known_any _).mono ?_
          rintro e w7 ⟨rfl, h7⟩
          have h7 := below_step HBB.out.2.2.1 h7
          go_wp2
          go_ret
          exact ⟨rfl, h7⟩
        · obtain ⟨mn, rfl⟩ : ∃ z : Nat, m = z := ⟨m.toNat, by omega⟩
          go_enter Try.func7, Try.ntmps7
          go_wp2_with fail
          refine L.out.mono ?_
          rintro e w1 ⟨rfl, rfl⟩
          have p0 := HBB.out.1.cell 0
          have p1 := HBB.out.1.cell 1
          go_wp2_with fail
          refine (C1.out _ HBB.out.2).mono ?_
          rintro e w1 ⟨rfl, h1⟩
          have bS := BlockAt.new w1 #[.int .i64 s1, .int .i64 s2] 43
          have HBB := Lib.hid (And.intro ((HBB.out.1.below h1 HBB.out.1.lt).alloc (.cells #[.int .i64 s1, .int .i64 s2] 43)) (And.intro bS (And.intro (below_alloc (below_step HBB.out.2 h1) (.cells #[.int .i64 s1, .int .i64 s2] 43)) (Nat.lt_of_lt_of_le HBB.out.1.lt h1.size))))
          clear p0 p1 h1 C1 bS
          have p0 := HBB.out.1.cell 0
          have p1 := HBB.out.1.cell 1
          have x0 := HBB.out.2.1.cell 0
          have x1 := HBB.out.2.1.cell 1
          go_wp2_with fail
          refine (known_any _).mono ?_
          rintro e w7 ⟨rfl, h7⟩
          have h7 := below_step HBB.out.2.2.1 h7
          go_wp2
          go_ret
          exact ⟨rfl, h7⟩
    · obtain ⟨⟨n0, n1⟩, m0, m1⟩ := sh_in hE
      obtain ⟨i0, rfl⟩ : ∃ z : Nat, n = z := ⟨n.toNat, by omega⟩
      obtain ⟨j0, rfl⟩ : ∃ z : Nat, m = z := ⟨m.toNat, by omega⟩
      have hjl : j0 < ls.length := by omega
      have hm1 : ¬ ((ls.length : Int) ≤ (j0 : Int)) := by omega
      by_cases hij : i0 = j0
      · subst hij
        obtain ⟨r1, r2⟩ := sh_self hE
        rw [hE, r1, r2] at C1
        obtain ⟨s1, hs1⟩ : ∃ s : Int, s = 1 := ⟨1, rfl⟩
        obtain ⟨s2, hs2⟩ : ∃ s : Int, s = 1 := ⟨1, rfl⟩
        have C1 : Hid (∀ W, Below w.heap.size w W → Calls Try.prog 30 #[.slice la ls.length lc, .int .i64 (i0 : Int), .int .i64 (i0 : Int)] W fun e w' => e = .returned (.tuple #[rat s1 s2, .int .i64 0]) ∧ Below W.heap.size W w') := by rw [hs1, hs2]; exact C1
        have q1 : (s1 == 1) = true := by rw [hs1]; rfl
        have q2 : (s2 == 1) = true := by rw [hs2]; rfl
        clear hE r1 r2 HV HLK hs1 hs2
        go_enter Try.func7, Try.ntmps7
        go_wp2_with fail
        refine L.out.mono ?_
        rintro e w1 ⟨rfl, rfl⟩
        have p0 := HBB.out.1.cell 0
        have p1 := HBB.out.1.cell 1
        go_wp2_with fail
        refine (C1.out _ HBB.out.2).mono ?_
        rintro e w1 ⟨rfl, h1⟩
        have bS := BlockAt.new w1 #[.int .i64 s1, .int .i64 s2] 43
        have HBB := Lib.hid (And.intro ((HBB.out.1.below h1 HBB.out.1.lt).alloc (.cells #[.int .i64 s1, .int .i64 s2] 43)) (And.intro bS (And.intro (below_alloc (below_step HBB.out.2 h1) (.cells #[.int .i64 s1, .int .i64 s2] 43)) (Nat.lt_of_lt_of_le HBB.out.1.lt h1.size))))
        clear p0 p1 h1 C1 bS
        have p0 := HBB.out.1.cell 0
        have p1 := HBB.out.1.cell 1
        have x0 := HBB.out.2.1.cell 0
        have x1 := HBB.out.2.1.cell 1
        go_wp2_with fail
        refine (known_any _).mono ?_
        rintro e w7 ⟨rfl, h7⟩
        have h7 := below_step HBB.out.2.2.1 h7
        go_wp2
        go_ret
        exact ⟨rfl, h7⟩
      · obtain ⟨b, off, u, rfl, hbl, hlot⟩ := HLK.out j0 hjl
        have q4 : ((i0 : Int) == (j0 : Int)) = false := by simp; omega
        have q5 : ((i0 : Int) != (j0 : Int)) = true := bne_iff_ne.2 (by omega)
        by_cases hp0 : (ls.getD j0 default).ps.length = 0
        · obtain ⟨r1, r2⟩ := sh_none hE hij hp0
          rw [hE, r1, r2] at C1
          generalize ls.getD j0 default = y at *
          obtain ⟨c0, c1, c2, hps⟩ := hlot
          obtain ⟨pa, pc, rfl⟩ := hps.form
          rw [hp0] at c2
          obtain ⟨s1, hs1⟩ : ∃ s : Int, s = 0 := ⟨0, rfl⟩
          obtain ⟨s2, hs2⟩ : ∃ s : Int, s = 1 := ⟨1, rfl⟩
          have C1 : Hid (∀ W, Below w.heap.size w W → Calls Try.prog 30 #[.slice (some ⟨b, off, none⟩) ls.length lc, .int .i64 (i0 : Int), .int .i64 (j0 : Int)] W fun e w' => e = .returned (.tuple #[rat s1 s2, .int .i64 0]) ∧ Below W.heap.size W w') := by rw [hs1, hs2]; exact C1
          have q1 : (s1 == 0) = true := by rw [hs1]; rfl
          have q2 : (s2 == 1) = true := by rw [hs2]; rfl
          have HC2 := Lib.hid c2
          clear hE r1 r2 HV HLK hs1 hs2 c0 c1 c2 hps hp0
          go_enter Try.func7, Try.ntmps7
          go_wp2_with fail
          refine L.out.mono ?_
          rintro e w1 ⟨rfl, rfl⟩
          have p0 := HBB.out.1.cell 0
          have p1 := HBB.out.1.cell 1
          go_wp2_with fail
          refine (C1.out _ HBB.out.2).mono ?_
          rintro e w1 ⟨rfl, h1⟩
          have bS := BlockAt.new w1 #[.int .i64 s1, .int .i64 s2] 43
          have HBB := Lib.hid (And.intro ((HBB.out.1.below h1 HBB.out.1.lt).alloc (.cells #[.int .i64 s1, .int .i64 s2] 43)) (And.intro bS (And.intro (below_alloc (below_step HBB.out.2 h1) (.cells #[.int .i64 s1, .int .i64 s2] 43)) (Nat.lt_of_lt_of_le HBB.out.1.lt h1.size))))
          clear p0 p1 h1 C1 bS
          have p0 := HBB.out.1.cell 0
          have p1 := HBB.out.1.cell 1
          have x0 := HBB.out.2.1.cell 0
          have x1 := HBB.out.2.1.cell 1
          have c2 := (HBB.out.2.2.1.cell (p := ⟨b, off + j0 * 3 + 2, none⟩) hbl).trans HC2.out
          go_wp2_with fail
          refine (known_any _).mono ?_
          rintro e w7 ⟨rfl, h7⟩
          have h7 := below_step HBB.out.2.2.1 h7
          go_wp2
          go_ret
          exact ⟨rfl, h7⟩
        · have hz := (sh_valid hE).1
          obtain ⟨h0, _, _, _⟩ := numE_zero2 hz
          obtain ⟨hl, herr, _⟩ := Lt.valE_zero h0
          have hearly := early_of herr
          have hfx := Lt.fine_of (herr j0 hjl)
          have hbe := Sh.be_full (ls := ls) (i := j0) rfl hfx (by omega)
          have hbp := Sh.be_pos ls j0
          have htb := Lt.takes_bd hfx.2.2
          have hDX := Sh.D_succ ls j0
          have hSin : Sh.S ls (oneO i0) j0 = Sh.sumS ls j0 (Sh.S ls (oneO i0)) (ls.getD j0 default).ps := by
            rw [Sh.S_eq hearly _ hjl, if_neg (by simp [oneO]; omega)]
          have HFIN := Lib.hid (show ∀ a b, SumIs a b (Sh.D ls (j0 + 1)) (Sh.sumS ls j0 (Sh.S ls (oneO i0)) (ls.getD j0 default).ps) → a = shN ls i0 j0 ∧ b = shD ls i0 j0 by
            intro a b h
            obtain ⟨_, s', d', g, hg, e1, e2, h1, h2, h3, h4, e3, e4⟩ := sh_valid hE
            rw [Int.toNat_natCast, Int.toNat_natCast, hSin] at e3
            rw [Int.toNat_natCast] at e4
            rw [e1, e2]
            exact h.fin hg (by omega) e3 e4 h4)
          have HSTEP := Lib.hid (show ∀ i q mm : Nat, ∀ a b : Int, (hi : i < (ls.getD j0 default).ps.length) → ((ls.getD j0 default).ps[i].l = (q : Int)) → ((ls.getD j0 default).ps[i].m = (mm : Int)) → q < j0 → shE ls i0 q = 0 →
              SumIs a b (Sh.D ls (j0 + 1)) (Sh.sumS ls j0 (Sh.S ls (oneO i0)) ((ls.getD j0 default).ps.take i)) → Fr.er (mm : Int) (Sh.be ls j0 : Int) = 0 → Fr.mulE (shN ls i0 q) (shD ls i0 q) (Fr.nu mm (Sh.be ls j0 : Int)) (Fr.de mm (Sh.be ls j0 : Int)) = 0 →
              Fr.sumE a b (Fr.mulN (shN ls i0 q) (shD ls i0 q) (Fr.nu mm (Sh.be ls j0 : Int)) (Fr.de mm (Sh.be ls j0 : Int))) (Fr.mulD (shN ls i0 q) (shD ls i0 q) (Fr.nu mm (Sh.be ls j0 : Int)) (Fr.de mm (Sh.be ls j0 : Int))) = 0 →
              SumIs (Fr.sumN a b (Fr.mulN (shN ls i0 q) (shD ls i0 q) (Fr.nu mm (Sh.be ls j0 : Int)) (Fr.de mm (Sh.be ls j0 : Int))) (Fr.mulD (shN ls i0 q) (shD ls i0 q) (Fr.nu mm (Sh.be ls j0 : Int)) (Fr.de mm (Sh.be ls j0 : Int)))) (Fr.sumD a b (Fr.mulN (shN ls i0 q) (shD ls i0 q) (Fr.nu mm (Sh.be ls j0 : Int)) (Fr.de mm (Sh.be ls j0 : Int))) (Fr.mulD (shN ls i0 q) (shD ls i0 q) (Fr.nu mm (Sh.be ls j0 : Int)) (Fr.de mm (Sh.be ls j0 : Int)))) (Sh.D ls (j0 + 1)) (Sh.sumS ls j0 (Sh.S ls (oneO i0)) ((ls.getD j0 default).ps.take (i + 1))) by
            intro i q mm a b hi hq hm hqj hsE hS he hme hse
            obtain ⟨_, s', d', g, hg, e1, e2, h1, h2, h3, h4, e3, e4⟩ := sh_valid hsE
            rw [Int.toNat_natCast, Int.toNat_natCast] at e3
            rw [Int.toNat_natCast] at e4
            rw [e1, e2] at hme hse ⊢
            rw [Sh.sumS_succ ls j0 (Sh.S ls (oneO i0)) hi, hq, hm, Int.toNat_natCast, Int.toNat_natCast, e3]
            refine SumIs.step hS (Sh.D_pos ls _) hg (by omega) hbp ?_ he hme hse
            rw [hDX, Sh.pr_split ls hqj, e4])
          have HPB := Lib.hid (fun i (hi : i < (ls.getD j0 default).ps.length) => part_before (herr j0 hjl) hi)
          have HFX := Lib.hid hfx
          have HZ0 : Hid (SumIs 0 1 (Sh.D ls (j0 + 1)) (Sh.sumS ls j0 (Sh.S ls (oneO i0)) ((ls.getD j0 default).ps.take 0))) := Lib.hid (SumIs.zero _)
          rw [hE] at C1
          have hpl6 := hfx.2.1
          generalize hT : Sh.be ls j0 = T at *
          have hT6 : T ≤ 600000 := by omega
          have HBE := Lib.hid hbe
          generalize Sh.D ls (j0 + 1) = X at *
          generalize ls.getD j0 default = y at *
          obtain ⟨xk, xm, ps⟩ := y
          dsimp only at *
          obtain ⟨c0, c1, c2, hps⟩ := hlot
          obtain ⟨pa, pc, rfl, hpk⟩ := hps.look
          dsimp only at c0 c1 c2
          have HC := Lib.hid (And.intro c0 (And.intro c1 c2))
          have HPK := Lib.hid hpk
          have HPS := Lib.hid hps
          have hp0i : ((ps.length : Int) == 0) = false := by simpa using hp0
          generalize hs1 : shN ls i0 j0 = s1 at *
          generalize hs2 : shD ls i0 j0 = s2 at *
          clear hE hz h0 herr hearly hfx hbe hbp htb hDX hSin c0 c1 c2 hps hpk HLK hs1 hs2 hT hp0
          have hjb1 : decide ((j0 : Int) < 0) = false := decide_eq_false (by omega)
          have hjb2 : decide (ls.length ≤ j0) = false := decide_eq_false (by omega)
          go_enter Try.func7, Try.ntmps7
          go_wp2_with fail
          refine L.out.mono ?_
          rintro e w1 ⟨rfl, rfl⟩
          have p0 := HBB.out.1.cell 0
          have p1 := HBB.out.1.cell 1
          go_wp2_with fail
          refine (C1.out _ HBB.out.2).mono ?_
          rintro e w1 ⟨rfl, h1⟩
          have bS := BlockAt.new w1 #[.int .i64 s1, .int .i64 s2] 43
          have HBB := Lib.hid (And.intro ((HBB.out.1.below h1 HBB.out.1.lt).alloc (.cells #[.int .i64 s1, .int .i64 s2] 43)) (And.intro bS (And.intro (below_alloc (below_step HBB.out.2 h1) (.cells #[.int .i64 s1, .int .i64 s2] 43)) (Nat.lt_of_lt_of_le HBB.out.1.lt h1.size))))
          clear p0 p1 h1 C1 bS
          have p0 := HBB.out.1.cell 0
          have p1 := HBB.out.1.cell 1
          have x0 := HBB.out.2.1.cell 0
          have x1 := HBB.out.2.1.cell 1
          have c0 := (HBB.out.2.2.1.cell (p := ⟨b, off + j0 * 3, none⟩) hbl).trans HC.out.1
          have c1 := (HBB.out.2.2.1.cell (p := ⟨b, off + j0 * 3 + 1, none⟩) hbl).trans HC.out.2.1
          have c2 := (HBB.out.2.2.1.cell (p := ⟨b, off + j0 * 3 + 2, none⟩) hbl).trans HC.out.2.2
          have HM0 : Hid (StD w (((w1.alloc (.cells #[.int .i64 s1, .int .i64 s2] 43)).alloc (.cells #[.int .i64 xk, .int .i64 xm, .slice pa ps.length pc] 25)).alloc (.cells #[.int .i64 0, .int .i64 1] 43)) w.heap.size w1.heap.size (w1.heap.size + 1) (w1.heap.size + 1 + 1) i0 j0 xk xm (.slice pa ps.length pc) s1 s2 0 1) := by
            have b7 := BlockAt.new (w1.alloc (.cells #[.int .i64 s1, .int .i64 s2] 43)) #[.int .i64 xk, .int .i64 xm, .slice pa ps.length pc] 25
            have b8 := BlockAt.new ((w1.alloc (.cells #[.int .i64 s1, .int .i64 s2] 43)).alloc (.cells #[.int .i64 xk, .int .i64 xm, .slice pa ps.length pc] 25)) #[.int .i64 0, .int .i64 1] 43
            simp only [World.size_alloc] at b7 b8
            exact Lib.hid ⟨⟨(HBB.out.1.alloc _).alloc _, (HBB.out.2.1.alloc _).alloc _, b7.alloc _, b8⟩, below_alloc (below_alloc HBB.out.2.2.1 _) _, Nat.le_refl _, HBB.out.2.2.2, by omega, by omega⟩
          go_wp2
          generalize hB5 : w1.heap.size = B5 at *
          generalize hB7 : B5 + 1 = B7 at *
          generalize hB8 : B7 + 1 = B8 at *
          clear hB5 hB7 hB8 p0 p1 x0 x1 c0 c1 c2
          go_loopw [9] (fun t wr => ∃ i : Nat, ∃ a b : Int, i ≤ ps.length ∧ t = .int .i64 i ∧ Hid (StD w wr w.heap.size B5 B7 B8 i0 j0 xk xm (.slice pa ps.length pc) s1 s2 a b ∧ SumIs a b X (Sh.sumS ls j0 (Sh.S ls (oneO i0)) (ps.take i)))) (fun t _ => ps.length - (intOf t).toNat)
          case atStart => exact ⟨0, 0, 1, Nat.zero_le _, rfl, Lib.hid ⟨HM0.out, HZ0.out⟩⟩
          case round =>
            obtain ⟨i, a, b', hi, rfl, hg⟩ := hrel
            clear HM0
            have HM := Lib.hid hg.out.1
            have HSI := Lib.hid hg.out.2
            have x2 := HM.out.1.2.2.1.cell 2
            clear hg
            by_cases hil : i < ps.length
            · obtain ⟨pb, poff, rfl, hpb, hpt⟩ := HPK.out i hil
              obtain ⟨q, hq, hqj⟩ := HPB.out i hil
              have hmm := HFX.out.2.2 _ (List.getElem_mem hil)
              obtain ⟨mm, hm⟩ : ∃ mm : Nat, ps[i].m = (mm : Int) := ⟨ps[i].m.toNat, by omega⟩
              rw [hm] at hmm
              have hpt0 := hpt.1
              have hpt1 := hpt.2
              rw [getD_P hil] at hpt0 hpt1
              rw [hq] at hpt0
              rw [hm] at hpt1
              have HP := Lib.hid (And.intro hpb (And.intro hpt0 hpt1))
              have sb := sh_bound ls i0 q
              have kb1 := Fr.nu_bound (mm : Int) (T : Int)
              have kb2 := Fr.de_bound (mm : Int) (T : Int)
              have tb := mul_bounds2 (shN ls i0 q) (shD ls i0 q) (Fr.nu (mm : Int) (T : Int)) (Fr.de (mm : Int) (T : Int))
              have ab := Fr.ok_iff.1 HSI.out.1
              have CS := Lib.hid (fun W (hW : Below w.heap.size w W) => share_any _ ls i0 q W (HV.out.1.all hW) HV.out.2)
              have TK := Lib.hid (fun W (hW : Below w.heap.size w W) => ref_takes_any ⟨xk, xm, ps⟩ (.slice (some ⟨pb, poff, none⟩) ps.length pc) W (HPS.out.all hW) (tame_of HFX.out))
              dsimp only at TK
              rw [← HBE.out] at TK
              have MK := Lib.hid (fun W (hW : Below w.heap.size w W) => make_any (mm : Int) (T : Int) W (by omega) (by omega) (by omega) (by omega))
              have ML := Lib.hid (fun W => numMul_any (shN ls i0 q) (shD ls i0 q) (Fr.nu (mm : Int) (T : Int)) (Fr.de (mm : Int) (T : Int)) W sb.1.1 sb.1.2 sb.2.1 sb.2.2 (by omega) (by omega) (by omega) (by omega))
              have AD := Lib.hid (fun W => numAdd_any a b' (Fr.mulN (shN ls i0 q) (shD ls i0 q) (Fr.nu (mm : Int) (T : Int)) (Fr.de (mm : Int) (T : Int))) (Fr.mulD (shN ls i0 q) (shD ls i0 q) (Fr.nu (mm : Int) (T : Int)) (Fr.de (mm : Int) (T : Int))) W (by omega) (by omega) (by omega) (by omega) (by omega) (by omega) (by omega) (by omega))
              have HST := Lib.hid (fun h1 h2 h3 h4 => HSTEP.out i q mm a b' hil hq hm hqj h1 HSI.out h2 h3 h4)
              generalize Fr.sumN a b' (Fr.mulN (shN ls i0 q) (shD ls i0 q) (Fr.nu (mm : Int) (T : Int)) (Fr.de (mm : Int) (T : Int))) (Fr.mulD (shN ls i0 q) (shD ls i0 q) (Fr.nu (mm : Int) (T : Int)) (Fr.de (mm : Int) (T : Int))) = u1 at *
              generalize Fr.sumD a b' (Fr.mulN (shN ls i0 q) (shD ls i0 q) (Fr.nu (mm : Int) (T : Int)) (Fr.de (mm : Int) (T : Int))) (Fr.mulD (shN ls i0 q) (shD ls i0 q) (Fr.nu (mm : Int) (T : Int)) (Fr.de (mm : Int) (T : Int))) = u2 at *
              generalize Fr.sumE a b' (Fr.mulN (shN ls i0 q) (shD ls i0 q) (Fr.nu (mm : Int) (T : Int)) (Fr.de (mm : Int) (T : Int))) (Fr.mulD (shN ls i0 q) (shD ls i0 q) (Fr.nu (mm : Int) (T : Int)) (Fr.de (mm : Int) (T : Int))) = ue at *
              generalize Fr.mulN (shN ls i0 q) (shD ls i0 q) (Fr.nu (mm : Int) (T : Int)) (Fr.de (mm : Int) (T : Int)) = t1 at *
              generalize Fr.mulD (shN ls i0 q) (shD ls i0 q) (Fr.nu (mm : Int) (T : Int)) (Fr.de (mm : Int) (T : Int)) = t2 at *
              generalize Fr.mulE (shN ls i0 q) (shD ls i0 q) (Fr.nu (mm : Int) (T : Int)) (Fr.de (mm : Int) (T : Int)) = te at *
              generalize Fr.nu (mm : Int) (T : Int) = k1 at *
              generalize Fr.de (mm : Int) (T : Int) = k2 at *
              generalize Fr.er (mm : Int) (T : Int) = ke at *
              generalize shN ls i0 q = r1 at *
              generalize shD ls i0 q = r2 at *
              generalize shE ls i0 q = re at *
              clear sb kb1 kb2 tb ab hpt hpt0 hpt1 hmm hm hq
              go_wp2_with fail
              clear x2
              refine wp_region_meet (β := Nat) (.take 0 (.take 1 (.take 2 (.take 3 (.take 4 (.take 5 (.take 6 (.take 7 (.take 8 (.two 9 (.take 10 (.take 11 (.take 12 (.one 13 (.one 14 (.take 15 .done)))))) 13 (.one 9 (.take 10 (.take 11 (.take 12 (.one 14 (.take 15 .done))))))))))))))))
                (fun W => CelD W w.heap.size B7 pb (poff + i * 2) i0 j0 xk xm (.slice (some ⟨pb, poff, none⟩) ps.length pc) (q : Int) (mm : Int))
                (fun x => [(107, .slice (some ⟨b, off, none⟩) ls.length lc), (108, .pointer (some ⟨w.heap.size, 0, none⟩)), (109, .int .i64 (i0 : Int)), (110, .pointer (some ⟨B7, 2, none⟩)), (111, .slice (some ⟨pb, poff, none⟩) ps.length pc), (112, .int .i64 (i : Int)), (113, .pointer (some ⟨pb, poff + i * 2, none⟩)), (114, .pointer (some ⟨pb, poff + i * 2, none⟩)), (115, .int .i64 (q : Int)), (116, .tuple #[rat r1 r2, .int .i64 re]), (106, .tuple #[rat r1 r2, .int .i64 re]), (117, rat r1 r2), (118, .int .i64 re), (10, .pointer (some ⟨x, 0, none⟩)), (11, .int .i64 re)])
                (fun x Y => StD w Y w.heap.size B5 B7 B8 i0 j0 xk xm (.slice (some ⟨pb, poff, none⟩) ps.length pc) s1 s2 a b' ∧ BlockAt Y x #[.int .i64 r1, .int .i64 r2] 43 ∧ B8 < x)
                (by kernel_rfl) (by kernel_rfl) (by kernel_rfl) (by kernel_rfl) (HM.out.drew.cells HP.out.1 HP.out.2.1 HP.out.2.2) (fun hS => ?_) ?_
              · have HM := Lib.hid HM.out.drew
                generalize wr.drew = X0 at *
                clear hS
                repeat (refine SeqT.ld (v := ?_) rfl (by rfl) ?_ ?_; rotate_left; (· intro w hSw; (try dsimp only at hSw); (try (obtain ⟨⟨f0, f1⟩, ⟨f2, f3, f4⟩, f5, f6⟩ := hSw)); go_simp; (try with_reducible rfl)); simp only [Act.put, List.setIfInBounds_toArray, List.set_cons_zero, List.set_cons_succ])
                refine ⟨wpOp_stepS rfl (by rfl) (fun K hK => ?_), wpOp_stepS rfl (by rfl) (fun K hK => ?_)⟩
                · go_simp
                  refine (CS.out _ HM.out.2.1).mono ?_
                  rintro e X1 ⟨rfl, hbY⟩
                  have HM := Lib.hid (HM.out.below hbY)
                  clear hbY
                  try dsimp only
                  refine hK.out _ _ (HM.out.cells HP.out.1 HP.out.2.1 HP.out.2.2) (fun _ => ?_)
                  clear hK K
                  try simp only [Act.put, List.setIfInBounds_toArray, List.set_cons_zero, List.set_cons_succ]
                  repeat (refine SeqT.ld (v := ?_) rfl (by rfl) ?_ ?_; rotate_left; (· intro w hSw; (try dsimp only at hSw); (try (obtain ⟨⟨f0, f1⟩, ⟨f2, f3, f4⟩, f5, f6⟩ := hSw)); go_simp; (try with_reducible rfl)); simp only [Act.put, List.setIfInBounds_toArray, List.set_cons_zero, List.set_cons_succ])
                  refine wpOp_stepS rfl (by rfl) (fun K hK => ?_)
                  go_simp
                  obtain ⟨X2, hY⟩ : ∃ Y, X1.alloc (.cells #[.int .i64 0, .int .i64 0] 43) = Y := ⟨_, rfl⟩
                  have hbY : Below X1.heap.size X1 X2 := by rw [← hY]; exact below_alloc (Below.refl _ _) _
                  have hN : BlockAt X2 X1.heap.size #[.int .i64 0, .int .i64 0] 43 := by rw [← hY]; exact BlockAt.new _ _ _
                  have hlt8 := HM.out.lt8
                  rw [hY]
                  have HM := Lib.hid (HM.out.below hbY)
                  generalize X1.heap.size = x at *
                  have HA := Lib.hid (And.intro hN hlt8)
                  clear hY hbY hN hlt8
                  try dsimp only
                  refine hK.out _ _ (HM.out.cells HP.out.1 HP.out.2.1 HP.out.2.2) (fun _ => ?_)
                  clear hK K
                  try simp only [Act.put, List.setIfInBounds_toArray, List.set_cons_zero, List.set_cons_succ]
                  repeat (refine SeqT.ld (v := ?_) rfl (by rfl) ?_ ?_; rotate_left; (· intro w hSw; (try dsimp only at hSw); (try (obtain ⟨⟨f0, f1⟩, ⟨f2, f3, f4⟩, f5, f6⟩ := hSw)); go_simp; (try with_reducible rfl)); simp only [Act.put, List.setIfInBounds_toArray, List.set_cons_zero, List.set_cons_succ])
                  refine wpOp_stepS rfl (by rfl) (fun K hK => ?_)
                  have d0 := HA.out.1.cell 0
                  have d1 := HA.out.1.cell 1
                  have e0 := HA.out.1.frozen 0
                  have e1' := HA.out.1.frozen 1
                  have hxs := HA.out.1.lt
                  go_simp
                  obtain ⟨X3, hY⟩ : ∃ Y, (X2.setCell ⟨x, 0, none⟩ (.int .i64 r1)).setCell ⟨x, 1, none⟩ (.int .i64 r2) = Y := ⟨_, rfl⟩
                  have hN : BlockAt X3 x #[.int .i64 r1, .int .i64 r2] 43 := by rw [← hY]; exact (HA.out.1.set 0 _).set 1 _
                  rw [hY]
                  have HM := Lib.hid (show StD w X3 _ _ _ _ _ _ _ _ _ _ _ _ _ by rw [← hY]; exact HM.out.store HA.out.2 _ _)
                  have HA := Lib.hid (And.intro hN HA.out.2)
                  clear hY hN d0 d1 e0 e1' hxs
                  try dsimp only
                  refine hK.out _ _ (HM.out.cells HP.out.1 HP.out.2.1 HP.out.2.2) (fun _ => ?_)
                  clear hK K
                  try simp only [Act.put, List.setIfInBounds_toArray, List.set_cons_zero, List.set_cons_succ]
                  repeat (refine SeqT.ld (v := ?_) rfl (by rfl) ?_ ?_; rotate_left; (· intro w hSw; (try dsimp only at hSw); (try (obtain ⟨⟨f0, f1⟩, ⟨f2, f3, f4⟩, f5, f6⟩ := hSw)); go_simp; (try with_reducible rfl)); simp only [Act.put, List.setIfInBounds_toArray, List.set_cons_zero, List.set_cons_succ])
                  exact SeqT.fin ⟨rfl, x, by simp only [putAll, Act.put, List.setIfInBounds_toArray, List.set_cons_zero, List.set_cons_succ], HM.out, HA.out.1, HA.out.2⟩
                · go_simp
                  obtain ⟨X1, hY⟩ : ∃ Y, X0.alloc (.cells #[.int .i64 0, .int .i64 0] 43) = Y := ⟨_, rfl⟩
                  have hbY : Below X0.heap.size X0 X1 := by rw [← hY]; exact below_alloc (Below.refl _ _) _
                  have hN : BlockAt X1 X0.heap.size #[.int .i64 0, .int .i64 0] 43 := by rw [← hY]; exact BlockAt.new _ _ _
                  have hlt8 := HM.out.lt8
                  rw [hY]
                  have HM := Lib.hid (HM.out.below hbY)
                  generalize X0.heap.size = x at *
                  have HA := Lib.hid (And.intro hN hlt8)
                  clear hY hbY hN hlt8
                  try dsimp only
                  refine hK.out _ _ (HM.out.cells HP.out.1 HP.out.2.1 HP.out.2.2) (fun _ => ?_)
                  clear hK K
                  try simp only [Act.put, List.setIfInBounds_toArray, List.set_cons_zero, List.set_cons_succ]
                  repeat (refine SeqT.ld (v := ?_) rfl (by rfl) ?_ ?_; rotate_left; (· intro w hSw; (try dsimp only at hSw); (try (obtain ⟨⟨f0, f1⟩, ⟨f2, f3, f4⟩, f5, f6⟩ := hSw)); go_simp; (try with_reducible rfl)); simp only [Act.put, List.setIfInBounds_toArray, List.set_cons_zero, List.set_cons_succ])
                  refine wpOp_stepS rfl (by rfl) (fun K hK => ?_)
                  go_simp
                  refine (CS.out _ HM.out.2.1).mono ?_
                  rintro e X2 ⟨rfl, hbY⟩
                  have HM := Lib.hid (HM.out.below hbY)
                  have HA := Lib.hid (And.intro (HA.out.1.below hbY HA.out.1.lt) HA.out.2)
                  clear hbY
                  try dsimp only
                  refine hK.out _ _ (HM.out.cells HP.out.1 HP.out.2.1 HP.out.2.2) (fun _ => ?_)
                  clear hK K
                  try simp only [Act.put, List.setIfInBounds_toArray, List.set_cons_zero, List.set_cons_succ]
                  repeat (refine SeqT.ld (v := ?_) rfl (by rfl) ?_ ?_; rotate_left; (· intro w hSw; (try dsimp only at hSw); (try (obtain ⟨⟨f0, f1⟩, ⟨f2, f3, f4⟩, f5, f6⟩ := hSw)); go_simp; (try with_reducible rfl)); simp only [Act.put, List.setIfInBounds_toArray, List.set_cons_zero, List.set_cons_succ])
                  refine wpOp_stepS rfl (by rfl) (fun K hK => ?_)
                  have d0 := HA.out.1.cell 0
                  have d1 := HA.out.1.cell 1
                  have e0 := HA.out.1.frozen 0
                  have e1' := HA.out.1.frozen 1
                  have hxs := HA.out.1.lt
                  go_simp
                  obtain ⟨X3, hY⟩ : ∃ Y, (X2.setCell ⟨x, 0, none⟩ (.int .i64 r1)).setCell ⟨x, 1, none⟩ (.int .i64 r2) = Y := ⟨_, rfl⟩
                  have hN : BlockAt X3 x #[.int .i64 r1, .int .i64 r2] 43 := by rw [← hY]; exact (HA.out.1.set 0 _).set 1 _
                  rw [hY]
                  have HM := Lib.hid (show StD w X3 _ _ _ _ _ _ _ _ _ _ _ _ _ by rw [← hY]; exact HM.out.store HA.out.2 _ _)
                  have HA := Lib.hid (And.intro hN HA.out.2)
                  clear hY hN d0 d1 e0 e1' hxs
                  try dsimp only
                  refine hK.out _ _ (HM.out.cells HP.out.1 HP.out.2.1 HP.out.2.2) (fun _ => ?_)
                  clear hK K
                  try simp only [Act.put, List.setIfInBounds_toArray, List.set_cons_zero, List.set_cons_succ]
                  repeat (refine SeqT.ld (v := ?_) rfl (by rfl) ?_ ?_; rotate_left; (· intro w hSw; (try dsimp only at hSw); (try (obtain ⟨⟨f0, f1⟩, ⟨f2, f3, f4⟩, f5, f6⟩ := hSw)); go_simp; (try with_reducible rfl)); simp only [Act.put, List.setIfInBounds_toArray, List.set_cons_zero, List.set_cons_succ])
                  exact SeqT.fin ⟨rfl, x, by simp only [putAll, Act.put, List.setIfInBounds_toArray, List.set_cons_zero, List.set_cons_succ], HM.out, HA.out.1, HA.out.2⟩
              intro xs wx hF
              have HM : Hid (StD2 w wx w.heap.size B5 B7 B8 xs i0 j0 xk xm (.slice (some ⟨pb, poff, none⟩) ps.length pc) s1 s2 a b' r1 r2) := Lib.hid hF
              clear hF CS
              simp only [putAll, Act.put, List.setIfInBounds_toArray, List.set_cons_zero, List.set_cons_succ]
              go_wp2_with fail
              refine wp_region_meet (β := Nat) (.take 0 (.take 1 (.take 2 (.take 3 (.take 4 (.take 5 (.take 6 (.two 7 (.two 8 (.take 9 (.take 10 (.take 11 (.one 12 (.one 13 (.take 14 .done)))))) 12 (.one 8 (.take 9 (.take 10 (.take 11 (.one 13 (.take 14 .done))))))) 12 (.one 7 (.one 8 (.take 9 (.take 10 (.take 11 (.one 13 (.take 14 .done)))))))))))))))
                (fun W => CelD W w.heap.size B7 pb (poff + i * 2) i0 j0 xk xm (.slice (some ⟨pb, poff, none⟩) ps.length pc) (q : Int) (mm : Int))
                (fun x => [(120, .pointer (some ⟨B7, 2, none⟩)), (121, .slice (some ⟨pb, poff, none⟩) ps.length pc), (122, .int .i64 (i : Int)), (123, .pointer (some ⟨pb, poff + i * 2, none⟩)), (124, .pointer (some ⟨pb, poff + i * 2 + 1, none⟩)), (125, .int .i64 (mm : Int)), (126, .agg #[.int .i64 xk, .int .i64 xm, .slice (some ⟨pb, poff, none⟩) ps.length pc]), (127, .int .i64 (T : Int)), (128, .tuple #[rat k1 k2, .int .i64 ke]), (119, .tuple #[rat k1 k2, .int .i64 ke]), (129, rat k1 k2), (130, .int .i64 ke), (12, .pointer (some ⟨x, 0, none⟩)), (13, .int .i64 ke)])
                (fun x Y => StD2 w Y w.heap.size B5 B7 B8 xs i0 j0 xk xm (.slice (some ⟨pb, poff, none⟩) ps.length pc) s1 s2 a b' r1 r2 ∧ BlockAt Y x #[.int .i64 k1, .int .i64 k2] 43 ∧ xs < x)
                (by kernel_rfl) (by kernel_rfl) (by kernel_rfl) (by kernel_rfl) (HM.out.drew.cells HP.out.1 HP.out.2.1 HP.out.2.2) (fun hS => ?_) ?_
              · have HM := Lib.hid HM.out.drew
                generalize wx.drew = X0 at *
                clear hS
                repeat (refine SeqT.ld (v := ?_) rfl (by rfl) ?_ ?_; rotate_left; (· intro w hSw; (try dsimp only at hSw); (try (obtain ⟨⟨f0, f1⟩, ⟨f2, f3, f4⟩, f5, f6⟩ := hSw)); go_simp; (try with_reducible rfl)); simp only [Act.put, List.setIfInBounds_toArray, List.set_cons_zero, List.set_cons_succ])
                refine ⟨wpOp_stepS rfl (by rfl) (fun K hK => ?_), wpOp_stepS rfl (by rfl) (fun K hK => ?_)⟩
                · go_simp
                  refine (TK.out _ HM.out.1.2.1).mono ?_
                  rintro e X1 ⟨rfl, hbY⟩
                  have HM := Lib.hid (HM.out.below hbY)
                  clear hbY
                  try dsimp only
                  refine hK.out _ _ (HM.out.cells HP.out.1 HP.out.2.1 HP.out.2.2) (fun _ => ?_)
                  clear hK K
                  try simp only [Act.put, List.setIfInBounds_toArray, List.set_cons_zero, List.set_cons_succ]
                  repeat (refine SeqT.ld (v := ?_) rfl (by rfl) ?_ ?_; rotate_left; (· intro w hSw; (try dsimp only at hSw); (try (obtain ⟨⟨f0, f1⟩, ⟨f2, f3, f4⟩, f5, f6⟩ := hSw)); go_simp; (try with_reducible rfl)); simp only [Act.put, List.setIfInBounds_toArray, List.set_cons_zero, List.set_cons_succ])
                  refine ⟨wpOp_stepS rfl (by rfl) (fun K hK => ?_), wpOp_stepS rfl (by rfl) (fun K hK => ?_)⟩
                  · go_simp
                    refine (MK.out _ HM.out.1.2.1).mono ?_
                    rintro e X2 ⟨rfl, hbY⟩
                    have HM := Lib.hid (HM.out.below hbY)
                    clear hbY
                    try dsimp only
                    refine hK.out _ _ (HM.out.cells HP.out.1 HP.out.2.1 HP.out.2.2) (fun _ => ?_)
                    clear hK K
                    try simp only [Act.put, List.setIfInBounds_toArray, List.set_cons_zero, List.set_cons_succ]
                    repeat (refine SeqT.ld (v := ?_) rfl (by rfl) ?_ ?_; rotate_left; (· intro w hSw; (try dsimp only at hSw); (try (obtain ⟨⟨f0, f1⟩, ⟨f2, f3, f4⟩, f5, f6⟩ := hSw)); go_simp; (try with_reducible rfl)); simp only [Act.put, List.setIfInBounds_toArray, List.set_cons_zero, List.set_cons_succ])
                    refine wpOp_stepS rfl (by rfl) (fun K hK => ?_)
                    go_simp
                    obtain ⟨X3, hY⟩ : ∃ Y, X2.alloc (.cells #[.int .i64 0, .int .i64 0] 43) = Y := ⟨_, rfl⟩
                    have hbY : Below X2.heap.size X2 X3 := by rw [← hY]; exact below_alloc (Below.refl _ _) _
                    have hN : BlockAt X3 X2.heap.size #[.int .i64 0, .int .i64 0] 43 := by rw [← hY]; exact BlockAt.new _ _ _
                    have hlt8 := HM.out.lt8
                    rw [hY]
                    have HM := Lib.hid (HM.out.below hbY)
                    generalize X2.heap.size = x at *
                    have HA := Lib.hid (And.intro hN hlt8)
                    clear hY hbY hN hlt8
                    try dsimp only
                    refine hK.out _ _ (HM.out.cells HP.out.1 HP.out.2.1 HP.out.2.2) (fun _ => ?_)
                    clear hK K
                    try simp only [Act.put, List.setIfInBounds_toArray, List.set_cons_zero, List.set_cons_succ]
                    repeat (refine SeqT.ld (v := ?_) rfl (by rfl) ?_ ?_; rotate_left; (· intro w hSw; (try dsimp only at hSw); (try (obtain ⟨⟨f0, f1⟩, ⟨f2, f3, f4⟩, f5, f6⟩ := hSw)); go_simp; (try with_reducible rfl)); simp only [Act.put, List.setIfInBounds_toArray, List.set_cons_zero, List.set_cons_succ])
                    refine wpOp_stepS rfl (by rfl) (fun K hK => ?_)
                    have d0 := HA.out.1.cell 0
                    have d1 := HA.out.1.cell 1
                    have e0 := HA.out.1.frozen 0
                    have e1' := HA.out.1.frozen 1
                    have hxs := HA.out.1.lt
                    go_simp
                    obtain ⟨X4, hY⟩ : ∃ Y, (X3.setCell ⟨x, 0, none⟩ (.int .i64 k1)).setCell ⟨x, 1, none⟩ (.int .i64 k2) = Y := ⟨_, rfl⟩
                    have hN : BlockAt X4 x #[.int .i64 k1, .int .i64 k2] 43 := by rw [← hY]; exact (HA.out.1.set 0 _).set 1 _
                    rw [hY]
                    have HM := Lib.hid (show StD2 w X4 _ _ _ _ _ _ _ _ _ _ _ _ _ _ _ _ by rw [← hY]; exact HM.out.store HA.out.2 _ _)
                    have HA := Lib.hid (And.intro hN HA.out.2)
                    clear hY hN d0 d1 e0 e1' hxs
                    try dsimp only
                    refine hK.out _ _ (HM.out.cells HP.out.1 HP.out.2.1 HP.out.2.2) (fun _ => ?_)
                    clear hK K
                    try simp only [Act.put, List.setIfInBounds_toArray, List.set_cons_zero, List.set_cons_succ]
                    repeat (refine SeqT.ld (v := ?_) rfl (by rfl) ?_ ?_; rotate_left; (· intro w hSw; (try dsimp only at hSw); (try (obtain ⟨⟨f0, f1⟩, ⟨f2, f3, f4⟩, f5, f6⟩ := hSw)); go_simp; (try with_reducible rfl)); simp only [Act.put, List.setIfInBounds_toArray, List.set_cons_zero, List.set_cons_succ])
                    exact SeqT.fin ⟨rfl, x, by simp only [putAll, Act.put, List.setIfInBounds_toArray, List.set_cons_zero, List.set_cons_succ], HM.out, HA.out.1, HA.out.2⟩
                  · go_simp
                    obtain ⟨X2, hY⟩ : ∃ Y, X1.alloc (.cells #[.int .i64 0, .int .i64 0] 43) = Y := ⟨_, rfl⟩
                    have hbY : Below X1.heap.size X1 X2 := by rw [← hY]; exact below_alloc (Below.refl _ _) _
                    have hN : BlockAt X2 X1.heap.size #[.int .i64 0, .int .i64 0] 43 := by rw [← hY]; exact BlockAt.new _ _ _
                    have hlt8 := HM.out.lt8
                    rw [hY]
                    have HM := Lib.hid (HM.out.below hbY)
                    generalize X1.heap.size = x at *
                    have HA := Lib.hid (And.intro hN hlt8)
                    clear hY hbY hN hlt8
                    try dsimp only
                    refine hK.out _ _ (HM.out.cells HP.out.1 HP.out.2.1 HP.out.2.2) (fun _ => ?_)
                    clear hK K
                    try simp only [Act.put, List.setIfInBounds_toArray, List.set_cons_zero, List.set_cons_succ]
                    repeat (refine SeqT.ld (v := ?_) rfl (by rfl) ?_ ?_; rotate_left; (· intro w hSw; (try dsimp only at hSw); (try (obtain ⟨⟨f0, f1⟩, ⟨f2, f3, f4⟩, f5, f6⟩ := hSw)); go_simp; (try with_reducible rfl)); simp only [Act.put, List.setIfInBounds_toArray, List.set_cons_zero, List.set_cons_succ])
                    refine wpOp_stepS rfl (by rfl) (fun K hK => ?_)
                    go_simp
                    refine (MK.out _ HM.out.1.2.1).mono ?_
                    rintro e X3 ⟨rfl, hbY⟩
                    have HM := Lib.hid (HM.out.below hbY)
                    have HA := Lib.hid (And.intro (HA.out.1.below hbY HA.out.1.lt) HA.out.2)
                    clear hbY
                    try dsimp only
                    refine hK.out _ _ (HM.out.cells HP.out.1 HP.out.2.1 HP.out.2.2) (fun _ => ?_)
                    clear hK K
                    try simp only [Act.put, List.setIfInBounds_toArray, List.set_cons_zero, List.set_cons_succ]
                    repeat (refine SeqT.ld (v := ?_) rfl (by rfl) ?_ ?_; rotate_left; (· intro w hSw; (try dsimp only at hSw); (try (obtain ⟨⟨f0, f1⟩, ⟨f2, f3, f4⟩, f5, f6⟩ := hSw)); go_simp; (try with_reducible rfl)); simp only [Act.put, List.setIfInBounds_toArray, List.set_cons_zero, List.set_cons_succ])
                    refine wpOp_stepS rfl (by rfl) (fun K hK => ?_)
                    have d0 := HA.out.1.cell 0
                    have d1 := HA.out.1.cell 1
                    have e0 := HA.out.1.frozen 0
                    have e1' := HA.out.1.frozen 1
                    have hxs := HA.out.1.lt
                    go_simp
                    obtain ⟨X4, hY⟩ : ∃ Y, (X3.setCell ⟨x, 0, none⟩ (.int .i64 k1)).setCell ⟨x, 1, none⟩ (.int .i64 k2) = Y := ⟨_, rfl⟩
                    have hN : BlockAt X4 x #[.int .i64 k1, .int .i64 k2] 43 := by rw [← hY]; exact (HA.out.1.set 0 _).set 1 _
                    rw [hY]
                    have HM := Lib.hid (show StD2 w X4 _ _ _ _ _ _ _ _ _ _ _ _ _ _ _ _ by rw [← hY]; exact HM.out.store HA.out.2 _ _)
                    have HA := Lib.hid (And.intro hN HA.out.2)
                    clear hY hN d0 d1 e0 e1' hxs
                    try dsimp only
                    refine hK.out _ _ (HM.out.cells HP.out.1 HP.out.2.1 HP.out.2.2) (fun _ => ?_)
                    clear hK K
                    try simp only [Act.put, List.setIfInBounds_toArray, List.set_cons_zero, List.set_cons_succ]
                    repeat (refine SeqT.ld (v := ?_) rfl (by rfl) ?_ ?_; rotate_left; (· intro w hSw; (try dsimp only at hSw); (try (obtain ⟨⟨f0, f1⟩, ⟨f2, f3, f4⟩, f5, f6⟩ := hSw)); go_simp; (try with_reducible rfl)); simp only [Act.put, List.setIfInBounds_toArray, List.set_cons_zero, List.set_cons_succ])
                    exact SeqT.fin ⟨rfl, x, by simp only [putAll, Act.put, List.setIfInBounds_toArray, List.set_cons_zero, List.set_cons_succ], HM.out, HA.out.1, HA.out.2⟩
                · go_simp
                  obtain ⟨X1, hY⟩ : ∃ Y, X0.alloc (.cells #[.int .i64 0, .int .i64 0] 43) = Y := ⟨_, rfl⟩
                  have hbY : Below X0.heap.size X0 X1 := by rw [← hY]; exact below_alloc (Below.refl _ _) _
                  have hN : BlockAt X1 X0.heap.size #[.int .i64 0, .int .i64 0] 43 := by rw [← hY]; exact BlockAt.new _ _ _
                  have hlt8 := HM.out.lt8
                  rw [hY]
                  have HM := Lib.hid (HM.out.below hbY)
                  generalize X0.heap.size = x at *
                  have HA := Lib.hid (And.intro hN hlt8)
                  clear hY hbY hN hlt8
                  try dsimp only
                  refine hK.out _ _ (HM.out.cells HP.out.1 HP.out.2.1 HP.out.2.2) (fun _ => ?_)
                  clear hK K
                  try simp only [Act.put, List.setIfInBounds_toArray, List.set_cons_zero, List.set_cons_succ]
                  repeat (refine SeqT.ld (v := ?_) rfl (by rfl) ?_ ?_; rotate_left; (· intro w hSw; (try dsimp only at hSw); (try (obtain ⟨⟨f0, f1⟩, ⟨f2, f3, f4⟩, f5, f6⟩ := hSw)); go_simp; (try with_reducible rfl)); simp only [Act.put, List.setIfInBounds_toArray, List.set_cons_zero, List.set_cons_succ])
                  refine wpOp_stepS rfl (by rfl) (fun K hK => ?_)
                  go_simp
                  refine (TK.out _ HM.out.1.2.1).mono ?_
                  rintro e X2 ⟨rfl, hbY⟩
                  have HM := Lib.hid (HM.out.below hbY)
                  have HA := Lib.hid (And.intro (HA.out.1.below hbY HA.out.1.lt) HA.out.2)
                  clear hbY
                  try dsimp only
                  refine hK.out _ _ (HM.out.cells HP.out.1 HP.out.2.1 HP.out.2.2) (fun _ => ?_)
                  clear hK K
                  try simp only [Act.put, List.setIfInBounds_toArray, List.set_cons_zero, List.set_cons_succ]
                  repeat (refine SeqT.ld (v := ?_) rfl (by rfl) ?_ ?_; rotate_left; (· intro w hSw; (try dsimp only at hSw); (try (obtain ⟨⟨f0, f1⟩, ⟨f2, f3, f4⟩, f5, f6⟩ := hSw)); go_simp; (try with_reducible rfl)); simp only [Act.put, List.setIfInBounds_toArray, List.set_cons_zero, List.set_cons_succ])
                  refine wpOp_stepS rfl (by rfl) (fun K hK => ?_)
                  go_simp
                  refine (MK.out _ HM.out.1.2.1).mono ?_
                  rintro e X3 ⟨rfl, hbY⟩
                  have HM := Lib.hid (HM.out.below hbY)
                  have HA := Lib.hid (And.intro (HA.out.1.below hbY HA.out.1.lt) HA.out.2)
                  clear hbY
                  try dsimp only
                  refine hK.out _ _ (HM.out.cells HP.out.1 HP.out.2.1 HP.out.2.2) (fun _ => ?_)
                  clear hK K
                  try simp only [Act.put, List.setIfInBounds_toArray, List.set_cons_zero, List.set_cons_succ]
                  repeat (refine SeqT.ld (v := ?_) rfl (by rfl) ?_ ?_; rotate_left; (· intro w hSw; (try dsimp only at hSw); (try (obtain ⟨⟨f0, f1⟩, ⟨f2, f3, f4⟩, f5, f6⟩ := hSw)); go_simp; (try with_reducible rfl)); simp only [Act.put, List.setIfInBounds_toArray, List.set_cons_zero, List.set_cons_succ])
                  refine wpOp_stepS rfl (by rfl) (fun K hK => ?_)
                  have d0 := HA.out.1.cell 0
                  have d1 := HA.out.1.cell 1
                  have e0 := HA.out.1.frozen 0
                  have e1' := HA.out.1.frozen 1
                  have hxs := HA.out.1.lt
                  go_simp
                  obtain ⟨X4, hY⟩ : ∃ Y, (X3.setCell ⟨x, 0, none⟩ (.int .i64 k1)).setCell ⟨x, 1, none⟩ (.int .i64 k2) = Y := ⟨_, rfl⟩
                  have hN : BlockAt X4 x #[.int .i64 k1, .int .i64 k2] 43 := by rw [← hY]; exact (HA.out.1.set 0 _).set 1 _
                  rw [hY]
                  have HM := Lib.hid (show StD2 w X4 _ _ _ _ _ _ _ _ _ _ _ _ _ _ _ _ by rw [← hY]; exact HM.out.store HA.out.2 _ _)
                  have HA := Lib.hid (And.intro hN HA.out.2)
                  clear hY hN d0 d1 e0 e1' hxs
                  try dsimp only
                  refine hK.out _ _ (HM.out.cells HP.out.1 HP.out.2.1 HP.out.2.2) (fun _ => ?_)
                  clear hK K
                  try simp only [Act.put, List.setIfInBounds_toArray, List.set_cons_zero, List.set_cons_succ]
                  repeat (refine SeqT.ld (v := ?_) rfl (by rfl) ?_ ?_; rotate_left; (· intro w hSw; (try dsimp only at hSw); (try (obtain ⟨⟨f0, f1⟩, ⟨f2, f3, f4⟩, f5, f6⟩ := hSw)); go_simp; (try with_reducible rfl)); simp only [Act.put, List.setIfInBounds_toArray, List.set_cons_zero, List.set_cons_succ])
                  exact SeqT.fin ⟨rfl, x, by simp only [putAll, Act.put, List.setIfInBounds_toArray, List.set_cons_zero, List.set_cons_succ], HM.out, HA.out.1, HA.out.2⟩
              intro xk2 wy hF
              have HM : Hid (StD2 w wy w.heap.size B5 B7 B8 xs i0 j0 xk xm (.slice (some ⟨pb, poff, none⟩) ps.length pc) s1 s2 a b' r1 r2 ∧ BlockAt wy xk2 #[.int .i64 k1, .int .i64 k2] 43) := Lib.hid ⟨hF.1, hF.2.1⟩
              clear hF TK MK
              simp only [putAll, Act.put, List.setIfInBounds_toArray, List.set_cons_zero, List.set_cons_succ]
              have y0 := HM.out.1.2.1.cell 0
              have y1 := HM.out.1.2.1.cell 1
              have z0 := HM.out.2.cell 0
              have z1 := HM.out.2.cell 1
              go_wp2_with fail
              refine (ML.out _).mono ?_
              rintro e w5 ⟨rfl, hb5⟩
              have HM : Hid (StD w (w5.alloc (.cells #[.int .i64 t1, .int .i64 t2] 43)) w.heap.size B5 B7 B8 i0 j0 xk xm (.slice (some ⟨pb, poff, none⟩) ps.length pc) s1 s2 a b' ∧ BlockAt (w5.alloc (.cells #[.int .i64 t1, .int .i64 t2] 43)) w5.heap.size #[.int .i64 t1, .int .i64 t2] 43) := Lib.hid ⟨(HM.out.1.1.below hb5).below (below_alloc (Below.refl _ _) _), BlockAt.new _ _ _⟩
              clear hb5 ML y0 y1 z0 z1
              have y0 := HM.out.1.1.2.2.2.cell 0
              have y1 := HM.out.1.1.2.2.2.cell 1
              have z0 := HM.out.2.cell 0
              have z1 := HM.out.2.cell 1
              go_wp2_with fail
              refine (AD.out _).mono ?_
              rintro e w6 ⟨rfl, hb6⟩
              have HM : Hid (StD w (w6.alloc (.cells #[.int .i64 u1, .int .i64 u2] 43)) w.heap.size B5 B7 B8 i0 j0 xk xm (.slice (some ⟨pb, poff, none⟩) ps.length pc) s1 s2 a b' ∧ BlockAt (w6.alloc (.cells #[.int .i64 u1, .int .i64 u2] 43)) w6.heap.size #[.int .i64 u1, .int .i64 u2] 43) := Lib.hid ⟨(HM.out.1.below hb6).below (below_alloc (Below.refl _ _) _), BlockAt.new _ _ _⟩
              clear hb6 AD y0 y1 z0 z1
              by_cases o1 : re = 0 ∧ ke = 0 ∧ te = 0 ∧ ue = 0
              · obtain ⟨rfl, rfl, rfl, rfl⟩ := o1
                have HSN := Lib.hid (HST.out rfl rfl rfl rfl)
                have z0 := HM.out.2.cell 0
                have z1 := HM.out.2.cell 1
                have y0 := HM.out.1.1.2.2.2.cell 0
                have y1 := HM.out.1.1.2.2.2.cell 1
                have e0 := HM.out.1.1.2.2.2.frozen 0
                have e1' := HM.out.1.1.2.2.2.frozen 1
                have h8 := HM.out.1.lt8
                have HM3 := Lib.hid (HM.out.1.sum u1 u2)
                clear HST
                go_wp2
                go_roundw
                case rel => exact ⟨i + 1, u1, u2, by omega, by go_num, Lib.hid ⟨HM3.out, HSN.out⟩⟩
                case measure => simp [intOf]; omega
              · have h7 := HM.out.1.2.1
                clear HST HM
                by_cases p1 : re = 0
                · subst p1
                  by_cases p2 : ke = 0
                  · subst p2
                    by_cases p3 : te = 0
                    · subst p3
                      have p4 : (ue != 0) = true := by simp at o1; simpa using o1
                      clear o1
                      go_wp2_with fail
                      refine (known_any _).mono ?_
                      rintro e w9 ⟨rfl, h9⟩
                      have h9 := below_step h7 h9
                      go_wp2
                      go_ret
                      exact ⟨rfl, h9⟩
                    · have p4 : (te != 0) = true := by simpa using p3
                      clear o1 p3
                      go_wp2_with fail
                      refine (known_any _).mono ?_
                      rintro e w9 ⟨rfl, h9⟩
                      have h9 := below_step h7 h9
                      go_wp2
                      go_ret
                      exact ⟨rfl, h9⟩
                  · have p4 : (ke != 0) = true := by simpa using p2
                    clear o1 p2
                    go_wp2_with fail
                    refine (known_any _).mono ?_
                    rintro e w9 ⟨rfl, h9⟩
                    have h9 := below_step h7 h9
                    go_wp2
                    go_ret
                    exact ⟨rfl, h9⟩
                · have p4 : (re != 0) = true := by simpa using p1
                  clear o1 p1
                  go_wp2_with fail
                  refine (known_any _).mono ?_
                  rintro e w9 ⟨rfl, h9⟩
                  have h9 := below_step h7 h9
                  go_wp2
                  go_ret
                  exact ⟨rfl, h9⟩
            · obtain rfl : i = ps.length := by omega
              rw [List.take_length] at HSI
              obtain ⟨ea, eb⟩ := HFIN.out _ _ HSI.out
              have q6 : (a == s1) = true := by rw [ea]; simp
              have q7 : (b' == s2) = true := by rw [eb]; simp
              have y0 := HM.out.1.2.2.2.cell 0
              have y1 := HM.out.1.2.2.2.cell 1
              have z0 := HM.out.1.2.1.cell 0
              have z1 := HM.out.1.2.1.cell 1
              have h7 := HM.out.2.1
              clear ea eb HM HSI HFIN HSTEP
              go_wp2_with fail
              refine (known_any _).mono ?_
              rintro e w9 ⟨rfl, h9⟩
              have h9 := below_step h7 h9
              go_wp2
              go_ret
              exact ⟨rfl, h9⟩
end Go.Proofs.Ytccjbefmcifaeaa
