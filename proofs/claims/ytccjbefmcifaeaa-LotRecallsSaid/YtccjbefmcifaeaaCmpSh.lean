/- CompareShare of both sides. -/
import Derived.Test.YtccjbefmcifaeaaCmpV
namespace Go.Proofs.Ytccjbefmcifaeaa
open Go.RowKit

theorem validR (rn rd : Int) (w : World) (h : Fr.ok rn rd = true) : Calls Try.prog 77 #[.agg #[.int .i64 rn, .int .i64 rd]] w fun e w' => e = .returned (.bool true) ∧ Below w.heap.size w w' := by
  obtain ⟨k1, k2, k3, k4, _⟩ := Fr.ok_iff.1 h
  have := valid_any rn rd w (by omega) (by omega) (by omega) (by omega)
  rw [h] at this; exact this
theorem validF (rn rd : Int) (w : World) (h : Fr.ok rn rd = false) (a1 : -9223372036854775808 ≤ rn) (a2 : rn ≤ 9223372036854775807) (a3 : -9223372036854775808 ≤ rd) (a4 : rd ≤ 9223372036854775807) : Calls Try.prog 77 #[.agg #[.int .i64 rn, .int .i64 rd]] w fun e w' => e = .returned (.bool false) ∧ Below w.heap.size w w' := by
  have := valid_any rn rd w a1 a2 a3 a4
  rw [h] at this; exact this
theorem refValidR (rn rd : Int) (w : World) (h : Fr.ok rn rd = true) : Calls Try.prog 79 #[.agg #[.int .i64 rn, .int .i64 rd]] w fun e w' => e = .returned (.bool true) ∧ Below w.heap.size w w' := by
  obtain ⟨k1, k2, k3, k4, _⟩ := Fr.ok_iff.1 h
  have := ref_valid_any rn rd w (by omega) (by omega) (by omega) (by omega)
  rw [h] at this; exact this
theorem refValidF (rn rd : Int) (w : World) (h : Fr.ok rn rd = false) (a1 : -9223372036854775808 ≤ rn) (a2 : rn ≤ 9223372036854775807) (a3 : -9223372036854775808 ≤ rd) (a4 : rd ≤ 9223372036854775807) : Calls Try.prog 79 #[.agg #[.int .i64 rn, .int .i64 rd]] w fun e w' => e = .returned (.bool false) ∧ Below w.heap.size w w' := by
  have := ref_valid_any rn rd w a1 a2 a3 a4
  rw [h] at this; exact this

set_option maxRecDepth 100000 in
set_option maxHeartbeats 1000000 in
theorem cmpSh_ok (v : Value) (ls : List Lt.L) (of i : Nat) (rn rd : Int) (w : World) (hok : Fr.ok rn rd = true) (hv : Lots w v ls) (hsh : short ls) (h0 : Lt.valE ls = 0) (ho : of < ls.length) (hi : i < ls.length) :
    Calls Try.prog 32 #[v, .int .i64 of, .int .i64 i, .agg #[.int .i64 rn, .int .i64 rd]] w fun e w' => e = .returned (.tuple #[.int .i64 (cmpV (Sh.S ls (oneO of) i) (Sh.D ls (i + 1)) rn rd), .int .i64 0]) ∧ Below w.heap.size w w' := by
  obtain ⟨hl, herr, _⟩ := Lt.valE_zero h0
  have VR := Lib.hid (fun W => validR rn rd W hok)
  have HOK := Lib.hid hok
  clear hok
  have hfine := fun j hj => Lt.fine_of (herr j hj)
  have hearly := early_of herr
  have hnum : numE ls [(of : Int), (i : Int)] = 0 := by
    rw [numE_two, if_pos h0, show inR ls (of : Int) = true by unfold inR; simp; omega, show inR ls (i : Int) = true by unfold inR; simp; omega]; rfl
  have bR := (BlockAt.new w #[.int .i64 rn, .int .i64 rd] 43).alloc (.cells #[.int .i64 of, .int .i64 i] 3)
  have bN := BlockAt.new (w.alloc (.cells #[.int .i64 rn, .int .i64 rd] 43)) #[.int .i64 of, .int .i64 i] 3
  have hb2 := below_alloc (below_alloc (Below.refl w.heap.size w) (.cells #[.int .i64 rn, .int .i64 rd] 43)) (.cells #[.int .i64 of, .int .i64 i] 3)
  simp only [World.size_alloc] at bN
  have NT := Lib.hid (nums_two v ls of i (w.heap.size + 1) _ (hv.all hb2) hsh bN)
  rw [hnum] at NT
  have HH := Lib.hid (And.intro hb2 (And.intro bR (And.intro hv (And.intro hfine hearly))))
  obtain ⟨a, c, rfl⟩ := hv.form
  clear hb2 bR bN hv hfine hearly hnum herr hsh
  go_enter Try.func32, Try.ntmps32
  go_wp2_with fail
  refine NT.out.mono ?_
  rintro e w2 ⟨rfl, hb3⟩
  obtain ⟨hb2, bR, hv, hfine, hearly⟩ := HH.out
  have hw2 := below_step hb2 hb3
  have bR2 := bR.below hb3 bR.lt
  have r0 := bR2.cell 0
  have r1 := bR2.cell 1
  have HK := Lib.hid (And.intro hw2 bR2)
  clear hb2 bR hv hfine hearly hw2 bR2 hb3 NT
  go_wp2_with fail
  refine (VR.out _).mono ?_
  rintro e w3 ⟨rfl, hb4⟩
  obtain ⟨hw2, bR2⟩ := HK.out
  have hw3 := (below_step hw2 hb4).drew
  have bR3 := (bR2.below hb4 bR2.lt).drew
  have HK := Lib.hid (And.intro hw3 bR3)
  have hS0 : w3.drew.cell? ⟨w.heap.size, 0, none⟩ = some (.int .i64 rn) ∧ w3.drew.cell? ⟨w.heap.size, 1, none⟩ = some (.int .i64 rd) := ⟨bR3.cell 0, bR3.cell 1⟩
  clear hw2 bR2 hb4 hw3 bR3 r0 r1
  go_wp2_with fail
  refine wp_region_seq [(0, true), (1, true), (4, true), (6, true), (2, false), (3, false), (5, false), (7, false), (8, true), (9, true)] (fun W => W.cell? ⟨w.heap.size, 0, none⟩ = some (.int .i64 rn) ∧ W.cell? ⟨w.heap.size, 1, none⟩ = some (.int .i64 rd))
    (by kernel_rfl) (by kernel_rfl) (by kernel_rfl) (by kernel_rfl) (fun d _ _ _ _ h => by cases d <;> exact h) hS0 (fun hS => ?_)
  clear hS0
  generalize w3.drew = w3 at *
  repeat (refine SeqH.take (v := ?_) rfl (by rfl) ?_ ?_; rotate_left; (· intro w hSw; (try dsimp only at hSw); obtain ⟨q0, q1⟩ := hSw; go_simp; (try with_reducible rfl)); simp only [Act.put, List.setIfInBounds_toArray, List.set_cons_zero, List.set_cons_succ])
  refine SeqH.step rfl (by rfl) (fun K hK => ?_)
  go_simp
  refine (alone_any of _).mono ?_
  rintro e w4 ⟨rfl, hal⟩
  obtain ⟨hw3, bR3⟩ := HK.out
  obtain ⟨_, _, hv, hfine, hearly⟩ := HH.out
  have hw4 := below_step hw3 hal.out.2
  have bR4 := bR3.below hal.out.2 bR3.lt
  have SO := Lib.hid (sharesOf_any (.slice a ls.length c) ls of w3.heap.size (Sh.S ls (oneO of)) w4 (hv.all hw4) hl hfine hal.out.1)
  have HK := Lib.hid (And.intro hw4 bR4)
  have hSn : w4.cell? ⟨w.heap.size, 0, none⟩ = some (.int .i64 rn) ∧ w4.cell? ⟨w.heap.size, 1, none⟩ = some (.int .i64 rd) := ⟨bR4.cell 0, bR4.cell 1⟩
  clear hw3 bR3 hw4 bR4 hal hv hfine hearly
  try dsimp only
  refine hK.out _ _ hSn (fun _ => ?_)
  clear hK K hSn hS
  try simp only [Act.put, List.setIfInBounds_toArray, List.set_cons_zero, List.set_cons_succ]
  repeat (refine SeqH.take (v := ?_) rfl (by rfl) ?_ ?_; rotate_left; (· intro w hSw; (try dsimp only at hSw); obtain ⟨q0, q1⟩ := hSw; go_simp; (try with_reducible rfl)); simp only [Act.put, List.setIfInBounds_toArray, List.set_cons_zero, List.set_cons_succ])
  refine SeqH.step rfl (by rfl) (fun K hK => ?_)
  go_simp
  refine SO.out.mono ?_
  rintro e w5 ⟨bl, bo, bb, bf, bv, bd, bm, rfl, hE⟩
  obtain ⟨hE, ⟨D, hM⟩, hb5⟩ := hE.out
  obtain ⟨hw4, bR4⟩ := HK.out
  obtain ⟨_, _, hv, hfine, hearly⟩ := HH.out
  have hw5 := below_step hw4 hb5
  have bR5 := bR4.below hb5 bR4.lt
  have hbm : w4.heap.size ≤ bm := hE.base
  have SI := Lib.hid (shareIn_any w4 bl bo bb bf bv bd w3.heap.size bm (.slice a ls.length c) ls of hl hfine hearly i hi w5 D hE hM)
  have hdd := hE.d
  have hnd := hE.ne.2.2.2.2.1
  have HN := Lib.hid (And.intro hw5 (And.intro bR5 (And.intro hdd hnd)))
  have hbR : w.heap.size < w4.heap.size := bR4.lt
  have hSn : w5.cell? ⟨w.heap.size, 0, none⟩ = some (.int .i64 rn) ∧ w5.cell? ⟨w.heap.size, 1, none⟩ = some (.int .i64 rd) := ⟨bR5.cell 0, bR5.cell 1⟩
  clear hE hM hb5 hw4 bR4 hw5 bR5 HK hdd hnd SO hv hfine hearly
  try dsimp only
  refine hK.out _ _ hSn (fun _ => ?_)
  clear hK K hSn
  try simp only [Act.put, List.setIfInBounds_toArray, List.set_cons_zero, List.set_cons_succ]
  repeat (refine SeqH.take (v := ?_) rfl (by rfl) ?_ ?_; rotate_left; (· intro w hSw; (try dsimp only at hSw); obtain ⟨q0, q1⟩ := hSw; go_simp; (try with_reducible rfl)); simp only [Act.put, List.setIfInBounds_toArray, List.set_cons_zero, List.set_cons_succ])
  refine SeqH.step rfl (by rfl) (fun K hK => ?_)
  go_simp
  refine SI.out.mono ?_
  rintro e w6 ⟨rfl, hk⟩
  obtain ⟨_, hk⟩ := hk.out
  obtain ⟨hw5, bR5, hdd, hnd⟩ := HN.out
  obtain ⟨_, _, hv, hfine, hearly⟩ := HH.out
  have hw6 : Below w.heap.size w w6 := ⟨hk.os.trans hw5.os, hk.tape.trans hw5.tape, hk.output.trans hw5.output, Nat.le_trans hw5.size hk.size, fun j hj => (hk.block j (Nat.lt_of_lt_of_le hj hw5.size) (fun e => by have := Option.some.inj e; omega)).trans (hw5.block j hj)⟩
  have bR6 := bR5.kb hk (by omega)
  have hdd6 := hdd.kb hk hnd
  have hfs : ∀ k, k < (segN ls 0 (i + 1)).length → (segN ls 0 (i + 1)).getD k 0 < 9223372036854775808 := by
    intro k hk
    have h1 := Sh.be_le hfine k
    simp [segN] at hk
    simp [segN, hk]; omega
  have hpd : prodL (segN ls 0 (i + 1)) = Sh.D ls (i + 1) := prodL_seg ls 0 (i + 1)
  have hsd := Sh.S_le hearly (oneO of) i hi
  have RT := fracCmp_any (Sh.S ls (oneO of) i) (.slice (some ⟨bd, 0, none⟩) (i + 1) ls.length) (segN ls 0 (i + 1)) rn rd w6 (nums_seg hdd6 (by omega) (by omega)) (by simp [segN]; omega) hfs HOK.out (Nat.lt_of_le_of_lt (Nat.mul_le_mul_right _ (Nat.le_trans hsd (Sh.D_lt hfine (by omega)))) (by unfold Wd.B; decide +kernel)) (by rw [hpd]; exact Nat.lt_of_le_of_lt (Nat.mul_le_mul_right _ (Sh.D_lt hfine (by omega))) (by unfold Wd.B; decide +kernel))
  rw [hpd] at RT
  have HRT := Lib.hid RT
  have HW := Lib.hid (And.intro hw6 bR6)
  generalize hcv : cmpV (Sh.S ls (oneO of) i) (Sh.D ls (i + 1)) rn rd = cv at *
  have HCV := Lib.hid hcv
  have hSn : w6.cell? ⟨w.heap.size, 0, none⟩ = some (.int .i64 rn) ∧ w6.cell? ⟨w.heap.size, 1, none⟩ = some (.int .i64 rd) := ⟨bR6.cell 0, bR6.cell 1⟩
  clear hw5 bR5 hdd hnd hw6 bR6 hdd6 hfs hpd hsd RT hk HN SI hcv hv hfine hearly
  try dsimp only
  refine hK.out _ _ hSn (fun _ => ?_)
  clear hK K hSn
  try simp only [Act.put, List.setIfInBounds_toArray, List.set_cons_zero, List.set_cons_succ]
  repeat (refine SeqH.take (v := ?_) rfl (by rfl) ?_ ?_; rotate_left; (· intro w hSw; (try dsimp only at hSw); obtain ⟨q0, q1⟩ := hSw; go_simp; (try with_reducible rfl)); simp only [Act.put, List.setIfInBounds_toArray, List.set_cons_zero, List.set_cons_succ])
  refine SeqH.step rfl (by rfl) (fun K hK => ?_)
  go_simp
  refine HRT.out.mono ?_
  rintro e w7 ⟨rfl, hb7⟩
  have hw7 := below_step HW.out.1 hb7
  have bR7 := HW.out.2.below hb7 HW.out.2.lt
  have hSn : w7.cell? ⟨w.heap.size, 0, none⟩ = some (.int .i64 rn) ∧ w7.cell? ⟨w.heap.size, 1, none⟩ = some (.int .i64 rd) := ⟨bR7.cell 0, bR7.cell 1⟩
  clear bR7 hb7 HW HRT
  try dsimp only
  refine hK.out _ _ hSn (fun _ => ?_)
  clear hK K hSn
  try simp only [Act.put, List.setIfInBounds_toArray, List.set_cons_zero, List.set_cons_succ]
  repeat (refine SeqH.take (v := ?_) rfl (by rfl) ?_ ?_; rotate_left; (· intro w hSw; (try dsimp only at hSw); go_simp; (try with_reducible rfl)); simp only [Act.put, List.setIfInBounds_toArray, List.set_cons_zero, List.set_cons_succ])
  refine SeqH.done ?_
  go_wp2
  go_ret2
  exact ⟨by rw [HCV.out]; rfl, hw7⟩

/-- The answer of CompareShare. -/
def cmE (ls : List Lt.L) (n m rn rd : Int) : Int := if numE ls [n, m] = 0 then (if Fr.ok rn rd = true then 0 else 1) else numE ls [n, m]
def cmR (ls : List Lt.L) (n m rn rd : Int) : Int := if cmE ls n m rn rd = 0 then cmpV (Sh.S ls (oneO n.toNat) m.toNat) (Sh.D ls (m.toNat + 1)) rn rd else 0

set_option maxRecDepth 20000 in
set_option maxHeartbeats 1000000 in
theorem cmpSh_any (v : Value) (ls : List Lt.L) (n m rn rd : Int) (w : World) (hv : Lots w v ls) (hsh : short ls) (a1 : -9223372036854775808 ≤ rn) (a2 : rn ≤ 9223372036854775807) (a3 : -9223372036854775808 ≤ rd) (a4 : rd ≤ 9223372036854775807) :
    Calls Try.prog 32 #[v, .int .i64 n, .int .i64 m, .agg #[.int .i64 rn, .int .i64 rd]] w fun e w' => e = .returned (.tuple #[.int .i64 (cmR ls n m rn rd), .int .i64 (cmE ls n m rn rd)]) ∧ Below w.heap.size w w' := by
  have hb2 := below_alloc (below_alloc (Below.refl w.heap.size w) (.cells #[.int .i64 rn, .int .i64 rd] 43)) (.cells #[.int .i64 n, .int .i64 m] 3)
  have bN := BlockAt.new (w.alloc (.cells #[.int .i64 rn, .int .i64 rd] 43)) #[.int .i64 n, .int .i64 m] 3
  have bR := (BlockAt.new w #[.int .i64 rn, .int .i64 rd] 43).alloc (.cells #[.int .i64 n, .int .i64 m] 3)
  simp only [World.size_alloc] at bN
  have NT := Lib.hid (nums_two v ls n m (w.heap.size + 1) _ (hv.all hb2) hsh bN)
  have HB := Lib.hid (And.intro hb2 bR)
  by_cases hz : numE ls [n, m] = 0
  · cases hk : Fr.ok rn rd with
    | true =>
      have hE : cmE ls n m rn rd = 0 := by unfold cmE; rw [if_pos hz, if_pos hk]
      have hR : cmR ls n m rn rd = cmpV (Sh.S ls (oneO n.toNat) m.toNat) (Sh.D ls (m.toNat + 1)) rn rd := by unfold cmR; rw [if_pos hE]
      rw [hE, hR]
      obtain ⟨h0, ⟨h1, h2⟩, h3, h4⟩ := numE_zero2 hz
      obtain ⟨i, rfl⟩ : ∃ i : Nat, n = (i : Int) := ⟨n.toNat, by omega⟩
      obtain ⟨q, rfl⟩ : ∃ i : Nat, m = (i : Int) := ⟨m.toNat, by omega⟩
      exact cmpSh_ok v ls i q rn rd w hk hv hsh h0 (by omega) (by omega)
    | false =>
      have hE : cmE ls n m rn rd = 1 := by unfold cmE; rw [if_pos hz, hk, if_neg (by decide)]
      have hR : cmR ls n m rn rd = 0 := by unfold cmR; rw [hE, if_neg (by decide)]
      rw [hE, hR]
      rw [hz] at NT
      have VF := Lib.hid (fun W => validF rn rd W hk a1 a2 a3 a4)
      obtain ⟨a, c, rfl⟩ := hv.form
      clear hz hb2 bN bR hv hsh hE hR hk a1 a2 a3 a4
      go_enter Try.func32, Try.ntmps32
      go_wp2_with fail
      refine NT.out.mono ?_
      rintro e w2 ⟨rfl, hb3⟩
      have hw := below_step HB.out.1 hb3
      have bR3 := HB.out.2.below hb3 HB.out.2.lt
      have d0 := bR3.cell 0
      have d1 := bR3.cell 1
      clear hb3 NT HB bR3
      go_wp2_with fail
      refine (VF.out _).mono ?_
      rintro e w3 ⟨rfl, hb4⟩
      have hw := below_step hw hb4
      clear hb4 VF d0 d1
      go_wp2
      go_ret2
      exact ⟨rfl, hw⟩
  · have hE : cmE ls n m rn rd = numE ls [n, m] := by unfold cmE; rw [if_neg hz]
    have hR : cmR ls n m rn rd = 0 := by unfold cmR; rw [hE, if_neg hz]
    rw [hE, hR]
    obtain ⟨a, c, rfl⟩ := hv.form
    have hne : (numE ls [n, m] != 0) = true := by simpa using hz
    generalize numE ls [n, m] = q at *
    clear hz hb2 bN bR hv hsh hE hR a1 a2 a3 a4
    go_enter Try.func32, Try.ntmps32
    go_wp2_with fail
    refine NT.out.mono ?_
    rintro e w2 ⟨rfl, hb3⟩
    have hw := below_step HB.out.1 hb3
    clear hb3 NT HB
    go_wp2
    go_ret2
    exact ⟨rfl, hw⟩

set_option maxRecDepth 20000 in
set_option maxHeartbeats 1000000 in
theorem refCmpSh_any (v : Value) (ls : List Lt.L) (n m rn rd : Int) (w : World) (hv : Lots w v ls) (hsh : short ls) (a1 : -9223372036854775808 ≤ rn) (a2 : rn ≤ 9223372036854775807) (a3 : -9223372036854775808 ≤ rd) (a4 : rd ≤ 9223372036854775807) :
    Calls Try.prog 33 #[v, .int .i64 n, .int .i64 m, .agg #[.int .i64 rn, .int .i64 rd]] w fun e w' => e = .returned (.tuple #[.int .i64 (cmR ls n m rn rd), .int .i64 (cmE ls n m rn rd)]) ∧ Below w.heap.size w w' := by
  have bR := BlockAt.new w #[.int .i64 rn, .int .i64 rd] 43
  have hb0 := below_alloc (Below.refl w.heap.size w) (.cells #[.int .i64 rn, .int .i64 rd] 43)
  have N := Lib.hid (named_any v ls n m _ (hv.all hb0) hsh)
  have HB := Lib.hid (And.intro hb0 bR)
  by_cases hz : numE ls [n, m] = 0
  · rw [hz] at N
    cases hk : Fr.ok rn rd with
    | true =>
      have hE : cmE ls n m rn rd = 0 := by unfold cmE; rw [if_pos hz, if_pos hk]
      have hR : cmR ls n m rn rd = cmpV (Sh.S ls (oneO n.toNat) m.toNat) (Sh.D ls (m.toNat + 1)) rn rd := by unfold cmR; rw [if_pos hE]
      rw [hE, hR]
      obtain ⟨h0, ⟨h1, h2⟩, h3, h4⟩ := numE_zero2 hz
      obtain ⟨hl, herr, _⟩ := Lt.valE_zero h0
      obtain ⟨i, rfl⟩ : ∃ i : Nat, n = (i : Int) := ⟨n.toNat, by omega⟩
      obtain ⟨q, rfl⟩ : ∃ i : Nat, m = (i : Int) := ⟨m.toNat, by omega⟩
      simp only [Int.toNat_natCast]
      have V := Lib.hid (fun W => refValidR rn rd W hk)
      have O := Lib.hid (fun W (hW : Below w.heap.size w W) => one_any _ ls i W (hv.all hW) hl (by omega))
      have M := Lib.hid (fun W g (hW : Below w.heap.size w W) hB => mixOne_any v ls i q w W hv hl herr (by omega) g hW hB)
      have C := Lib.hid (fun W y z (hy : Wo W y (Sh.S ls (oneO i) q)) (hz : Wo W z (Sh.D ls (q + 1))) => refCompare_any (Sh.S ls (oneO i) q) (Sh.D ls (q + 1)) y z rn rd W hy hz (Sh.S_le (early_of herr) (oneO i) q (by omega)) (Sh.D_pos ls _) (Nat.le_trans (nd_D herr (by omega)) (by omega)) hk)
      generalize hcv : cmpV (Sh.S ls (oneO i) q) (Sh.D ls (q + 1)) rn rd = cv at *
      obtain ⟨a, c, rfl⟩ := hv.form
      clear hv hb0 bR hsh hz h0 h1 h2 h3 h4 herr hE hR hk hcv a1 a2 a3 a4
      go_enter Try.func33, Try.ntmps33
      go_wp2_with fail
      refine N.out.mono ?_
      rintro e w1 ⟨rfl, hb1⟩
      have HW := Lib.hid (And.intro (below_step HB.out.1 hb1) (HB.out.2.below hb1 HB.out.2.lt))
      have d0 := HW.out.2.cell 0
      have d1 := HW.out.2.cell 1
      clear hb1 N HB
      go_wp2_with fail
      refine (V.out _).mono ?_
      rintro e w2 ⟨rfl, hb2⟩
      have HW := Lib.hid (And.intro (below_step HW.out.1 hb2) (HW.out.2.below hb2 HW.out.2.lt))
      clear hb2 V d0 d1
      go_wp2_with fail
      refine (O.out _ HW.out.1).mono ?_
      rintro e w3 ⟨rfl, hblk, hb3⟩
      have hw3 := below_step HW.out.1 hb3
      have M1 := Lib.hid (M.out _ _ hw3 hblk)
      have HW := Lib.hid (And.intro hw3 (HW.out.2.below hb3 HW.out.2.lt))
      clear hblk hb3 hw3 O M
      go_wp2_with fail
      refine M1.out.mono ?_
      rintro e w4 ⟨y, z, rfl, hy, hz, hb4⟩
      have C1 := Lib.hid (C.out _ _ _ hy hz)
      have HW := Lib.hid (And.intro (below_step HW.out.1 hb4) (HW.out.2.below hb4 HW.out.2.lt))
      have d0 := HW.out.2.cell 0
      have d1 := HW.out.2.cell 1
      clear hy hz hb4 M1 C
      go_wp2_with fail
      refine C1.out.mono ?_
      rintro e w5 ⟨rfl, hb5⟩
      have hw5 := below_step HW.out.1 hb5
      clear hb5 C1 HW d0 d1
      go_wp2
      go_ret2
      exact ⟨rfl, hw5⟩
    | false =>
      have hE : cmE ls n m rn rd = 1 := by unfold cmE; rw [if_pos hz, hk, if_neg (by decide)]
      have hR : cmR ls n m rn rd = 0 := by unfold cmR; rw [hE, if_neg (by decide)]
      rw [hE, hR]
      have VF := Lib.hid (fun W => refValidF rn rd W hk a1 a2 a3 a4)
      obtain ⟨a, c, rfl⟩ := hv.form
      clear hz hb0 bR hv hsh hE hR hk a1 a2 a3 a4
      go_enter Try.func33, Try.ntmps33
      go_wp2_with fail
      refine N.out.mono ?_
      rintro e w2 ⟨rfl, hb3⟩
      have hw := below_step HB.out.1 hb3
      have bR3 := HB.out.2.below hb3 HB.out.2.lt
      have d0 := bR3.cell 0
      have d1 := bR3.cell 1
      clear hb3 N HB bR3
      go_wp2_with fail
      refine (VF.out _).mono ?_
      rintro e w3 ⟨rfl, hb4⟩
      have hw := below_step hw hb4
      clear hb4 VF d0 d1
      go_wp2
      go_ret2
      exact ⟨rfl, hw⟩
  · have hE : cmE ls n m rn rd = numE ls [n, m] := by unfold cmE; rw [if_neg hz]
    have hR : cmR ls n m rn rd = 0 := by unfold cmR; rw [hE, if_neg hz]
    rw [hE, hR]
    obtain ⟨a, c, rfl⟩ := hv.form
    have hne : (numE ls [n, m] != 0) = true := by simpa using hz
    generalize numE ls [n, m] = q at *
    clear hz hb0 bR hv hsh hE hR a1 a2 a3 a4
    go_enter Try.func33, Try.ntmps33
    go_wp2_with fail
    refine N.out.mono ?_
    rintro e w2 ⟨rfl, hb3⟩
    have hw := below_step HB.out.1 hb3
    clear hb3 N HB
    go_wp2
    go_ret2
    exact ⟨rfl, hw⟩
end Go.Proofs.Ytccjbefmcifaeaa
