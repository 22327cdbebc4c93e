/- Which lots a recall names: both sides. -/
import Derived.Test.YtccjbefmcifaeaaCmpSh
import Derived.Test.YtccjbefmcifaeaaOwnI
namespace Go.Proofs.Ytccjbefmcifaeaa
open Go.RowKit

/-- Which lots a recall names. -/
def rcP (ls : List Lt.L) (of : Nat) (rn rd : Int) (j : Nat) : Bool := decide (0 ≤ cmpV (Sh.S ls (oneO of) j) (Sh.D ls (j + 1)) rn rd)
def rcE (ls : List Lt.L) (n rn rd : Int) : Int := if numE ls [n] = 0 then (if Fr.ok rn rd = true ∧ 0 < rn then 0 else 1) else numE ls [n]
def rcR (ls : List Lt.L) (n rn rd : Int) : List Int := if rcE ls n rn rd = 0 then selK (rcP ls n.toNat rn rd) ls.length else []
theorem S_before {ls : List Lt.L} (hearly : Sh.early ls) {of : Nat} : ∀ j, j < ls.length → j < of → Sh.S ls (oneO of) j = 0 := by
  intro j
  induction j using Nat.strongRecOn with
  | _ j ih =>
    intro hj hlt
    rw [Sh.S_eq hearly _ hj, if_neg (by simp [oneO]; omega)]
    have : Sh.sumS ls j (Sh.S ls (oneO of)) (ls.getD j default).ps = Sh.sumS ls j (fun _ => 0) (ls.getD j default).ps := Sh.sumS_congr fun p hp => by
      have := hearly j hj p hp
      exact ih p.l.toNat (by omega) (by omega) (by omega)
    rw [this]
    generalize (ls.getD j default).ps = ps
    induction ps with
    | nil => rfl
    | cons p r ihr => simp [Sh.sumS, ihr]
theorem rc_before {ls : List Lt.L} (hearly : Sh.early ls) {of j : Nat} {rn rd : Int} (hj : j < ls.length) (hlt : j < of) (h : 0 < rn) : rcP ls of rn rd j = false := by
  unfold rcP
  rw [S_before hearly j hj hlt]
  refine decide_eq_false ?_
  unfold cmpV
  rw [if_neg (by omega)]
  have hd := Sh.D_pos ls (j + 1)
  have : 0 < Sh.D ls (j + 1) * rn.toNat := Nat.mul_pos hd (by omega)
  unfold cmpN
  rw [Nat.zero_mul, if_pos this]; omega

set_option maxRecDepth 20000 in
set_option maxHeartbeats 2000000 in
theorem refRecall_any (v : Value) (ls : List Lt.L) (n rn rd : Int) (w : World) (hv : Lots w v ls) (hsh : short ls) (a1 : -9223372036854775808 ≤ rn) (a2 : rn ≤ 9223372036854775807) (a3 : -9223372036854775808 ≤ rd) (a4 : rd ≤ 9223372036854775807) :
    Calls Try.prog 50 #[v, .int .i64 n, .agg #[.int .i64 rn, .int .i64 rd]] w fun e w' => ∃ u, e = .returned (.tuple #[u, .int .i64 (rcE ls n rn rd)]) ∧ OwnI w.heap.size w' u (rcR ls n rn rd) ∧ Below w.heap.size w w' := by
  have bR := BlockAt.new w #[.int .i64 rn, .int .i64 rd] 43
  have hb0 := below_alloc (Below.refl w.heap.size w) (.cells #[.int .i64 rn, .int .i64 rd] 43)
  have N := Lib.hid (named_any v ls n n _ (hv.all hb0) hsh)
  rw [numE_same] at N
  obtain ⟨i0, hi, hz0, hz1, hz2⟩ := info_parts infoInt
  have HB := Lib.hid (And.intro hb0 bR)
  by_cases hz : numE ls [n] = 0
  · rw [hz] at N
    obtain ⟨h0, h1, h2⟩ := numE_zero hz
    obtain ⟨hl, herr, _⟩ := Lt.valE_zero h0
    obtain ⟨i, rfl⟩ : ∃ i : Nat, n = (i : Int) := ⟨n.toNat, by omega⟩
    cases hk : Fr.ok rn rd with
    | true =>
      have V := Lib.hid (fun W => refValidR rn rd W hk)
      by_cases hpos : 0 < rn
      · have hE : rcE ls i rn rd = 0 := by unfold rcE; rw [if_pos hz, if_pos ⟨hk, hpos⟩]
        have hR : rcR ls i rn rd = selK (rcP ls i rn rd) ls.length := by unfold rcR; rw [if_pos hE]; rfl
        rw [hE, hR]
        have O := Lib.hid (fun W (hW : Below w.heap.size w W) => one_any _ ls i W (hv.all hW) hl (by omega))
        have M := Lib.hid (fun W g q (hq : q < ls.length) (hW : Below w.heap.size w W) hB => mixOne_any v ls i q w W hv hl herr hq g hW hB)
        have C := Lib.hid (fun W y z q (hq : q < ls.length) (hy : Wo W y (Sh.S ls (oneO i) q)) (hz : Wo W z (Sh.D ls (q + 1))) => refCompare_any (Sh.S ls (oneO i) q) (Sh.D ls (q + 1)) y z rn rd W hy hz (Sh.S_le (early_of herr) (oneO i) q hq) (Sh.D_pos ls _) (Nat.le_trans (nd_D herr (by omega)) (by omega)) hk)
        have BF := Lib.hid (fun q (hq : q < ls.length) (hlt : q < i) => rc_before (early_of herr) (rd := rd) hq hlt hpos)
        obtain ⟨a, c, rfl⟩ := hv.form
        have hpn : ¬ rn ≤ 0 := by omega
        clear hv hb0 bR hsh hz h0 h1 h2 herr hE hR hk a1 a2 a3 a4 hpos
        go_enter Try.func50, Try.ntmps50
        go_wp2_with fail
        refine N.out.mono ?_
        rintro e w1 ⟨rfl, hb1⟩
        have HW := Lib.hid (And.intro (below_step HB.out.1 hb1) (HB.out.2.below hb1 HB.out.2.lt))
        have d0 := HW.out.2.cell 0
        have d1 := HW.out.2.cell 1
        clear hb1 N HB
        go_wp2_with fail
        refine (V.out _).mono ?_
        rintro e w2 ⟨rfl, hb2⟩
        have HW := Lib.hid (And.intro (below_step HW.out.1 hb2) (HW.out.2.below hb2 HW.out.2.lt))
        clear hb2 V d0 d1
        have d0 := HW.out.2.cell 0
        go_wp2
        clear d0
        go_loopw [9, 10] (fun s t wr => ∃ k : Nat, k ≤ ls.length ∧ t = .int .i64 k ∧ Hid (OwnI w2.heap.size wr s (selK (rcP ls i rn rd) k) ∧ Below w2.heap.size w2 wr)) (fun _ t _ => ls.length - (intOf t).toNat)
        case atStart => exact ⟨0, Nat.zero_le _, rfl, Lib.hid ⟨OwnI.nil _ _, Below.refl _ _⟩⟩
        case round =>
          obtain ⟨k, hk, rfl, hg⟩ := hrel
          by_cases hlt : k < ls.length
          · obtain ⟨wB, rfl⟩ : ∃ x, x = wr := ⟨wr, rfl⟩
            have hwB := below_step HW.out.1 hg.out.2
            have O1 := Lib.hid (O.out _ hwB)
            have HwB := Lib.hid hwB
            clear hwB
            go_wp2_with fail
            refine O1.out.mono ?_
            rintro e w3 ⟨rfl, hblk, hb3⟩
            have hw3 := below_step HwB.out hb3
            have M1 := Lib.hid (M.out _ _ k hlt hw3 hblk)
            have HB3 := Lib.hid hb3
            clear hblk hb3 hw3 O1
            go_wp2_with fail
            refine M1.out.mono ?_
            rintro e w4 ⟨y, z, rfl, hy, hz, hb4⟩
            have C1 := Lib.hid (C.out _ _ _ k hlt hy hz)
            have hb4 := below_step HB3.out hb4
            have hbA := below_step hg.out.2 hb4
            have b4 := (HW.out.2.below hbA HW.out.2.lt)
            have d0 := b4.cell 0
            have d1 := b4.cell 1
            have HS := Lib.hid (selK_succ (rcP ls i rn rd) k)
            have hsl := selK_len (rcP ls i rn rd) k
            have HG4 := Lib.hid (And.intro (hg.out.1.all hb4) hbA)
            have hbf := BF.out k hlt
            have hd : rcP ls i rn rd k = decide (0 ≤ cmpV (Sh.S ls (oneO i) k) (Sh.D ls (k + 1)) rn rd) := rfl
            generalize rcP ls i rn rd k = d at *
            generalize selK (rcP ls i rn rd) k = qs at *
            generalize cmpV (Sh.S ls (oneO i) k) (Sh.D ls (k + 1)) rn rd = cv at *
            clear hy hz hb4 hbA b4 M1 hg HB3 HwB
            by_cases hki : k < i
            · have hkb : decide ((i : Int) ≤ (k : Int)) = false := decide_eq_false (by omega)
              have hd0 := hbf hki
              rw [hd0, if_neg (by decide)] at HS
              clear hd hd0 hbf C1
              go_wp2
              go_roundw
              case rel => exact ⟨k + 1, by omega, by go_num, by rw [HS.out]; exact HG4⟩
              case measure => simp [intOf]; omega
            · have hkb : decide ((i : Int) ≤ (k : Int)) = true := decide_eq_true (by omega)
              have hki2 : (i : Int) ≤ (k : Int) := by omega
              clear hbf
              have hki3 : i ≤ k := by omega
              clear hki
              go_wp2_with fail
              refine C1.out.mono ?_
              rintro e w5 ⟨rfl, hb5⟩
              have HG5 := Lib.hid (And.intro (HG4.out.1.all hb5) (below_step HG4.out.2 hb5))
              clear hb5 HG4 C1 d0 d1
              by_cases hc : 0 ≤ cv
              · have hcb : decide (0 ≤ cv) = true := decide_eq_true hc
                rw [hcb] at hd
                rw [hd, if_pos rfl] at HS
                have hown := HG5.out.1
                have hw := HG5.out.2
                have hro : _ := hown
                unfold OwnI at hro
                clear hd hcb
                go_wp2_with (at_builtin; refine wpList_append_own _ rfl _ _ 54 rfl w2.heap.size 3 i0 (.int .i64 0) 1 8 Try.underlying54 hi hz0 hz1 hz2 rfl (by decide) _ _ _ rfl (World.ownsRow.alloc hro _) ⟨_, 0, none⟩ 1 1 (intL k) rfl rfl (intL_at _ _ _) (intL_one _) (by unfold maxLen; omega) (by omega) (by have := hw.size; simp; omega) ?_)
                intro v' w6 hown1 hgrow _
                have hw2 := (hw.alloc hw.size (.cells #[.int .i64 (k : Int)] 3)).grown hgrow (by have := hw.size; simp; omega) (fun j e => (World.ownsRow.lt hown j e).1)
                have hx2 : OwnI w2.heap.size w6 v' (qs ++ [(k : Int)]) := OwnI.pushed hown1
                clear hown1 hgrow hown hw hro
                go_wp2
                go_roundw
                case rel => exact ⟨k + 1, by omega, by go_num, Lib.hid ⟨by rw [HS.out]; exact hx2, hw2⟩⟩
                case measure => simp [intOf]; try omega
              · have hcb : decide (0 ≤ cv) = false := decide_eq_false hc
                rw [hcb] at hd
                rw [hd, if_neg (by decide)] at HS
                clear hd hcb
                go_wp2
                go_roundw
                case rel => exact ⟨k + 1, by omega, by go_num, by rw [HS.out]; exact HG5⟩
                case measure => simp [intOf]; omega
          · obtain rfl : k = ls.length := by omega
            obtain ⟨hown, hw⟩ := hg.out
            have hx := below_step HW.out.1 hw
            have ho := hown.mono HW.out.1.size
            clear hown hw hg
            go_wp2
            go_ret2
            exact ⟨_, rfl, ho, hx⟩
      · have hE : rcE ls i rn rd = 1 := by unfold rcE; rw [if_pos hz, if_neg (fun h => hpos h.2)]
        have hR : rcR ls i rn rd = [] := by unfold rcR; rw [hE, if_neg (by decide)]
        rw [hE, hR]
        obtain ⟨a, c, rfl⟩ := hv.form
        have hpn : rn ≤ 0 := by omega
        clear hv hb0 bR hsh hz h0 h1 h2 herr hE hR hk a1 a2 a3 a4 hpos
        go_enter Try.func50, Try.ntmps50
        go_wp2_with fail
        refine N.out.mono ?_
        rintro e w1 ⟨rfl, hb1⟩
        have HW := Lib.hid (And.intro (below_step HB.out.1 hb1) (HB.out.2.below hb1 HB.out.2.lt))
        have d0 := HW.out.2.cell 0
        have d1 := HW.out.2.cell 1
        clear hb1 N HB
        go_wp2_with fail
        refine (V.out _).mono ?_
        rintro e w2 ⟨rfl, hb2⟩
        have HW := Lib.hid (And.intro (below_step HW.out.1 hb2) (HW.out.2.below hb2 HW.out.2.lt))
        clear hb2 V d0 d1
        have d0 := HW.out.2.cell 0
        go_wp2
        go_ret2
        exact ⟨_, rfl, OwnI.nil _ _, HW.out.1⟩
    | false =>
      have hE : rcE ls i rn rd = 1 := by unfold rcE; rw [if_pos hz, hk, if_neg (fun h => absurd h.1 (by decide))]
      have hR : rcR ls i rn rd = [] := by unfold rcR; rw [hE, if_neg (by decide)]
      rw [hE, hR]
      have V := Lib.hid (fun W => refValidF rn rd W hk a1 a2 a3 a4)
      obtain ⟨a, c, rfl⟩ := hv.form
      clear hv hb0 bR hsh hz h0 h1 h2 herr hE hR hk a1 a2 a3 a4
      go_enter Try.func50, Try.ntmps50
      go_wp2_with fail
      refine N.out.mono ?_
      rintro e w1 ⟨rfl, hb1⟩
      have HW := Lib.hid (And.intro (below_step HB.out.1 hb1) (HB.out.2.below hb1 HB.out.2.lt))
      have d0 := HW.out.2.cell 0
      have d1 := HW.out.2.cell 1
      clear hb1 N HB
      go_wp2_with fail
      refine (V.out _).mono ?_
      rintro e w2 ⟨rfl, hb2⟩
      have hw := below_step HW.out.1 hb2
      clear hb2 V d0 d1
      go_wp2
      go_ret2
      exact ⟨_, rfl, OwnI.nil _ _, hw⟩
  · have hE : rcE ls n rn rd = numE ls [n] := by unfold rcE; rw [if_neg hz]
    have hR : rcR ls n rn rd = [] := by unfold rcR; rw [hE, if_neg hz]
    rw [hE, hR]
    obtain ⟨a, c, rfl⟩ := hv.form
    have hne : (numE ls [n] != 0) = true := by simpa using hz
    generalize numE ls [n] = q at *
    clear hv hb0 bR hsh hz hE hR a1 a2 a3 a4
    go_enter Try.func50, Try.ntmps50
    go_wp2_with fail
    refine N.out.mono ?_
    rintro e w1 ⟨rfl, hb1⟩
    have hw := below_step HB.out.1 hb1
    clear hb1 N HB
    go_wp2
    go_ret2
    exact ⟨_, rfl, OwnI.nil _ _, hw⟩
theorem VE.low {w0 w4 w w' : World} {bl bo bb bf bv bd bof bm : Nat} {v : Value} {ls : List Lt.L} {of : Nat} (h : VE w0 w bl bo bb bf bv bd bof bm v ls of) (h4 : VE w0 w4 bl bo bb bf bv bd bof bm v ls of) (hb : Below w4.heap.size w w') : VE w0 w' bl bo bb bf bv bd bof bm v ls of :=
  ⟨h.l.below hb h4.l.lt, h.o.below hb h4.o.lt, h.f.below hb h4.f.lt, h.b.below hb h4.b.lt, h.d.below hb h4.d.lt, h.m.below hb h4.m.lt, h.vis.below hb h4.vis.lt, h.ne, h.lots, h.below.trans (hb.mono h4.below.size), h.base⟩
theorem VM.grown {w w' : World} {bm : Nat} {T : Nat → Nat} {D : DataW Value} {row : Option Nat} (h : VM w bm T D) (hg : w.grownBy w' row) (hne : row ≠ some bm) : VM w' bm T D := by
  obtain ⟨⟨m, h1, h2⟩, h3⟩ := h
  exact ⟨⟨m, h1.kept (row := row) hg (fun e => hne e.symm), h2⟩, h3⟩
theorem OwnI.kb {base bm : Nat} {w w2 : World} {v : Value} {rs : List Int} (h : OwnI base w v rs) (hb : Kb bm w w2) (hne : bm < base) : OwnI base w2 v rs := by
  obtain ⟨h0, h1 | ⟨g, cap, cur, h1, h2, h3, h4⟩⟩ := h
  · exact ⟨h0, .inl h1⟩
  · have hg : g < w.heap.size := (Array.getElem?_eq_some_iff.1 h3).1
    exact ⟨h0, .inr ⟨g, cap, cur, h1, h2, by rw [hb.block g hg (by intro e; have := Option.some.inj e; omega)]; exact h3, h4⟩⟩

set_option maxRecDepth 100000 in
set_option maxHeartbeats 2000000 in
theorem lotRecall_any (v : Value) (ls : List Lt.L) (n rn rd : Int) (w : World) (hv : Lots w v ls) (hsh : short ls) (a1 : -9223372036854775808 ≤ rn) (a2 : rn ≤ 9223372036854775807) (a3 : -9223372036854775808 ≤ rd) (a4 : rd ≤ 9223372036854775807) :
    Calls Try.prog 49 #[v, .int .i64 n, .agg #[.int .i64 rn, .int .i64 rd]] w fun e w' => ∃ u, e = .returned (.tuple #[u, .int .i64 (rcE ls n rn rd)]) ∧ OwnI w.heap.size w' u (rcR ls n rn rd) ∧ Below w.heap.size w w' := by
  have hb2 := below_alloc (below_alloc (Below.refl w.heap.size w) (.cells #[.int .i64 rn, .int .i64 rd] 43)) (.cells #[.int .i64 n] 3)
  have bN := BlockAt.new (w.alloc (.cells #[.int .i64 rn, .int .i64 rd] 43)) #[.int .i64 n] 3
  have bR := (BlockAt.new w #[.int .i64 rn, .int .i64 rd] 43).alloc (.cells #[.int .i64 n] 3)
  simp only [World.size_alloc] at bN
  have NT := Lib.hid (nums_one v ls n (w.heap.size + 1) _ (hv.all hb2) hsh bN)
  have HB := Lib.hid (And.intro hb2 bR)
  obtain ⟨i0, hi, hz0, hz1, hz2⟩ := info_parts infoInt
  by_cases hz : numE ls [n] = 0
  · rw [hz] at NT
    obtain ⟨h0, h1, h2⟩ := numE_zero hz
    obtain ⟨hl, herr, _⟩ := Lt.valE_zero h0
    have hfine := fun j hj => Lt.fine_of (herr j hj)
    have hearly := early_of herr
    obtain ⟨of, rfl⟩ : ∃ i : Nat, n = (i : Int) := ⟨n.toNat, by omega⟩
    cases hk : Fr.ok rn rd with
    | true =>
      have V := Lib.hid (fun W => validR rn rd W hk)
      by_cases hpos : 0 < rn
      · have hE : rcE ls of rn rd = 0 := by unfold rcE; rw [if_pos hz, if_pos ⟨hk, hpos⟩]
        have hR : rcR ls of rn rd = selK (rcP ls of rn rd) ls.length := by unfold rcR; rw [if_pos hE]; rfl
        rw [hE, hR]
        have hpn : ¬ rn ≤ 0 := by omega
        have HH := Lib.hid (And.intro hv (And.intro hfine (And.intro hearly hk)))
        obtain ⟨a, c, rfl⟩ := hv.form
        clear hv hb2 bR bN hsh hz h0 h1 h2 herr hE hR hk a1 a2 a3 a4 hpos hfine hearly
        go_enter Try.func49, Try.ntmps49
        go_wp2_with fail
        refine NT.out.mono ?_
        rintro e w1 ⟨rfl, hb1⟩
        have HW := Lib.hid (And.intro (below_step HB.out.1 hb1) (HB.out.2.below hb1 HB.out.2.lt))
        have d0 := HW.out.2.cell 0
        have d1 := HW.out.2.cell 1
        clear hb1 NT HB
        go_wp2_with fail
        refine (V.out _).mono ?_
        rintro e w2 ⟨rfl, hb2⟩
        have HW := Lib.hid (And.intro (below_step HW.out.1 hb2) (HW.out.2.below hb2 HW.out.2.lt))
        clear hb2 V d0 d1
        have d0 := HW.out.2.cell 0
        go_wp2_with fail
        clear d0
        refine (alone_any of _).mono ?_
        rintro e w3 ⟨rfl, hal⟩
        have HW := Lib.hid (And.intro (below_step HW.out.1 hal.out.2) (HW.out.2.below hal.out.2 HW.out.2.lt))
        have SO := Lib.hid (sharesOf_any (.slice a ls.length c) ls of w2.heap.size (Sh.S ls (oneO of)) w3 (HH.out.1.all HW.out.1) hl HH.out.2.1 hal.out.1)
        clear hal
        go_wp2_with fail
        refine SO.out.mono ?_
        rintro e w4 ⟨bl, bo, bb, bf, bv, bd, bm, rfl, hE⟩
        have HE := Lib.hid (And.intro hE.out.1 hE.out.2.1)
        have hbmw : w3.heap.size ≤ bm := hE.out.1.base
        have HBM := Lib.hid (show bm < w4.heap.size by obtain ⟨D, hM⟩ := hE.out.2.1; exact hM.lt)
        have hsz34 : w3.heap.size ≤ w4.heap.size := hE.out.2.2.size
        clear hE SO
        go_wp2
        go_loopw [9, 33] (fun s t wr => ∃ k : Nat, k ≤ ls.length ∧ t = .int .i64 k ∧ Hid (OwnI w4.heap.size wr s (selK (rcP ls of rn rd) k) ∧ (VE w3 wr bl bo bb bf bv bd w2.heap.size bm (.slice a ls.length c) ls of ∧ ∃ D, VM wr bm (Sh.S ls (oneO of)) D) ∧ w4.heap.size ≤ wr.heap.size)) (fun _ t _ => ls.length - (intOf t).toNat)
        case atStart => exact ⟨0, Nat.zero_le _, rfl, Lib.hid ⟨OwnI.nil _ _, HE.out, Nat.le_refl _⟩⟩
        case round =>
          obtain ⟨k, hk, rfl, hg⟩ := hrel
          by_cases hlt : k < ls.length
          · obtain ⟨wB, rfl⟩ : ∃ x, x = wr := ⟨wr, rfl⟩
            obtain ⟨hown, ⟨hE, D, hM⟩, hsz⟩ := hg.out
            have hkd : Kb bm wB wB.drew := (Kb.refl bm wB).drew
            have hE1 := hE.kb hkd
            have hM1 : VM wB.drew bm (Sh.S ls (oneO of)) D := hM.kept (Below.refl wB.heap.size wB).drew
            have SI := Lib.hid (shareIn_any w3 bl bo bb bf bv bd w2.heap.size bm (.slice a ls.length c) ls of hl HH.out.2.1 HH.out.2.2.1 k hlt wB.drew D hE1 hM1)
            have hlen := hE1.below
            have bRB := HW.out.2.below hlen HW.out.2.lt
            have hS0 : wB.drew.cell? ⟨w.heap.size, 0, none⟩ = some (.int .i64 rn) ∧ wB.drew.cell? ⟨w.heap.size, 1, none⟩ = some (.int .i64 rd) := ⟨bRB.cell 0, bRB.cell 1⟩
            have HE1 := Lib.hid (And.intro hE1 (And.intro (show OwnI w4.heap.size wB.drew u9 _ from hown.all (Below.refl wB.heap.size wB).drew) hsz))
            have hvis := hE.vis.cell 0
            clear hown hE hM hsz hkd hE1 hM1 hlen bRB hvis
            have HS := Lib.hid (selK_succ (rcP ls of rn rd) k)
            have hsl := selK_len (rcP ls of rn rd) k
            have hd : rcP ls of rn rd k = decide (0 ≤ cmpV (Sh.S ls (oneO of) k) (Sh.D ls (k + 1)) rn rd) := rfl
            generalize rcP ls of rn rd k = d at *
            generalize selK (rcP ls of rn rd) k = qs at *
            go_wp2_with fail
            refine wp_region_seq [(0, true), (1, true), (3, true), (2, false), (4, false), (5, true)] (fun W => W.cell? ⟨w.heap.size, 0, none⟩ = some (.int .i64 rn) ∧ W.cell? ⟨w.heap.size, 1, none⟩ = some (.int .i64 rd))
              (by kernel_rfl) (by kernel_rfl) (by kernel_rfl) (by kernel_rfl) (fun d _ _ _ _ h => by cases d <;> exact h) hS0 (fun hS => ?_)
            clear hS0
            repeat (refine SeqH.take (v := ?_) rfl (by rfl) ?_ ?_; rotate_left; (· intro w hSw; (try dsimp only at hSw); obtain ⟨q0, q1⟩ := hSw; go_simp; (try with_reducible rfl)); simp only [Act.put, List.setIfInBounds_toArray, List.set_cons_zero, List.set_cons_succ])
            refine SeqH.step rfl (by rfl) (fun K hK => ?_)
            go_simp
            refine SI.out.mono ?_
            rintro e w6 ⟨rfl, hkk⟩
            obtain ⟨hD6, hk6⟩ := hkk.out
            have hE6 := HE1.out.1.kb hk6
            have hdd := hE6.d
            have hfs : ∀ j, j < (segN ls 0 (k + 1)).length → (segN ls 0 (k + 1)).getD j 0 < 9223372036854775808 := by
              intro j hj
              have h1 := Sh.be_le HH.out.2.1 j
              simp [segN] at hj
              simp [segN, hj]; omega
            have hpd : prodL (segN ls 0 (k + 1)) = Sh.D ls (k + 1) := prodL_seg ls 0 (k + 1)
            have hsd := Sh.S_le HH.out.2.2.1 (oneO of) k hlt
            have RT := fracCmp_any (Sh.S ls (oneO of) k) (.slice (some ⟨bd, 0, none⟩) (k + 1) ls.length) (segN ls 0 (k + 1)) rn rd w6 (nums_seg hdd (by omega) (by omega)) (by simp [segN]; omega) hfs HH.out.2.2.2 (Nat.lt_of_le_of_lt (Nat.mul_le_mul_right _ (Nat.le_trans hsd (Sh.D_lt HH.out.2.1 (by omega)))) (by unfold Wd.B; decide +kernel)) (by rw [hpd]; exact Nat.lt_of_le_of_lt (Nat.mul_le_mul_right _ (Sh.D_lt HH.out.2.1 (by omega))) (by unfold Wd.B; decide +kernel))
            rw [hpd] at RT
            have HRT := Lib.hid RT
            have b6 := HW.out.2.below hE6.below HW.out.2.lt
            have hSn : w6.cell? ⟨w.heap.size, 0, none⟩ = some (.int .i64 rn) ∧ w6.cell? ⟨w.heap.size, 1, none⟩ = some (.int .i64 rd) := ⟨b6.cell 0, b6.cell 1⟩
            have HE6 := Lib.hid (And.intro hE6 (And.intro hD6 (And.intro (HE1.out.2.1.kb hk6 HBM.out) (Nat.le_trans HE1.out.2.2 hk6.size))))
            generalize cmpV (Sh.S ls (oneO of) k) (Sh.D ls (k + 1)) rn rd = cv at *
            clear hkk hD6 hk6 hE6 hdd hfs hpd hsd RT b6 SI hg
            try dsimp only
            refine hK.out _ _ hSn (fun _ => ?_)
            clear hK K hSn hS
            try simp only [Act.put, List.setIfInBounds_toArray, List.set_cons_zero, List.set_cons_succ]
            repeat (refine SeqH.take (v := ?_) rfl (by rfl) ?_ ?_; rotate_left; (· intro w hSw; (try dsimp only at hSw); obtain ⟨q0, q1⟩ := hSw; go_simp; (try with_reducible rfl)); simp only [Act.put, List.setIfInBounds_toArray, List.set_cons_zero, List.set_cons_succ])
            refine SeqH.step rfl (by rfl) (fun K hK => ?_)
            go_simp
            refine HRT.out.mono ?_
            rintro e w7 ⟨rfl, hb7⟩
            have hE7 := HE6.out.1.kb (Kb.of hb7)
            have b7 := HW.out.2.below hE7.below HW.out.2.lt
            have hSn : w7.cell? ⟨w.heap.size, 0, none⟩ = some (.int .i64 rn) ∧ w7.cell? ⟨w.heap.size, 1, none⟩ = some (.int .i64 rd) := ⟨b7.cell 0, b7.cell 1⟩
            have HE7 := Lib.hid (And.intro hE7 (And.intro (show ∃ D, VM w7 bm (Sh.S ls (oneO of)) D by obtain ⟨D', hM'⟩ := HE6.out.2.1; exact ⟨D', hM'.kept hb7⟩) (And.intro (HE6.out.2.2.1.all hb7) (Nat.le_trans HE6.out.2.2.2 hb7.size))))
            clear hE7 b7 hb7 HRT
            try dsimp only
            refine hK.out _ _ hSn (fun _ => ?_)
            clear hK K hSn
            try simp only [Act.put, List.setIfInBounds_toArray, List.set_cons_zero, List.set_cons_succ]
            repeat (refine SeqH.take (v := ?_) rfl (by rfl) ?_ ?_; rotate_left; (· intro w hSw; (try dsimp only at hSw); go_simp; (try with_reducible rfl)); simp only [Act.put, List.setIfInBounds_toArray, List.set_cons_zero, List.set_cons_succ])
            refine SeqH.done ?_
            by_cases hc : 0 ≤ cv
            · have hcb : decide (0 ≤ cv) = true := decide_eq_true hc
              rw [hcb] at hd
              rw [hd, if_pos rfl] at HS
              have hown := HE7.out.2.2.1
              have hszw := HE7.out.2.2.2
              have hro : _ := hown
              unfold OwnI at hro
              clear hd hcb
              go_wp2_with (at_builtin; refine wpList_append_own _ rfl _ _ 54 rfl w4.heap.size 3 i0 (.int .i64 0) 1 8 Try.underlying54 hi hz0 hz1 hz2 rfl (by decide) _ _ _ rfl (World.ownsRow.alloc hro _) ⟨_, 0, none⟩ 1 1 (intL k) rfl rfl (intL_at _ _ _) (intL_one _) (by unfold maxLen; omega) (by omega) (by simp; omega) ?_)
              intro v' w8 hown1 hgrow _
              have hb8 : Below w4.heap.size w7 w8 := ((Below.refl w4.heap.size w7).alloc hszw (.cells #[.int .i64 (k : Int)] 3)).grown hgrow (by simp; omega) (fun j e => (World.ownsRow.lt hown j e).1)
              have hx2 : OwnI w4.heap.size w8 v' (qs ++ [(k : Int)]) := OwnI.pushed hown1
              have hE8 := HE7.out.1.low HE.out.1 hb8
              have hM8 : ∃ D, VM w8 bm (Sh.S ls (oneO of)) D := by
                obtain ⟨D', hM'⟩ := HE7.out.2.1
                refine ⟨D', (hM'.kept (below_alloc (Below.refl w7.heap.size w7) (.cells #[.int .i64 (k : Int)] 3))).grown hgrow ?_⟩
                intro e
                have h1 := (World.ownsRow.lt hown bm e).1
                have h2 := HBM.out
                omega
              have HG := Lib.hid (show OwnI w4.heap.size w8 v' (qs ++ [(k : Int)]) ∧ (VE w3 w8 bl bo bb bf bv bd w2.heap.size bm (.slice a ls.length c) ls of ∧ ∃ D, VM w8 bm (Sh.S ls (oneO of)) D) ∧ w4.heap.size ≤ w8.heap.size from ⟨hx2, ⟨hE8, hM8⟩, Nat.le_trans hszw hb8.size⟩)
              clear hown1 hgrow hown hro hx2 hb8 hE8 hM8
              go_wp2
              go_roundw
              case rel => exact ⟨k + 1, by omega, by go_num, by rw [HS.out]; exact HG⟩
              case measure => simp [intOf]; try omega
            · have hcb : decide (0 ≤ cv) = false := decide_eq_false hc
              rw [hcb] at hd
              rw [hd, if_neg (by decide)] at HS
              clear hd hcb
              go_wp2
              go_roundw
              case rel => exact ⟨k + 1, by omega, by go_num, by rw [HS.out]; exact Lib.hid ⟨HE7.out.2.2.1, ⟨HE7.out.1, HE7.out.2.1⟩, HE7.out.2.2.2⟩⟩
              case measure => simp [intOf]; omega
          · obtain rfl : k = ls.length := by omega
            obtain ⟨hown, ⟨hE, D, hM⟩, hsz⟩ := hg.out
            have hx := below_step HW.out.1 hE.below
            have ho := hown.mono (Nat.le_trans HW.out.1.size hsz34)
            clear hown hE hM hsz hg
            go_wp2
            go_ret2
            exact ⟨_, rfl, ho, hx⟩
      · have hE : rcE ls of rn rd = 1 := by unfold rcE; rw [if_pos hz, if_neg (fun h => hpos h.2)]
        have hR : rcR ls of rn rd = [] := by unfold rcR; rw [hE, if_neg (by decide)]
        rw [hE, hR]
        obtain ⟨a, c, rfl⟩ := hv.form
        have hpn : rn ≤ 0 := by omega
        clear hv hb2 bR bN hsh hz h0 h1 h2 herr hE hR hk a1 a2 a3 a4 hpos hfine hearly
        go_enter Try.func49, Try.ntmps49
        go_wp2_with fail
        refine NT.out.mono ?_
        rintro e w1 ⟨rfl, hb1⟩
        have HW := Lib.hid (And.intro (below_step HB.out.1 hb1) (HB.out.2.below hb1 HB.out.2.lt))
        have d0 := HW.out.2.cell 0
        have d1 := HW.out.2.cell 1
        clear hb1 NT HB
        go_wp2_with fail
        refine (V.out _).mono ?_
        rintro e w2 ⟨rfl, hb2⟩
        have HW := Lib.hid (And.intro (below_step HW.out.1 hb2) (HW.out.2.below hb2 HW.out.2.lt))
        clear hb2 V d0 d1
        have d0 := HW.out.2.cell 0
        go_wp2
        go_ret2
        exact ⟨_, rfl, OwnI.nil _ _, HW.out.1⟩
    | false =>
      have hE : rcE ls of rn rd = 1 := by unfold rcE; rw [if_pos hz, hk, if_neg (fun h => absurd h.1 (by decide))]
      have hR : rcR ls of rn rd = [] := by unfold rcR; rw [hE, if_neg (by decide)]
      rw [hE, hR]
      have V := Lib.hid (fun W => validF rn rd W hk a1 a2 a3 a4)
      obtain ⟨a, c, rfl⟩ := hv.form
      clear hv hb2 bR bN hsh hz h0 h1 h2 herr hE hR hk a1 a2 a3 a4 hfine hearly
      go_enter Try.func49, Try.ntmps49
      go_wp2_with fail
      refine NT.out.mono ?_
      rintro e w1 ⟨rfl, hb1⟩
      have HW := Lib.hid (And.intro (below_step HB.out.1 hb1) (HB.out.2.below hb1 HB.out.2.lt))
      have d0 := HW.out.2.cell 0
      have d1 := HW.out.2.cell 1
      clear hb1 NT HB
      go_wp2_with fail
      refine (V.out _).mono ?_
      rintro e w2 ⟨rfl, hb2⟩
      have hw := below_step HW.out.1 hb2
      clear hb2 V d0 d1
      go_wp2
      go_ret2
      exact ⟨_, rfl, OwnI.nil _ _, hw⟩
  · have hE : rcE ls n rn rd = numE ls [n] := by unfold rcE; rw [if_neg hz]
    have hR : rcR ls n rn rd = [] := by unfold rcR; rw [hE, if_neg hz]
    rw [hE, hR]
    obtain ⟨a, c, rfl⟩ := hv.form
    have hne : (numE ls [n] != 0) = true := by simpa using hz
    generalize numE ls [n] = q at *
    clear hv hb2 bR bN hsh hz hE hR a1 a2 a3 a4
    go_enter Try.func49, Try.ntmps49
    go_wp2_with fail
    refine NT.out.mono ?_
    rintro e w1 ⟨rfl, hb1⟩
    have hw := below_step HB.out.1 hb1
    clear hb1 NT HB
    go_wp2
    go_ret2
    exact ⟨_, rfl, OwnI.nil _ _, hw⟩
end Go.Proofs.Ytccjbefmcifaeaa
