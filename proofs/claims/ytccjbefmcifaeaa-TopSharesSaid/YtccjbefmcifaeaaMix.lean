/- The reference's mixture: the sum of the shares of marked lots in a lot, over one denominator. -/
import Derived.Test.YtccjbefmcifaeaaMixN
import Derived.Test.YtccjbefmcifaeaaWholes
import Derived.Test.YtccjbefmcifaeaaAns1
import Derived.Test.YtccjbefmcifaeaaInside
import Derived.Test.YtccjbefmcifaeaaShare
import Derived.Test.YtccjbefmcifaeaaSeq3
namespace Go.Proofs.Ytccjbefmcifaeaa
open Go.RowKit

theorem infoWhole : (Try.prog.info? 92).map (fun i => (i.zero, i.size, i.bytes)) = some (some (.slice none 0 0), 1, 24) := by kernel_rfl
theorem ul_wholes : Try.prog.underlying 119 = some (.slice 92) := by kernel_rfl
theorem infoW_parts : ∃ i : TypeInfo, Try.prog.info? 92 = some i ∧ i.zero = some (.slice none 0 0) ∧ i.size = 1 ∧ i.bytes = 24 := by
  have h := infoWhole
  cases hi : Try.prog.info? 92 with
  | none => rw [hi] at h; cases h
  | some i =>
    rw [hi] at h
    simp only [Option.map_some, Option.some.injEq, Prod.mk.injEq] at h
    exact ⟨i, rfl, h.1, h.2.1, h.2.2⟩
/-- A list of whole numbers that the call made itself. -/
def OwnW (base : Nat) (w : World) (v : Value) (us : List Value) : Prop := w.ownsRow base 92 1 v us.length us
theorem OwnW.nil (base : Nat) (w : World) : OwnW base w (.slice none 0 0) [] := World.ownsRow_nil _ _ _ _
theorem OwnW.all {base : Nat} {w w2 : World} {v : Value} {us : List Value} (h : OwnW base w v us) (hb : Below w.heap.size w w2) : OwnW base w2 v us := by
  obtain ⟨h0, h1 | ⟨g, cap, cur, h1, h2, h3, h4⟩⟩ := h
  · exact ⟨h0, .inl h1⟩
  · have hg : g < w.heap.size := (Array.getElem?_eq_some_iff.1 h3).1
    exact ⟨h0, .inr ⟨g, cap, cur, h1, h2, by rw [hb.block g hg]; exact h3, h4⟩⟩
theorem OwnW.form {base : Nat} {w : World} {v : Value} {us : List Value} (h : OwnW base w v us) : ∃ a c, v = .slice a us.length c := by
  obtain ⟨h0, ⟨h1, h2⟩ | ⟨g, cap, cur, h1, h2, h3, h4⟩⟩ := id h
  · exact ⟨none, 0, by rw [h1, h2]⟩
  · exact ⟨_, _, h1⟩
theorem OwnW.at {base : Nat} {w : World} {a : Option Addr} {l c : Nat} {us : List Value} (h : OwnW base w (.slice a l c) us) {p : Nat} (hp : p < us.length) : ∃ g, a = some ⟨g, 0, none⟩ ∧ g < w.heap.size ∧ w.cell? ⟨g, p, none⟩ = us[p]? := by
  obtain ⟨h0, ⟨h1, h2⟩ | ⟨g, cap, cur, h1, h2, h3, h4⟩⟩ := id h
  · omega
  · simp only [Value.slice.injEq] at h1
    obtain ⟨rfl, rfl, rfl⟩ := h1
    exact ⟨g, rfl, (Array.getElem?_eq_some_iff.1 h3).1, World.ownsRow.cellAt h p (by omega)⟩
theorem one_at (w : World) (x : Value) (t : TypeId) : ∀ (j : Nat) (u : Value), [x][j]? = some u → (w.alloc (.cells #[x] t)).cell? ((⟨w.heap.size, 0, none⟩ : Addr).add j) = some u := by
  intro j u h
  match j, h with
  | 0, h => simp at h; subst h; simp [Addr.add]
  | j + 1, h => simp at h
/-- The numerators of the first lots, in memory. -/
def Nk (ls : List Lt.L) (o : Nat → Bool) (M : Nat) (w : World) (us : List Value) (i : Nat) : Prop := us.length = i ∧ ∀ p, p < i → ∃ z, us[p]? = some z ∧ Wo w z (Sh.numK ls o M p)
theorem Nk.all {ls : List Lt.L} {o : Nat → Bool} {M : Nat} {w w2 : World} {us : List Value} {i : Nat} (h : Nk ls o M w us i) (hb : Below w.heap.size w w2) : Nk ls o M w2 us i :=
  ⟨h.1, fun p hp => let ⟨z, h1, h2⟩ := h.2 p hp; ⟨z, h1, h2.all hb⟩⟩
theorem Nk.push {ls : List Lt.L} {o : Nat → Bool} {M : Nat} {w : World} {us : List Value} {i : Nat} {z : Value} (h : Nk ls o M w us i) (hz : Wo w z (Sh.numK ls o M i)) : Nk ls o M w (us ++ [z]) (i + 1) := by
  have hl := h.1
  refine ⟨by simp [h.1], fun p hp => ?_⟩
  by_cases e : p = i
  · subst e
    exact ⟨z, by rw [List.getElem?_append_right (by omega), h.1]; simp, hz⟩
  · obtain ⟨y, h1, h2⟩ := h.2 p (by omega)
    exact ⟨y, by rw [List.getElem?_append_left (by omega)]; exact h1, h2⟩

theorem Wo.grown {base : Nat} {W w9 : World} {s z : Value} {us : List Value} {n : Nat} (h : Wo W z n) (hrow : OwnW base W s us) (hg : W.grownBy w9 s.ownBlock) : Wo w9 z n := by
  refine h.keep hg.size fun b cs fz e => hg.block b (Array.getElem?_eq_some_iff.1 e).1 ?_
  intro e2
  obtain ⟨h0, ⟨h1, h2⟩ | ⟨g, cap, cur, h1, h2, h3, h4⟩⟩ := id hrow
  · rw [h1] at e2; simp [Value.ownBlock] at e2
  · rw [h1] at e2
    simp [Value.ownBlock] at e2
    subst e2
    rw [h3] at e
    simp at e

set_option maxRecDepth 20000 in
set_option maxHeartbeats 2000000 in
theorem mixture_any (v : Value) (ls : List Lt.L) (o : Nat → Bool) (gm mc m : Nat) (w : World) (hv : Lots w v ls) (hl : ls.length ≤ 24) (herr : ∀ j, j < ls.length → Lt.errAt ls j = 0) (hm : m < ls.length)
    (hgm : gm < w.heap.size) (hmk : ∀ j, j < ls.length → w.cell? ⟨gm, j, none⟩ = some (.bool (o j))) :
    Calls Try.prog 74 #[v, .slice (some ⟨gm, 0, none⟩) ls.length mc, .int .i64 m] w fun e w' => ∃ y z, e = .returned (.tuple #[y, z]) ∧ Wo w' y (Sh.S ls o m) ∧ Wo w' z (Sh.D ls (m + 1)) ∧ Below w.heap.size w w' := by
  have hfine := fun j hj => Lt.fine_of (herr j hj)
  have hearly := early_of herr
  obtain ⟨i0, hi, hz0, hz1, hz2⟩ := infoW_parts
  obtain ⟨a, c, rfl, hk⟩ := hv.look
  have HK := Lib.hid hk
  have HV := Lib.hid hv
  have HF := Lib.hid hfine
  have HE := Lib.hid hearly
  have HR := Lib.hid herr
  have HMK := Lib.hid (And.intro hgm hmk)
  have HND := Lib.hid (Sh.D_nd hfine (n := m + 1) (by omega))
  have S1 := Lib.hid (wSmall_any 1 w (by omega))
  have HND2 := Lib.hid (fun i (hi : i ≤ 24) => (Sh.D_nd hfine (n := i) hi).1)
  clear hk hv hfine hearly herr hgm hmk
  go_enter Try.func74, Try.ntmps74
  go_wp2_with fail
  refine S1.out.mono ?_
  rintro e w1 ⟨z1, rfl, hz1', hb1⟩
  have H1 : Hid (Wo w1 z1 (Sh.D ls 0) ∧ Below w.heap.size w w1) := Lib.hid ⟨hz1', hb1⟩
  clear hz1' hb1 S1
  go_wp2
  go_loopw [8, 9] (fun s t wr => ∃ i : Nat, i ≤ m + 1 ∧ t = .int .i64 i ∧ Hid (Wo wr s (Sh.D ls i) ∧ Below w.heap.size w wr)) (fun _ t _ => m + 1 - (intOf t).toNat)
  case atStart => exact ⟨0, Nat.zero_le _, rfl, H1⟩
  case round =>
    obtain ⟨i, him, rfl, hg⟩ := hrel
    clear H1
    obtain ⟨hall, hw⟩ := hg.out
    by_cases hlt : i ≤ m
    · obtain ⟨b, off, u, rfl, hbl, hlot⟩ := HK.out i (by omega)
      have hlot := hlot.below hw hbl
      have hfx := HF.out i (by omega)
      have hse := Sh.be_empty (ls := ls) (i := i) rfl
      have hsf := Sh.be_full (ls := ls) (i := i) rfl hfx
      have hds := Sh.D_succ ls i
      have hnd := HND2.out i (by omega)
      generalize ls.getD i default = x at *
      obtain ⟨c0, c1, c2, hps⟩ := hlot
      obtain ⟨ua, uc, rfl⟩ := hps.form
      have hil : i < ls.length := by omega
      by_cases hx0 : x.ps.length = 0
      · have HN := Lib.hid (show Wo wr u8 (Sh.D ls (i + 1)) ∧ Below w.heap.size w wr by rw [hds, hse hx0, Nat.mul_one]; exact ⟨hall, hw⟩)
        have hx0i : ¬ (0 : Int) < (x.ps.length : Int) := by omega
        clear hall hw hg hps hfx hse hsf hds hnd c0 c1
        go_wp2
        go_roundw
        case rel => exact ⟨i + 1, by omega, by go_num, HN⟩
        case measure => simp [intOf]; omega
      · have hx0i : (0 : Int) < (x.ps.length : Int) := by omega
        have T := Lib.hid (fun W (hW : Below wr.heap.size wr W) => ref_takes_any x (.slice ua x.ps.length uc) W (hps.all hW) (tame_of hfx))
        have htk := hsf (by omega)
        have htb := Lt.takes_bd hfx.2.2
        have hxl := hfx.2.1
        have hbe : Sh.be ls i ≤ 600000 := by omega
        have TM := Lib.hid (fun W (hW : Below wr.heap.size wr W) => wTimes_any (Sh.D ls i) (Sh.be ls i) _ W (hall.all hW) (by omega) (by omega))
        rw [← hds] at TM
        have HW := Lib.hid hw
        rw [← htk] at T
        clear hall hg hps hse hsf hds hnd htk htb hw hfx hbe
        go_wp2_with fail
        refine (T.out _ (Below.refl _ _)).mono ?_
        rintro e w2 ⟨rfl, hb2⟩
        go_wp2_with fail
        refine (TM.out _ hb2).mono ?_
        rintro e w3 ⟨z, rfl, hz, hb3⟩
        have HN := Lib.hid (And.intro hz (below_step (below_step HW.out hb2) hb3))
        clear hz hb2 hb3 T TM
        go_wp2
        go_roundw
        case rel => exact ⟨i + 1, by omega, by go_num, HN⟩
        case measure => simp [intOf]; omega
    · obtain rfl : i = m + 1 := by omega
      obtain ⟨wA, rfl⟩ : ∃ x, x = wr := ⟨wr, rfl⟩
      have H2 : Hid (OwnW wA.heap.size wA (.slice none 0 0) [] ∧ Nk ls o (m + 1) wA [] 0 ∧ Below wA.heap.size wA wA) := Lib.hid ⟨OwnW.nil _ _, ⟨rfl, fun p hp => absurd hp (Nat.not_lt_zero _)⟩, Below.refl _ _⟩
      have HALL := Lib.hid hall
      have HW1 := Lib.hid hw
      have hno : decide (((m : Int) + 1) ≤ (m : Int)) = false := decide_eq_false (by omega)
      have hno2 : ¬ (((m : Int) + 1) ≤ (m : Int)) := by omega
      clear hall hw hg hlt him
      go_wp2
      go_loopw [10, 11] (fun s t w2 => ∃ i : Nat, ∃ us : List Value, i ≤ m + 1 ∧ t = .int .i64 i ∧ Hid (OwnW wA.heap.size w2 s us ∧ Nk ls o (m + 1) w2 us i ∧ Below wA.heap.size wA w2)) (fun _ t _ => m + 1 - (intOf t).toNat)
      case atStart => exact ⟨0, [], Nat.zero_le _, rfl, H2⟩
      case round =>
        obtain ⟨i, us, him, rfl, hg⟩ := hrel
        clear H2
        obtain ⟨wB, rfl⟩ : ∃ x, x = wr := ⟨wr, rfl⟩
        obtain ⟨hrow, hnk, hw⟩ := hg.out
        by_cases hlt : i ≤ m
        · have hil : i < ls.length := by omega
          obtain ⟨b, off, u, rfl, hbl, hlot⟩ := HK.out i hil
          have hwA := below_step HW1.out hw
          have hc2 := hlot.2.2.1
          have hlot := hlot.below hwA hbl
          have hmc := (hwA.cell (p := ⟨gm, i, none⟩) HMK.out.1).trans (HMK.out.2 i hil)
          have hfx := HF.out i hil
          have hse := Sh.be_empty (ls := ls) (i := i) rfl
          have hsf := Sh.be_full (ls := ls) (i := i) rfl hfx
          have HPB := Lib.hid (fun j (hj : j < (ls.getD i default).ps.length) => part_before (HR.out i hil) hj)
          have HSU := Lib.hid (fun j p (hj : j < (ls.getD i default).ps.length) hp hpi => Sh.sumK_succ ls o (M := m + 1) (i := i) (j := j) (p := p) hj hp hpi (by omega))
          have HSF := Lib.hid (fun ho => Sh.sumK_full HE.out o (M := m + 1) (i := i) (by omega) (by omega) ho)
          have HSL := Lib.hid (fun j => HND.out.2 _ (Sh.sumK_le HE.out o (M := m + 1) (i := i) (j := j) (by omega) (by omega) (by have := Lt.takes_bd hfx.2.2; have := hfx.2.1; omega)))
          have HNL := Lib.hid (fun p (hp : p < i) => Nat.le_trans (Wh.nd_mono (Sh.numK_le HE.out o (M := m + 1) (i := p) (by omega) (by omega))) HND.out.1)
          have HM0 := Lib.hid (fun ho => Sh.numK_mark HE.out o (M := m + 1) (i := i) (by omega) (by omega) ho)
          have HS0 := Lib.hid (Sh.sumK_zero ls o (m + 1) i)
          have HST := Lib.hid (And.intro hrow (And.intro hnk hw))
          have HUS := Lib.hid hnk.1
          have hus1 : us.length ≤ i := by have := hnk.1; omega
          have hus2 : i ≤ us.length := by have := hnk.1; omega
          generalize ls.getD i default = x at *
          obtain ⟨xk, xm, ps⟩ := x
          dsimp only at *
          obtain ⟨c0, c1, c2, hps⟩ := hlot
          obtain ⟨pa, pc, rfl, hpk⟩ := hps.look
          have HPK := Lib.hid hpk
          have HPS := Lib.hid hps
          have hxl : ps.length ≤ 6 := hfx.2.1
          have HFX := Lib.hid hfx
          dsimp only at c0 c1 c2
          clear hrow hnk hw hg hwA hpk hps hfx
          by_cases ho : o i = true
          · rw [ho] at hmc
            have HWO := Lib.hid (show Wo wB u8 (Sh.numK ls o (m + 1) i) by rw [HM0.out ho]; exact HALL.out.all HST.out.2.2)
            obtain ⟨la, lc, hlf⟩ := HALL.out.form
            subst hlf
            clear ho HSF HM0 c0 c1 c2
            have hrow0 := HST.out.1
            have hl24 : us.length ≤ 30 := by omega
            have hsz := HST.out.2.2.size
            unfold OwnW at hrow0
            go_wp2_with (at_builtin; refine wpList_append_own _ rfl _ _ 119 rfl wA.heap.size 92 i0 (.slice none 0 0) 1 24 ul_wholes hi hz0 hz1 hz2 rfl (by decide) _ _ _ rfl (World.ownsRow.alloc hrow0 _) ⟨_, 0, none⟩ 1 1 [.slice la (Wh.nd (Sh.D ls (m + 1))) lc] rfl rfl (one_at _ _ _) (by intro u hu; simp at hu; subst hu; rfl) (by unfold maxLen; omega) (by omega) (by simp; omega) ?_)
            intro v' w9 hown1 hgrow _
            have hw9 := (HST.out.2.2.alloc HST.out.2.2.size (.cells #[.slice la (Wh.nd (Sh.D ls (m + 1))) lc] 92)).grown hgrow (by simp; omega) (fun j e => (World.ownsRow.lt hrow0 j e).1)
            have hx9 : OwnW wA.heap.size w9 v' (us ++ [.slice la (Wh.nd (Sh.D ls (m + 1))) lc]) := by unfold OwnW; rw [List.length_append]; exact hown1
            have hn9 : Nk ls o (m + 1) w9 (us ++ [.slice la (Wh.nd (Sh.D ls (m + 1))) lc]) (i + 1) := by
              have hra : OwnW wA.heap.size _ _ us := World.ownsRow.alloc hrow0 (.cells #[.slice la (Wh.nd (Sh.D ls (m + 1))) lc] 92)
              refine Nk.push ⟨HST.out.2.1.1, fun p hp => ?_⟩ ?_
              · obtain ⟨z, e1, e2⟩ := HST.out.2.1.2 p hp
                exact ⟨z, e1, (e2.all (below_alloc (Below.refl _ _) _)).grown hra hgrow⟩
              · exact ((HWO.out).all (below_alloc (Below.refl _ _) _)).grown hra hgrow
            have H9 := Lib.hid (And.intro hx9 (And.intro hn9 hw9))
            clear hrow0 hown1 hgrow hw9 hx9 hn9 hsz
            go_wp2
            go_roundw
            case rel => exact ⟨i + 1, _, by omega, by go_num, H9⟩
            case measure => simp [intOf]; omega
          · have hof : o i = false := by simpa using ho
            rw [hof] at hmc
            have HN0 := Lib.hid (HSF.out hof)
            have HC2 := Lib.hid hc2
            have H3 : Hid (Wo wB (.slice none 0 0) (Sh.sumK ls o (m + 1) i 0) ∧ Below wB.heap.size wB wB) := Lib.hid ⟨by rw [HS0.out]; exact wo_zero _ _ _, Below.refl _ _⟩
            clear ho hof HSF HM0
            go_wp2
            go_loopw [12, 13] (fun s t w3 => ∃ j : Nat, j ≤ ps.length ∧ t = .int .i64 j ∧ Hid (Wo w3 s (Sh.sumK ls o (m + 1) i j) ∧ Below wB.heap.size wB w3)) (fun _ t _ => ps.length - (intOf t).toNat)
            case atStart => exact ⟨0, Nat.zero_le _, rfl, H3⟩
            case round =>
              obtain ⟨j, hj, rfl, hg⟩ := hrel
              clear H3
              obtain ⟨wC, rfl⟩ : ∃ x, x = wr := ⟨wr, rfl⟩
              obtain ⟨hsum, hbC⟩ := hg.out
              have hwC := below_step HST.out.2.2 hbC
              have hwT := below_step HW1.out hwC
              have c2 := (hwT.cell (p := ⟨b, off + i * 3 + 2, none⟩) hbl).trans HC2.out
              by_cases hjl : j < ps.length
              · obtain ⟨pb, poff, rfl, hpb, hpt⟩ := HPK.out j hjl
                obtain ⟨q, hql, hqi⟩ := HPB.out j hjl
                have hsu := HSU.out j q hjl hql hqi
                have hmm := HFX.out.2.2 _ (List.getElem_mem hjl)
                have hpc0 := (hbC.cell (p := ⟨pb, poff + j * 2, none⟩) hpb).trans hpt.1
                have hpc1 := (hbC.cell (p := ⟨pb, poff + j * 2 + 1, none⟩) hpb).trans hpt.2
                rw [getD_P hjl] at hpc0 hpc1
                obtain ⟨zq, hzq, hwq⟩ := HST.out.2.1.2 q hqi
                have hrw := HST.out.1
                obtain ⟨ra, rc, rfl⟩ := hrw.form
                obtain ⟨gq, rfl, hgq, hcq⟩ := hrw.at (p := q) (by omega)
                have hcq2 := (hbC.cell (p := ⟨gq, q, none⟩) hgq).trans (hcq.trans hzq)
                generalize ps[j] = p at *
                obtain ⟨pl, pm⟩ := p
                dsimp only at *
                subst hql
                obtain ⟨mm, rfl⟩ : ∃ mm : Nat, pm = (mm : Int) := ⟨pm.toNat, by omega⟩
                rw [Int.toNat_natCast] at hsu
                have TM := Lib.hid (fun W (hW : Below wC.heap.size wC W) => wTimes_any _ mm zq W ((hwq.all hbC).all hW) (Nat.le_trans (HNL.out q hqi) (by omega)) (by omega))
                have hnl1 := HSL.out j
                have hnl2 := HSL.out (j + 1)
                have hnl3 : Wh.nd (Sh.numK ls o (m + 1) q * mm) ≤ 21 := Nat.le_trans (Wh.nd_mono (by rw [hsu]; exact Nat.le_add_left _ _)) hnl2
                have PL := Lib.hid (fun W z (hW : Below wC.heap.size wC W) (hz : Wo W z (Sh.numK ls o (m + 1) q * mm)) => wPlus_any _ _ u12 z W (hsum.all hW) hz (Nat.le_trans hnl1 (by omega)) (Nat.le_trans hnl3 (by omega)))
                rw [← hsu] at PL
                have HB := Lib.hid hbC
                have hus3 : q < us.length := by omega
                have hqi2 : (q : Int) < (us.length : Int) := by omega
                have hil2 : (i : Int) < (ls.length : Int) := by omega
                have hjl2 : (j : Int) < (ps.length : Int) := by omega
                have hlc := hbl
                have hS0 : wC.cell? ⟨b, off + i * 3 + 2, none⟩ = some (.slice (some ⟨pb, poff, none⟩) ps.length pc) ∧ wC.cell? ⟨pb, poff + j * 2, none⟩ = some (.int .i64 (q : Int)) ∧ wC.cell? ⟨pb, poff + j * 2 + 1, none⟩ = some (.int .i64 (mm : Int)) ∧ wC.cell? ⟨gq, q, none⟩ = some zq := ⟨c2, hpc0, hpc1, hcq2⟩
                have HS := Lib.hid hS0
                have HLT := Lib.hid (show b < wC.heap.size ∧ pb < wC.heap.size ∧ gq < wC.heap.size from ⟨Nat.lt_of_lt_of_le hbl hwT.size, Nat.lt_of_lt_of_le hpb hbC.size, Nat.lt_of_lt_of_le hgq hbC.size⟩)
                clear hsum hbC hwC hwT hg hpt hpc0 hpc1 hwq hrw hcq hcq2 hnl1 hnl2 hnl3 hsu hmm hS0 hpb hgq hlc
                go_wp2_with fail
                clear c2
                refine wp_region_seq [(0, true), (1, true), (2, true), (3, true), (4, true), (5, true), (6, true), (7, true), (8, true), (9, true), (10, true), (11, true), (12, true), (13, true), (14, true), (15, true), (16, true), (17, true), (18, true), (19, true), (20, true), (21, true), (22, false), (23, false), (24, true)] (fun W => W.cell? ⟨b, off + i * 3 + 2, none⟩ = some (.slice (some ⟨pb, poff, none⟩) ps.length pc) ∧ W.cell? ⟨pb, poff + j * 2, none⟩ = some (.int .i64 (q : Int)) ∧ W.cell? ⟨pb, poff + j * 2 + 1, none⟩ = some (.int .i64 (mm : Int)) ∧ W.cell? ⟨gq, q, none⟩ = some zq)
                  (by kernel_rfl) (by kernel_rfl) (by kernel_rfl) (by kernel_rfl) (fun d _ _ _ _ h => by cases d <;> exact h) HS.out (fun hS => ?_)
                repeat (refine SeqH.take (v := ?_) rfl (by rfl) ?_ ?_; rotate_left; (· intro w hSw; (try dsimp only at hSw); obtain ⟨q0, q1, q2, q3⟩ := hSw; go_simp; (try with_reducible rfl)); simp only [Act.put, List.setIfInBounds_toArray, List.set_cons_zero, List.set_cons_succ])
                refine SeqH.step rfl (by rfl) (fun K hK => ?_)
                go_simp
                refine (TM.out _ (Below.refl _ _).drew).mono ?_
                rintro e w5 ⟨z5, rfl, hz5, hb5⟩
                have hb5' : Below wC.heap.size wC w5 := below_step (Below.refl _ _).drew hb5
                have PL1 := Lib.hid (PL.out w5 z5 hb5' hz5)
                have hS5 : w5.cell? ⟨b, off + i * 3 + 2, none⟩ = some (.slice (some ⟨pb, poff, none⟩) ps.length pc) ∧ w5.cell? ⟨pb, poff + j * 2, none⟩ = some (.int .i64 (q : Int)) ∧ w5.cell? ⟨pb, poff + j * 2 + 1, none⟩ = some (.int .i64 (mm : Int)) ∧ w5.cell? ⟨gq, q, none⟩ = some zq :=
                  ⟨(hb5'.cell (p := ⟨b, off + i * 3 + 2, none⟩) HLT.out.1).trans HS.out.1, (hb5'.cell (p := ⟨pb, poff + j * 2, none⟩) HLT.out.2.1).trans HS.out.2.1, (hb5'.cell (p := ⟨pb, poff + j * 2 + 1, none⟩) HLT.out.2.1).trans HS.out.2.2.1, (hb5'.cell (p := ⟨gq, q, none⟩) HLT.out.2.2).trans HS.out.2.2.2⟩
                have HB5 := Lib.hid hb5'
                clear hz5 hb5 hb5' TM PL
                try dsimp only
                refine hK.out _ _ hS5 (fun _ => ?_)
                clear hK K hS hS5
                try simp only [Act.put, List.setIfInBounds_toArray, List.set_cons_zero, List.set_cons_succ]
                refine SeqH.step rfl (by rfl) (fun K hK => ?_)
                go_simp
                refine PL1.out.mono ?_
                rintro e w6 ⟨z6, rfl, hz6, hb6⟩
                have hb6' : Below wC.heap.size wC w6 := below_step HB5.out hb6
                have hS6 : w6.cell? ⟨b, off + i * 3 + 2, none⟩ = some (.slice (some ⟨pb, poff, none⟩) ps.length pc) ∧ w6.cell? ⟨pb, poff + j * 2, none⟩ = some (.int .i64 (q : Int)) ∧ w6.cell? ⟨pb, poff + j * 2 + 1, none⟩ = some (.int .i64 (mm : Int)) ∧ w6.cell? ⟨gq, q, none⟩ = some zq :=
                  ⟨(hb6'.cell (p := ⟨b, off + i * 3 + 2, none⟩) HLT.out.1).trans HS.out.1, (hb6'.cell (p := ⟨pb, poff + j * 2, none⟩) HLT.out.2.1).trans HS.out.2.1, (hb6'.cell (p := ⟨pb, poff + j * 2 + 1, none⟩) HLT.out.2.1).trans HS.out.2.2.1, (hb6'.cell (p := ⟨gq, q, none⟩) HLT.out.2.2).trans HS.out.2.2.2⟩
                have HN6 := Lib.hid (And.intro hz6 (below_step HB.out hb6'))
                clear hz6 hb6 hb6' HB5 PL1
                try dsimp only
                refine hK.out _ _ hS6 (fun _ => ?_)
                clear hK K hS6
                try simp only [Act.put, List.setIfInBounds_toArray, List.set_cons_zero, List.set_cons_succ]
                repeat (refine SeqH.take (v := ?_) rfl (by rfl) ?_ ?_; rotate_left; (· intro w hSw; (try dsimp only at hSw); go_simp; (try with_reducible rfl)); simp only [Act.put, List.setIfInBounds_toArray, List.set_cons_zero, List.set_cons_succ])
                refine SeqH.done ?_
                clear HS HLT
                go_wp2
                go_roundw
                case rel => exact ⟨j + 1, by omega, by go_num, HN6⟩
                case measure => simp [intOf]; omega
              · obtain rfl : j = ps.length := by omega
                have HSM := Lib.hid hsum
                have HWC : Hid (OwnW wA.heap.size wC u10 us ∧ Nk ls o (m + 1) wC us i ∧ Below wA.heap.size wA wC) := Lib.hid ⟨HST.out.1.all hbC, HST.out.2.1.all hbC, hwC⟩
                by_cases hx0 : ps.length = 0
                · have hx0i : ¬ (0 : Int) < (ps.length : Int) := by omega
                  have HWO := Lib.hid (show Wo wC u12 (Sh.numK ls o (m + 1) i) by
                    have h1 := HN0.out
                    rw [hse hx0, Nat.div_one] at h1
                    rw [← h1]; exact hsum)
                  obtain ⟨la, ln, lc, hlf⟩ : ∃ a n c, u12 = Value.slice a n c := by obtain ⟨a, c, h⟩ := hsum.form; exact ⟨a, _, c, h⟩
                  subst hlf
                  have hjl2 : ¬ ((ps.length : Int) < (ps.length : Int)) := by omega
                  clear hsum hbC hwC hwT hg hjl hj hse hsf hx0
                  have hrow0 := HWC.out.1
                  have hl24 : us.length ≤ 30 := by omega
                  have hsz := HWC.out.2.2.size
                  unfold OwnW at hrow0
                  go_wp2_with (at_builtin; refine wpList_append_own _ rfl _ _ 119 rfl wA.heap.size 92 i0 (.slice none 0 0) 1 24 ul_wholes hi hz0 hz1 hz2 rfl (by decide) _ _ _ rfl (World.ownsRow.alloc hrow0 _) ⟨_, 0, none⟩ 1 1 [.slice la ln lc] rfl rfl (one_at _ _ _) (by intro u hu; simp at hu; subst hu; rfl) (by unfold maxLen; omega) (by omega) (by simp; omega) ?_)
                  intro v' w9 hown1 hgrow _
                  have hw9 := (HWC.out.2.2.alloc HWC.out.2.2.size (.cells #[.slice la ln lc] 92)).grown hgrow (by simp; omega) (fun j e => (World.ownsRow.lt hrow0 j e).1)
                  have hx9 : OwnW wA.heap.size w9 v' (us ++ [.slice la ln lc]) := by unfold OwnW; rw [List.length_append]; exact hown1
                  have hn9 : Nk ls o (m + 1) w9 (us ++ [.slice la ln lc]) (i + 1) := by
                    have hra : OwnW wA.heap.size _ _ us := World.ownsRow.alloc hrow0 (.cells #[.slice la ln lc] 92)
                    refine Nk.push ⟨HWC.out.2.1.1, fun p hp => ?_⟩ ?_
                    · obtain ⟨z, e1, e2⟩ := HWC.out.2.1.2 p hp
                      exact ⟨z, e1, (e2.all (below_alloc (Below.refl _ _) _)).grown hra hgrow⟩
                    · exact ((HWO.out).all (below_alloc (Below.refl _ _) _)).grown hra hgrow
                  have H9 := Lib.hid (And.intro hx9 (And.intro hn9 hw9))
                  clear hrow0 hown1 hgrow hw9 hx9 hn9 hsz
                  go_wp2
                  go_roundw
                  case rel => exact ⟨i + 1, _, by omega, by go_num, H9⟩
                  case measure => simp [intOf]; omega
                · have hx0i : (0 : Int) < (ps.length : Int) := by omega
                  have htk := hsf (by omega)
                  have htb := Lt.takes_bd HFX.out.2.2
                  dsimp only at htb htk
                  have T := Lib.hid (fun W (hW : Below wC.heap.size wC W) => ref_takes_any ⟨xk, xm, ps⟩ (.slice pa ps.length pc) W ((HPS.out.all hbC).all hW) (tame_of HFX.out))
                  dsimp only at T
                  rw [← htk] at T
                  have hc0 := (hbC.cell (p := ⟨b, off + i * 3, none⟩) (Nat.lt_of_lt_of_le hbl (below_step HW1.out HST.out.2.2).size)).trans c0
                  have hc1 := (hbC.cell (p := ⟨b, off + i * 3 + 1, none⟩) (Nat.lt_of_lt_of_le hbl (below_step HW1.out HST.out.2.2).size)).trans c1
                  have hbe : Sh.be ls i ≤ 600000 := by omega
                  have BY := Lib.hid (fun W (hW : Below wC.heap.size wC W) => wBy_any _ (Sh.be ls i) u12 W (hsum.all hW) (Nat.le_trans (HSL.out ps.length) (by omega)) (Sh.be_pos ls i) (by omega))
                  rw [HN0.out] at BY
                  generalize hbb : Sh.be ls i = be at *
                  clear hsum hbC hwC hwT hg hjl hj hse hsf htk htb c0 c1 hbb
                  go_wp2_with fail
                  refine (T.out _ (Below.refl _ _)).mono ?_
                  rintro e w5 ⟨rfl, hb5⟩
                  go_wp2_with fail
                  refine (BY.out _ hb5).mono ?_
                  rintro e w6 ⟨z6, rfl, hz6, hb6⟩
                  have hb6' := below_step hb5 hb6
                  have HW6 : Hid (OwnW wA.heap.size w6 u10 us ∧ Nk ls o (m + 1) w6 us i ∧ Below wA.heap.size wA w6) := Lib.hid ⟨HWC.out.1.all hb6', HWC.out.2.1.all hb6', below_step HWC.out.2.2 hb6'⟩
                  have HWO := Lib.hid hz6
                  obtain ⟨la, lc, hlf⟩ := hz6.form
                  subst hlf
                  clear hz6 hb5 hb6 hb6' T BY c2 hc0 hc1
                  have hrow0 := HW6.out.1
                  have hl24 : us.length ≤ 30 := by omega
                  have hsz := HW6.out.2.2.size
                  unfold OwnW at hrow0
                  go_wp2_with (at_builtin; refine wpList_append_own _ rfl _ _ 119 rfl wA.heap.size 92 i0 (.slice none 0 0) 1 24 ul_wholes hi hz0 hz1 hz2 rfl (by decide) _ _ _ rfl (World.ownsRow.alloc hrow0 _) ⟨_, 0, none⟩ 1 1 [.slice la (Wh.nd (Sh.numK ls o (m + 1) i)) lc] rfl rfl (one_at _ _ _) (by intro u hu; simp at hu; subst hu; rfl) (by unfold maxLen; omega) (by omega) (by simp; omega) ?_)
                  intro v' w9 hown1 hgrow _
                  have hw9 := (HW6.out.2.2.alloc HW6.out.2.2.size (.cells #[.slice la (Wh.nd (Sh.numK ls o (m + 1) i)) lc] 92)).grown hgrow (by simp; omega) (fun j e => (World.ownsRow.lt hrow0 j e).1)
                  have hx9 : OwnW wA.heap.size w9 v' (us ++ [.slice la (Wh.nd (Sh.numK ls o (m + 1) i)) lc]) := by unfold OwnW; rw [List.length_append]; exact hown1
                  have hn9 : Nk ls o (m + 1) w9 (us ++ [.slice la (Wh.nd (Sh.numK ls o (m + 1) i)) lc]) (i + 1) := by
                    have hra : OwnW wA.heap.size _ _ us := World.ownsRow.alloc hrow0 (.cells #[.slice la (Wh.nd (Sh.numK ls o (m + 1) i)) lc] 92)
                    refine Nk.push ⟨HW6.out.2.1.1, fun p hp => ?_⟩ ?_
                    · obtain ⟨z, e1, e2⟩ := HW6.out.2.1.2 p hp
                      exact ⟨z, e1, (e2.all (below_alloc (Below.refl _ _) _)).grown hra hgrow⟩
                    · exact ((HWO.out).all (below_alloc (Below.refl _ _) _)).grown hra hgrow
                  have H9 := Lib.hid (And.intro hx9 (And.intro hn9 hw9))
                  clear hrow0 hown1 hgrow hw9 hx9 hn9 hsz
                  go_wp2
                  go_roundw
                  case rel => exact ⟨i + 1, _, by omega, by go_num, H9⟩
                  case measure => simp [intOf]; omega
        · obtain rfl : i = m + 1 := by omega
          obtain ⟨zq, hzq, hwq⟩ := hnk.2 m (by omega)
          have hul := hnk.1
          have hrw := hrow
          obtain ⟨ra, rc, rfl⟩ := hrw.form
          obtain ⟨gq, rfl, hgq, hcq⟩ := hrw.at (p := m) (by omega)
          rw [hzq] at hcq
          have hml : m < us.length := by omega
          have hmli : (m : Int) < (us.length : Int) := by omega
          have hres := hwq
          unfold Sh.numK at hres
          rw [Sh.K_last, Nat.mul_one] at hres
          have HRS := Lib.hid (And.intro hres (And.intro (HALL.out.all hw) (below_step HW1.out hw)))
          clear hwq hul hrow hrw hnk hw hg him hlt hres hzq
          go_wp2
          go_ret2
          exact ⟨zq, u8, rfl, HRS.out⟩
end Go.Proofs.Ytccjbefmcifaeaa
