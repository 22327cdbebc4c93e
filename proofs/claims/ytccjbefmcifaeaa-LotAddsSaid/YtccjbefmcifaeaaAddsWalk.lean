/- LotAdds returns true, whatever the genealogy and the lot. -/
import Derived.Test.YtccjbefmcifaeaaAdd3
import Derived.Test.YtccjbefmcifaeaaLong
import Derived.Test.YtccjbefmcifaeaaKnowns
namespace Go.Proofs.Ytccjbefmcifaeaa
open Go.RowKit

theorem addR_short {ls : List Lt.L} {x : Lt.L} (h : short ls) (hl : ls.length ≤ 999) (hx : x.ps.length ≤ 20) : short (addR ls x) := by
  unfold addR
  split
  · refine ⟨by simp; omega, fun j hj => ?_⟩
    rw [List.length_append, List.length_singleton] at hj
    by_cases e : j < ls.length
    · rw [show (ls ++ [x]).getD j default = ls.getD j default by simp [List.getD, List.getElem?_append_left e]]
      exact h.2 j e
    · have e : j = ls.length := by omega
      subst e
      rw [show (ls ++ [x]).getD ls.length default = x by simp]; exact hx
  · exact ⟨by simp, fun j hj => absurd hj (by simp)⟩

theorem row_set {B s n : Nat} {w : World} {t : TypeId} {u : Value} (h : ∃ xs, w.ownsRow B t s u n xs) (b i : Nat) (z : Value) : ∃ xs, (w.setCell ⟨b, i, none⟩ z).ownsRow B t s u n xs := by
  obtain ⟨xs, h⟩ := h
  have h' := h
  obtain ⟨h0, ⟨h1, h2⟩ | ⟨g, cap, cur, h1, h2, h3, h4⟩⟩ := h
  · exact ⟨xs, h0, .inl ⟨h1, h2⟩⟩
  · subst h1
    by_cases e : b = g
    · subst e
      exact ⟨_, (World.ownsRow.stored h' i z).1⟩
    · exact ⟨xs, h0, .inr ⟨g, cap, cur, rfl, h2, by rw [show (w.setCell ⟨b, i, none⟩ z).heap[g]? = w.heap[g]? from Below.heap_setCell _ _ _ _ (Ne.symm e)]; exact h3, h4⟩⟩
/-- A list of lots and their lists of parts, all made by a call: what stands in the parts is left open. -/
def InvA (B : Nat) (X W : World) (v : Value) (R : List Lt.L) (us : List Value) : Prop :=
  us.length = R.length ∧ W.ownsRow B 25 3 v R.length (lotsC R us) ∧ (∀ k, k < R.length → ∃ u, us[k]? = some u ∧ ∃ xs, W.ownsRow B 35 2 u (R.getD k default).ps.length xs) ∧ Below B X W

set_option maxRecDepth 20000 in
set_option maxHeartbeats 2000000 in
theorem adds_walk (v vx : Value) (ls : List Lt.L) (x : Lt.L) (w : World) (hv : Lots w v ls) (hp : Parts w vx x.ps) :
    Calls Try.prog 3 #[v, lotV x vx] w fun e w' => e = .returned (.bool true) ∧ Below w.heap.size w w' := by
  obtain ⟨va, vc, rfl⟩ := hp.form
  obtain ⟨xk, xm, ps⟩ := x
  dsimp only at hp ⊢
  have hw0 := below_alloc (Below.refl w.heap.size w) (.cells #[.int .i64 xk, .int .i64 xm, .slice va ps.length vc] 25)
  have bX := BlockAt.new w #[.int .i64 xk, .int .i64 xm, .slice va ps.length vc] 25
  have L := Lib.hid (long_any v ls _ (hv.all hw0))
  have KN := Lib.hid (fun W => known_any W)
  have H0 := Lib.hid (And.intro hw0 bX)
  cases hb : longB ls with
  | true =>
    rw [hb] at L
    clear hb hv hp hw0 bX
    go_enter Try.func3, Try.ntmps3
    go_wp2_with fail
    refine L.out.mono ?_
    rintro e w1 ⟨rfl, rfl⟩
    go_wp2_with fail
    refine (KN.out _).mono ?_
    rintro e w2 ⟨rfl, hb2⟩
    have h2 := below_step H0.out.1 hb2
    go_wp2
    go_ret
    exact ⟨rfl, h2⟩
  | false =>
    rw [hb] at L
    have hsh := (longB_short hb).short
    have hl40 := (longB_short hb).1
    have x0 := bX.cell 0
    have x1 := bX.cell 1
    have x2 := bX.cell 2
    by_cases hk : ps.length ≤ 20
    · have hdk : decide ((20 : Int) < (ps.length : Int)) = false := decide_eq_false (by omega)
      have hgk : ¬ (20 : Int) < (ps.length : Int) := by omega
      have C1 := Lib.hid (fun W (hW : Below w.heap.size w W) => refCopy_any v ls W (hv.all hW) hsh)
      have C2 := Lib.hid (fun x W (hx : Lots W x ls) (hW : Below w.heap.size w W) => lotAdd_any x (.slice va ps.length vc) ls ⟨xk, xm, ps⟩ W hx (hp.all hW) hsh (by omega) hk)
      have C3 := Lib.hid (fun W (hW : Below w.heap.size w W) => refAdd_any v (.slice va ps.length vc) ls ⟨xk, xm, ps⟩ W (hv.all hW) (hp.all hW) hsh (by omega) hk)
      have hRs := addR_short (x := ⟨xk, xm, ps⟩) hsh (by omega) hk
      have C4 := Lib.hid (fun x y W (hx : Lots W x (addR ls ⟨xk, xm, ps⟩)) (hy : Lots W y (addR ls ⟨xk, xm, ps⟩)) => refSame_any x y _ W hx hy hRs)
      have C5 := Lib.hid (fun W (hW : Below w.heap.size w W) => validate_any v ls W (hv.all hW) hsh)
      have C5b := Lib.hid (fun W (hW : Below w.heap.size w W) => ref_validate_any v ls W (hv.all hW) hsh)
      have C6 := Lib.hid (fun x W (hx : Lots W x ls) (hW : Below w.heap.size w W) => refSame_any x v ls W hx (hv.all hW) hsh)
      have hl := hRs.1
      have HRS := Lib.hid hRs
      generalize addR ls ⟨xk, xm, ps⟩ = R at *
      generalize addE ls ⟨xk, xm, ps⟩ = E at *
      generalize Lt.valE ls = q at *
      have q0 : (q == q) = true := by simp
      have q1 : (E == E) = true := by simp
      clear hb hv hp hw0 bX hsh hRs
      go_enter Try.func3, Try.ntmps3
      go_wp2_with fail
      refine L.out.mono ?_
      rintro e w1 ⟨rfl, rfl⟩
      clear L
      go_wp2_with fail
      refine (C1.out _ H0.out.1).mono ?_
      rintro e w2 ⟨ow, us0, rfl, ho, hb2⟩
      have HW := Lib.hid (And.intro (below_step H0.out.1 hb2) (H0.out.2.below hb2 H0.out.2.lt))
      have HO := Lib.hid ho.lots
      clear ho hb2 C1 x0 x1 x2 H0
      have x0 := HW.out.2.cell 0
      have x1 := HW.out.2.cell 1
      have x2 := HW.out.2.cell 2
      go_wp2_with fail
      refine (C2.out _ _ HO.out HW.out.1).mono ?_
      rintro e w3 ⟨y1, us1, rfl, hy1, hb3⟩
      have HWa := Lib.hid HW.out.1
      have HW := Lib.hid (And.intro (below_step HW.out.1 hb3) (HW.out.2.below hb3 HW.out.2.lt))
      have HY1 := Lib.hid hy1
      have HB := Lib.hid hb3
      clear hb3 hy1 C2 x0 x1 x2
      have x0 := HW.out.2.cell 0
      have x1 := HW.out.2.cell 1
      have x2 := HW.out.2.cell 2
      go_wp2_with fail
      refine (C3.out _ HW.out.1).mono ?_
      rintro e w4 ⟨y2, us2, rfl, hy2, hb4⟩
      have HW := Lib.hid (below_step HW.out.1 hb4)
      have HY1 := Lib.hid (HY1.out.all hb4)
      have HY2 := Lib.hid hy2.lots
      have HB := Lib.hid (below_step HB.out hb4)
      clear hb4 hy2 C3 x0 x1 x2
      go_wp2_with fail
      refine (C5.out _ HW.out).mono ?_
      rintro e w5 ⟨rfl, hb5⟩
      have HW := Lib.hid (below_step HW.out hb5)
      have HY1 := Lib.hid (HY1.out.all hb5)
      have HY2 := Lib.hid (HY2.out.all hb5)
      have HB := Lib.hid (below_step HB.out hb5)
      clear hb5 C5
      go_wp2_with fail
      refine (C5b.out _ HW.out).mono ?_
      rintro e w6 ⟨rfl, hb6⟩
      have HW := Lib.hid (below_step HW.out hb6)
      have HY1 := Lib.hid (HY1.out.all hb6)
      have HB := Lib.hid (below_step HB.out hb6)
      have S4 := Lib.hid (C4.out y1 y2 _ HY1.out.own.lots (HY2.out.all hb6))
      clear hb6 C5b C4 HY2
      go_wp2_with fail
      refine S4.out.mono ?_
      rintro e w7 ⟨rfl, hb7⟩
      have HY1 := Lib.hid (HY1.out.all hb7)
      have HB := Lib.hid (below_step HB.out hb7)
      obtain ⟨ya, yc, rfl⟩ := HY1.out.own.form
      have HI := Lib.hid (show InvA w2.heap.size w2 w7 (.slice ya R.length yc) R us1 from ⟨HY1.out.1, HY1.out.2.1, fun k hk => let ⟨u, h1, h2⟩ := HY1.out.2.2 k hk; ⟨u, h1, _, h2⟩, HB.out⟩)
      clear hb7 S4 HW q0 q1 HY1 HB
      go_wp2
      go_loopw [11] (fun t wr => ∃ i : Nat, i ≤ R.length ∧ t = .int .i64 i ∧ Hid (InvA w2.heap.size w2 wr (.slice ya R.length yc) R us1)) (fun t _ => R.length - (intOf t).toNat)
      case atStart => exact ⟨0, Nat.zero_le _, rfl, HI⟩
      case round =>
        obtain ⟨i, hil, rfl, hg⟩ := hrel
        clear HI
        by_cases hlt : i < R.length
        · obtain ⟨g2, rfl⟩ : ∃ g2, ya = some ⟨g2, 0, none⟩ := by
            rcases hg.out.2.1.2 with ⟨_, h0⟩ | ⟨g2, cap, cur, h1, _⟩
            · omega
            · simp only [Value.slice.injEq] at h1
              exact ⟨g2, h1.1⟩
          obtain ⟨u, hu, xs0, hux⟩ := hg.out.2.2.1 i hlt
          have HU := Lib.hid hu
          obtain ⟨pa, pc, rfl⟩ : ∃ a c, u = .slice a (R.getD i default).ps.length c := by
            rcases hux.2 with ⟨h1, h2⟩ | ⟨g, cap, cur, h1, _⟩
            · exact ⟨none, 0, by rw [h1, h2]⟩
            · exact ⟨_, _, h1⟩
          have hps := HRS.out.2 i hlt
          generalize hm9 : (R.getD i default).ps.length = m at *
          have HM9 := Lib.hid hm9
          clear hux hu hm9
          go_wp2
          go_loopw [12] (fun t wr => ∃ k : Nat, k ≤ m ∧ t = .int .i64 k ∧ Hid (InvA w2.heap.size w2 wr (.slice (some ⟨g2, 0, none⟩) R.length yc) R us1)) (fun t _ => m - (intOf t).toNat)
          case atStart => exact ⟨0, Nat.zero_le _, rfl, hg⟩
          case round =>
            obtain ⟨k, hkm, rfl, hg2⟩ := hrel
            clear hg
            have c2 := (World.ownsRow.cellAt hg2.out.2.1 (i * 3 + 2) (by omega)).trans ((lotsC_get hg2.out.1 i hlt).2.2.trans HU.out)
            by_cases hkl : k < m
            · obtain ⟨u, hu, xs0, hux⟩ := hg2.out.2.2.1 i hlt
              rw [HU.out] at hu
              obtain rfl := Option.some.inj hu
              rw [HM9.out] at hux
              obtain ⟨gp, rfl⟩ : ∃ gp, pa = some ⟨gp, 0, none⟩ := by
                rcases hux.2 with ⟨_, h0⟩ | ⟨gp, cap, cur, h1, _⟩
                · omega
                · simp only [Value.slice.injEq] at h1
                  exact ⟨gp, h1.1⟩
              have f1 := World.ownsRow.frozenAt hux (k * 2 + 1)
              have hxl := hux.1
              have c1 := World.ownsRow.cellAt hux (k * 2 + 1) (by omega)
              rw [List.getElem?_eq_getElem (by omega)] at c1
              obtain ⟨z0, hz0⟩ : ∃ z, z = xs0[k * 2 + 1]'(by omega) := ⟨_, rfl⟩
              rw [← hz0] at c1
              clear hz0
              have hgp := World.ownsRow.lt hux gp rfl
              obtain ⟨hx2, hgrow⟩ := World.ownsRow.stored hux (k * 2 + 1) (.int .i64 (-1))
              have HN := Lib.hid (show InvA w2.heap.size w2 (World.setCell _ ⟨gp, k * 2 + 1, none⟩ (.int .i64 (-1))) (.slice (some ⟨g2, 0, none⟩) R.length yc) R us1 from
                ⟨hg2.out.1, World.ownsRow.kept hg2.out.2.1 hgrow (rows_ne hg2.out.2.1 hux (by decide)), fun k hk => let ⟨u, h1, h2⟩ := hg2.out.2.2.1 k hk; ⟨u, h1, row_set h2 _ _ _⟩, hg2.out.2.2.2.grown hgrow (by have := hg2.out.2.2.2.size; omega) (fun j e => by simp at e; subst e; omega)⟩)
              clear hux hx2 hgrow hg2 hu hxl
              go_wp2
              go_roundw
              case rel => exact ⟨k + 1, by omega, by go_num, HN⟩
              case measure => simp [intOf]; omega
            · obtain rfl : k = m := by omega
              have HN := hg2
              clear hg2
              go_wp2
              go_roundw
              case rel => exact ⟨i + 1, by omega, by go_num, HN⟩
              case measure => simp [intOf]; omega
        · obtain rfl : i = R.length := by omega
          have hw := hg.out.2.2.2
          have S6 := Lib.hid (C6.out ow _ (HO.out.all hw) (below_step HWa.out hw))
          have HWr := Lib.hid (below_step HWa.out hw)
          clear hg hw
          go_wp2_with fail
          refine S6.out.mono ?_
          rintro e w8 ⟨rfl, hb8⟩
          have HW7 := Lib.hid (below_step HWr.out hb8)
          clear hb8
          go_wp2_with fail
          refine (KN.out _).mono ?_
          rintro e w9 ⟨rfl, hb9⟩
          have h8 := below_step HW7.out hb9
          go_wp2
          go_ret
          exact ⟨rfl, h8⟩
    · have hdk : decide ((20 : Int) < (ps.length : Int)) = true := decide_eq_true (by omega)
      have hgk : (20 : Int) < (ps.length : Int) := by omega
      clear hb hv hp hw0 bX hsh hl40
      go_enter Try.func3, Try.ntmps3
      go_wp2_with fail
      refine L.out.mono ?_
      rintro e w1 ⟨rfl, rfl⟩
      go_wp2_with fail
      refine (KN.out _).mono ?_
      rintro e w2 ⟨rfl, hb2⟩
      have h2 := below_step H0.out.1 hb2
      go_wp2
      go_ret
      exact ⟨rfl, h2⟩
end Go.Proofs.Ytccjbefmcifaeaa
