/- LotOnly returns true, whatever the genealogy and the set. -/
import Derived.Test.YtccjbefmcifaeaaOnly2
import Derived.Test.YtccjbefmcifaeaaSets4
import Derived.Test.YtccjbefmcifaeaaLong
import Derived.Test.YtccjbefmcifaeaaKnowns
namespace Go.Proofs.Ytccjbefmcifaeaa
open Go.RowKit

theorem onlyL_ps (ls : List Lt.L) (K : Nat → Bool) (h : ∀ j, (ls.getD j default).ps.length ≤ 20) : ∀ i, ∀ x ∈ onlyL ls K i, x.ps.length ≤ 20
  | 0 => fun x hx => by cases hx
  | i + 1 => by
    intro x hx
    unfold onlyL at hx
    split at hx
    · rw [List.mem_append, List.mem_singleton] at hx
      rcases hx with hx | rfl
      · exact onlyL_ps ls K h i x hx
      · show (renP _ _).length ≤ 20
        rw [renP_len]; exact h i
    · exact onlyL_ps ls K h i x hx
theorem onlyR_short {ls : List Lt.L} (ks : List Int) (h : short ls) : short (onlyR ls ks) := by
  unfold onlyR
  split
  · refine ⟨Nat.le_trans (onlyL_len _ _ _) h.1, fun j hj => ?_⟩
    rw [show (onlyL ls (leadP ls ks) ls.length).getD j default = (onlyL ls (leadP ls ks) ls.length)[j] by simp [hj]]
    refine onlyL_ps ls _ (fun j => ?_) _ _ (List.getElem_mem hj)
    by_cases hj : j < ls.length
    · exact h.2 j hj
    · rw [getD_out (by omega)]; simp
  · exact ⟨by simp, fun j hj => absurd hj (by simp)⟩
theorem onlyO_len {ls : List Lt.L} (ks : List Int) (h : short ls) : (onlyO ls ks).length ≤ 1000 := by
  unfold onlyO
  split
  · exact Nat.le_trans (selK_len _ _) h.1
  · simp

set_option maxRecDepth 20000 in
set_option maxHeartbeats 2000000 in
theorem only_walk (v u : Value) (ls : List Lt.L) (ks : List Int) (w : World) (hv : Lots w v ls) (hu : Ints w u ks) :
    Calls Try.prog 12 #[v, u] w fun e w' => e = .returned (.bool true) ∧ Below w.heap.size w w' := by
  have L := Lib.hid (long_any v ls w hv)
  have KN := Lib.hid (known_any w)
  cases hb : longB ls with
  | true =>
    rw [hb] at L
    clear hb hv hu
    go_enter Try.func12, Try.ntmps12
    go_wp2_with fail
    refine L.out.mono ?_
    rintro e w1 ⟨rfl, rfl⟩
    go_wp2_with fail
    refine KN.out.mono ?_
    rintro e w2 ⟨rfl, hb2⟩
    have h2 := hb2
    go_wp2
    go_ret
    exact ⟨rfl, h2⟩
  | false =>
    rw [hb] at L
    have hsh := (longB_short hb).short
    obtain ⟨ka, kc, hku, _⟩ := hu.look
    by_cases hk60 : ks.length ≤ 60
    · have hdk : decide ((60 : Int) < (ks.length : Int)) = false := decide_eq_false (by omega)
      have hgk : ¬ (60 : Int) < (ks.length : Int) := by omega
      have C1 := Lib.hid (refCopy_any v ls w hv hsh)
      have C2 := Lib.hid (fun x W (hx : Lots W x ls) (hW : Below w.heap.size w W) => lotOnly_any x u ls ks W hx (hu.all hW) hsh (by omega))
      have C3 := Lib.hid (fun W (hW : Below w.heap.size w W) => refOnly_any v u ls ks W (hv.all hW) (hu.all hW) hsh (by omega))
      have C4 := Lib.hid (fun x y W (hx : Lots W x (onlyR ls ks)) (hy : Lots W y (onlyR ls ks)) => refSame_any x y (onlyR ls ks) W hx hy (onlyR_short ks hsh))
      have C5 := Lib.hid (fun x y W (hx : Ints W x (onlyO ls ks)) (hy : Ints W y (onlyO ls ks)) => sameInts_any x y (onlyO ls ks) W hx hy (onlyO_len ks hsh))
      have C6 := Lib.hid (fun x W (hx : Lots W x ls) (hW : Below w.heap.size w W) => refSame_any x v ls W hx (hv.all hW) hsh)
      have hl := (onlyR_short ks hsh).1
      generalize onlyR ls ks = R at *
      generalize onlyO ls ks = O at *
      generalize onlyE ls ks = E at *
      subst hku
      clear hb hv hu hsh KN
      go_enter Try.func12, Try.ntmps12
      go_wp2_with fail
      refine L.out.mono ?_
      rintro e w1 ⟨rfl, rfl⟩
      clear L
      go_wp2_with fail
      refine C1.out.mono ?_
      rintro e w2 ⟨ow, us0, rfl, ho, hb2⟩
      have HW2 := Lib.hid hb2
      have HO := Lib.hid ho.lots
      clear ho hb2 C1
      go_wp2_with fail
      refine (C2.out _ _ HO.out HW2.out).mono ?_
      rintro e w3 ⟨y1, z1, us1, rfl, hy1, hz1, hb3⟩
      have HW3 := Lib.hid (below_step HW2.out hb3)
      have HY1 := Lib.hid hy1
      have HZ1 := Lib.hid hz1
      have HB3 := Lib.hid hb3
      clear hb3 hy1 hz1 C2
      go_wp2_with fail
      refine (C3.out _ HW3.out).mono ?_
      rintro e w4 ⟨y2, z2, us2, rfl, hy2, hz2, hb4⟩
      have HW4 := Lib.hid (below_step HW3.out hb4)
      have HY1 := Lib.hid (HY1.out.all hb4)
      have HZ1 := Lib.hid (HZ1.out.all hb4)
      have HB4 := Lib.hid (below_step HB3.out hb4)
      have S4 := Lib.hid (C4.out y1 y2 _ HY1.out.lots hy2.lots)
      have HZ2 := Lib.hid hz2.ints
      clear hb4 hy2 hz2 C3 C4 HB3 HW3
      have q1 : (E == E) = true := by simp
      go_wp2_with fail
      refine S4.out.mono ?_
      rintro e w5 ⟨rfl, hb5⟩
      have HW5 := Lib.hid (below_step HW4.out hb5)
      have HY1 := Lib.hid (HY1.out.all hb5)
      have S5 := Lib.hid (C5.out z1 z2 _ (HZ1.out.all hb5).ints (HZ2.out.all hb5))
      have HB5 := Lib.hid (below_step HB4.out hb5)
      clear hb5 S4 C5 HB4 HW4 HZ1 HZ2
      go_wp2_with fail
      refine S5.out.mono ?_
      rintro e w6 ⟨rfl, hb6⟩
      have HY1 := Lib.hid (HY1.out.all hb6)
      have HB6 := Lib.hid (below_step HB5.out hb6)
      obtain ⟨ya, yc, rfl⟩ := HY1.out.form
      have H0 := Lib.hid (And.intro HY1.out.2.1 (And.intro (lotsC_len HY1.out.1) HB6.out))
      clear hb6 S5 HB5 HW5 q1
      go_wp2
      go_loopw [13] (fun t wr => ∃ k : Nat, ∃ xs : List Value, k ≤ R.length ∧ t = .int .i64 k ∧ Hid (wr.ownsRow w2.heap.size 25 3 (.slice ya R.length yc) R.length xs ∧ xs.length = R.length * 3 ∧ Below w2.heap.size w2 wr)) (fun t _ => R.length - (intOf t).toNat)
      case atStart => exact ⟨0, _, Nat.zero_le _, rfl, H0⟩
      case round =>
        obtain ⟨k, xs, hk, rfl, hg⟩ := hrel
        clear H0
        by_cases hlt : k < R.length
        · obtain ⟨hx, hxl, hw⟩ := hg.out
          obtain ⟨g2, rfl⟩ : ∃ g2, ya = some ⟨g2, 0, none⟩ := by
            rcases hx.2 with ⟨_, h0⟩ | ⟨g2, cap, cur, h1, _⟩
            · omega
            · simp only [Value.slice.injEq] at h1
              exact ⟨g2, h1.1⟩
          have hg2 := World.ownsRow.lt hx g2 rfl
          have f1 := World.ownsRow.frozenAt hx (k * 3 + 1)
          have c1 := World.ownsRow.cellAt hx (k * 3 + 1) (by omega)
          rw [List.getElem?_eq_getElem (by omega)] at c1
          obtain ⟨hx2, hgrow⟩ := World.ownsRow.stored hx (k * 3 + 1) (.int .i64 (-1))
          have hw2 := hw.grown hgrow (by have := hw.size; omega) (fun j e => by simp at e; subst e; omega)
          have HN := Lib.hid (And.intro hx2 (And.intro (show (xs.set (k * 3 + 1) (.int .i64 (-1))).length = R.length * 3 by rw [List.length_set]; exact hxl) hw2))
          clear hx hw hg hx2 hgrow hw2
          go_wp2
          go_roundw
          case rel => exact ⟨k + 1, _, by omega, by go_num, HN⟩
          case measure => simp [intOf]; omega
        · obtain rfl : k = R.length := by omega
          have hw := hg.out.2.2
          have S6 := Lib.hid (C6.out ow _ (HO.out.all hw) (below_step HW2.out hw))
          have HWr := Lib.hid (below_step HW2.out hw)
          clear hg hw
          go_wp2_with fail
          refine S6.out.mono ?_
          rintro e w7 ⟨rfl, hb7⟩
          have HW7 := Lib.hid (below_step HWr.out hb7)
          clear hb7
          go_wp2_with fail
          refine (known_any _).mono ?_
          rintro e w8 ⟨rfl, hb8⟩
          have h8 := below_step HW7.out hb8
          go_wp2
          go_ret
          exact ⟨rfl, h8⟩
    · have hdk : decide ((60 : Int) < (ks.length : Int)) = true := decide_eq_true (by omega)
      have hgk : (60 : Int) < (ks.length : Int) := by omega
      subst hku
      clear hb hv hu hsh
      go_enter Try.func12, Try.ntmps12
      go_wp2_with fail
      refine L.out.mono ?_
      rintro e w1 ⟨rfl, rfl⟩
      go_wp2_with fail
      refine KN.out.mono ?_
      rintro e w2 ⟨rfl, hb2⟩
      have h2 := hb2
      go_wp2
      go_ret
      exact ⟨rfl, h2⟩
end Go.Proofs.Ytccjbefmcifaeaa
