/- Whole numbers as lists of digits in memory. Whole numbers of the reference: a product with a small number. Whole numbers of the reference: sums, and the whole number of a small one. Whole numbers of the reference: quotients by a small number. Whole numbers of the reference: how they compare, and whether one is even. Whole numbers of the reference: differences. Whole numbers of the reference: the greatest common divisor by halving and subtracting. Whole numbers of the reference: how often one is contained in a multiple of it. -/
import Derived.Test.YtccjbefmcifaeaaWholeN
import Derived.Test.YtccjbefmcifaeaaOwnI
import Derived.Test.YtccjbefmcifaeaaTimes
import Derived.Test.YtccjbefmcifaeaaPathN
import Derived.Deep.QuietTactic
import Derived.BigQuiet
import Derived.Test.YtccjbefmcifaeaaInside
namespace Go.Proofs.Ytccjbefmcifaeaa
open Go.RowKit

abbrev tWhole : TypeId := 92
/-- A whole number that can be read. -/
def IntsAt (w : World) (v : Value) : Prop := ∀ b off l c, v = .slice (some ⟨b, off, none⟩) l c → 0 < l → ∃ cs fz, w.heap[b]? = some (.cells cs 3 fz)
def Wo (w : World) (v : Value) (n : Nat) : Prop := Nums w v (Wh.dg n) ∧ IntsAt w v
theorem IntsAt.keep {w w2 : World} {v : Value} (h : IntsAt w v) (hb : ∀ (b : Nat) (cs : Array Value) (fz : Nat × Nat), w.heap[b]? = some (Obj.cells cs 3 fz) → w2.heap[b]? = w.heap[b]?) : IntsAt w2 v := by
  intro b off l c e hl
  obtain ⟨cs, fz, h1⟩ := h b off l c e hl
  exact ⟨cs, fz, (hb b cs fz h1).trans h1⟩
theorem Wo.all {w w2 : World} {v : Value} {n : Nat} (h : Wo w v n) (hb : Below w.heap.size w w2) : Wo w2 v n :=
  ⟨Nums.all h.1 hb, h.2.keep fun b cs fz e => hb.block b (Array.getElem?_eq_some_iff.1 e).1⟩
/-- What is no list of numbers may change. -/
theorem Wo.keep {w w2 : World} {v : Value} {n : Nat} (h : Wo w v n) (hs : w.heap.size ≤ w2.heap.size) (hb : ∀ (b : Nat) (cs : Array Value) (fz : Nat × Nat), w.heap[b]? = some (Obj.cells cs 3 fz) → w2.heap[b]? = w.heap[b]?) : Wo w2 v n := by
  refine ⟨?_, h.2.keep hb⟩
  rcases h.1 with h1 | ⟨b, off, cap, rfl, h2, h3, h4⟩
  · exact .inl h1
  · refine .inr ⟨b, off, cap, rfl, h2, Nat.lt_of_lt_of_le h3 hs, fun k hk => ?_⟩
    obtain ⟨cs, fz, h5⟩ := h.2 b off _ cap rfl (by omega)
    rw [← h4 k hk]
    simp only [World.cell?, hb b cs fz h5]
theorem Wo.look {w : World} {v : Value} {n : Nat} (h : Wo w v n) : ∃ a c, v = .slice a (Wh.nd n) c ∧ ∀ k, k < Wh.nd n → ∃ b off, a = some ⟨b, off, none⟩ ∧ b < w.heap.size ∧ w.cell? ⟨b, off + k, none⟩ = some (.int .i64 (Wh.dig n k : Nat)) := by
  rcases h.1 with ⟨a, c, rfl, h'⟩ | ⟨b, off, cap, rfl, _, h3, h4⟩
  · have : Wh.nd n = 0 := by rw [← Wh.dg_len, h']; rfl
    exact ⟨a, c, by rw [this], fun k hk => by omega⟩
  · rw [Wh.dg_len] at h4 ⊢
    exact ⟨_, _, rfl, fun k hk => ⟨b, off, rfl, h3, by rw [← Wh.dg_at hk]; exact h4 k hk⟩⟩
def castL (fs : List Nat) : List Int := fs.map (fun x : Nat => (x : Int))
theorem castL_len (fs : List Nat) : (castL fs).length = fs.length := by simp [castL]
theorem castL_at {fs : List Nat} {k : Nat} (h : k < fs.length) : (castL fs)[k]'(by rw [castL_len]; exact h) = ((fs.getD k 0 : Nat) : Int) := by simp [castL, h]
/-- A list of digits that the call made itself. -/
def OwnD (base : Nat) (w : World) (v : Value) (m i : Nat) : Prop := w.ownsRow base 3 1 v i (cellsL (castL (Wh.dgs m i)))
theorem OwnD.nil (base : Nat) (w : World) (m : Nat) : OwnD base w (.slice none 0 0) m 0 := World.ownsRow_nil _ _ _ _
theorem OwnD.pushed {base : Nat} {w : World} {v : Value} {m i : Nat} {x : Int} (hx : x = (Wh.dig m i : Nat)) (h : w.ownsRow base 3 1 v (i + 1) (cellsL (castL (Wh.dgs m i)) ++ intL x)) : OwnD base w v m (i + 1) := by
  unfold OwnD castL
  rw [Wh.dgs_succ, List.map_append, cellsL_append]
  rw [hx] at h
  exact h
theorem OwnD.form {base : Nat} {w : World} {v : Value} {m i : Nat} (h : OwnD base w v m i) : ∃ a c, v = .slice a i c := by
  obtain ⟨h0, ⟨h1, h2⟩ | ⟨g, cap, cur, h1, h2, h3, h4⟩⟩ := id h
  · exact ⟨none, 0, by rw [h1, h2]⟩
  · exact ⟨_, _, h1⟩
theorem OwnD.wo {base : Nat} {w : World} {v : Value} {m i : Nat} (h : OwnD base w v m i) (hi : Wh.nd m = i) : Wo w v m := by
  subst hi
  refine ⟨?_, fun b off l c e hl => ?_⟩
  rotate_left
  · obtain ⟨h0, ⟨h1, h2⟩ | ⟨g, cap, cur, h1, h2, h3, h4⟩⟩ := id h
    · rw [h1] at e; simp at e
    · rw [h1] at e
      simp only [Value.slice.injEq, Option.some.injEq, Addr.mk.injEq] at e
      rw [← e.1.1]
      exact ⟨_, _, h3⟩
  obtain ⟨h0, ⟨h1, h2⟩ | ⟨g, cap, cur, h1, h2, h3, h4⟩⟩ := id h
  · exact .inl ⟨none, 0, by rw [h1], List.length_eq_zero_iff.1 (by rw [Wh.dg_len]; exact h2)⟩
  · subst h1
    refine .inr ⟨g, 0, cap, by rw [Wh.dg_len], by rw [Wh.dg_len]; omega, (Array.getElem?_eq_some_iff.1 h3).1, fun k hk => ?_⟩
    rw [Nat.zero_add]
    rw [Wh.dg_len] at hk
    refine (World.ownsRow.cellAt h k (by omega)).trans ?_
    rw [cellsL_get _ k (by rw [castL_len, Wh.dgs_len]; exact hk), castL_at (by rw [Wh.dgs_len]; exact hk)]
    rfl
theorem OwnD.alloc {base : Nat} {w : World} {v : Value} {m i : Nat} (h : OwnD base w v m i) (o : Obj) : OwnD base (w.alloc o) v m i := World.ownsRow.alloc h o
theorem OwnD.all {base : Nat} {w w2 : World} {v : Value} {m i : Nat} (h : OwnD base w v m i) (hb : Below w.heap.size w w2) : OwnD base w2 v m i := by
  obtain ⟨h0, h1 | ⟨g, cap, cur, h1, h2, h3, h4⟩⟩ := h
  · exact ⟨h0, .inl h1⟩
  · have hg : g < w.heap.size := (Array.getElem?_eq_some_iff.1 h3).1
    exact ⟨h0, .inr ⟨g, cap, cur, h1, h2, by rw [hb.block g hg]; exact h3, h4⟩⟩
theorem wo_zero (w : World) (a : Option Addr) (c : Nat) : Wo w (.slice a 0 c) 0 := ⟨.inl ⟨a, c, rfl, rfl⟩, fun b off l c e hl => by simp only [Value.slice.injEq] at e; omega⟩
end Go.Proofs.Ytccjbefmcifaeaa
namespace Go.Proofs.Ytccjbefmcifaeaa
open Go.RowKit

theorem ul_whole : Try.prog.underlying 92 = some (.slice 3) := by kernel_rfl
theorem nd_times {n k : Nat} (hn : Wh.nd n ≤ 100) (hk : k ≤ 274877906944) : n * k < Wh.B ^ 102 := by
  have h1 : n < Wh.B ^ 100 := Nat.lt_of_lt_of_le (Wh.nd_lt n) (Wh.pow_le hn)
  have h2 : n * k ≤ n * Wh.B ^ 2 := Nat.mul_le_mul_left _ (Nat.le_trans hk (by decide))
  have h3 : n * Wh.B ^ 2 < Wh.B ^ 100 * Wh.B ^ 2 := Nat.mul_lt_mul_of_pos_right h1 (Wh.Bp 2)
  rw [← Nat.pow_add] at h3
  exact Nat.lt_of_le_of_lt h2 h3

set_option maxRecDepth 20000 in
set_option maxHeartbeats 1000000 in
theorem wTimes_any (n k : Nat) (v : Value) (w : World) (hv : Wo w v n) (hn : Wh.nd n ≤ 100) (hk : k ≤ 274877906944) :
    Calls Try.prog 102 #[v, .int .i64 k] w fun e w' => ∃ u, e = .returned u ∧ Wo w' u (n * k) ∧ Below w.heap.size w w' := by
  obtain ⟨i0, hi, hz0, hz1, hz2⟩ := info_parts infoInt
  obtain ⟨a, c, rfl, hkk⟩ := hv.look
  have HK := Lib.hid hkk
  have HM := Lib.hid (nd_times hn hk)
  have HN := Lib.hid (And.intro hn hk)
  clear hv hkk hk
  have hz00 := Wh.cT_zero n k
  have H0 := Lib.hid (And.intro (OwnD.nil w.heap.size w (n * k)) (Below.refl w.heap.size w))
  have HC0 := Lib.hid hz00
  clear hz00
  go_enter Try.func102, Try.ntmps102
  go_wp2
  go_loopw [5, 6, 7] (fun o r t wr => ∃ i q : Nat, i ≤ Wh.nd n ∧ t = .int .i64 i ∧ r = .int .i64 q ∧ Hid ((q = Wh.cT n k i ∧ (k = 0 → i = 0)) ∧ OwnD w.heap.size wr o (n * k) i ∧ Below w.heap.size w wr)) (fun _ _ t _ => Wh.nd n - (intOf t).toNat)
  case atStart => exact ⟨0, 0, Nat.zero_le _, rfl, rfl, Lib.hid ⟨⟨HC0.out.symm, fun _ => rfl⟩, H0.out.1, H0.out.2⟩⟩
  case round =>
    obtain ⟨i, q, hin, rfl, rfl, hg⟩ := hrel
    clear H0 HC0
    by_cases hlt : i < Wh.nd n ∧ 0 < k
    · obtain ⟨hlt, hk0⟩ := hlt
      obtain ⟨⟨hq, _⟩, hown, hw⟩ := hg.out
      obtain ⟨b, off, rfl, hb, hcell⟩ := HK.out i hlt
      have hcell := (hw.cell (p := ⟨b, off + i, none⟩) hb).trans hcell
      have hcl := Wh.cT_le n k i
      have hdl := Wh.dig_lt n i
      obtain ⟨hst1, hst2⟩ := Wh.cT_step n k i
      rw [← hq] at hst1 hst2 hcl
      have hpl : Wh.dig n i * k ≤ 16777215 * 274877906944 := Nat.mul_le_mul (by unfold Wh.B at hdl; omega) HN.out.2
      have hk38 := HN.out.2
      generalize hd : Wh.dig n i = d at *
      have hp : (d : Int) * (k : Int) = ((d * k : Nat) : Int) := by simp
      generalize hpp : d * k = p at *
      have hs : (q : Int) + (p : Int) = ((q + p : Nat) : Int) := by simp
      generalize hss : q + p = s at *
      have hw1 := wrap_i (a := (p : Int)) (by omega) (by omega)
      have hw2 := wrap_i (a := (s : Int)) (by omega) (by omega)
      have hw3 : IntKind.i64.wrap ((s : Int) / 16777216) = (s : Int) / 16777216 := wrap_i (by omega) (by omega)
      have HX := Lib.hid (And.intro hst1 hst2)
      have hs0 : (0 : Int) ≤ (s : Int) := by omega
      have hown0 := hown
      unfold OwnD at hown0
      have hroot := hw.size
      clear hst1 hst2 hcl hdl hpl hd hpp hss hq hg hk38
      go_wp2_with (at_builtin; refine wpList_append_own _ rfl _ _ 92 rfl w.heap.size 3 i0 (.int .i64 0) 1 8 ul_whole hi hz0 hz1 hz2 rfl (by decide) _ _ _ rfl (hown0.alloc _) ⟨_, 0, none⟩ 1 1 (intL ((s : Int) % 16777216)) rfl rfl (intL_at _ _ _) (intL_one _) (by unfold maxLen; omega) (by omega) (by simp; omega) ?_)
      intro v' w3 hown1 hgrow _
      have hw2' := (hw.alloc hw.size (.cells #[.int .i64 ((s : Int) % 16777216)] 3)).grown hgrow (by simp; omega) (fun j e => (World.ownsRow.lt hown j e).1)
      have hx2 : OwnD w.heap.size w3 v' (n * k) (i + 1) := OwnD.pushed (by have := HX.out.1; unfold Wh.B at this; omega) hown1
      clear hown1 hgrow hown hw hown0 hcell
      go_wp2
      go_roundw
      case rel => exact ⟨i + 1, s / 16777216, by omega, by go_num, by simp, Lib.hid ⟨⟨HX.out.2.symm, fun e => by omega⟩, hx2, hw2'⟩⟩
      case measure => simp [intOf]; omega
    · have hend : q = n * k / Wh.B ^ i ∧ (i = 0 ∨ Wh.B ^ (i - 1) ≤ n * k) := by
        obtain ⟨⟨hq, hk0⟩, _⟩ := hg.out
        by_cases h0 : k = 0
        · have := hk0 h0
          subst h0; subst this
          rw [hq, Wh.cT_zero]; simp
        · have : i = Wh.nd n := by omega
          subst this
          refine ⟨by rw [hq, Wh.cT_high (Nat.le_refl _)], ?_⟩
          by_cases h1 : Wh.nd n = 0
          · exact .inl h1
          · exact .inr (Nat.le_trans (Wh.nd_ge (by omega)) (Nat.le_mul_of_pos_right _ (by omega)))
      have hq38 : q ≤ 274877906944 := by
        have h1 := Wh.cT_le n k i
        have h2 := HN.out.2
        rw [← hg.out.1.1] at h1; omega
      obtain ⟨hx0, hown, hw⟩ := hg.out
      clear hx0
      have H1 := Lib.hid (And.intro hend (And.intro hown hw))
      have hi102 : i ≤ 102 := by omega
      have hk0 : (0 : Int) ≤ (k : Int) := by omega
      clear hend hg hown hw
      by_cases hl2 : i < Wh.nd n
      · have hk00 : ¬ 0 < (k : Int) := by omega
        clear hlt
        go_wp2
        go_loopw [5, 6] (fun o r wr => ∃ j q : Nat, q ≤ 274877906944 ∧ r = .int .i64 q ∧ Hid ((q = n * k / Wh.B ^ j ∧ (j = 0 ∨ Wh.B ^ (j - 1) ≤ n * k)) ∧ OwnD w.heap.size wr o (n * k) j ∧ Below w.heap.size w wr)) (fun _ r _ => (intOf r).toNat)
        case atStart => exact ⟨i, q, hq38, rfl, H1⟩
        case round =>
          obtain ⟨j, r, hr38, rfl, hg⟩ := hrel
          clear H1
          obtain ⟨⟨hq, hj⟩, hown, hw⟩ := hg.out
          by_cases hr : 0 < r
          · have hr0 : (0 : Int) < (r : Int) := by omega
            have hge : Wh.B ^ j ≤ n * k := by
              rcases Nat.lt_or_ge (n * k) (Wh.B ^ j) with h | h
              · rw [Nat.div_eq_of_lt h] at hq; omega
              · exact h
            have hj102 : j < 102 := by
              rcases Nat.lt_or_ge j 102 with h | h
              · exact h
              · have h1 := HM.out
                have h2 := Wh.pow_le h
                omega
            have hqs : n * k / Wh.B ^ (j + 1) = r / 16777216 := by rw [Nat.pow_succ, ← Nat.div_div_eq_div_mul, ← hq]; rfl
            have HX := Lib.hid (And.intro hge (And.intro hqs (show Wh.dig (n * k) j = r % 16777216 by unfold Wh.dig; rw [← hq]; rfl)))
            have hw3 : IntKind.i64.wrap ((r : Int) / 16777216) = (r : Int) / 16777216 := wrap_i (by omega) (by omega)
            have hown0 := hown
            unfold OwnD at hown0
            have hroot := hw.size
            clear hge hqs hq hg hj
            go_wp2_with (at_builtin; refine wpList_append_own _ rfl _ _ 92 rfl w.heap.size 3 i0 (.int .i64 0) 1 8 ul_whole hi hz0 hz1 hz2 rfl (by decide) _ _ _ rfl (hown0.alloc _) ⟨_, 0, none⟩ 1 1 (intL ((r : Int) % 16777216)) rfl rfl (intL_at _ _ _) (intL_one _) (by unfold maxLen; omega) (by omega) (by simp; omega) ?_)
            intro v' w3 hown1 hgrow _
            have hw2' := (hw.alloc hw.size (.cells #[.int .i64 ((r : Int) % 16777216)] 3)).grown hgrow (by simp; omega) (fun j e => (World.ownsRow.lt hown j e).1)
            have hx2 : OwnD w.heap.size w3 v' (n * k) (j + 1) := OwnD.pushed (by have := HX.out.2.2; omega) hown1
            clear hown1 hgrow hown hw hown0
            go_wp2
            go_roundw
            case rel => exact ⟨j + 1, r / 16777216, by omega, by simp, Lib.hid ⟨⟨HX.out.2.1.symm, .inr HX.out.1⟩, hx2, hw2'⟩⟩
            case measure => simp [intOf]; omega
          · obtain rfl : r = 0 := by omega
            have hlt := Wh.lt_of_div hq.symm
            have hnd := Wh.nd_of hlt hj
            have hwo := hown.wo hnd
            obtain ⟨ao, co, rfl⟩ := hown.form
            clear hg hq hj hlt hnd hown hr
            go_wp2
            go_ret
            exact ⟨_, rfl, hwo, hw⟩
      · clear hlt
        go_wp2
        go_loopw [5, 6] (fun o r wr => ∃ j q : Nat, q ≤ 274877906944 ∧ r = .int .i64 q ∧ Hid ((q = n * k / Wh.B ^ j ∧ (j = 0 ∨ Wh.B ^ (j - 1) ≤ n * k)) ∧ OwnD w.heap.size wr o (n * k) j ∧ Below w.heap.size w wr)) (fun _ r _ => (intOf r).toNat)
        case atStart => exact ⟨i, q, hq38, rfl, H1⟩
        case round =>
          obtain ⟨j, r, hr38, rfl, hg⟩ := hrel
          clear H1
          obtain ⟨⟨hq, hj⟩, hown, hw⟩ := hg.out
          by_cases hr : 0 < r
          · have hr0 : (0 : Int) < (r : Int) := by omega
            have hge : Wh.B ^ j ≤ n * k := by
              rcases Nat.lt_or_ge (n * k) (Wh.B ^ j) with h | h
              · rw [Nat.div_eq_of_lt h] at hq; omega
              · exact h
            have hj102 : j < 102 := by
              rcases Nat.lt_or_ge j 102 with h | h
              · exact h
              · have h1 := HM.out
                have h2 := Wh.pow_le h
                omega
            have hqs : n * k / Wh.B ^ (j + 1) = r / 16777216 := by rw [Nat.pow_succ, ← Nat.div_div_eq_div_mul, ← hq]; rfl
            have HX := Lib.hid (And.intro hge (And.intro hqs (show Wh.dig (n * k) j = r % 16777216 by unfold Wh.dig; rw [← hq]; rfl)))
            have hw3 : IntKind.i64.wrap ((r : Int) / 16777216) = (r : Int) / 16777216 := wrap_i (by omega) (by omega)
            have hown0 := hown
            unfold OwnD at hown0
            have hroot := hw.size
            clear hge hqs hq hg hj
            go_wp2_with (at_builtin; refine wpList_append_own _ rfl _ _ 92 rfl w.heap.size 3 i0 (.int .i64 0) 1 8 ul_whole hi hz0 hz1 hz2 rfl (by decide) _ _ _ rfl (hown0.alloc _) ⟨_, 0, none⟩ 1 1 (intL ((r : Int) % 16777216)) rfl rfl (intL_at _ _ _) (intL_one _) (by unfold maxLen; omega) (by omega) (by simp; omega) ?_)
            intro v' w3 hown1 hgrow _
            have hw2' := (hw.alloc hw.size (.cells #[.int .i64 ((r : Int) % 16777216)] 3)).grown hgrow (by simp; omega) (fun j e => (World.ownsRow.lt hown j e).1)
            have hx2 : OwnD w.heap.size w3 v' (n * k) (j + 1) := OwnD.pushed (by have := HX.out.2.2; omega) hown1
            clear hown1 hgrow hown hw hown0
            go_wp2
            go_roundw
            case rel => exact ⟨j + 1, r / 16777216, by omega, by simp, Lib.hid ⟨⟨HX.out.2.1.symm, .inr HX.out.1⟩, hx2, hw2'⟩⟩
            case measure => simp [intOf]; omega
          · obtain rfl : r = 0 := by omega
            have hlt := Wh.lt_of_div hq.symm
            have hnd := Wh.nd_of hlt hj
            have hwo := hown.wo hnd
            obtain ⟨ao, co, rfl⟩ := hown.form
            clear hg hq hj hlt hnd hown hr
            go_wp2
            go_ret
            exact ⟨_, rfl, hwo, hw⟩
end Go.Proofs.Ytccjbefmcifaeaa
namespace Go.Proofs.Ytccjbefmcifaeaa
open Go.RowKit

theorem nd_plus {a b : Nat} (ha : Wh.nd a ≤ 100) (hb : Wh.nd b ≤ 100) : Wh.nd (a + b) ≤ 101 := by
  refine Wh.nd_le ?_
  have h1 : a < Wh.B ^ 100 := Nat.lt_of_lt_of_le (Wh.nd_lt a) (Wh.pow_le ha)
  have h2 : b < Wh.B ^ 100 := Nat.lt_of_lt_of_le (Wh.nd_lt b) (Wh.pow_le hb)
  have h3 : Wh.B ^ 101 = Wh.B ^ 100 * Wh.B := Nat.pow_succ ..
  have h4 : Wh.B ^ 100 * 2 ≤ Wh.B ^ 100 * Wh.B := Nat.mul_le_mul_left _ (by decide)
  omega

set_option maxRecDepth 20000 in
set_option maxHeartbeats 2000000 in
theorem wPlus_any (a b : Nat) (v u : Value) (w : World) (hv : Wo w v a) (hu : Wo w u b) (ha : Wh.nd a ≤ 100) (hb : Wh.nd b ≤ 100) :
    Calls Try.prog 103 #[v, u] w fun e w' => ∃ z, e = .returned z ∧ Wo w' z (a + b) ∧ Below w.heap.size w w' := by
  obtain ⟨i0, hi, hz0, hz1, hz2⟩ := info_parts infoInt
  obtain ⟨ao, ac, rfl, hak⟩ := hv.look
  obtain ⟨bo, bc, rfl, hbk⟩ := hu.look
  have HA := Lib.hid hak
  have HB := Lib.hid hbk
  have HN := Lib.hid (nd_plus ha hb)
  have HL := Lib.hid (And.intro ha hb)
  clear hv hu hak hbk
  have HC0 := Lib.hid (Wh.cP_zero a b)
  have H0 := Lib.hid (And.intro (OwnD.nil w.heap.size w (a + b)) (Below.refl w.heap.size w))
  go_enter Try.func103, Try.ntmps103
  go_wp2
  go_loopw [5, 6, 7] (fun o r t wr => ∃ i q : Nat, (q ≤ 1 ∧ i ≤ 101) ∧ t = .int .i64 i ∧ r = .int .i64 q ∧ Hid ((q = Wh.cP a b i ∧ (i = 0 ∨ Wh.B ^ (i - 1) ≤ a + b)) ∧ OwnD w.heap.size wr o (a + b) i ∧ Below w.heap.size w wr)) (fun _ _ t _ => Wh.nd (a + b) - (intOf t).toNat)
  case atStart => exact ⟨0, 0, ⟨by omega, by omega⟩, rfl, rfl, Lib.hid ⟨⟨HC0.out.symm, .inl rfl⟩, H0.out.1, H0.out.2⟩⟩
  case round =>
    obtain ⟨i, q, hqi, rfl, rfl, hg⟩ := hrel
    clear H0 HC0
    obtain ⟨⟨hq, hmin⟩, hown, hw⟩ := hg.out
    obtain ⟨hq1, hi101⟩ := hqi
    have hda := Wh.dig_lt a i
    have hdb := Wh.dig_lt b i
    unfold Wh.B at hda hdb
    obtain ⟨hst1, hst2⟩ := Wh.cP_step a b i
    rw [← hq] at hst1 hst2
    have hcl := Wh.cP_le a b (i + 1)
    rw [hst2] at hcl
    unfold Wh.B at hcl
    have HX := Lib.hid (And.intro hst1 (And.intro hst2 hcl))
    have HMIN := Lib.hid hmin
    have HQ := Lib.hid hq
    have hroot := hw.size
    clear hst1 hst2 hcl hmin hq hg
    by_cases hia : i < Wh.nd a
    · obtain ⟨ba, oa, rfl, hba, hca⟩ := HA.out i hia
      have hca := (hw.cell (p := ⟨ba, oa + i, none⟩) hba).trans hca
      have hge : Wh.B ^ i ≤ a + b := Nat.le_trans (Wh.ge_of_nd hia) (Nat.le_add_right _ _)
      have hlt := Wh.nd_of_ge hge
      have HGE := Lib.hid hge
      clear hge hba
      by_cases hib : i < Wh.nd b
      · obtain ⟨bb, ob, rfl, hbb, hcb⟩ := HB.out i hib
        have hcb := (hw.cell (p := ⟨bb, ob + i, none⟩) hbb).trans hcb
        clear hbb
        generalize Wh.dig a i = da at *
        generalize Wh.dig b i = db at *
        have hown0 := hown
        unfold OwnD at hown0
        go_wp2_with (at_builtin; refine wpList_append_own _ rfl _ _ 92 rfl w.heap.size 3 i0 (.int .i64 0) 1 8 ul_whole hi hz0 hz1 hz2 rfl (by decide) _ _ _ rfl (hown0.alloc _) ⟨_, 0, none⟩ 1 1 (intL (((q : Int) + da + db) % 16777216)) rfl rfl (intL_at _ _ _) (intL_one _) (by unfold maxLen; omega) (by omega) (by simp; omega) ?_)
        intro v' w3 hown1 hgrow _
        have hw2' := (hw.alloc hw.size (.cells #[.int .i64 (((q : Int) + da + db) % 16777216)] 3)).grown hgrow (by simp; omega) (fun j e => (World.ownsRow.lt hown j e).1)
        have hx2 : OwnD w.heap.size w3 v' (a + b) (i + 1) := OwnD.pushed (by have := HX.out.1; unfold Wh.B at this; omega) hown1
        clear hown1 hgrow hown hw hown0
        go_wp2
        go_roundw
        case rel => exact ⟨i + 1, (q + da + db) / 16777216, ⟨by have := HX.out.2.2; omega, by have := HN.out; omega⟩, by go_num, by simp, Lib.hid ⟨⟨by have := HX.out.2.1; unfold Wh.B at this; omega, .inr HGE.out⟩, hx2, hw2'⟩⟩
        case measure => simp [intOf]; omega
      · have h0 := Wh.dig_high (m := b) (i := i) (by omega)
        rw [h0] at HX
        clear h0 hdb
        generalize Wh.dig a i = da at *
        have hown0 := hown
        unfold OwnD at hown0
        go_wp2_with (at_builtin; refine wpList_append_own _ rfl _ _ 92 rfl w.heap.size 3 i0 (.int .i64 0) 1 8 ul_whole hi hz0 hz1 hz2 rfl (by decide) _ _ _ rfl (hown0.alloc _) ⟨_, 0, none⟩ 1 1 (intL (((q : Int) + da) % 16777216)) rfl rfl (intL_at _ _ _) (intL_one _) (by unfold maxLen; omega) (by omega) (by simp; omega) ?_)
        intro v' w3 hown1 hgrow _
        have hw2' := (hw.alloc hw.size (.cells #[.int .i64 (((q : Int) + da) % 16777216)] 3)).grown hgrow (by simp; omega) (fun j e => (World.ownsRow.lt hown j e).1)
        have hx2 : OwnD w.heap.size w3 v' (a + b) (i + 1) := OwnD.pushed (by have := HX.out.1; unfold Wh.B at this; omega) hown1
        clear hown1 hgrow hown hw hown0
        go_wp2
        go_roundw
        case rel => exact ⟨i + 1, (q + da) / 16777216, ⟨by have := HX.out.2.2; omega, by have := HN.out; omega⟩, by go_num, by simp, Lib.hid ⟨⟨by have := HX.out.2.1; unfold Wh.B at this; omega, .inr HGE.out⟩, hx2, hw2'⟩⟩
        case measure => simp [intOf]; omega
    · have h0 := Wh.dig_high (m := a) (i := i) (by omega)
      rw [h0] at HX
      clear h0 hda
      by_cases hib : i < Wh.nd b
      · obtain ⟨bb, ob, rfl, hbb, hcb⟩ := HB.out i hib
        have hcb := (hw.cell (p := ⟨bb, ob + i, none⟩) hbb).trans hcb
        have hge : Wh.B ^ i ≤ a + b := Nat.le_trans (Wh.ge_of_nd hib) (Nat.le_add_left _ _)
        have hlt := Wh.nd_of_ge hge
        have HGE := Lib.hid hge
        clear hge hbb
        generalize Wh.dig b i = db at *
        have hown0 := hown
        unfold OwnD at hown0
        go_wp2_with (at_builtin; refine wpList_append_own _ rfl _ _ 92 rfl w.heap.size 3 i0 (.int .i64 0) 1 8 ul_whole hi hz0 hz1 hz2 rfl (by decide) _ _ _ rfl (hown0.alloc _) ⟨_, 0, none⟩ 1 1 (intL (((q : Int) + db) % 16777216)) rfl rfl (intL_at _ _ _) (intL_one _) (by unfold maxLen; omega) (by omega) (by simp; omega) ?_)
        intro v' w3 hown1 hgrow _
        have hw2' := (hw.alloc hw.size (.cells #[.int .i64 (((q : Int) + db) % 16777216)] 3)).grown hgrow (by simp; omega) (fun j e => (World.ownsRow.lt hown j e).1)
        have hx2 : OwnD w.heap.size w3 v' (a + b) (i + 1) := OwnD.pushed (by have := HX.out.1; unfold Wh.B at this; omega) hown1
        clear hown1 hgrow hown hw hown0
        go_wp2
        go_roundw
        case rel => exact ⟨i + 1, (q + db) / 16777216, ⟨by have := HX.out.2.2; omega, by have := HN.out; omega⟩, by go_num, by simp, Lib.hid ⟨⟨by have := HX.out.2.1; unfold Wh.B at this; omega, .inr HGE.out⟩, hx2, hw2'⟩⟩
        case measure => simp [intOf]; omega
      · have h0 := Wh.dig_high (m := b) (i := i) (by omega)
        rw [h0] at HX
        clear h0 hdb
        by_cases hr : 0 < q
        · have hge : Wh.B ^ i ≤ a + b := Wh.ge_of_cP (by rw [← HQ.out]; exact hr)
          have hlt := Wh.nd_of_ge hge
          have HGE := Lib.hid hge
          clear hge
          have hown0 := hown
          unfold OwnD at hown0
          go_wp2_with (at_builtin; refine wpList_append_own _ rfl _ _ 92 rfl w.heap.size 3 i0 (.int .i64 0) 1 8 ul_whole hi hz0 hz1 hz2 rfl (by decide) _ _ _ rfl (hown0.alloc _) ⟨_, 0, none⟩ 1 1 (intL (((q : Int)) % 16777216)) rfl rfl (intL_at _ _ _) (intL_one _) (by unfold maxLen; omega) (by omega) (by simp; omega) ?_)
          intro v' w3 hown1 hgrow _
          have hw2' := (hw.alloc hw.size (.cells #[.int .i64 (((q : Int)) % 16777216)] 3)).grown hgrow (by simp; omega) (fun j e => (World.ownsRow.lt hown j e).1)
          have hx2 : OwnD w.heap.size w3 v' (a + b) (i + 1) := OwnD.pushed (by have := HX.out.1; unfold Wh.B at this; omega) hown1
          clear hown1 hgrow hown hw hown0
          go_wp2
          go_roundw
          case rel => exact ⟨i + 1, (q) / 16777216, ⟨by have := HX.out.2.2; omega, by have := HN.out; omega⟩, by go_num, by simp, Lib.hid ⟨⟨by have := HX.out.2.1; unfold Wh.B at this; omega, .inr HGE.out⟩, hx2, hw2'⟩⟩
          case measure => simp [intOf]; omega
        · obtain rfl : q = 0 := by omega
          have hcz := HQ.out
          rw [Wh.cP_high (by omega) (by omega)] at hcz
          have hnd := Wh.nd_of (Wh.lt_of_div hcz.symm) HMIN.out
          have hwo := hown.wo hnd
          obtain ⟨ao2, co2, rfl⟩ := hown.form
          clear hcz hnd hown hr
          go_wp2
          go_ret
          exact ⟨_, rfl, hwo, hw⟩

set_option maxRecDepth 20000 in
set_option maxHeartbeats 1000000 in
theorem wSmall_any (n : Nat) (w : World) (hn : n ≤ 1000000000000000000) :
    Calls Try.prog 101 #[.int .i64 n] w fun e w' => ∃ u, e = .returned u ∧ Wo w' u n ∧ Below w.heap.size w w' := by
  obtain ⟨i0, hi, hz0, hz1, hz2⟩ := info_parts infoInt
  have H0 := Lib.hid (And.intro (OwnD.nil w.heap.size w n) (Below.refl w.heap.size w))
  have HN := Lib.hid (show n < Wh.B ^ 3 by exact Nat.lt_of_le_of_lt hn (by decide))
  have HN0 := Lib.hid hn
  have HP : Hid (n = n / Wh.B ^ 0) := Lib.hid (by simp)
  clear hn
  go_enter Try.func101, Try.ntmps101
  go_wp2
  go_loopw [0, 3] (fun r o wr => ∃ j q : Nat, r = .int .i64 q ∧ Hid ((q = n / Wh.B ^ j ∧ (j = 0 ∨ Wh.B ^ (j - 1) ≤ n)) ∧ OwnD w.heap.size wr o n j ∧ Below w.heap.size w wr)) (fun r _ _ => (intOf r).toNat)
  case atStart => exact ⟨0, n, rfl, Lib.hid ⟨⟨HP.out, .inl rfl⟩, H0.out⟩⟩
  case round =>
    obtain ⟨j, r, rfl, hg⟩ := hrel
    clear H0 HP
    obtain ⟨⟨hq, hj⟩, hown, hw⟩ := hg.out
    by_cases hr : 0 < r
    · have hr0 : (0 : Int) < (r : Int) := by omega
      have hge : Wh.B ^ j ≤ n := by
        rcases Nat.lt_or_ge n (Wh.B ^ j) with h | h
        · rw [Nat.div_eq_of_lt h] at hq; omega
        · exact h
      have hj3 : j < 3 := by
        rcases Nat.lt_or_ge j 3 with h | h
        · exact h
        · have h1 := HN.out
          have h2 := Wh.pow_le h
          omega
      have hqs : n / Wh.B ^ (j + 1) = r / 16777216 := by rw [Nat.pow_succ, ← Nat.div_div_eq_div_mul, ← hq]; rfl
      have HX := Lib.hid (And.intro hge (And.intro hqs (show Wh.dig n j = r % 16777216 by unfold Wh.dig; rw [← hq]; rfl)))
      have hrn : r ≤ n := by rw [hq]; exact Nat.div_le_self _ _
      have hw3 : IntKind.i64.wrap ((r : Int) / 16777216) = (r : Int) / 16777216 := wrap_i (by omega) (by have := HN0.out; omega)
      have hown0 := hown
      unfold OwnD at hown0
      have hroot := hw.size
      clear hge hqs hq hg hj hrn
      go_wp2_with (at_builtin; refine wpList_append_own _ rfl _ _ 92 rfl w.heap.size 3 i0 (.int .i64 0) 1 8 ul_whole hi hz0 hz1 hz2 rfl (by decide) _ _ _ rfl (hown0.alloc _) ⟨_, 0, none⟩ 1 1 (intL ((r : Int) % 16777216)) rfl rfl (intL_at _ _ _) (intL_one _) (by unfold maxLen; omega) (by omega) (by simp; omega) ?_)
      intro v' w3 hown1 hgrow _
      have hw2' := (hw.alloc hw.size (.cells #[.int .i64 ((r : Int) % 16777216)] 3)).grown hgrow (by simp; omega) (fun j e => (World.ownsRow.lt hown j e).1)
      have hx2 : OwnD w.heap.size w3 v' n (j + 1) := OwnD.pushed (by have := HX.out.2.2; omega) hown1
      clear hown1 hgrow hown hw hown0
      go_wp2
      go_roundw
      case rel => exact ⟨j + 1, r / 16777216, by simp, Lib.hid ⟨⟨HX.out.2.1.symm, .inr HX.out.1⟩, hx2, hw2'⟩⟩
      case measure => simp [intOf]; omega
    · obtain rfl : r = 0 := by omega
      have hwo := hown.wo (Wh.nd_of (Wh.lt_of_div hq.symm) hj)
      obtain ⟨ao, co, rfl⟩ := hown.form
      clear hg hq hj hown hr
      go_wp2
      go_ret
      exact ⟨_, rfl, hwo, hw⟩
end Go.Proofs.Ytccjbefmcifaeaa
namespace Go.Proofs.Ytccjbefmcifaeaa
open Go.RowKit

theorem made_whole (n : Nat) (hn : n ≤ 1000) : ∀ W : World, (Instr.makeSlice 92 (.int .i64 (n : Int)) (.int .i64 (n : Int))).run Try.prog W = .ok (.slice (some ⟨W.heap.size, 0, none⟩) n n) (W.alloc (.cells (fnC n (fun _ => 0)) 3)) := by
  intro W
  obtain ⟨i0, hi, hz0, hz1, hz2⟩ := info_parts infoInt
  have := run_makeSlice (P := Try.prog) (w := W) 92 3 i0 (.int .i64 0) ul_whole hi hz0 .i64 .i64 (n : Int) (n : Int) (by omega) (by omega) (by rw [hz1]; omega) (by rw [hz2]; omega) (by omega)
  rw [this, hz1, Nat.mul_one, show ((n : Int)).toNat = n by omega, show (Value.int .i64 0).cells = #[.int .i64 0] from rfl, cellsInts, fnC_zero]
theorem wo_block {W : World} {g m j a : Nat} {f : Nat → Int} (h : BlockAt W g (fnC m f) 3) (hf : ∀ x, x < j → f x = (Wh.dig a x : Nat)) (hn : Wh.nd a = j) (hj : j ≤ m) : Wo W (.slice (some ⟨g, 0, none⟩) j m) a := by
  subst hn
  refine ⟨?_, fun b off l c e hl => by simp only [Value.slice.injEq, Option.some.injEq, Addr.mk.injEq] at e; rw [← e.1.1]; exact ⟨_, _, h⟩⟩
  refine .inr ⟨g, 0, m, by rw [Wh.dg_len], by rw [Wh.dg_len]; exact hj, h.lt, fun k hk => ?_⟩
  rw [Wh.dg_len] at hk
  rw [Nat.zero_add, h.cell, fnC_at (by omega), hf k hk, Wh.dg_at hk]
def topF (a j : Nat) : Nat → Int := fun x => if j ≤ x then ((Wh.dig a x : Nat) : Int) else 0
theorem topF_upd (a j : Nat) : upd (topF a (j + 1)) j ((Wh.dig a j : Nat) : Int) = topF a j := by
  funext x
  unfold upd topF
  by_cases e : x = j
  · subst e; simp
  · rw [if_neg e]
    by_cases h : j + 1 ≤ x
    · rw [if_pos h, if_pos (by omega)]
    · rw [if_neg h, if_neg (by omega)]
theorem topF_top {a m : Nat} (h : Wh.nd a ≤ m) : topF a m = fun _ => 0 := by
  funext x
  unfold topF
  by_cases hx : m ≤ x
  · rw [if_pos hx, Wh.dig_high (by omega)]; rfl
  · rw [if_neg hx]

set_option maxRecDepth 20000 in
set_option maxHeartbeats 1000000 in
theorem wBy_any (n k : Nat) (v : Value) (w : World) (hv : Wo w v n) (hn : Wh.nd n ≤ 200) (hk0 : 0 < k) (hk : k ≤ 1000000) :
    Calls Try.prog 104 #[v, .int .i64 k] w fun e w' => ∃ u, e = .returned u ∧ Wo w' u (n / k) ∧ Below w.heap.size w w' := by
  obtain ⟨a, c, rfl, hkk⟩ := hv.look
  have HK := Lib.hid hkk
  have hmk := made_whole (Wh.nd n) (by omega)
  have hle : Wh.nd (n / k) ≤ Wh.nd n := Wh.nd_mono (Nat.div_le_self _ _)
  have hb0 : BlockAt (w.alloc (.cells (fnC (Wh.nd n) (fun _ => 0)) 3)) w.heap.size (fnC (Wh.nd n) (topF (n / k) (Wh.nd n))) 3 := by
    rw [topF_top hle]; exact BlockAt.new _ _ _
  have HLT := Lib.hid (show n / k < Wh.B ^ Wh.nd n from Nat.lt_of_le_of_lt (Nat.div_le_self _ _) (Wh.nd_lt n))
  have H0 := Lib.hid (And.intro (Wh.rE_top (n := n) (k := k) (Nat.le_refl _)).symm (And.intro hb0 (below_alloc (Below.refl w.heap.size w) (.cells (fnC (Wh.nd n) (fun _ => 0)) 3))))
  have HQ := Lib.hid (fun i => Wh.quo_step (n := n) (k := k) (i := i) hk0)
  have HML := Lib.hid (fun i => Nat.mod_lt (n / Wh.B ^ i) hk0)
  have hkz : ((k : Int) == 0) = false := by simp; omega
  have hk00 : (0 : Int) < (k : Int) := by omega
  generalize hm : Wh.nd n = m at *
  clear hv hkk hle hb0 hm
  go_enter Try.func104, Try.ntmps104
  go_wp2
  clear hmk
  go_loopw [6, 7] (fun r t wr => ∃ j q : Nat, (j ≤ m ∧ q < k) ∧ t = .int .i64 ((j : Int) - 1) ∧ r = .int .i64 q ∧ Hid (q = Wh.rE n k j ∧ BlockAt wr w.heap.size (fnC m (topF (n / k) j)) 3 ∧ Below w.heap.size w wr)) (fun _ t _ => (intOf t + 1).toNat)
  case atStart => exact ⟨m, 0, ⟨Nat.le_refl _, hk0⟩, by first | rfl | go_num, rfl, H0⟩
  case round =>
    obtain ⟨j, q, hjq, rfl, rfl, hg⟩ := hrel
    clear H0
    obtain ⟨hjm, hqk⟩ := hjq
    by_cases hz : j = 0
    · subst hz
      obtain ⟨_, hb, hw⟩ := hg.out
      have H1 := Lib.hid (And.intro HLT.out (And.intro hb hw))
      clear hg hb hw hkz HQ HML
      go_wp2
      go_loopw [5] (fun o wr => ∃ i : Nat, i ≤ m ∧ o = .slice (some ⟨w.heap.size, 0, none⟩) i m ∧ Hid (n / k < Wh.B ^ i ∧ BlockAt wr w.heap.size (fnC m (topF (n / k) 0)) 3 ∧ Below w.heap.size w wr)) (fun o _ => match o with | .slice _ l _ => l | _ => 0)
      case atStart => exact ⟨m, Nat.le_refl _, rfl, H1⟩
      case round =>
        obtain ⟨i, him, rfl, hg⟩ := hrel
        clear H1
        obtain ⟨hlt, hb, hw⟩ := hg.out
        by_cases hi0 : i = 0
        · subst hi0
          have hr := wo_block hb (j := 0) (fun x hx => absurd hx (Nat.not_lt_zero _)) (Wh.nd_of hlt (.inl rfl)) (Nat.zero_le _)
          clear hg hb hlt
          go_wp2
          go_ret
          exact ⟨_, rfl, hr, hw⟩
        · obtain ⟨x, rfl⟩ : ∃ x, i = x + 1 := ⟨i - 1, by omega⟩
          have hc := (hb.cell x).trans (fnC_at (by omega))
          have hd : topF (n / k) 0 x = (Wh.dig (n / k) x : Nat) := by unfold topF; rw [if_pos (Nat.zero_le _)]
          rw [hd] at hc
          have hx1 : ((x : Int) + 1 - 1) = (x : Int) := by omega
          by_cases hdz : Wh.dig (n / k) x = 0
          · have hlt2 := Wh.strip hlt hdz
            rw [hdz] at hc
            have HG := Lib.hid (And.intro hlt2 (And.intro hb hw))
            clear hg hb hw hlt hlt2 hdz hd hi0
            go_wp2
            go_roundw
            case rel => exact ⟨x, by omega, by first | rfl | (congr 1), HG⟩
            case measure => simp
          · have hge := Wh.strip_not hdz
            have hr := wo_block hb (j := x + 1) (fun y hy => by unfold topF; rw [if_pos (Nat.zero_le _)]) (Wh.nd_of hlt (.inr hge)) him
            have hdb : (((Wh.dig (n / k) x : Nat) : Int) == 0) = false := by simpa using hdz
            generalize Wh.dig (n / k) x = d at *
            clear hg hb hlt hge hdz hd hi0
            go_wp2
            go_ret
            exact ⟨_, rfl, hr, hw⟩
    · obtain ⟨i, rfl⟩ : ∃ i, j = i + 1 := ⟨j - 1, by omega⟩
      rw [show ((i + 1 : Nat) : Int) - 1 = (i : Int) by omega]
      obtain ⟨hq, hb, hw⟩ := hg.out
      obtain ⟨ba, oa, rfl, hba, hca⟩ := HK.out i (by omega)
      have hca := (hw.cell (p := ⟨ba, oa + i, none⟩) hba).trans hca
      have hst := HQ.out i
      have hml := HML.out i
      rw [← hq] at hst
      have hd := Wh.dig_lt n i
      unfold Wh.B at hd
      have hfz := hb.frozen i
      have hcc := (hb.cell i).trans (fnC_at (by omega))
      have hset := hb.set i (.int .i64 (Wh.dig (n / k) i : Nat))
      rw [fnC_set, topF_upd] at hset
      have hwset := hw.setCell (p := ⟨w.heap.size, i, none⟩) (Nat.le_refl _) (.int .i64 (Wh.dig (n / k) i : Nat))
      have hq2 : (((q : Int) * 16777216) + (Wh.dig n i : Nat)) / (k : Int) = (Wh.dig (n / k) i : Nat) := by
        have := hst.1; unfold Wh.B at this; rw [← this]; simp
      have hr2 : (((q : Int) * 16777216) + (Wh.dig n i : Nat)) % (k : Int) = (Wh.rE n k i : Nat) := by
        have := hst.2; unfold Wh.B at this; rw [← this]; simp
      have hdq := Wh.dig_lt (n / k) i
      unfold Wh.B at hdq
      have HX := Lib.hid (And.intro hset hwset)
      have hrk : Wh.rE n k i < k := hml
      have HRK := Lib.hid hrk
      generalize hrr : Wh.rE n k i = r2 at *
      have HRR := Lib.hid hrr
      generalize Wh.dig (n / k) i = dq at *
      generalize Wh.dig n i = d at *
      have hw3 : IntKind.i64.wrap ((dq : Nat) : Int) = (dq : Int) := wrap_i (by omega) (by omega)
      clear hset hwset hst hml hq hg hb hw hba hz hrr hrk
      go_wp2
      go_roundw
      case rel => exact ⟨i, r2, ⟨by omega, HRK.out⟩, by first | rfl | go_num, by rw [hr2], Lib.hid ⟨HRR.out.symm, HX.out⟩⟩
      case measure => simp [intOf]
end Go.Proofs.Ytccjbefmcifaeaa
namespace Go.Proofs.Ytccjbefmcifaeaa
open Go.RowKit

theorem wEven_any (a : Nat) (v : Value) (w : World) (hv : Wo w v a) :
    Calls Try.prog 118 #[v] w fun e w' => e = .returned (.bool (decide (a % 2 = 0))) ∧ w = w' := by
  obtain ⟨ao, ac, rfl, hak⟩ := hv.look
  clear hv
  by_cases h0 : 0 < Wh.nd a
  · obtain ⟨b, off, rfl, hb, hc⟩ := hak 0 h0
    have hd := Wh.even_dig h0
    have hc0 : w.cell? ⟨b, off, none⟩ = some (.int .i64 (Wh.dig a 0 : Nat)) := hc
    have hne : ((Wh.nd a : Int) == 0) = false := by simp; omega
    have hq : (((Wh.dig a 0 : Nat) : Int) % 2 == 0) = decide (a % 2 = 0) := by
      rw [Bool.eq_iff_iff]; simp; omega
    generalize Wh.dig a 0 = d at *
    generalize decide (a % 2 = 0) = z at *
    clear hd hak hc
    go_enter Try.func118, Try.ntmps118
    go_wp2
    go_ret
    exact ⟨rfl, rfl⟩
  · have ha : a = 0 := Wh.nd_zero.1 (by omega)
    subst ha
    have he : Wh.nd 0 = 0 := by omega
    rw [he]
    clear hak h0 he
    go_enter Try.func118, Try.ntmps118
    go_wp2
    go_ret
    exact ⟨rfl, rfl⟩

theorem cmp_lt {a b : Nat} (h : a < b) : Wh.cmpN a b = -1 := by unfold Wh.cmpN; rw [if_pos h]
theorem cmp_gt {a b : Nat} (h : b < a) : Wh.cmpN a b = 1 := by unfold Wh.cmpN; rw [if_neg (by omega), if_pos h]
theorem cmp_eq (a : Nat) : Wh.cmpN a a = 0 := by unfold Wh.cmpN; simp

set_option maxRecDepth 20000 in
set_option maxHeartbeats 1000000 in
theorem wCompare_any (a b : Nat) (v u : Value) (w : World) (hv : Wo w v a) (hu : Wo w u b) (ha : Wh.nd a ≤ 200) (hb : Wh.nd b ≤ 200) :
    Calls Try.prog 111 #[v, u] w fun e w' => e = .returned (.int .i64 (Wh.cmpN a b)) ∧ Below w.heap.size w w' := by
  obtain ⟨ao, ac, rfl, hak⟩ := hv.look
  obtain ⟨bo, bc, rfl, hbk⟩ := hu.look
  clear hv hu
  by_cases hn : Wh.nd a = Wh.nd b
  · have HA := Lib.hid hak
    have HB := Lib.hid hbk
    clear hak hbk
    have hend : a / Wh.B ^ Wh.nd a = b / Wh.B ^ Wh.nd a := by
      rw [Nat.div_eq_of_lt (Wh.nd_lt a), hn, Nat.div_eq_of_lt (Wh.nd_lt b)]
    have HN := Lib.hid hn
    have HE := Lib.hid hend
    have H0 := Lib.hid (Below.refl w.heap.size w)
    rw [← hn]
    rw [← hn] at HB
    clear hn hend hb
    generalize hm : Wh.nd a = m at *
    clear hm
    go_enter Try.func111, Try.ntmps111
    go_wp2
    go_loopw [5] (fun t wr => ∃ k : Nat, k ≤ m ∧ t = .int .i64 ((k : Int) - 1) ∧ Hid (a / Wh.B ^ k = b / Wh.B ^ k ∧ Below w.heap.size w wr)) (fun t _ => (intOf t + 1).toNat)
    case atStart => exact ⟨m, Nat.le_refl _, rfl, Lib.hid ⟨HE.out, H0.out⟩⟩
    case round =>
      obtain ⟨k, hk, rfl, hg⟩ := hrel
      clear H0
      by_cases hz : k = 0
      · have hab : a = b := by
          have := hg.out.1
          rw [hz] at this; simpa using this
        have HR := Lib.hid (show Wh.cmpN a b = 0 by rw [hab]; exact cmp_eq b)
        have hw := hg.out.2
        subst hz
        clear hab hg
        go_wp2
        go_ret
        exact ⟨by rw [HR.out]; rfl, hw⟩
      · obtain ⟨j, rfl⟩ : ∃ j, k = j + 1 := ⟨k - 1, by omega⟩
        rw [show ((j + 1 : Nat) : Int) - 1 = (j : Int) by omega]
        obtain ⟨heq, hw⟩ := hg.out
        obtain ⟨ba, oa, rfl, hba, hca⟩ := HA.out j (by omega)
        obtain ⟨bb, ob, rfl, hbb, hcb⟩ := HB.out j (by omega)
        have hca := (hw.cell (p := ⟨ba, oa + j, none⟩) hba).trans hca
        have hcb := (hw.cell (p := ⟨bb, ob + j, none⟩) hbb).trans hcb
        have hle := Wh.dig_less heq
        have hgt := Wh.dig_less heq.symm
        have hee := Wh.dig_eq heq
        generalize Wh.dig a j = da at *
        generalize Wh.dig b j = db at *
        have HX := Lib.hid (And.intro hle (And.intro hgt hee))
        have hjm : (j : Int) < (m : Int) := by omega
        clear hle hgt hee heq hg hz hba hbb
        rcases Nat.lt_trichotomy da db with h | h | h
        · have HR := Lib.hid (cmp_lt (HX.out.1 h))
          have h1 : (da : Int) < (db : Int) := by omega
          clear h HX
          go_wp2
          go_quiet (fail)
          go_wp2
          go_ret
          exact ⟨by rw [HR.out]; rfl, by first | exact below_drewN hw _ | exact below_drewN (below_drewN hw _) _⟩
        · have HR := Lib.hid (HX.out.2.2 h)
          subst h
          have h1 : ¬ (da : Int) < (da : Int) := by omega
          clear HX
          go_wp2
          go_quiet (fail)
          go_wp2
          go_quiet (fail)
          go_wp2
          go_roundw
          case rel => exact ⟨j, by omega, by first | rfl | go_num, Lib.hid ⟨HR.out, by first | exact below_drewN hw _ | exact below_drewN (below_drewN hw _) _⟩⟩
          case measure => simp [intOf]
        · have HR := Lib.hid (cmp_gt (HX.out.2.1 h))
          have h1 : (db : Int) < (da : Int) := by omega
          have h2 : ¬ (da : Int) < (db : Int) := by omega
          clear h HX
          go_wp2
          go_quiet (fail)
          go_wp2
          go_quiet (fail)
          go_wp2
          go_ret
          exact ⟨by rw [HR.out]; rfl, by first | exact below_drewN hw _ | exact below_drewN (below_drewN hw _) _⟩
  · have hne : ((Wh.nd a : Int) != (Wh.nd b : Int)) = true := bne_iff_ne.2 (by omega)
    clear hak hbk
    rcases Nat.lt_or_ge (Wh.nd a) (Wh.nd b) with h | h
    · have HR := Lib.hid (cmp_lt (Wh.nd_less h))
      generalize Wh.nd a = na at *
      generalize Wh.nd b = nb at *
      clear hn
      go_enter Try.func111, Try.ntmps111
      go_wp2
      go_ret
      exact ⟨by rw [HR.out]; rfl, Below.refl _ _⟩
    · have HR := Lib.hid (cmp_gt (Wh.nd_less (a := b) (b := a) (by omega)))
      generalize Wh.nd a = na at *
      generalize Wh.nd b = nb at *
      have h2 : ¬ na < nb := by omega
      clear hn
      go_enter Try.func111, Try.ntmps111
      go_wp2
      go_ret
      exact ⟨by rw [HR.out]; rfl, Below.refl _ _⟩
end Go.Proofs.Ytccjbefmcifaeaa
namespace Go.Proofs.Ytccjbefmcifaeaa
open Go.RowKit

def rowL (n : Nat) (f : Nat → Int) : List Value := (List.range n).map fun j => .int .i64 (f j)
theorem rowL_len (n : Nat) (f : Nat → Int) : (rowL n f).length = n := by simp [rowL]
theorem rowL_at {n : Nat} {f : Nat → Int} {j : Nat} (h : j < n) : (rowL n f)[j]? = some (.int .i64 (f j)) := by simp [rowL, h]
theorem rowL_set (n : Nat) (f : Nat → Int) (i : Nat) (v : Int) : (rowL n f).set i (.int .i64 v) = rowL n (upd f i v) := by
  refine List.ext_getElem (by simp [rowL]) fun j h1 h2 => ?_
  simp only [rowL, List.getElem_set, List.getElem_map, List.getElem_range, upd]
  by_cases e : i = j
  · subst e; simp
  · rw [if_neg e, if_neg (fun h => e h.symm)]
theorem rowL_one (n : Nat) (f : Nat → Int) : ∀ u ∈ rowL n f, u.oneCell' = true := by
  intro u h
  simp only [rowL, List.mem_map] at h
  obtain ⟨j, _, rfl⟩ := h
  rfl
theorem rowL_congr {n : Nat} {f g : Nat → Int} (h : ∀ j, j < n → f j = g j) : rowL n f = rowL n g := by
  unfold rowL
  refine List.map_congr_left fun j hj => ?_
  rw [h j (by simpa using hj)]
theorem wo_row {W : World} {g j cap a base l2 c2 n2 : Nat} {xs : List Value} (hrow : W.ownsRow base 3 1 (.slice (some ⟨g, 0, none⟩) l2 c2) n2 xs) (hc : ∀ x, x < j → W.cell? ⟨g, x, none⟩ = some (.int .i64 (Wh.dig a x : Nat))) (hg : g < W.heap.size) (hn : Wh.nd a = j) (hj : j ≤ cap) : Wo W (.slice (some ⟨g, 0, none⟩) j cap) a := by
  subst hn
  refine ⟨?_, fun b off l c e hl => ?_⟩
  rotate_left
  · simp only [Value.slice.injEq, Option.some.injEq, Addr.mk.injEq] at e
    rw [← e.1.1]
    obtain ⟨h0, ⟨h1, h2⟩ | ⟨g', cap, cur, h1, h2, h3, h4⟩⟩ := id hrow
    · simp at h1
    · simp only [Value.slice.injEq, Option.some.injEq, Addr.mk.injEq] at h1
      rw [h1.1.1]
      exact ⟨_, _, h3⟩
  refine .inr ⟨g, 0, cap, by rw [Wh.dg_len], by rw [Wh.dg_len]; exact hj, hg, fun k hk => ?_⟩
  rw [Wh.dg_len] at hk
  rw [Nat.zero_add, hc k hk, Wh.dg_at hk]
def mF1 (a b j : Nat) : Nat → Int := fun x => if x < j then (Wh.dig a x : Int) - (Wh.dig b x : Int) else (Wh.dig a x : Int)
theorem mF1_upd (a b j : Nat) : upd (mF1 a b j) j ((Wh.dig a j : Int) - (Wh.dig b j : Int)) = mF1 a b (j + 1) := by
  funext x
  unfold upd mF1
  by_cases e : x = j
  · subst e; simp
  · rw [if_neg e]
    by_cases h : x < j
    · rw [if_pos h, if_pos (by omega)]
    · rw [if_neg h, if_neg (by omega)]
def mF2 (a b D i : Nat) : Nat → Int := fun x => if x < i then (Wh.dig D x : Int) else if x = i then (Wh.dig a x : Int) - (Wh.dig b x : Int) - (Wh.cP D b i : Int) else (Wh.dig a x : Int) - (Wh.dig b x : Int)
theorem mF2_zero (a b D m : Nat) (h : Wh.nd b ≤ m) : mF1 a b m = mF2 a b D 0 := by
  funext x
  unfold mF1 mF2
  rw [if_neg (Nat.not_lt_zero x), Wh.cP_zero]
  by_cases hx : x < m
  · rw [if_pos hx]
    by_cases e : x = 0
    · rw [if_pos e]; simp
    · rw [if_neg e]
  · rw [if_neg hx, Wh.dig_high (m := b) (i := x) (by omega)]
    by_cases e : x = 0
    · rw [if_pos e]; simp
    · rw [if_neg e]; simp
theorem mF2_at {a b D : Nat} (h : D + b = a) (i : Nat) : mF2 a b D i i = (Wh.dig D i : Int) - Wh.B * (Wh.cP D b (i + 1) : Int) := by
  unfold mF2
  rw [if_neg (by omega), if_pos rfl]
  exact Wh.sub_step h i
theorem mF2_stay {a b D : Nat} (h : D + b = a) {i : Nat} (h0 : Wh.cP D b (i + 1) = 0) : mF2 a b D i = mF2 a b D (i + 1) := by
  have hs := Wh.sub_step h i
  funext x
  unfold mF2
  by_cases e : x < i
  · rw [if_pos e, if_pos (by omega)]
  · rw [if_neg e]
    by_cases e2 : x = i
    · subst e2
      rw [if_pos rfl, if_pos (by omega), hs, h0]; simp
    · rw [if_neg e2, if_neg (by omega)]
      by_cases e3 : x = i + 1
      · rw [if_pos e3, h0]; simp
      · rw [if_neg e3]
theorem mF2_next {a b D : Nat} (h : D + b = a) {i : Nat} (h0 : Wh.cP D b (i + 1) = 1) : upd (upd (mF2 a b D i) i (Wh.dig D i : Int)) (i + 1) ((Wh.dig a (i + 1) : Int) - (Wh.dig b (i + 1) : Int) - 1) = mF2 a b D (i + 1) := by
  funext x
  unfold upd mF2
  by_cases e3 : x = i + 1
  · subst e3
    rw [if_pos rfl, if_neg (by omega), if_pos rfl, h0]; rfl
  · rw [if_neg e3]
    by_cases e2 : x = i
    · subst e2
      rw [if_pos rfl, if_pos (by omega)]
    · rw [if_neg e2]
      by_cases e : x < i
      · rw [if_pos e, if_pos (by omega)]
      · rw [if_neg e, if_neg e2, if_neg (by omega), if_neg e3]
theorem mF2_end {a b D m : Nat} : ∀ j, j < m → mF2 a b D m j = (Wh.dig D j : Int) := fun j hj => by unfold mF2; rw [if_pos hj]

set_option maxRecDepth 20000 in
set_option maxHeartbeats 2000000 in
theorem wMinus_any (D b : Nat) (v u : Value) (w : World) (hv : Wo w v (D + b)) (hu : Wo w u b) (ha : 0 < D + b) (hn : Wh.nd (D + b) ≤ 200) :
    Calls Try.prog 119 #[v, u] w fun e w' => ∃ z, e = .returned z ∧ Wo w' z D ∧ Below w.heap.size w w' := by
  obtain ⟨i0, hi, hz0, hz1, hz2⟩ := info_parts infoInt
  obtain ⟨a, hab⟩ : ∃ a, D + b = a := ⟨_, rfl⟩
  rw [hab] at hv ha hn
  have hnb : Wh.nd b ≤ Wh.nd a := Wh.nd_mono (by omega)
  have hnD : D < Wh.B ^ Wh.nd a := Nat.lt_of_le_of_lt (by omega) (Wh.nd_lt a)
  have hna : 0 < Wh.nd a := by
    rcases Nat.eq_zero_or_pos (Wh.nd a) with h | h
    · have := Wh.nd_zero.1 h; omega
    · exact h
  have hct : Wh.cP D b (Wh.nd a) = 0 := by
    rw [Wh.cP_high (Wh.nd_mono (by omega)) hnb, hab, Nat.div_eq_of_lt (Wh.nd_lt a)]
  obtain ⟨ao, ac, rfl, hak⟩ := hv.look
  obtain ⟨bo, bc, rfl, hbk⟩ := hu.look
  have hown := World.ownsRow_made (base := w.heap.size) (e := 3) (size := 1) w #[] 0 (Nat.le_refl _) (by unfold maxLen; omega) rfl
  have hw0 := (Below.refl w.heap.size w).alloc (Nat.le_refl _) (.cells #[] 3)
  obtain ⟨ba, oa, rfl, hba, _⟩ := hak 0 hna
  have hca : ∀ (j : Nat) (u : Value), (rowL (Wh.nd a) (mF1 a b 0))[j]? = some u → (w.alloc (.cells #[] 3)).cell? ((⟨ba, oa, none⟩ : Addr).add j) = some u := by
    intro j u h
    have hj : j < Wh.nd a := by
      have := (List.getElem?_eq_some_iff.1 h).1
      rwa [rowL_len] at this
    rw [rowL_at hj] at h
    obtain ⟨b2, o2, e, h1, h2⟩ := hak j hj
    have e' := Option.some.inj e
    simp only [Addr.mk.injEq] at e'
    rw [← e'.1, ← e'.2.1] at h2
    have : (w.alloc (.cells #[] 3)).cell? ⟨ba, oa + j, none⟩ = some (.int .i64 (Wh.dig a j : Nat)) := (hw0.cell (p := ⟨ba, oa + j, none⟩) hba).trans h2
    rw [← h]
    rw [show ((⟨ba, oa, none⟩ : Addr).add j) = ⟨ba, oa + j, none⟩ by cases j <;> simp [Addr.add]]
    rw [this]
    unfold mF1; rw [if_neg (Nat.not_lt_zero _)]
  have HB := Lib.hid hbk
  have HAB := Lib.hid hab
  have HND := Lib.hid (And.intro hnD (And.intro hnb hct))
  generalize hm : Wh.nd a = m at *
  generalize hmb : Wh.nd b = mb at *
  have HMB := Lib.hid hmb
  have hmm : mb ≤ m := hnb
  clear hv hu hak hbk hab hnD hnb hct hba hm hmb ha
  go_enter Try.func119, Try.ntmps119
  go_wp2_with (at_builtin; refine wpList_append_own _ rfl _ _ 92 rfl w.heap.size 3 i0 (.int .i64 0) 1 8 ul_whole hi hz0 hz1 hz2 rfl (by decide) _ _ _ rfl hown ⟨ba, oa, none⟩ m ac (rowL m (mF1 a b 0)) rfl (by rw [rowL_len, Nat.mul_one]) hca (rowL_one _ _) (by unfold maxLen; omega) (by omega) (by simp) ?_)
  intro v' w1 hown1 hgrow _
  have hw1 := hw0.grown hgrow (by simp) (fun j e => (World.ownsRow.lt hown j e).1)
  have hx : w1.ownsRow w.heap.size 3 1 v' m (rowL m (mF1 a b 0)) := by simpa using hown1
  obtain ⟨g, cap, rfl⟩ : ∃ g cap, v' = .slice (some ⟨g, 0, none⟩) m cap := by
    rcases hx.2 with ⟨_, h0⟩ | ⟨g, cap, cur, h1, _⟩
    · omega
    · exact ⟨g, cap, h1⟩
  have hmc : m ≤ cap := by
    rcases hx.2 with ⟨_, h0⟩ | ⟨g', cap', cur, h1, h2, h3, h4⟩
    · omega
    · simp only [Value.slice.injEq] at h1
      obtain ⟨_, _, rfl⟩ := h1
      omega
  have H0 := Lib.hid (And.intro hx hw1)
  clear hown hgrow hown1 hca hw0 hx hw1
  go_wp2
  go_loopw [6] (fun t wr => ∃ j : Nat, j ≤ mb ∧ t = .int .i64 j ∧ Hid (wr.ownsRow w.heap.size 3 1 (.slice (some ⟨g, 0, none⟩) m cap) m (rowL m (mF1 a b j)) ∧ Below w.heap.size w wr)) (fun t _ => mb - (intOf t).toNat)
  case atStart => exact ⟨0, Nat.zero_le _, rfl, H0⟩
  case round =>
    obtain ⟨j, hj, rfl, hg⟩ := hrel
    clear H0
    obtain ⟨hx, hw⟩ := hg.out
    by_cases hlt : j < mb
    · have hjm : j < m := by omega
      obtain ⟨bb, ob, rfl, hbb, hcb⟩ := HB.out j hlt
      have hcb := (hw.cell (p := ⟨bb, ob + j, none⟩) hbb).trans hcb
      have e1 := (World.ownsRow.cellAt hx j (by omega)).trans (rowL_at hjm)
      have e2 := World.ownsRow.frozenAt hx j
      rw [show mF1 a b j j = (Wh.dig a j : Int) by unfold mF1; rw [if_neg (by omega)]] at e1
      obtain ⟨hx2, hgrow⟩ := World.ownsRow.stored hx j (.int .i64 ((Wh.dig a j : Int) - (Wh.dig b j : Int)))
      rw [rowL_set, mF1_upd] at hx2
      have hw2 := hw.grown hgrow (by have := hw.size; omega) (fun j e => by simp at e; subst e; exact (World.ownsRow.lt hx g rfl).1)
      have HN := Lib.hid (And.intro hx2 hw2)
      have hda := Wh.dig_lt a j
      have hdb := Wh.dig_lt b j
      unfold Wh.B at hda hdb
      generalize Wh.dig a j = da at *
      generalize Wh.dig b j = db at *
      have hgs := (World.ownsRow.lt hx g rfl).2
      clear hx hw hg hx2 hw2 hgrow hbb
      go_wp2
      go_region
      go_wp2
      go_roundw
      case rel => exact ⟨j + 1, by omega, by go_num, Lib.hid ⟨HN.out.1, HN.out.2.drew⟩⟩
      case measure => simp [intOf]; omega
    · obtain rfl : j = mb := by omega
      rw [mF2_zero a b D j (by have := HMB.out; omega)] at hx
      have H1 := Lib.hid (And.intro hx hw)
      clear hx hw hg hj hlt
      go_wp2
      go_loopw [7] (fun t wr => ∃ i : Nat, i ≤ m ∧ t = .int .i64 i ∧ Hid (wr.ownsRow w.heap.size 3 1 (.slice (some ⟨g, 0, none⟩) m cap) m (rowL m (mF2 a b D i)) ∧ Below w.heap.size w wr)) (fun t _ => m - (intOf t).toNat)
      case atStart => exact ⟨0, Nat.zero_le _, rfl, H1⟩
      case round =>
        obtain ⟨i, hi2, rfl, hg⟩ := hrel
        clear H1
        obtain ⟨hx, hw⟩ := hg.out
        by_cases hlt : i < m
        · have e1 := (World.ownsRow.cellAt hx i (by omega)).trans (rowL_at hlt)
          have e2 := World.ownsRow.frozenAt hx i
          rw [mF2_at HAB.out i] at e1
          have hdD := Wh.dig_lt D i
          unfold Wh.B at hdD e1
          have hgs := (World.ownsRow.lt hx g rfl).2
          have hcl := Wh.cP_le D b (i + 1)
          by_cases hc : Wh.cP D b (i + 1) = 0
          · rw [mF2_stay HAB.out hc] at hx
            rw [hc] at e1
            have HN := Lib.hid (And.intro hx hw)
            generalize Wh.dig D i = dD at *
            rw [show (dD : Int) - ((16777216 : Nat) : Int) * ((0 : Nat) : Int) = (dD : Int) by simp] at e1
            have hneg : ¬ (dD : Int) < 0 := by omega
            clear hx hw hg hc hcl
            go_wp2
            go_roundw
            case rel => exact ⟨i + 1, by omega, by go_num, HN⟩
            case measure => simp [intOf]; omega
          · have hc1 : Wh.cP D b (i + 1) = 1 := by omega
            have him : i + 1 < m := by
              rcases Nat.lt_or_ge (i + 1) m with h | h
              · exact h
              · have : i + 1 = m := by omega
                rw [this, HND.out.2.2] at hc1; omega
            rw [hc1] at e1
            obtain ⟨hx2, hgrow⟩ := World.ownsRow.stored hx i (.int .i64 (Wh.dig D i : Nat))
            rw [rowL_set] at hx2
            have hw2 := hw.grown hgrow (by have := hw.size; omega) (fun j e => by simp at e; subst e; exact (World.ownsRow.lt hx g rfl).1)
            have e3 := (World.ownsRow.cellAt hx2 (i + 1) (by omega)).trans (rowL_at him)
            have hv3 : upd (mF2 a b D i) i (Wh.dig D i : Nat) (i + 1) = (Wh.dig a (i + 1) : Int) - (Wh.dig b (i + 1) : Int) := by
              unfold upd mF2
              rw [if_neg (by omega), if_neg (by omega), if_neg (by omega)]
            rw [hv3] at e3
            have e4 := World.ownsRow.frozenAt hx2 (i + 1)
            obtain ⟨hx3, hgrow2⟩ := World.ownsRow.stored hx2 (i + 1) (.int .i64 ((Wh.dig a (i + 1) : Int) - (Wh.dig b (i + 1) : Int) - 1))
            rw [rowL_set, mF2_next HAB.out hc1] at hx3
            have hw3 := hw2.grown hgrow2 (by have := hw2.size; omega) (fun j e => by simp at e; subst e; exact (World.ownsRow.lt hx2 g rfl).1)
            have HN := Lib.hid (And.intro hx3 hw3)
            have hda := Wh.dig_lt a (i + 1)
            have hdb := Wh.dig_lt b (i + 1)
            unfold Wh.B at hda hdb
            generalize Wh.dig D i = dD at *
            generalize Wh.dig a (i + 1) = da at *
            generalize Wh.dig b (i + 1) = db at *
            rw [show (dD : Int) - ((16777216 : Nat) : Int) * ((1 : Nat) : Int) = (dD : Int) - 16777216 by simp] at e1
            have hneg : (dD : Int) - 16777216 < 0 := by omega
            have hback : (dD : Int) - 16777216 + 16777216 = (dD : Int) := by omega
            clear hx hw hg hc hcl hx2 hw2 hx3 hw3 hgrow hgrow2 hc1 hv3
            go_wp2
            go_roundw
            case rel => exact ⟨i + 1, by omega, by go_num, HN⟩
            case measure => simp [intOf]; omega
        · obtain rfl : i = m := by omega
          rw [rowL_congr (mF2_end (a := a) (b := b) (D := D) (m := i))] at hx
          have H2 := Lib.hid (And.intro HND.out.1 (And.intro hx hw))
          clear hx hw hg hi2 hlt
          go_wp2
          go_loopw [5] (fun o wr => ∃ j : Nat, j ≤ i ∧ o = .slice (some ⟨g, 0, none⟩) j cap ∧ Hid (D < Wh.B ^ j ∧ wr.ownsRow w.heap.size 3 1 (.slice (some ⟨g, 0, none⟩) i cap) i (rowL i (fun x => (Wh.dig D x : Int))) ∧ Below w.heap.size w wr)) (fun o _ => match o with | .slice _ l _ => l | _ => 0)
          case atStart => exact ⟨i, Nat.le_refl _, rfl, H2⟩
          case round =>
            obtain ⟨j, him, rfl, hg⟩ := hrel
            clear H2
            obtain ⟨hlt, hx, hw⟩ := hg.out
            have hgs := (World.ownsRow.lt hx g rfl).2
            by_cases hi0 : j = 0
            · subst hi0
              have hr := wo_row (cap := cap) (a := D) (j := 0) hx (fun x hx => absurd hx (Nat.not_lt_zero _)) hgs (Wh.nd_of hlt (.inl rfl)) (Nat.zero_le _)
              clear hg hx hlt
              go_wp2
              go_ret
              exact ⟨_, rfl, hr, hw⟩
            · obtain ⟨x, rfl⟩ : ∃ x, j = x + 1 := ⟨j - 1, by omega⟩
              have hc := (World.ownsRow.cellAt hx x (by omega)).trans (rowL_at (by omega))
              have hx1 : ((x : Int) + 1 - 1) = (x : Int) := by omega
              by_cases hdz : Wh.dig D x = 0
              · have hlt2 := Wh.strip hlt hdz
                rw [hdz] at hc
                have HG := Lib.hid (And.intro hlt2 (And.intro hx hw))
                clear hg hx hw hlt hlt2 hdz hi0
                go_wp2
                go_roundw
                case rel => exact ⟨x, by omega, by first | rfl | (congr 1), HG⟩
                case measure => simp
              · have hge := Wh.strip_not hdz
                have hr := wo_row (cap := cap) (a := D) (j := x + 1) hx (fun y hy => (World.ownsRow.cellAt hx y (by omega)).trans (rowL_at (by omega))) hgs (Wh.nd_of hlt (.inr hge)) (by omega)
                have hdb : (((Wh.dig D x : Nat) : Int) == 0) = false := by simpa using hdz
                generalize Wh.dig D x = d at *
                clear hg hx hlt hge hdz hi0
                go_wp2
                go_ret
                exact ⟨_, rfl, hr, hw⟩
end Go.Proofs.Ytccjbefmcifaeaa
namespace Go.Proofs.Ytccjbefmcifaeaa
open Go.RowKit

theorem dig_all {n m : Nat} (h : Wh.nd n = Wh.nd m) (hd : ∀ k, k < Wh.nd n → Wh.dig n k = Wh.dig m k) : n = m := by
  have key : ∀ j, j ≤ Wh.nd n → n / Wh.B ^ (Wh.nd n - j) = m / Wh.B ^ (Wh.nd n - j) := by
    intro j
    induction j with
    | zero => intro _; rw [Nat.sub_zero, Nat.div_eq_of_lt (Wh.nd_lt n), h, Nat.div_eq_of_lt (Wh.nd_lt m)]
    | succ j ih =>
      intro hj
      have h1 := ih (by omega)
      have e : Wh.nd n - j = (Wh.nd n - (j + 1)) + 1 := by omega
      rw [e] at h1
      exact Wh.dig_eq h1 (hd _ (by omega))
  have := key (Wh.nd n) (Nat.le_refl _)
  simpa using this
theorem Wo.uniq {w : World} {v : Value} {n m : Nat} (h1 : Wo w v n) (h2 : Wo w v m) : n = m := by
  obtain ⟨a, c, rfl, hk⟩ := h1.look
  obtain ⟨a2, c2, e, hk2⟩ := h2.look
  simp only [Value.slice.injEq] at e
  obtain ⟨e1, e2, _⟩ := e
  subst e1
  refine dig_all e2 fun k hk' => ?_
  obtain ⟨b, off, ha, _, hc⟩ := hk k hk'
  obtain ⟨b2, off2, ha2, _, hc2⟩ := hk2 k (by omega)
  rw [ha] at ha2
  have := Option.some.inj ha2
  simp only [Addr.mk.injEq] at this
  rw [← this.1, ← this.2.1, hc] at hc2
  simp only [Option.some.injEq, Value.int.injEq, true_and] at hc2
  omega
open Classical in
/-- The number that a value in memory is. -/
noncomputable def valW (w : World) (v : Value) : Nat := if h : ∃ n, Wo w v n then Classical.choose h else 0
theorem Wo.val {w : World} {v : Value} {n : Nat} (h : Wo w v n) : valW w v = n := by
  have hx : ∃ n, Wo w v n := ⟨n, h⟩
  unfold valW
  rw [dif_pos hx]
  exact (Classical.choose_spec hx).uniq h
theorem even_t {a : Nat} {v : Value} {w : World} (hv : Wo w v a) (h : a % 2 = 0) : Calls Try.prog 118 #[v] w fun e w' => e = .returned (.bool true) ∧ w = w' := by
  have := wEven_any a v w hv
  rw [decide_eq_true h] at this; exact this
theorem even_f {a : Nat} {v : Value} {w : World} (hv : Wo w v a) (h : a % 2 = 1) : Calls Try.prog 118 #[v] w fun e w' => e = .returned (.bool false) ∧ w = w' := by
  have := wEven_any a v w hv
  rw [decide_eq_false (by omega)] at this; exact this
theorem gcd_le_left {a b : Nat} (h : 0 < a) : Nat.gcd a b ≤ a := Nat.le_of_dvd h (Nat.gcd_dvd_left _ _)
theorem Wo.len {w : World} {a : Option Addr} {l c n : Nat} (h : Wo w (.slice a l c) n) : l = Wh.nd n := by
  obtain ⟨a2, c2, e, _⟩ := h.look
  simp only [Value.slice.injEq] at e
  exact e.2.1
theorem Wo.form {w : World} {v : Value} {n : Nat} (h : Wo w v n) : ∃ a c, v = .slice a (Wh.nd n) c := by
  obtain ⟨a2, c2, e, _⟩ := h.look
  exact ⟨a2, c2, e⟩
theorem nd_pos {n : Nat} (h : 0 < n) : 0 < Wh.nd n := by
  rcases Nat.eq_zero_or_pos (Wh.nd n) with h1 | h1
  · have := Wh.nd_zero.1 h1; omega
  · exact h1

/-- What is held while the divisor is looked for. -/
def Gc (w wr : World) (G x y : Nat) (u z : Value) (a b t : Nat) : Prop :=
  ((Nat.gcd a b * 2 ^ t = G ∧ a ≤ x) ∧ b ≤ y) ∧ Wo wr u a ∧ Wo wr z b ∧ Below w.heap.size w wr
theorem Gc.all {w wr w2 : World} {G x y : Nat} {u z : Value} {a b t : Nat} (h : Gc w wr G x y u z a b t) (hb : Below wr.heap.size wr w2) : Gc w w2 G x y u z a b t :=
  ⟨h.1, h.2.1.all hb, h.2.2.1.all hb, below_step h.2.2.2 hb⟩

set_option maxRecDepth 20000 in
set_option maxHeartbeats 2000000 in
theorem wCommon_any (x y : Nat) (v u : Value) (w : World) (hv : Wo w v x) (hu : Wo w u y) (hx : 0 < x) (hy : 0 < y) (hnx : Wh.nd x ≤ 90) (hny : Wh.nd y ≤ 90) :
    Calls Try.prog 105 #[v, u] w fun e w' => ∃ z, e = .returned z ∧ Wo w' z (Nat.gcd x y) ∧ Below w.heap.size w w' := by
  obtain ⟨G, hG⟩ : ∃ G, Nat.gcd x y = G := ⟨_, rfl⟩
  have HGx := Lib.hid (show G ≤ x by rw [← hG]; exact gcd_le_left hx)
  have H0 : Hid (Gc w w G x y v u x y 0 ∧ x * 2 ^ 0 ≤ x) := Lib.hid ⟨⟨⟨⟨by simp [hG], Nat.le_refl _⟩, Nat.le_refl _⟩, hv, hu, Below.refl _ _⟩, by simp⟩
  have HXY := Lib.hid (And.intro hx (And.intro hy (And.intro hnx hny)))
  have ndx : ∀ a, a ≤ x → Wh.nd a ≤ 90 := fun _ h => Nat.le_trans (Wh.nd_mono h) hnx
  have ndy : ∀ a, a ≤ y → Wh.nd a ≤ 90 := fun _ h => Nat.le_trans (Wh.nd_mono h) hny
  have NX := Lib.hid ndx
  have NY := Lib.hid ndy
  rw [hG]
  have hL2200 : Nat.log2 x ≤ 2200 := by
    have := Wh.log_lt (n := 90) (show x ≠ 0 by omega) (Nat.lt_of_lt_of_le (Wh.nd_lt x) (Wh.pow_le hnx))
    omega
  have HLG : Hid (∀ t, 2 ^ t ≤ x → t ≤ Nat.log2 x) := Lib.hid fun t h => (Nat.le_log2 (by omega)).2 h
  generalize Nat.log2 x = L at *
  clear hv hu hx hy hnx hny ndx ndy hG
  go_enter Try.func105, Try.ntmps105
  go_wp2
  go_loopw [0, 1, 5] (fun s0 s1 s5 wr => ∃ a b t : Nat, (0 < a ∧ 0 < b ∧ t ≤ L) ∧ s5 = .int .i64 t ∧ Hid (Gc w wr G x y s0 s1 a b t ∧ a * 2 ^ t ≤ x)) (fun _ _ s5 _ => L + 1 - (intOf s5).toNat)
  case atStart => exact ⟨x, y, 0, ⟨HXY.out.1, HXY.out.2.1, Nat.zero_le _⟩, rfl, H0⟩
  case round =>
    obtain ⟨a, b, t, hab, rfl, hg⟩ := hrel
    clear H0
    obtain ⟨ha, hb, ht⟩ := hab
    by_cases hev : a % 2 = 0 ∧ b % 2 = 0
    · obtain ⟨hea, heb⟩ := hev
      obtain ⟨⟨⟨⟨hgc, hax⟩, hby⟩, hwa, hwb, hw⟩, h2t⟩ := hg.out
      have E1 := Lib.hid (even_t hwa hea)
      have E2 := Lib.hid (even_t hwb heb)
      have B1 := Lib.hid (wBy_any a 2 _ _ hwa (Nat.le_trans (NX.out _ hax) (by omega)) (by omega) (by omega))
      have HP := Lib.hid (show 0 < a / 2 ∧ 0 < b / 2 ∧ Nat.gcd (a / 2) (b / 2) * 2 ^ (t + 1) = G ∧ a / 2 ≤ x ∧ b / 2 ≤ y ∧ a / 2 * 2 ^ (t + 1) ≤ x by
        refine ⟨by omega, by omega, ?_, by omega, by omega, ?_⟩
        · rw [← hgc, Wh.gcd_both hea heb, Nat.pow_succ]; simp only [Nat.mul_assoc, Nat.mul_comm, Nat.mul_left_comm]
        · have e : a / 2 * 2 ^ (t + 1) = a * 2 ^ t := by
            have : a = 2 * (a / 2) := by omega
            conv => rhs; rw [this]
            rw [Nat.pow_succ]; simp only [Nat.mul_assoc, Nat.mul_comm, Nat.mul_left_comm]
          omega)
      have HWB := Lib.hid (And.intro hwb (And.intro hby hw))
      clear hgc hax hby hwa hwb hw h2t hg hea heb
      go_wp2_with fail
      refine E1.out.mono ?_
      rintro e w1 ⟨rfl, rfl⟩
      go_wp2_with fail
      refine E2.out.mono ?_
      rintro e w1 ⟨rfl, rfl⟩
      go_wp2_with fail
      refine B1.out.mono ?_
      rintro e w1 ⟨z1, rfl, hz1, hb1⟩
      obtain ⟨hwb, hby, hw⟩ := HWB.out
      have B2 := Lib.hid (wBy_any b 2 _ _ (hwb.all hb1) (Nat.le_trans (NY.out _ hby) (by omega)) (by omega) (by omega))
      have HZ := Lib.hid (And.intro hz1 (below_step hw hb1))
      clear hz1 hb1 hwb hby hw E1 E2 B1 HWB
      go_wp2_with fail
      refine B2.out.mono ?_
      rintro e w2 ⟨z2, rfl, hz2, hb2⟩
      obtain ⟨hz1, hw⟩ := HZ.out
      have HZ := Lib.hid (And.intro (hz1.all hb2) (And.intro hz2 (below_step hw hb2)))
      clear hz1 hb2 hw hz2 B2
      go_wp2
      go_roundw
      case rel => 
        obtain ⟨p1, p2, p3, p4, p5, p6⟩ := HP.out
        exact ⟨a / 2, b / 2, t + 1, ⟨p1, p2, HLG.out _ (Nat.le_trans (Nat.le_mul_of_pos_left _ p1) p6)⟩, by go_num, Lib.hid ⟨⟨⟨⟨p3, p4⟩, p5⟩, HZ.out⟩, p6⟩⟩
      case measure => simp [intOf]; omega
    · have hb5 : t ≤ 2200 := by omega
      have H1 := Lib.hid (And.intro (show a % 2 = 1 ∨ b % 2 = 1 by omega) hg.out.1)
      by_cases hea : a % 2 = 0
      · have heb : b % 2 = 1 := by omega
        have E1 := Lib.hid (even_t hg.out.1.2.1 hea)
        have E2 := Lib.hid (even_f hg.out.1.2.2.1 heb)
        clear hg hev hea heb
        go_wp2_with fail
        refine E1.out.mono ?_
        rintro e w1 ⟨rfl, rfl⟩
        go_wp2_with fail
        refine E2.out.mono ?_
        rintro e w1 ⟨rfl, rfl⟩
        clear E1 E2
        go_wp2
        go_loopw [0, 1] (fun s0 s1 w2 => ∃ a b : Nat, Hid ((a % 2 = 1 ∨ b % 2 = 1) ∧ Gc w w2 G x y s0 s1 a b t)) (fun s0 s1 w2 => valW w2 s0 + valW w2 s1)
        case atStart => exact ⟨a, b, H1⟩
        case round =>
          obtain ⟨a, b, hg⟩ := hrel
          clear H1 ha hb
          have hva := Wo.val hg.out.2.2.1
          have hvb := Wo.val hg.out.2.2.2.1
          by_cases hz : 0 < a ∧ 0 < b
          · obtain ⟨ha, hb⟩ := hz
            obtain ⟨ao, ac, rfl⟩ := hg.out.2.2.1.form
            obtain ⟨bo, bc, rfl⟩ := hg.out.2.2.2.1.form
            have hna := nd_pos ha
            have hnb := nd_pos hb
            have HV := Lib.hid (And.intro hva hvb)
            have H2 := Lib.hid (And.intro (And.intro ha hb) hg.out)
            clear hg hva hvb
            go_wp2
            go_loopw [0] (fun s0 w3 => ∃ a' : Nat, 0 < a' ∧ Hid ((a' % 2 = 1 ∨ b % 2 = 1) ∧ a' ≤ a ∧ Gc w w3 G x y s0 (.slice bo (Wh.nd b) bc) a' b t)) (fun s0 w3 => valW w3 s0)
            case atStart => exact ⟨a, ha, Lib.hid ⟨H2.out.2.1, Nat.le_refl _, H2.out.2.2⟩⟩
            case round =>
              obtain ⟨a', ha', hg⟩ := hrel
              clear H2
              obtain ⟨hodd, haa, hgc⟩ := hg.out
              have hva' := Wo.val hgc.2.1
              by_cases hev : a' % 2 = 0
              · have E1 := Lib.hid (even_t hgc.2.1 hev)
                have B1 := Lib.hid (wBy_any a' 2 _ _ hgc.2.1 (Nat.le_trans (NX.out _ hgc.1.1.2) (by omega)) (by omega) (by omega))
                have HP := Lib.hid (show Nat.gcd (a' / 2) b = Nat.gcd a' b from Wh.gcd_half hev (by omega))
                have HV2 := Lib.hid hva'
                have HO := Lib.hid (And.intro (show a' / 2 % 2 = 1 ∨ b % 2 = 1 by omega) haa)
                have HC := Lib.hid hgc
                have h2 : 0 < a' / 2 := by omega
                clear hg hgc hev hva' hodd haa
                go_wp2_with fail
                refine E1.out.mono ?_
                rintro e w4 ⟨rfl, rfl⟩
                go_wp2_with fail
                refine B1.out.mono ?_
                rintro e w4 ⟨z1, rfl, hz1, hb1⟩
                have HZ := Lib.hid hz1
                have HB1 := Lib.hid hb1
                clear hz1 hb1 E1 B1
                go_wp2
                go_roundw
                case rel =>
                  have h3 := HC.out
                  refine ⟨a' / 2, h2, Lib.hid ⟨?_, Nat.le_trans (Nat.div_le_self _ _) HO.out.2, ⟨⟨⟨by rw [HP.out]; exact h3.1.1.1, Nat.le_trans (Nat.div_le_self _ _) h3.1.1.2⟩, h3.1.2⟩, HZ.out, h3.2.2.1.all HB1.out, below_step h3.2.2.2 HB1.out⟩⟩⟩
                  exact HO.out.1
                case measure =>
                  rw [Wo.val HZ.out, HV2.out]; omega
              · have E1 := Lib.hid (even_f hgc.2.1 (by omega))
                have H3 := Lib.hid (And.intro (show a' % 2 = 1 by omega) (And.intro haa hgc))
                clear hg hgc hev hva' hodd haa
                go_wp2_with fail
                refine E1.out.mono ?_
                rintro e w4 ⟨rfl, rfl⟩
                clear E1
                go_wp2
                go_loopw [1] (fun s1 w4 => ∃ b' : Nat, 0 < b' ∧ Hid ((a' % 2 = 1 ∧ a' ≤ a) ∧ b' ≤ b ∧ Gc w w4 G x y u0 s1 a' b' t)) (fun s1 w4 => valW w4 s1)
                case atStart => exact ⟨b, hb, Lib.hid ⟨⟨H3.out.1, H3.out.2.1⟩, Nat.le_refl _, H3.out.2.2⟩⟩
                case round =>
                  obtain ⟨b', hb', hg⟩ := hrel
                  clear H3
                  obtain ⟨⟨hao, haa⟩, hbb, hgc⟩ := hg.out
                  have hvb' := Wo.val hgc.2.2.1
                  by_cases hev : b' % 2 = 0
                  · have E1 := Lib.hid (even_t hgc.2.2.1 hev)
                    have B1 := Lib.hid (wBy_any b' 2 _ _ hgc.2.2.1 (Nat.le_trans (NY.out _ hgc.1.2) (by omega)) (by omega) (by omega))
                    have HP := Lib.hid (show Nat.gcd a' (b' / 2) = Nat.gcd a' b' by rw [Nat.gcd_comm, Wh.gcd_half hev hao, Nat.gcd_comm])
                    have HV2 := Lib.hid hvb'
                    have HO := Lib.hid (And.intro (And.intro hao haa) hbb)
                    have HC := Lib.hid hgc
                    have h2 : 0 < b' / 2 := by omega
                    clear hg hgc hev hvb' hao haa hbb
                    go_wp2_with fail
                    refine E1.out.mono ?_
                    rintro e w5 ⟨rfl, rfl⟩
                    go_wp2_with fail
                    refine B1.out.mono ?_
                    rintro e w5 ⟨z1, rfl, hz1, hb1⟩
                    have HZ := Lib.hid hz1
                    have HB1 := Lib.hid hb1
                    clear hz1 hb1 E1 B1
                    go_wp2
                    go_roundw
                    case rel =>
                      have h3 := HC.out
                      exact ⟨b' / 2, h2, Lib.hid ⟨HO.out.1, Nat.le_trans (Nat.div_le_self _ _) HO.out.2, ⟨⟨⟨by rw [HP.out]; exact h3.1.1.1, h3.1.1.2⟩, Nat.le_trans (Nat.div_le_self _ _) h3.1.2⟩, h3.2.1.all HB1.out, HZ.out, below_step h3.2.2.2 HB1.out⟩⟩⟩
                    case measure =>
                      rw [Wo.val HZ.out, HV2.out]; omega
                  · have E1 := Lib.hid (even_f hgc.2.2.1 (by omega))
                    have hbo : b' % 2 = 1 := by omega
                    have C1 := Lib.hid (wCompare_any a' b' _ _ _ hgc.2.1 hgc.2.2.1 (Nat.le_trans (NX.out _ hgc.1.1.2) (by omega)) (Nat.le_trans (NY.out _ hgc.1.2) (by omega)))
                    have HO := Lib.hid (And.intro (And.intro hao haa) (And.intro hbo hbb))
                    have HC := Lib.hid hgc
                    clear hg hgc hev hvb' hao haa hbb hbo
                    by_cases hle : b' ≤ a'
                    · have hcv : 0 ≤ Wh.cmpN a' b' := by unfold Wh.cmpN; rw [if_neg (by omega)]; split <;> omega
                      generalize Wh.cmpN a' b' = cv at *
                      go_wp2_with fail
                      refine E1.out.mono ?_
                      rintro e w5 ⟨rfl, rfl⟩
                      go_wp2_with fail
                      refine C1.out.mono ?_
                      rintro e w5 ⟨rfl, hb1⟩
                      have HC1 := Lib.hid (HC.out.all hb1)
                      have M1 := Lib.hid (wMinus_any (a' - b') b' _ _ _ (by rw [Nat.sub_add_cancel hle]; exact HC1.out.2.1) HC1.out.2.2.1 (by omega) (by rw [Nat.sub_add_cancel hle]; exact Nat.le_trans (NX.out _ HC1.out.1.1.2) (by omega)))
                      clear hb1 E1 C1 HC
                      go_wp2_with fail
                      refine M1.out.mono ?_
                      rintro e w6 ⟨z1, rfl, hz1, hb2⟩
                      have HZ := Lib.hid (And.intro hz1 hb2)
                      clear hz1 hb2 M1
                      go_wp2
                      go_roundw
                      case rel =>
                        have h3 := HC1.out
                        refine ⟨a' - b', b', Lib.hid ⟨.inr HO.out.2.1, ⟨⟨by rw [Wh.gcd_less hle]; exact h3.1.1.1, Nat.le_trans (Nat.sub_le _ _) h3.1.1.2⟩, h3.1.2⟩, HZ.out.1, h3.2.2.1.all HZ.out.2, below_step h3.2.2.2 HZ.out.2⟩⟩
                      case measure =>
                        rw [HV.out.1, HV.out.2, Wo.val HZ.out.1, Wo.val (HC1.out.2.2.1.all HZ.out.2)]
                        have h4 := HO.out.1.2
                        have h5 := HO.out.2.2
                        omega
                    · have hcv : ¬ 0 ≤ Wh.cmpN a' b' := by unfold Wh.cmpN; rw [if_pos (by omega)]; omega
                      have hle2 : a' ≤ b' := by omega
                      generalize Wh.cmpN a' b' = cv at *
                      clear hle
                      go_wp2_with fail
                      refine E1.out.mono ?_
                      rintro e w5 ⟨rfl, rfl⟩
                      go_wp2_with fail
                      refine C1.out.mono ?_
                      rintro e w5 ⟨rfl, hb1⟩
                      have HC1 := Lib.hid (HC.out.all hb1)
                      have M1 := Lib.hid (wMinus_any (b' - a') a' _ _ _ (by rw [Nat.sub_add_cancel hle2]; exact HC1.out.2.2.1) HC1.out.2.1 (by omega) (by rw [Nat.sub_add_cancel hle2]; exact Nat.le_trans (NY.out _ HC1.out.1.2) (by omega)))
                      clear hb1 E1 C1 HC
                      go_wp2_with fail
                      refine M1.out.mono ?_
                      rintro e w6 ⟨z1, rfl, hz1, hb2⟩
                      have HZ := Lib.hid (And.intro hz1 hb2)
                      clear hz1 hb2 M1
                      go_wp2
                      go_roundw
                      case rel =>
                        have h3 := HC1.out
                        exact ⟨a', b' - a', Lib.hid ⟨.inl HO.out.1.1, ⟨⟨by rw [Nat.gcd_comm, Wh.gcd_less hle2, Nat.gcd_comm]; exact h3.1.1.1, h3.1.1.2⟩, Nat.le_trans (Nat.sub_le _ _) h3.1.2⟩, h3.2.1.all HZ.out.2, HZ.out.1, below_step h3.2.2.2 HZ.out.2⟩⟩
                      case measure =>
                        rw [HV.out.1, HV.out.2, Wo.val HZ.out.1, Wo.val (HC1.out.2.1.all HZ.out.2)]
                        have h4 := HO.out.1.2
                        have h5 := HO.out.2.2
                        omega
          · obtain ⟨c, hc⟩ : ∃ c, c * 2 ^ t = G ∧ ((a = 0 ∧ c = b) ∨ (b = 0 ∧ c = a ∧ 0 < a)) := by
              rcases Nat.eq_zero_or_pos a with h | h
              · exact ⟨b, by have := hg.out.2.1.1.1; rw [h, Nat.gcd_zero_left] at this; exact this, .inl ⟨h, rfl⟩⟩
              · have hb0 : b = 0 := by omega
                exact ⟨a, by have := hg.out.2.1.1.1; rw [hb0, Nat.gcd_zero_right] at this; exact this, .inr ⟨hb0, rfl, h⟩⟩
            obtain ⟨ao, ac, rfl⟩ := hg.out.2.2.1.form
            obtain ⟨bo, bc, rfl⟩ := hg.out.2.2.2.1.form
            have HCC := Lib.hid hc.1
            have HW := Lib.hid hg.out.2.2
            have hcx := hc.2
            clear hg hc hva hvb hz
            rcases hcx with ⟨rfl, rfl⟩ | ⟨rfl, rfl, hpos⟩
            · rw [show Wh.nd 0 = 0 from rfl] at HW ⊢
              have H5 := Lib.hid (And.intro HCC.out (And.intro HW.out.2.1 HW.out.2.2))
              clear HW HCC
              go_wp2
              go_loopw [0, 5] (fun s0 s5 w3 => ∃ d q : Nat, q ≤ t ∧ s5 = .int .i64 q ∧ Hid (d * 2 ^ q = G ∧ Wo w3 s0 d ∧ Below w.heap.size w w3)) (fun _ s5 _ => (intOf s5).toNat)
              case atStart => exact ⟨_, t, Nat.le_refl _, rfl, H5⟩
              case round =>
                obtain ⟨d, q, hqt, rfl, hg⟩ := hrel
                clear H5
                obtain ⟨hd, hwd, hw⟩ := hg.out
                by_cases hq : 0 < q
                · have hdx : d ≤ x := Nat.le_trans (by rw [← hd]; exact Nat.le_mul_of_pos_right _ (Nat.pow_pos (by omega))) HGx.out
                  have T1 := Lib.hid (wTimes_any d 2 _ _ hwd (Nat.le_trans (NX.out _ hdx) (by omega)) (by omega))
                  have HD := Lib.hid hd
                  have HW := Lib.hid hw
                  clear hg hd hwd hw hdx
                  go_wp2_with fail
                  refine T1.out.mono ?_
                  rintro e w4 ⟨z1, rfl, hz1, hb1⟩
                  have HZ := Lib.hid (And.intro hz1 (below_step HW.out hb1))
                  clear hz1 hb1 HW T1
                  go_wp2
                  go_roundw
                  case rel =>
                    refine ⟨d * 2, q - 1, by omega, by first | (congr 1; omega) | go_num, Lib.hid ⟨?_, HZ.out⟩⟩
                    rw [← HD.out]
                    obtain ⟨q', rfl⟩ : ∃ q', q = q' + 1 := ⟨q - 1, by omega⟩
                    rw [Nat.add_sub_cancel, Nat.pow_succ]; simp only [Nat.mul_assoc, Nat.mul_comm, Nat.mul_left_comm]
                  case measure => simp [intOf]; omega
                · obtain rfl : q = 0 := by omega
                  rw [Nat.pow_zero, Nat.mul_one] at hd
                  rw [hd] at hwd
                  obtain ⟨da, dc, rfl⟩ := hwd.form
                  clear hg hd hq
                  go_wp2
                  go_ret
                  exact ⟨_, rfl, hwd, hw⟩
            · have hna := nd_pos hpos
              rw [show Wh.nd 0 = 0 from rfl] at HW ⊢
              have hnz : ((Wh.nd c : Int) == 0) = false := by simp; omega
              have H5 := Lib.hid (And.intro HCC.out (And.intro HW.out.1 HW.out.2.2))
              clear HW HCC
              go_wp2
              go_loopw [0, 5] (fun s0 s5 w3 => ∃ d q : Nat, q ≤ t ∧ s5 = .int .i64 q ∧ Hid (d * 2 ^ q = G ∧ Wo w3 s0 d ∧ Below w.heap.size w w3)) (fun _ s5 _ => (intOf s5).toNat)
              case atStart => exact ⟨_, t, Nat.le_refl _, rfl, H5⟩
              case round =>
                obtain ⟨d, q, hqt, rfl, hg⟩ := hrel
                clear H5
                obtain ⟨hd, hwd, hw⟩ := hg.out
                by_cases hq : 0 < q
                · have hdx : d ≤ x := Nat.le_trans (by rw [← hd]; exact Nat.le_mul_of_pos_right _ (Nat.pow_pos (by omega))) HGx.out
                  have T1 := Lib.hid (wTimes_any d 2 _ _ hwd (Nat.le_trans (NX.out _ hdx) (by omega)) (by omega))
                  have HD := Lib.hid hd
                  have HW := Lib.hid hw
                  clear hg hd hwd hw hdx
                  go_wp2_with fail
                  refine T1.out.mono ?_
                  rintro e w4 ⟨z1, rfl, hz1, hb1⟩
                  have HZ := Lib.hid (And.intro hz1 (below_step HW.out hb1))
                  clear hz1 hb1 HW T1
                  go_wp2
                  go_roundw
                  case rel =>
                    refine ⟨d * 2, q - 1, by omega, by first | (congr 1; omega) | go_num, Lib.hid ⟨?_, HZ.out⟩⟩
                    rw [← HD.out]
                    obtain ⟨q', rfl⟩ : ∃ q', q = q' + 1 := ⟨q - 1, by omega⟩
                    rw [Nat.add_sub_cancel, Nat.pow_succ]; simp only [Nat.mul_assoc, Nat.mul_comm, Nat.mul_left_comm]
                  case measure => simp [intOf]; omega
                · obtain rfl : q = 0 := by omega
                  rw [Nat.pow_zero, Nat.mul_one] at hd
                  rw [hd] at hwd
                  obtain ⟨da, dc, rfl⟩ := hwd.form
                  clear hg hd hq
                  go_wp2
                  go_ret
                  exact ⟨_, rfl, hwd, hw⟩
      · have E1 := Lib.hid (even_f hg.out.1.2.1 (by omega))
        clear hg hev hea
        go_wp2_with fail
        refine E1.out.mono ?_
        rintro e w1 ⟨rfl, rfl⟩
        clear E1
        go_wp2
        go_loopw [0, 1] (fun s0 s1 w2 => ∃ a b : Nat, Hid ((a % 2 = 1 ∨ b % 2 = 1) ∧ Gc w w2 G x y s0 s1 a b t)) (fun s0 s1 w2 => valW w2 s0 + valW w2 s1)
        case atStart => exact ⟨a, b, H1⟩
        case round =>
          obtain ⟨a, b, hg⟩ := hrel
          clear H1 ha hb
          have hva := Wo.val hg.out.2.2.1
          have hvb := Wo.val hg.out.2.2.2.1
          by_cases hz : 0 < a ∧ 0 < b
          · obtain ⟨ha, hb⟩ := hz
            obtain ⟨ao, ac, rfl⟩ := hg.out.2.2.1.form
            obtain ⟨bo, bc, rfl⟩ := hg.out.2.2.2.1.form
            have hna := nd_pos ha
            have hnb := nd_pos hb
            have HV := Lib.hid (And.intro hva hvb)
            have H2 := Lib.hid (And.intro (And.intro ha hb) hg.out)
            clear hg hva hvb
            go_wp2
            go_loopw [0] (fun s0 w3 => ∃ a' : Nat, 0 < a' ∧ Hid ((a' % 2 = 1 ∨ b % 2 = 1) ∧ a' ≤ a ∧ Gc w w3 G x y s0 (.slice bo (Wh.nd b) bc) a' b t)) (fun s0 w3 => valW w3 s0)
            case atStart => exact ⟨a, ha, Lib.hid ⟨H2.out.2.1, Nat.le_refl _, H2.out.2.2⟩⟩
            case round =>
              obtain ⟨a', ha', hg⟩ := hrel
              clear H2
              obtain ⟨hodd, haa, hgc⟩ := hg.out
              have hva' := Wo.val hgc.2.1
              by_cases hev : a' % 2 = 0
              · have E1 := Lib.hid (even_t hgc.2.1 hev)
                have B1 := Lib.hid (wBy_any a' 2 _ _ hgc.2.1 (Nat.le_trans (NX.out _ hgc.1.1.2) (by omega)) (by omega) (by omega))
                have HP := Lib.hid (show Nat.gcd (a' / 2) b = Nat.gcd a' b from Wh.gcd_half hev (by omega))
                have HV2 := Lib.hid hva'
                have HO := Lib.hid (And.intro (show a' / 2 % 2 = 1 ∨ b % 2 = 1 by omega) haa)
                have HC := Lib.hid hgc
                have h2 : 0 < a' / 2 := by omega
                clear hg hgc hev hva' hodd haa
                go_wp2_with fail
                refine E1.out.mono ?_
                rintro e w4 ⟨rfl, rfl⟩
                go_wp2_with fail
                refine B1.out.mono ?_
                rintro e w4 ⟨z1, rfl, hz1, hb1⟩
                have HZ := Lib.hid hz1
                have HB1 := Lib.hid hb1
                clear hz1 hb1 E1 B1
                go_wp2
                go_roundw
                case rel =>
                  have h3 := HC.out
                  refine ⟨a' / 2, h2, Lib.hid ⟨?_, Nat.le_trans (Nat.div_le_self _ _) HO.out.2, ⟨⟨⟨by rw [HP.out]; exact h3.1.1.1, Nat.le_trans (Nat.div_le_self _ _) h3.1.1.2⟩, h3.1.2⟩, HZ.out, h3.2.2.1.all HB1.out, below_step h3.2.2.2 HB1.out⟩⟩⟩
                  exact HO.out.1
                case measure =>
                  rw [Wo.val HZ.out, HV2.out]; omega
              · have E1 := Lib.hid (even_f hgc.2.1 (by omega))
                have H3 := Lib.hid (And.intro (show a' % 2 = 1 by omega) (And.intro haa hgc))
                clear hg hgc hev hva' hodd haa
                go_wp2_with fail
                refine E1.out.mono ?_
                rintro e w4 ⟨rfl, rfl⟩
                clear E1
                go_wp2
                go_loopw [1] (fun s1 w4 => ∃ b' : Nat, 0 < b' ∧ Hid ((a' % 2 = 1 ∧ a' ≤ a) ∧ b' ≤ b ∧ Gc w w4 G x y u0 s1 a' b' t)) (fun s1 w4 => valW w4 s1)
                case atStart => exact ⟨b, hb, Lib.hid ⟨⟨H3.out.1, H3.out.2.1⟩, Nat.le_refl _, H3.out.2.2⟩⟩
                case round =>
                  obtain ⟨b', hb', hg⟩ := hrel
                  clear H3
                  obtain ⟨⟨hao, haa⟩, hbb, hgc⟩ := hg.out
                  have hvb' := Wo.val hgc.2.2.1
                  by_cases hev : b' % 2 = 0
                  · have E1 := Lib.hid (even_t hgc.2.2.1 hev)
                    have B1 := Lib.hid (wBy_any b' 2 _ _ hgc.2.2.1 (Nat.le_trans (NY.out _ hgc.1.2) (by omega)) (by omega) (by omega))
                    have HP := Lib.hid (show Nat.gcd a' (b' / 2) = Nat.gcd a' b' by rw [Nat.gcd_comm, Wh.gcd_half hev hao, Nat.gcd_comm])
                    have HV2 := Lib.hid hvb'
                    have HO := Lib.hid (And.intro (And.intro hao haa) hbb)
                    have HC := Lib.hid hgc
                    have h2 : 0 < b' / 2 := by omega
                    clear hg hgc hev hvb' hao haa hbb
                    go_wp2_with fail
                    refine E1.out.mono ?_
                    rintro e w5 ⟨rfl, rfl⟩
                    go_wp2_with fail
                    refine B1.out.mono ?_
                    rintro e w5 ⟨z1, rfl, hz1, hb1⟩
                    have HZ := Lib.hid hz1
                    have HB1 := Lib.hid hb1
                    clear hz1 hb1 E1 B1
                    go_wp2
                    go_roundw
                    case rel =>
                      have h3 := HC.out
                      exact ⟨b' / 2, h2, Lib.hid ⟨HO.out.1, Nat.le_trans (Nat.div_le_self _ _) HO.out.2, ⟨⟨⟨by rw [HP.out]; exact h3.1.1.1, h3.1.1.2⟩, Nat.le_trans (Nat.div_le_self _ _) h3.1.2⟩, h3.2.1.all HB1.out, HZ.out, below_step h3.2.2.2 HB1.out⟩⟩⟩
                    case measure =>
                      rw [Wo.val HZ.out, HV2.out]; omega
                  · have E1 := Lib.hid (even_f hgc.2.2.1 (by omega))
                    have hbo : b' % 2 = 1 := by omega
                    have C1 := Lib.hid (wCompare_any a' b' _ _ _ hgc.2.1 hgc.2.2.1 (Nat.le_trans (NX.out _ hgc.1.1.2) (by omega)) (Nat.le_trans (NY.out _ hgc.1.2) (by omega)))
                    have HO := Lib.hid (And.intro (And.intro hao haa) (And.intro hbo hbb))
                    have HC := Lib.hid hgc
                    clear hg hgc hev hvb' hao haa hbb hbo
                    by_cases hle : b' ≤ a'
                    · have hcv : 0 ≤ Wh.cmpN a' b' := by unfold Wh.cmpN; rw [if_neg (by omega)]; split <;> omega
                      generalize Wh.cmpN a' b' = cv at *
                      go_wp2_with fail
                      refine E1.out.mono ?_
                      rintro e w5 ⟨rfl, rfl⟩
                      go_wp2_with fail
                      refine C1.out.mono ?_
                      rintro e w5 ⟨rfl, hb1⟩
                      have HC1 := Lib.hid (HC.out.all hb1)
                      have M1 := Lib.hid (wMinus_any (a' - b') b' _ _ _ (by rw [Nat.sub_add_cancel hle]; exact HC1.out.2.1) HC1.out.2.2.1 (by omega) (by rw [Nat.sub_add_cancel hle]; exact Nat.le_trans (NX.out _ HC1.out.1.1.2) (by omega)))
                      clear hb1 E1 C1 HC
                      go_wp2_with fail
                      refine M1.out.mono ?_
                      rintro e w6 ⟨z1, rfl, hz1, hb2⟩
                      have HZ := Lib.hid (And.intro hz1 hb2)
                      clear hz1 hb2 M1
                      go_wp2
                      go_roundw
                      case rel =>
                        have h3 := HC1.out
                        refine ⟨a' - b', b', Lib.hid ⟨.inr HO.out.2.1, ⟨⟨by rw [Wh.gcd_less hle]; exact h3.1.1.1, Nat.le_trans (Nat.sub_le _ _) h3.1.1.2⟩, h3.1.2⟩, HZ.out.1, h3.2.2.1.all HZ.out.2, below_step h3.2.2.2 HZ.out.2⟩⟩
                      case measure =>
                        rw [HV.out.1, HV.out.2, Wo.val HZ.out.1, Wo.val (HC1.out.2.2.1.all HZ.out.2)]
                        have h4 := HO.out.1.2
                        have h5 := HO.out.2.2
                        omega
                    · have hcv : ¬ 0 ≤ Wh.cmpN a' b' := by unfold Wh.cmpN; rw [if_pos (by omega)]; omega
                      have hle2 : a' ≤ b' := by omega
                      generalize Wh.cmpN a' b' = cv at *
                      clear hle
                      go_wp2_with fail
                      refine E1.out.mono ?_
                      rintro e w5 ⟨rfl, rfl⟩
                      go_wp2_with fail
                      refine C1.out.mono ?_
                      rintro e w5 ⟨rfl, hb1⟩
                      have HC1 := Lib.hid (HC.out.all hb1)
                      have M1 := Lib.hid (wMinus_any (b' - a') a' _ _ _ (by rw [Nat.sub_add_cancel hle2]; exact HC1.out.2.2.1) HC1.out.2.1 (by omega) (by rw [Nat.sub_add_cancel hle2]; exact Nat.le_trans (NY.out _ HC1.out.1.2) (by omega)))
                      clear hb1 E1 C1 HC
                      go_wp2_with fail
                      refine M1.out.mono ?_
                      rintro e w6 ⟨z1, rfl, hz1, hb2⟩
                      have HZ := Lib.hid (And.intro hz1 hb2)
                      clear hz1 hb2 M1
                      go_wp2
                      go_roundw
                      case rel =>
                        have h3 := HC1.out
                        exact ⟨a', b' - a', Lib.hid ⟨.inl HO.out.1.1, ⟨⟨by rw [Nat.gcd_comm, Wh.gcd_less hle2, Nat.gcd_comm]; exact h3.1.1.1, h3.1.1.2⟩, Nat.le_trans (Nat.sub_le _ _) h3.1.2⟩, h3.2.1.all HZ.out.2, HZ.out.1, below_step h3.2.2.2 HZ.out.2⟩⟩
                      case measure =>
                        rw [HV.out.1, HV.out.2, Wo.val HZ.out.1, Wo.val (HC1.out.2.1.all HZ.out.2)]
                        have h4 := HO.out.1.2
                        have h5 := HO.out.2.2
                        omega
          · obtain ⟨c, hc⟩ : ∃ c, c * 2 ^ t = G ∧ ((a = 0 ∧ c = b) ∨ (b = 0 ∧ c = a ∧ 0 < a)) := by
              rcases Nat.eq_zero_or_pos a with h | h
              · exact ⟨b, by have := hg.out.2.1.1.1; rw [h, Nat.gcd_zero_left] at this; exact this, .inl ⟨h, rfl⟩⟩
              · have hb0 : b = 0 := by omega
                exact ⟨a, by have := hg.out.2.1.1.1; rw [hb0, Nat.gcd_zero_right] at this; exact this, .inr ⟨hb0, rfl, h⟩⟩
            obtain ⟨ao, ac, rfl⟩ := hg.out.2.2.1.form
            obtain ⟨bo, bc, rfl⟩ := hg.out.2.2.2.1.form
            have HCC := Lib.hid hc.1
            have HW := Lib.hid hg.out.2.2
            have hcx := hc.2
            clear hg hc hva hvb hz
            rcases hcx with ⟨rfl, rfl⟩ | ⟨rfl, rfl, hpos⟩
            · rw [show Wh.nd 0 = 0 from rfl] at HW ⊢
              have H5 := Lib.hid (And.intro HCC.out (And.intro HW.out.2.1 HW.out.2.2))
              clear HW HCC
              go_wp2
              go_loopw [0, 5] (fun s0 s5 w3 => ∃ d q : Nat, q ≤ t ∧ s5 = .int .i64 q ∧ Hid (d * 2 ^ q = G ∧ Wo w3 s0 d ∧ Below w.heap.size w w3)) (fun _ s5 _ => (intOf s5).toNat)
              case atStart => exact ⟨_, t, Nat.le_refl _, rfl, H5⟩
              case round =>
                obtain ⟨d, q, hqt, rfl, hg⟩ := hrel
                clear H5
                obtain ⟨hd, hwd, hw⟩ := hg.out
                by_cases hq : 0 < q
                · have hdx : d ≤ x := Nat.le_trans (by rw [← hd]; exact Nat.le_mul_of_pos_right _ (Nat.pow_pos (by omega))) HGx.out
                  have T1 := Lib.hid (wTimes_any d 2 _ _ hwd (Nat.le_trans (NX.out _ hdx) (by omega)) (by omega))
                  have HD := Lib.hid hd
                  have HW := Lib.hid hw
                  clear hg hd hwd hw hdx
                  go_wp2_with fail
                  refine T1.out.mono ?_
                  rintro e w4 ⟨z1, rfl, hz1, hb1⟩
                  have HZ := Lib.hid (And.intro hz1 (below_step HW.out hb1))
                  clear hz1 hb1 HW T1
                  go_wp2
                  go_roundw
                  case rel =>
                    refine ⟨d * 2, q - 1, by omega, by first | (congr 1; omega) | go_num, Lib.hid ⟨?_, HZ.out⟩⟩
                    rw [← HD.out]
                    obtain ⟨q', rfl⟩ : ∃ q', q = q' + 1 := ⟨q - 1, by omega⟩
                    rw [Nat.add_sub_cancel, Nat.pow_succ]; simp only [Nat.mul_assoc, Nat.mul_comm, Nat.mul_left_comm]
                  case measure => simp [intOf]; omega
                · obtain rfl : q = 0 := by omega
                  rw [Nat.pow_zero, Nat.mul_one] at hd
                  rw [hd] at hwd
                  obtain ⟨da, dc, rfl⟩ := hwd.form
                  clear hg hd hq
                  go_wp2
                  go_ret
                  exact ⟨_, rfl, hwd, hw⟩
            · have hna := nd_pos hpos
              rw [show Wh.nd 0 = 0 from rfl] at HW ⊢
              have hnz : ((Wh.nd c : Int) == 0) = false := by simp; omega
              have H5 := Lib.hid (And.intro HCC.out (And.intro HW.out.1 HW.out.2.2))
              clear HW HCC
              go_wp2
              go_loopw [0, 5] (fun s0 s5 w3 => ∃ d q : Nat, q ≤ t ∧ s5 = .int .i64 q ∧ Hid (d * 2 ^ q = G ∧ Wo w3 s0 d ∧ Below w.heap.size w w3)) (fun _ s5 _ => (intOf s5).toNat)
              case atStart => exact ⟨_, t, Nat.le_refl _, rfl, H5⟩
              case round =>
                obtain ⟨d, q, hqt, rfl, hg⟩ := hrel
                clear H5
                obtain ⟨hd, hwd, hw⟩ := hg.out
                by_cases hq : 0 < q
                · have hdx : d ≤ x := Nat.le_trans (by rw [← hd]; exact Nat.le_mul_of_pos_right _ (Nat.pow_pos (by omega))) HGx.out
                  have T1 := Lib.hid (wTimes_any d 2 _ _ hwd (Nat.le_trans (NX.out _ hdx) (by omega)) (by omega))
                  have HD := Lib.hid hd
                  have HW := Lib.hid hw
                  clear hg hd hwd hw hdx
                  go_wp2_with fail
                  refine T1.out.mono ?_
                  rintro e w4 ⟨z1, rfl, hz1, hb1⟩
                  have HZ := Lib.hid (And.intro hz1 (below_step HW.out hb1))
                  clear hz1 hb1 HW T1
                  go_wp2
                  go_roundw
                  case rel =>
                    refine ⟨d * 2, q - 1, by omega, by first | (congr 1; omega) | go_num, Lib.hid ⟨?_, HZ.out⟩⟩
                    rw [← HD.out]
                    obtain ⟨q', rfl⟩ : ∃ q', q = q' + 1 := ⟨q - 1, by omega⟩
                    rw [Nat.add_sub_cancel, Nat.pow_succ]; simp only [Nat.mul_assoc, Nat.mul_comm, Nat.mul_left_comm]
                  case measure => simp [intOf]; omega
                · obtain rfl : q = 0 := by omega
                  rw [Nat.pow_zero, Nat.mul_one] at hd
                  rw [hd] at hwd
                  obtain ⟨da, dc, rfl⟩ := hwd.form
                  clear hg hd hq
                  go_wp2
                  go_ret
                  exact ⟨_, rfl, hwd, hw⟩
end Go.Proofs.Ytccjbefmcifaeaa
namespace Go.Proofs.Ytccjbefmcifaeaa
open Go.RowKit

theorem cmp_neg {d a b : Nat} (hd : 0 < d) (h : a < b) : Wh.cmpN (d * a) (d * b) < 0 := by
  rw [cmp_lt (Nat.mul_lt_mul_of_pos_left h hd)]; omega
theorem cmp_pos {d a b : Nat} (h : b ≤ a) : ¬ Wh.cmpN (d * a) (d * b) < 0 := by
  have : d * b ≤ d * a := Nat.mul_le_mul_left _ h
  unfold Wh.cmpN
  rw [if_neg (by omega)]
  split <;> omega

set_option maxRecDepth 20000 in
set_option maxHeartbeats 1000000 in
theorem wQuot_any (d q most : Nat) (v u : Value) (w : World) (hv : Wo w v (d * q)) (hu : Wo w u d) (hd : 0 < d) (hn : Wh.nd (d * q) ≤ 95) (hnd : Wh.nd d ≤ 95) (hm : most ≤ 1048576) :
    Calls Try.prog 106 #[v, u, .int .i64 most] w fun e w' => e = .returned (.tuple #[.int .i64 (if q ≤ most then (q : Int) else 0), .bool (decide (q ≤ most))]) ∧ Below w.heap.size w w' := by
  have T0 := Lib.hid (wTimes_any d most u w hu (by omega) (by omega))
  have HV := Lib.hid (And.intro hv (And.intro hu (And.intro hn hnd)))
  have H102 := Lib.hid (fun k (hk : k ≤ 274877906944) => Wh.nd_le (nd_times (n := d) (k := k) (by omega) hk))
  have HD := Lib.hid hd
  obtain ⟨va, vc, rfl⟩ := hv.form
  obtain ⟨ua, uc, rfl⟩ := hu.form
  clear hv hu hn hnd hd
  by_cases hq : q ≤ most
  · rw [if_pos hq, decide_eq_true hq]
    have hc := cmp_pos (d := d) hq
    go_enter Try.func106, Try.ntmps106
    go_wp2_with fail
    refine T0.out.mono ?_
    rintro e w1 ⟨z1, rfl, hz1, hb1⟩
    have C1 := Lib.hid (wCompare_any _ _ _ _ _ hz1 (HV.out.1.all hb1) (Nat.le_trans (H102.out _ (by omega)) (by omega)) (Nat.le_trans HV.out.2.2.1 (by omega)))
    have HB1 := Lib.hid hb1
    clear hz1 hb1 T0
    generalize Wh.cmpN (d * most) (d * q) = cv at *
    go_wp2_with fail
    refine C1.out.mono ?_
    rintro e w2 ⟨rfl, hb2⟩
    have H2 := Lib.hid (below_step HB1.out hb2)
    clear hb2 C1 HB1
    go_wp2
    clear hc
    go_loopw [8, 9] (fun s t wr => ∃ lo hi : Nat, (lo ≤ q ∧ q ≤ hi ∧ hi ≤ most) ∧ s = .int .i64 lo ∧ t = .int .i64 hi ∧ Hid (Below w.heap.size w wr)) (fun s t _ => (intOf t - intOf s).toNat)
    case atStart => exact ⟨0, most, ⟨Nat.zero_le _, hq, Nat.le_refl _⟩, rfl, rfl, H2⟩
    case round =>
      obtain ⟨lo, hi, hlh, rfl, rfl, hg⟩ := hrel
      clear H2
      obtain ⟨hl, hh, hhm⟩ := hlh
      by_cases hlt : lo < hi
      · obtain ⟨mid, hmid⟩ : ∃ mid, (lo + hi) / 2 = mid := ⟨_, rfl⟩
        have hmi : ((lo : Int) + (hi : Int)) / 2 = (mid : Int) := by omega
        have hml : lo ≤ mid ∧ mid < hi := by omega
        obtain ⟨hm1, hm2⟩ := hml
        have T1 := Lib.hid (wTimes_any d mid _ _ (HV.out.2.1.all (hg.out)) (Nat.le_trans HV.out.2.2.2 (by omega)) (by omega))
        clear hmid
        go_wp2_with fail
        refine T1.out.mono ?_
        rintro e w3 ⟨z1, rfl, hz1, hb1⟩
        have hw3 := below_step hg.out hb1
        have C1 := Lib.hid (wCompare_any _ _ _ _ _ hz1 (HV.out.1.all hw3) (Nat.le_trans (H102.out _ (by omega)) (by omega)) (Nat.le_trans HV.out.2.2.1 (by omega)))
        have HW3 := Lib.hid hw3
        clear hz1 hb1 T1 hg hw3
        by_cases hmq : mid < q
        · have hc := cmp_neg HD.out hmq
          generalize Wh.cmpN (d * mid) (d * q) = cv at *
          go_wp2_with fail
          refine C1.out.mono ?_
          rintro e w4 ⟨rfl, hb2⟩
          have H4 := Lib.hid (below_step HW3.out hb2)
          clear hb2 C1 HW3
          go_wp2
          go_roundw
          case rel => exact ⟨mid + 1, hi, ⟨by omega, by omega, by omega⟩, by go_num, rfl, H4⟩
          case measure => simp [intOf]; omega
        · have hc := cmp_pos (d := d) (show q ≤ mid by omega)
          generalize Wh.cmpN (d * mid) (d * q) = cv at *
          go_wp2_with fail
          refine C1.out.mono ?_
          rintro e w4 ⟨rfl, hb2⟩
          have H4 := Lib.hid (below_step HW3.out hb2)
          clear hb2 C1 HW3
          go_wp2
          go_roundw
          case rel => exact ⟨lo, mid, ⟨by omega, by omega, by omega⟩, rfl, by first | rfl | (rw [hmi]), H4⟩
          case measure => simp [intOf]; omega
      · obtain rfl : lo = q := by omega
        have hw := hg.out
        clear hg
        go_wp2
        go_ret2
        exact ⟨rfl, hw⟩
  · rw [if_neg hq, decide_eq_false hq]
    have hc := cmp_neg HD.out (show most < q by omega)
    go_enter Try.func106, Try.ntmps106
    go_wp2_with fail
    refine T0.out.mono ?_
    rintro e w1 ⟨z1, rfl, hz1, hb1⟩
    have C1 := Lib.hid (wCompare_any _ _ _ _ _ hz1 (HV.out.1.all hb1) (Nat.le_trans (H102.out _ (by omega)) (by omega)) (Nat.le_trans HV.out.2.2.1 (by omega)))
    have HB1 := Lib.hid hb1
    clear hz1 hb1 T0
    generalize Wh.cmpN (d * most) (d * q) = cv at *
    go_wp2_with fail
    refine C1.out.mono ?_
    rintro e w2 ⟨rfl, hb2⟩
    have H2 := Lib.hid (below_step HB1.out hb2)
    clear hb2 C1 HB1
    go_wp2
    go_ret2
    exact ⟨rfl, H2.out⟩
end Go.Proofs.Ytccjbefmcifaeaa
