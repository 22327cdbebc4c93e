/- The poles of a hanging: of the program and of the reference. -/
import Derived.Test.YtabfcnfddemblaaLf1
namespace Go.Proofs.Ytabfcnfddemblaa.Lo
open Go.RowKit

theorem pol_bad {h : Lf.H} {n : Int} (hc : (Lf.vH h && Lf.rng 0 1000000 n) = false) : Lf.polE h n = 1 ∧ Lf.polL h n = [] := by
  have e : Lf.polE h n = 1 := by rw [Lf.polE, if_neg (by rw [hc]; decide)]
  exact ⟨e, by rw [Lf.polL, if_neg (by omega)]⟩
theorem pol_few {h : Lf.H} {n : Int} (hc : (Lf.vH h && Lf.rng 0 1000000 n) = true) (hk : Lf.np h n ≤ 1000) : Lf.polE h n = 0 ∧ Lf.polL h n = Lf.pl h (Lf.np h n) := by
  have e : Lf.polE h n = 0 := by rw [Lf.polE, if_pos hc, if_pos hk]
  exact ⟨e, by rw [Lf.polL, if_pos e]⟩
theorem pol_many {h : Lf.H} {n : Int} (hc : (Lf.vH h && Lf.rng 0 1000000 n) = true) (hk : 1000 < Lf.np h n) : Lf.polE h n = 4 ∧ Lf.polL h n = [] := by
  have e : Lf.polE h n = 4 := by rw [Lf.polE, if_pos hc, if_neg (by omega)]
  exact ⟨e, by rw [Lf.polL, if_neg (by omega)]⟩
theorem pl_next {h : Lf.H} {x : Int} {k : Nat} (hx : x = h.s + 2 * h.d * (k : Int)) : x + 2 * h.d = h.s + 2 * h.d * ((k + 1 : Nat) : Int) := by
  rw [hx, Int.natCast_add, Int.mul_add]; simp; omega
theorem pl_end {h : Lf.H} {n x : Int} {k : Nat} (hd : 1 ≤ h.d) (hx : x = h.s + 2 * h.d * (k : Int)) (hk : k ≤ Lf.np h n) (hn : ¬ x < n) : k = Lf.np h n := by
  by_cases e : k < Lf.np h n
  · have := (Lf.np_iff hd k).1 e; omega
  · omega
theorem pl_more {h : Lf.H} {n x : Int} {k : Nat} (hd : 1 ≤ h.d) (hx : x = h.s + 2 * h.d * (k : Int)) (hn : x < n) : k < Lf.np h n := (Lf.np_iff hd k).2 (by omega)
theorem ul_ints : Try.prog.underlying 24 = some (.slice 3) := Try.underlying24
theorem OwnI.form {base : Nat} {w : World} {v : Value} {xs : List Int} (h : OwnI base w v xs) : ∃ a c, v = .slice a xs.length c := (OwnG.rows (c := 1) (cs := intL) (fun _ => rfl) h).form
/-- Poles in memory: the hanging and what has been found. -/
def PoS (w : World) (h : Lf.H) (HT : TypeId) (a : Option Addr) (k c : Nat) (wr : World) : Prop := OwnI w.heap.size wr (.slice a k c) (Lf.pl h k) ∧ BlockAt wr w.heap.size (hangA h) HT ∧ Below w.heap.size w wr
set_option maxRecDepth 100000 in
set_option maxHeartbeats 4000000 in
theorem poles_any (h : Lf.H) (n : Int) (w : World) : Calls Try.prog 16 #[.int .i64 n, hangV h] w fun e w' => ∃ a c, e = .returned (.tuple #[.slice a (Lf.polL h n).length c, .int .i64 (Lf.polE h n)]) ∧ OwnI w.heap.size w' (.slice a (Lf.polL h n).length c) (Lf.polL h n) ∧ Below w.heap.size w w' := by
  obtain ⟨i0, hi, hz0, hz1, hz2⟩ := info_parts infoInt
  have HB0 := Lib.hid (BlockAt.new w (hangA h) HangT)
  have HW := Lib.hid (And.intro (HgB.of (BlockAt.new w (hangA h) HangT)) (below_alloc2 (Below.refl w.heap.size w) (.cells (hangA h) HangT)))
  have CV := Lib.hid (fun W => vHang_any h W)
  have CR := Lib.hid (fun W => isFrom_any 0 1000000 n W)
  cases hv : Lf.vH h
  · obtain ⟨e1, e2⟩ := pol_bad (h := h) (n := n) (by rw [hv]; rfl)
    rw [e1, e2]
    rw [hv] at CV
    clear e1 e2 hv CR HB0
    have y0 : World.cell? _ _ = some (.int .i64 h.d) := HW.out.1.1.1
    have y1 : World.cell? _ _ = some (.int .i64 h.s) := HW.out.1.1.2.1
    have y2 : World.cell? _ _ = some (.int .i64 h.y) := HW.out.1.1.2.2.1
    have y3 : World.cell? _ _ = some (.int .i64 h.r) := HW.out.1.1.2.2.2.1
    have y4 : World.cell? _ _ = some (.int .i64 h.f) := HW.out.1.1.2.2.2.2
    go_enter Try.func16, Try.ntmps16
    go_wp2_with fail
    refine (CV.out _).mono ?_
    rintro e w7 ⟨rfl, hb1⟩
    have HN := Lib.hid (And.intro (HW.out.1.below hb1 HW.out.1.2) (below_step HW.out.2 hb1))
    clear hb1 y0 y1 y2 y3 y4
    go_wp2
    go_ret2
    exact ⟨none, 0, rfl, OwnG.nil _ _, HN.out.2⟩
  cases hr : Lf.rng 0 1000000 n
  · obtain ⟨e1, e2⟩ := pol_bad (h := h) (n := n) (by rw [hv, hr]; rfl)
    rw [e1, e2]
    rw [hv] at CV
    rw [hr] at CR
    clear e1 e2 hv hr HB0
    have y0 : World.cell? _ _ = some (.int .i64 h.d) := HW.out.1.1.1
    have y1 : World.cell? _ _ = some (.int .i64 h.s) := HW.out.1.1.2.1
    have y2 : World.cell? _ _ = some (.int .i64 h.y) := HW.out.1.1.2.2.1
    have y3 : World.cell? _ _ = some (.int .i64 h.r) := HW.out.1.1.2.2.2.1
    have y4 : World.cell? _ _ = some (.int .i64 h.f) := HW.out.1.1.2.2.2.2
    go_enter Try.func16, Try.ntmps16
    go_wp2_with fail
    refine (CV.out _).mono ?_
    rintro e w7 ⟨rfl, hb1⟩
    have HN := Lib.hid (And.intro (HW.out.1.below hb1 HW.out.1.2) (below_step HW.out.2 hb1))
    clear hb1 y0 y1 y2 y3 y4
    go_wp2_with fail
    refine (CR.out _).mono ?_
    rintro e w8 ⟨rfl, rfl⟩
    go_wp2
    go_ret2
    exact ⟨none, 0, rfl, OwnG.nil _ _, HN.out.2⟩
  obtain ⟨⟨d1, d2⟩, ⟨s1, s2⟩, _⟩ := Lf.vH_iff.1 hv
  obtain ⟨n1, n2⟩ := Lf.rng_iff.1 hr
  have HF := Lib.hid (fun (hk : Lf.np h n ≤ 1000) => pol_few (h := h) (n := n) (by rw [hv, hr]; rfl) hk)
  have HM := Lib.hid (fun (hk : 1000 < Lf.np h n) => pol_many (h := h) (n := n) (by rw [hv, hr]; rfl) hk)
  have HNX := Lib.hid (fun (x : Int) (k : Nat) hx => pl_next (h := h) (x := x) (k := k) hx)
  have HEN := Lib.hid (fun (x : Int) (k : Nat) hx hk hn => pl_end (h := h) (n := n) (x := x) (k := k) d1 hx hk hn)
  have HMO := Lib.hid (fun (x : Int) (k : Nat) hx hn => pl_more (h := h) (n := n) (x := x) (k := k) d1 hx hn)
  have HPS := Lib.hid (fun k => Lf.pl_succ h k)
  have HPL := Lib.hid (fun k => Lf.pl_len h k)
  have HX0 : Hid (h.s = h.s + 2 * h.d * ((0 : Nat) : Int)) := Lib.hid (by simp)
  rw [hv] at CV
  rw [hr] at CR
  clear hv hr
  obtain ⟨PL, hPL⟩ : ∃ l, l = Lf.polL h n := ⟨_, rfl⟩
  obtain ⟨PE, hPE⟩ : ∃ l, l = Lf.polE h n := ⟨_, rfl⟩
  rw [← hPL, ← hPE]
  have HPP := Lib.hid (And.intro hPL hPE)
  clear hPL hPE
  have y0 : World.cell? _ _ = some (.int .i64 h.d) := HW.out.1.1.1
  have y1 : World.cell? _ _ = some (.int .i64 h.s) := HW.out.1.1.2.1
  have y2 : World.cell? _ _ = some (.int .i64 h.y) := HW.out.1.1.2.2.1
  have y3 : World.cell? _ _ = some (.int .i64 h.r) := HW.out.1.1.2.2.2.1
  have y4 : World.cell? _ _ = some (.int .i64 h.f) := HW.out.1.1.2.2.2.2
  go_enter Try.func16, Try.ntmps16
  go_wp2_with fail
  refine (CV.out _).mono ?_
  rintro e w7 ⟨rfl, hb1⟩
  have HN := Lib.hid (And.intro (HW.out.1.below hb1 HW.out.1.2) (below_step HW.out.2 hb1))
  have HB1 := Lib.hid (HB0.out.below hb1 HB0.out.lt)
  clear hb1 y0 y1 y2 y3 y4
  go_wp2_with fail
  refine (CR.out _).mono ?_
  rintro e w8 ⟨rfl, rfl⟩
  have x0 : World.cell? _ _ = some (.int .i64 h.d) := HN.out.1.1.1
  have x1 : World.cell? _ _ = some (.int .i64 h.s) := HN.out.1.1.2.1
  have HS0 := Lib.hid (show PoS w h HangT none 0 0 _ from ⟨OwnG.nil _ _, HB1.out, HN.out.2⟩)
  clear HN HB1 HW HB0 CV CR
  go_wp2
  clear x0 x1
  go_loopw [6, 7] (fun s t wr => ∃ (k : Nat) (x : Int) (a : Option Addr) (c : Nat), k ≤ 1000 ∧ (0 ≤ x ∧ x ≤ 1002000) ∧ s = .slice a k c ∧ t = .int .i64 x ∧ Hid ((x = h.s + 2 * h.d * (k : Int) ∧ k ≤ Lf.np h n) ∧ PoS w h HangT a k c wr)) (fun _ t _ => (1002001 - intOf t).toNat)
  case atStart => exact ⟨0, h.s, none, 0, Nat.zero_le _, ⟨by omega, by omega⟩, rfl, rfl, Lib.hid ⟨⟨HX0.out, Nat.zero_le _⟩, HS0.out⟩⟩
  case round =>
    obtain ⟨k, x, a, c, hk, ⟨hx0, hx1⟩, rfl, rfl, hg⟩ := hrel
    clear HS0 HX0
    by_cases hlt : x < n
    · have HKN := Lib.hid (HMO.out x k hg.out.1.1 hlt)
      have HXN := Lib.hid (HNX.out x k hg.out.1.1)
      by_cases h1000 : k = 1000
      · subst h1000
        obtain ⟨e1, e2⟩ := HM.out HKN.out
        have HE := Lib.hid (And.intro (HPP.out.1.trans e2) (HPP.out.2.trans e1))
        have HG := Lib.hid hg.out.2
        clear hg e1 e2
        go_wp2
        go_ret2
        rw [HE.out.1, HE.out.2]
        exact ⟨none, 0, rfl, OwnG.nil _ _, HG.out.2.2⟩
      have hkd : decide ((k : Int) = 1000) = false := decide_eq_false (by omega)
      have hke : ((k : Int) == 1000) = false := beq_eq_false_iff_ne.2 (by omega)
      have hown := hg.out.2.1
      have x0 : World.cell? _ _ = some (.int .i64 h.d) := hg.out.2.2.1.cell 0
      have hX := hg.out.1.1
      have hsz := hg.out.2.2.2.size
      have HG := Lib.hid hg.out.2
      have HX := Lib.hid hX
      have hca := cells_new (cs := intL x) wr 3
      have HPL1 := HPL.out k
      have HPS1 := HPS.out k
      rw [← hX] at HPS1
      have hown2 : OwnI w.heap.size wr (.slice a (Lf.pl h k).length c) (Lf.pl h k) := by rw [HPL1]; exact hown
      clear hg hX hown
      generalize Lf.pl h k = L at *
      subst HPL1
      generalize hXX : Lf.pl h (L.length + 1) = L9 at *
      have HL9 := Lib.hid HPS1
      have HL8 := Lib.hid hXX
      clear HPS1 hXX
      go_wp2_with (at_builtin; refine wpList_append_own _ rfl _ _ 24 rfl w.heap.size 3 i0 (.int .i64 0) 1 8 Try.underlying24 hi hz0 hz1 hz2 rfl (by decide) _ _ _ rfl (hown2.alloc _) ⟨wr.heap.size, 0, none⟩ 1 1 (intL x) rfl rfl ?c1 (intL_one _) ?c3 ?c4 ?c5 ?_)
      case c1 => exact hca
      case c3 => unfold maxLen; omega
      case c4 => omega
      case c5 => first | omega | (simp; omega)
      intro v' w9 hr9 hg9 _
      have hw9 := (below_alloc2 HG.out.2.2 (.cells (intL x).toArray 3)).grown hg9 (by simp; omega) (fun j e => (World.ownsRow.lt hown2 j e).1)
      have hp9 : OwnI w.heap.size w9 v' (L ++ [x]) := OwnG.pushed hr9
      have hB9 : BlockAt w9 w.heap.size (hangA h) HangT := (HG.out.2.1.alloc _).kept hg9 (BlockAt.not_row HG.out.2.1 (by decide) hown2)
      rw [← HL9.out] at hp9
      obtain ⟨a9, c9, e9⟩ := hp9.form
      have hl9 : L9.length = L.length + 1 := by rw [HL9.out]; simp
      rw [hl9] at e9
      subst e9
      have x0 : World.cell? _ _ = some (.int .i64 h.d) := hB9.cell 0
      have HS9 : Hid (PoS w h HangT a9 (L.length + 1) c9 w9) := Lib.hid ⟨by rw [HL8.out]; exact hp9, hB9, hw9⟩
      clear hown2 HG hca hr9 hg9 hw9 hp9 hB9 hl9
      go_wp2
      go_roundw
      case rel => exact ⟨L.length + 1, x + 2 * h.d, a9, c9, by omega, ⟨by omega, by omega⟩, rfl, rfl, Lib.hid ⟨⟨HXN.out, HKN.out⟩, HS9.out⟩⟩
      case measure => simp [intOf]; omega
    · have HKE := Lib.hid (HEN.out x k hg.out.1.1 hg.out.1.2 (by omega))
      have HG := Lib.hid hg.out.2
      clear hg
      obtain ⟨e1, e2⟩ := HF.out (by have := HKE.out; omega)
      have HE := Lib.hid (And.intro (HPP.out.1.trans e2) (HPP.out.2.trans e1))
      clear e1 e2
      go_wp2
      go_ret2
      rw [HE.out.1, HE.out.2, ← HKE.out, HPL.out]
      exact ⟨a, c, rfl, HG.out.1, HG.out.2.2⟩
set_option maxRecDepth 100000 in
set_option maxHeartbeats 4000000 in
theorem rpoles_any (h : Lf.H) (n : Int) (w : World) : Calls Try.prog 18 #[.int .i64 n, hangV h] w fun e w' => ∃ a c, e = .returned (.tuple #[.slice a (Lf.polL h n).length c, .int .i64 (Lf.polE h n)]) ∧ OwnI w.heap.size w' (.slice a (Lf.polL h n).length c) (Lf.polL h n) ∧ Below w.heap.size w w' := by
  obtain ⟨i0, hi, hz0, hz1, hz2⟩ := info_parts infoInt
  have HB0 := Lib.hid (BlockAt.new w (hangA h) RHangT)
  have HW := Lib.hid (And.intro (HgB.of (BlockAt.new w (hangA h) RHangT)) (below_alloc2 (Below.refl w.heap.size w) (.cells (hangA h) RHangT)))
  have CV := Lib.hid (fun W => rvHang_any h W)
  have CR := Lib.hid (fun W => within_any n 0 1000000 W)
  cases hv : Lf.vH h
  · obtain ⟨e1, e2⟩ := pol_bad (h := h) (n := n) (by rw [hv]; rfl)
    rw [e1, e2]
    rw [hv] at CV
    clear e1 e2 hv CR HB0
    have y0 : World.cell? _ _ = some (.int .i64 h.d) := HW.out.1.1.1
    have y1 : World.cell? _ _ = some (.int .i64 h.s) := HW.out.1.1.2.1
    have y2 : World.cell? _ _ = some (.int .i64 h.y) := HW.out.1.1.2.2.1
    have y3 : World.cell? _ _ = some (.int .i64 h.r) := HW.out.1.1.2.2.2.1
    have y4 : World.cell? _ _ = some (.int .i64 h.f) := HW.out.1.1.2.2.2.2
    go_enter Try.func18, Try.ntmps18
    go_wp2_with fail
    refine (CV.out _).mono ?_
    rintro e w7 ⟨rfl, hb1⟩
    have HN := Lib.hid (And.intro (HW.out.1.below hb1 HW.out.1.2) (below_step HW.out.2 hb1))
    clear hb1 y0 y1 y2 y3 y4
    go_wp2
    go_ret2
    exact ⟨none, 0, rfl, OwnG.nil _ _, HN.out.2⟩
  cases hr : Lf.rng 0 1000000 n
  · obtain ⟨e1, e2⟩ := pol_bad (h := h) (n := n) (by rw [hv, hr]; rfl)
    rw [e1, e2]
    rw [hv] at CV
    rw [hr] at CR
    clear e1 e2 hv hr HB0
    have y0 : World.cell? _ _ = some (.int .i64 h.d) := HW.out.1.1.1
    have y1 : World.cell? _ _ = some (.int .i64 h.s) := HW.out.1.1.2.1
    have y2 : World.cell? _ _ = some (.int .i64 h.y) := HW.out.1.1.2.2.1
    have y3 : World.cell? _ _ = some (.int .i64 h.r) := HW.out.1.1.2.2.2.1
    have y4 : World.cell? _ _ = some (.int .i64 h.f) := HW.out.1.1.2.2.2.2
    go_enter Try.func18, Try.ntmps18
    go_wp2_with fail
    refine (CV.out _).mono ?_
    rintro e w7 ⟨rfl, hb1⟩
    have HN := Lib.hid (And.intro (HW.out.1.below hb1 HW.out.1.2) (below_step HW.out.2 hb1))
    clear hb1 y0 y1 y2 y3 y4
    go_wp2_with fail
    refine (CR.out _).mono ?_
    rintro e w8 ⟨rfl, rfl⟩
    go_wp2
    go_ret2
    exact ⟨none, 0, rfl, OwnG.nil _ _, HN.out.2⟩
  obtain ⟨⟨d1, d2⟩, ⟨s1, s2⟩, _⟩ := Lf.vH_iff.1 hv
  obtain ⟨n1, n2⟩ := Lf.rng_iff.1 hr
  have HF := Lib.hid (fun (hk : Lf.np h n ≤ 1000) => pol_few (h := h) (n := n) (by rw [hv, hr]; rfl) hk)
  have HM := Lib.hid (fun (hk : 1000 < Lf.np h n) => pol_many (h := h) (n := n) (by rw [hv, hr]; rfl) hk)
  have HNX := Lib.hid (fun (x : Int) (k : Nat) hx => pl_next (h := h) (x := x) (k := k) hx)
  have HEN := Lib.hid (fun (x : Int) (k : Nat) hx hk hn => pl_end (h := h) (n := n) (x := x) (k := k) d1 hx hk hn)
  have HMO := Lib.hid (fun (x : Int) (k : Nat) hx hn => pl_more (h := h) (n := n) (x := x) (k := k) d1 hx hn)
  have HPS := Lib.hid (fun k => Lf.pl_succ h k)
  have HPL := Lib.hid (fun k => Lf.pl_len h k)
  have HX0 : Hid (h.s = h.s + 2 * h.d * ((0 : Nat) : Int)) := Lib.hid (by simp)
  rw [hv] at CV
  rw [hr] at CR
  clear hv hr
  obtain ⟨PL, hPL⟩ : ∃ l, l = Lf.polL h n := ⟨_, rfl⟩
  obtain ⟨PE, hPE⟩ : ∃ l, l = Lf.polE h n := ⟨_, rfl⟩
  rw [← hPL, ← hPE]
  have HPP := Lib.hid (And.intro hPL hPE)
  clear hPL hPE
  have y0 : World.cell? _ _ = some (.int .i64 h.d) := HW.out.1.1.1
  have y1 : World.cell? _ _ = some (.int .i64 h.s) := HW.out.1.1.2.1
  have y2 : World.cell? _ _ = some (.int .i64 h.y) := HW.out.1.1.2.2.1
  have y3 : World.cell? _ _ = some (.int .i64 h.r) := HW.out.1.1.2.2.2.1
  have y4 : World.cell? _ _ = some (.int .i64 h.f) := HW.out.1.1.2.2.2.2
  go_enter Try.func18, Try.ntmps18
  go_wp2_with fail
  refine (CV.out _).mono ?_
  rintro e w7 ⟨rfl, hb1⟩
  have HN := Lib.hid (And.intro (HW.out.1.below hb1 HW.out.1.2) (below_step HW.out.2 hb1))
  have HB1 := Lib.hid (HB0.out.below hb1 HB0.out.lt)
  clear hb1 y0 y1 y2 y3 y4
  go_wp2_with fail
  refine (CR.out _).mono ?_
  rintro e w8 ⟨rfl, rfl⟩
  have x0 : World.cell? _ _ = some (.int .i64 h.d) := HN.out.1.1.1
  have x1 : World.cell? _ _ = some (.int .i64 h.s) := HN.out.1.1.2.1
  have HS0 := Lib.hid (show PoS w h RHangT none 0 0 _ from ⟨OwnG.nil _ _, HB1.out, HN.out.2⟩)
  clear HN HB1 HW HB0 CV CR
  go_wp2
  clear x0 x1
  go_loopw [6, 7] (fun s t wr => ∃ (k : Nat) (x : Int) (a : Option Addr) (c : Nat), k ≤ 600000 ∧ (0 ≤ x ∧ x ≤ 1002000) ∧ s = .slice a k c ∧ t = .int .i64 x ∧ Hid ((x = h.s + 2 * h.d * (k : Int) ∧ k ≤ Lf.np h n) ∧ PoS w h RHangT a k c wr)) (fun _ t _ => (1002001 - intOf t).toNat)
  case atStart => exact ⟨0, h.s, none, 0, Nat.zero_le _, ⟨by omega, by omega⟩, rfl, rfl, Lib.hid ⟨⟨HX0.out, Nat.zero_le _⟩, HS0.out⟩⟩
  case round =>
    obtain ⟨k, x, a, c, hk, ⟨hx0, hx1⟩, rfl, rfl, hg⟩ := hrel
    clear HS0 HX0
    by_cases hlt : x < n
    · have HKN := Lib.hid (HMO.out x k hg.out.1.1 hlt)
      have HXN := Lib.hid (HNX.out x k hg.out.1.1)
      have h1000 : k ≤ 599999 := by
        have e : (k : Int) * 1 ≤ k * h.d := Int.mul_le_mul_of_nonneg_left d1 (by omega)
        have e2 := hg.out.1.1
        rw [Int.mul_assoc, Int.mul_comm h.d] at e2
        omega
      have hown := hg.out.2.1
      have x0 : World.cell? _ _ = some (.int .i64 h.d) := hg.out.2.2.1.cell 0
      have hX := hg.out.1.1
      have hsz := hg.out.2.2.2.size
      have HG := Lib.hid hg.out.2
      have HX := Lib.hid hX
      have hca := cells_new (cs := intL x) wr 3
      have HPL1 := HPL.out k
      have HPS1 := HPS.out k
      rw [← hX] at HPS1
      have hown2 : OwnI w.heap.size wr (.slice a (Lf.pl h k).length c) (Lf.pl h k) := by rw [HPL1]; exact hown
      clear hg hX hown
      generalize Lf.pl h k = L at *
      subst HPL1
      generalize hXX : Lf.pl h (L.length + 1) = L9 at *
      have HL9 := Lib.hid HPS1
      have HL8 := Lib.hid hXX
      clear HPS1 hXX
      go_wp2_with (at_builtin; refine wpList_append_own _ rfl _ _ 24 rfl w.heap.size 3 i0 (.int .i64 0) 1 8 Try.underlying24 hi hz0 hz1 hz2 rfl (by decide) _ _ _ rfl (hown2.alloc _) ⟨wr.heap.size, 0, none⟩ 1 1 (intL x) rfl rfl ?c1 (intL_one _) ?c3 ?c4 ?c5 ?_)
      case c1 => exact hca
      case c3 => unfold maxLen; omega
      case c4 => omega
      case c5 => first | omega | (simp; omega)
      intro v' w9 hr9 hg9 _
      have hw9 := (below_alloc2 HG.out.2.2 (.cells (intL x).toArray 3)).grown hg9 (by simp; omega) (fun j e => (World.ownsRow.lt hown2 j e).1)
      have hp9 : OwnI w.heap.size w9 v' (L ++ [x]) := OwnG.pushed hr9
      have hB9 : BlockAt w9 w.heap.size (hangA h) RHangT := (HG.out.2.1.alloc _).kept hg9 (BlockAt.not_row HG.out.2.1 (by decide) hown2)
      rw [← HL9.out] at hp9
      obtain ⟨a9, c9, e9⟩ := hp9.form
      have hl9 : L9.length = L.length + 1 := by rw [HL9.out]; simp
      rw [hl9] at e9
      subst e9
      have x0 : World.cell? _ _ = some (.int .i64 h.d) := hB9.cell 0
      have HS9 : Hid (PoS w h RHangT a9 (L.length + 1) c9 w9) := Lib.hid ⟨by rw [HL8.out]; exact hp9, hB9, hw9⟩
      clear hown2 HG hca hr9 hg9 hw9 hp9 hB9 hl9
      go_wp2
      go_roundw
      case rel => exact ⟨L.length + 1, x + 2 * h.d, a9, c9, by omega, ⟨by omega, by omega⟩, rfl, rfl, Lib.hid ⟨⟨HXN.out, HKN.out⟩, HS9.out⟩⟩
      case measure => simp [intOf]; omega
    · have HKE := Lib.hid (HEN.out x k hg.out.1.1 hg.out.1.2 (by omega))
      have HG := Lib.hid hg.out.2
      clear hg
      by_cases hm : 1000 < k
      · obtain ⟨e1, e2⟩ := HM.out (by have := HKE.out; omega)
        have HE := Lib.hid (And.intro (HPP.out.1.trans e2) (HPP.out.2.trans e1))
        clear e1 e2
        go_wp2
        go_ret2
        rw [HE.out.1, HE.out.2]
        exact ⟨none, 0, rfl, OwnG.nil _ _, HG.out.2.2⟩
      · obtain ⟨e1, e2⟩ := HF.out (by have := HKE.out; omega)
        have HE := Lib.hid (And.intro (HPP.out.1.trans e2) (HPP.out.2.trans e1))
        clear e1 e2
        go_wp2
        go_ret2
        rw [HE.out.1, HE.out.2, ← HKE.out, HPL.out]
        exact ⟨a, c, rfl, HG.out.1, HG.out.2.2⟩
end Go.Proofs.Ytabfcnfddemblaa.Lo
