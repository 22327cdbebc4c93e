/- The strips of a room: of the program; whether two lists of strips are the same. -/
import Derived.Test.YtpobkdbnldogcaaFl8
namespace Go.Proofs.Ytpobkdbnldogcaa
open Go.RowKit

theorem ul_strips : Try.prog.underlying 37 = some (.slice 54) := Try.underlying37
theorem Fl.stk_one {rs : List Fl.R} {w o x : Int} {i : Nat} (hx : x = o - w + i * w) (h : Fl.stripB rs x w = true) : Fl.stk rs w o (i + 1) = Fl.stk rs w o i ++ [⟨x, Fl.sF rs x w rs.length, Fl.sT rs x w rs.length⟩] := by
  rw [Fl.stk, ← hx, Fl.one, if_pos (of_decide_eq_true h)]
theorem Fl.stk_none {rs : List Fl.R} {w o x : Int} {i : Nat} (hx : x = o - w + i * w) (h : Fl.stripB rs x w = false) : Fl.stk rs w o (i + 1) = Fl.stk rs w o i := by
  rw [Fl.stk, ← hx, Fl.one, if_neg (of_decide_eq_false h), List.append_nil]
theorem Fl.bord_next {w o x : Int} {i : Nat} (hx : x = o - w + i * w) : x + w = o - w + ((i + 1 : Nat) : Int) * w := by
  rw [Int.natCast_add, Int.add_mul, hx]; simp; omega
theorem Fl.bord_le {w o x : Int} {i : Nat} (hw : 1 ≤ w) (ho : 0 ≤ o) (hx : x = o - w + i * w) (h : x < 60 + w) (hw2 : w ≤ 20) : i ≤ 99 := by
  have : (i : Int) * 1 ≤ i * w := Int.mul_le_mul_of_nonneg_left hw (by omega)
  omega
theorem Fl.bord_end {w o x : Int} {i : Nat} (hw : 1 ≤ w) (ho : o < w) (hx : x = o - w + i * w) (hi : i ≤ Fl.nS w o) (h : ¬ x < 60) : i = Fl.nS w o := by
  by_cases e : i < Fl.nS w o
  · have := (Fl.nS_iff hw ho i).1 e
    omega
  · omega
set_option maxRecDepth 20000 in
set_option maxHeartbeats 4000000 in
theorem strips_any (rv dv : Value) (rs : List Fl.R) (n o : Int) (w : World) (hv : Rects w rv rs) (hl : rs.length ≤ 1000) (hok : ∀ k (hk : k < rs.length), Fl.okR rs[k] = true) (hn0 : 1 ≤ n) (hn1 : n ≤ 20) (ho0 : 0 ≤ o) (ho1 : o < n) :
    Calls Try.prog 64 #[roomV rv dv, .int .i64 n, .int .i64 o] w fun e w' => ∃ u, e = .returned u ∧ OwnS w.heap.size w' u (Fl.stL rs n o) ∧ Below w.heap.size w w' := by
  obtain ⟨i0, hi, hz0, hz1, hz2⟩ := info_parts infoStrip
  have FS := Lib.hid (fun x W (hW : Below w.heap.size w W) hx0 hx1 => strip_any rv dv rs x n W (hv.all hW) hl hok hx0 hx1 hn0 hn1)
  have HW := Lib.hid (And.intro (BlockAt.new w #[rv, dv] RoomT) (below_alloc2 (Below.refl w.heap.size w) (.cells #[rv, dv] RoomT)))
  have HL := Lib.hid (Fl.stk_len rs n o)
  have H1 := Lib.hid (fun (x : Int) (i : Nat) hx h => Fl.stk_one (rs := rs) (w := n) (o := o) (x := x) (i := i) hx h)
  have H2 := Lib.hid (fun (x : Int) (i : Nat) hx h => Fl.stk_none (rs := rs) (w := n) (o := o) (x := x) (i := i) hx h)
  have HNX := Lib.hid (fun (x : Int) (i : Nat) hx => Fl.bord_next (w := n) (o := o) (x := x) (i := i) hx)
  have HLE := Lib.hid (fun (x : Int) (i : Nat) hx h => Fl.bord_le (w := n) (o := o) (x := x) (i := i) hn0 ho0 hx h hn1)
  have HEN := Lib.hid (fun (x : Int) (i : Nat) hx h1 h2 => Fl.bord_end (w := n) (o := o) (x := x) (i := i) hn0 ho1 hx h1 h2)
  have HIF := Lib.hid (Fl.nS_iff hn0 ho1)
  have HR : Hid (Fl.stL rs n o = Fl.stk rs n o (Fl.nS n o)) := Lib.hid rfl
  obtain ⟨ra, rc, rfl⟩ := hv.form
  have hdv : ∃ d, d = dv := ⟨_, rfl⟩
  generalize Fl.stL rs n o = R at *
  have HX0 : Hid (o - n = o - n + ((0 : Nat) : Int) * n) := Lib.hid (by simp)
  clear hv hok
  go_enter Try.func64, Try.ntmps64
  go_wp2
  go_loopw [7, 8] (fun s t wr => ∃ (i : Nat) (x : Int) (L : List Fl.S) (a : Option Addr) (c : Nat), (i ≤ 99 ∧ L.length ≤ i) ∧ (-20 ≤ x ∧ x ≤ 80) ∧ s = .slice a L.length c ∧ t = .int .i64 x ∧ Hid ((x = o - n + i * n ∧ i ≤ Fl.nS n o ∧ L = Fl.stk rs n o i) ∧ OwnS w.heap.size wr (.slice a L.length c) L ∧ BlockAt wr w.heap.size #[.slice ra rs.length rc, dv] RoomT ∧ Below w.heap.size w wr)) (fun _ t _ => (100 - intOf t).toNat)
  case atStart => exact ⟨0, o - n, [], none, 0, ⟨Nat.zero_le _, Nat.le_refl _⟩, ⟨by omega, by omega⟩, rfl, rfl, Lib.hid ⟨⟨HX0.out, Nat.zero_le _, rfl⟩, OwnG.nil _ _, HW.out⟩⟩
  case round =>
    obtain ⟨i, x, L, a, c, ⟨hi9, hll⟩, ⟨hx0, hx1⟩, rfl, rfl, hg⟩ := hrel
    clear HW HX0
    by_cases hlt : x < 60
    · have x0 : World.cell? _ _ = some (.slice ra rs.length rc) := hg.out.2.2.1.cell 0
      have x1 : World.cell? _ _ = some dv := hg.out.2.2.1.cell 1
      have C := Lib.hid (FS.out x _ hg.out.2.2.2 hx0 (by omega))
      have HI := Lib.hid (show i < Fl.nS n o from (HIF.out i).2 (by have := hg.out.1.1; omega))
      have HN2 := Lib.hid (HNX.out x i hg.out.1.1)
      have hi99 := HLE.out (x + n) (i + 1) HN2.out (by omega)
      have H1x := Lib.hid (H1.out x i hg.out.1.1)
      have H2x := Lib.hid (H2.out x i hg.out.1.1)
      have HG := Lib.hid hg.out.2
      rw [← hg.out.1.2.2] at H1x H2x
      clear hg
      generalize Fl.stripB rs x n = B at *
      have hoo : B = true ∨ B = false := by cases B <;> simp
      rcases hoo with hB | hB
      · have HE := Lib.hid (H1x.out hB)
        rw [hB] at C
        clear hB H1x H2x
        generalize Fl.sF rs x n rs.length = F at *
        generalize Fl.sT rs x n rs.length = U at *
        go_wp2_with fail
        refine C.out.mono ?_
        rintro e w2 ⟨rfl, hb2⟩
        have hown := HG.out.1.all hb2
        have hB3 := HG.out.2.1.below hb2 HG.out.2.1.lt
        have hw := below_step HG.out.2.2 hb2
        have hsz := hw.size
        have hca := cells_new (cs := stripC ⟨x, F, U⟩) (w2.alloc (.cells (stripA x F U) StripT)) StripT
        simp only [World.size_alloc] at hca
        clear C HG x0 x1 hb2
        go_wp2_with (at_builtin; refine wpList_append_own _ rfl _ _ 37 rfl w.heap.size 54 i0 (.agg #[.int .i64 0, .int .i64 0, .int .i64 0]) 3 24 Try.underlying37 hi hz0 hz1 hz2 rfl (by decide) _ _ _ rfl ((hown.alloc _).alloc _) ⟨w2.heap.size + 1, 0, none⟩ 1 1 (stripC ⟨x, F, U⟩) rfl rfl ?c1 (stripC_one _) ?c3 ?c4 ?c5 ?_)
        case c1 => first | exact hca | exact fun j u h => h
        case c3 => unfold maxLen; omega
        case c4 => omega
        case c5 => first | omega | (simp; omega)
        intro v' w9 hr9 hg9 _
        have hw9 := (below_alloc2 (below_alloc2 hw (.cells (stripA x F U) StripT)) (.cells (stripA x F U) StripT)).grown hg9 (by simp; omega) (fun j e => (World.ownsRow.lt hown j e).1)
        have hp9 : OwnS w.heap.size w9 v' (L ++ [⟨x, F, U⟩]) := OwnG.pushed hr9
        have hB9 : BlockAt w9 w.heap.size #[.slice ra rs.length rc, dv] RoomT := ((hB3.alloc _).alloc _).kept hg9 (BlockAt.not_row hB3 (by decide) hown)
        have hl9 : (L ++ [(⟨x, F, U⟩ : Fl.S)]).length ≤ i + 1 := by simp; omega
        generalize L ++ [(⟨x, F, U⟩ : Fl.S)] = L2 at *
        obtain ⟨a9, c9, e9⟩ := (hp9.rows stripC_len).form
        subst e9
        have HG9 := Lib.hid (And.intro hp9 (And.intro hB9 hw9))
        clear hown hB3 hw hca hr9 hg9 hw9 hp9 hB9
        go_wp2
        go_roundw
        case rel => exact ⟨i + 1, x + n, L2, a9, c9, ⟨by omega, hl9⟩, ⟨by omega, by omega⟩, rfl, rfl, Lib.hid ⟨⟨HN2.out, HI.out, HE.out.symm⟩, HG9.out⟩⟩
        case measure => simp [intOf]; omega
      · have HE := Lib.hid (H2x.out hB)
        rw [hB] at C
        clear hB H1x H2x
        go_wp2_with fail
        refine C.out.mono ?_
        rintro e w2 ⟨rfl, hb2⟩
        have HG9 := Lib.hid (And.intro (HG.out.1.all (below_alloc2 hb2 (.cells (stripA x (Fl.sF rs x n rs.length) (Fl.sT rs x n rs.length)) StripT))) (And.intro ((HG.out.2.1.below hb2 HG.out.2.1.lt).alloc (.cells (stripA x (Fl.sF rs x n rs.length) (Fl.sT rs x n rs.length)) StripT)) (below_alloc2 (below_step HG.out.2.2 hb2) (.cells (stripA x (Fl.sF rs x n rs.length) (Fl.sT rs x n rs.length)) StripT))))
        clear C HG x0 x1 hb2
        go_wp2
        go_roundw
        case rel => exact ⟨i + 1, x + n, L, a, c, ⟨by omega, by omega⟩, ⟨by omega, by omega⟩, rfl, rfl, Lib.hid ⟨⟨HN2.out, HI.out, HE.out.symm⟩, HG9.out⟩⟩
        case measure => simp [intOf]; omega
    · have HE := Lib.hid (HEN.out x i hg.out.1.1 hg.out.1.2.1 (by omega))
      have HL2 := Lib.hid hg.out.1.2.2
      have HG := Lib.hid hg.out.2
      clear hg
      go_wp2
      go_ret
      exact ⟨_, rfl, by rw [HR.out, ← HE.out, ← HL2.out]; exact HG.out.1, HG.out.2.2⟩
set_option maxRecDepth 20000 in
set_option maxHeartbeats 2000000 in
theorem sameStrips_any (u v : Value) (xs : List Fl.S) (w : World) (hu : Strips w u xs) (hv : Strips w v xs) (hl : xs.length ≤ 1000) :
    Calls Try.prog 29 #[u, v] w fun e w' => e = .returned (.bool true) ∧ Below w.heap.size w w' := by
  obtain ⟨ua, uc, rfl, _, huk⟩ := hu
  obtain ⟨va, vc, rfl, _, hvk⟩ := hv
  have HU := Lib.hid huk
  have HV := Lib.hid hvk
  have hw0 := Lib.hid (Below.refl w.heap.size w)
  clear huk hvk
  go_enter Try.func29, Try.ntmps29
  go_wp2
  go_loopw [5] (fun t wr => ∃ k : Nat, k ≤ xs.length ∧ t = .int .i64 k ∧ Hid (Below w.heap.size w wr)) (fun t _ => xs.length - (intOf t).toNat)
  case atStart => exact ⟨0, Nat.zero_le _, rfl, hw0⟩
  case round =>
    obtain ⟨k, hk, rfl, hg⟩ := hrel
    by_cases hlt : k < xs.length
    · obtain ⟨b, off, rfl, hb, hr⟩ := HU.out k hlt
      obtain ⟨b2, off2, rfl, hb2, hr2⟩ := HV.out k hlt
      obtain ⟨c0, c1, c2⟩ := strip_at (hr.below hg.out hb)
      obtain ⟨d0, d1, d2⟩ := strip_at (hr2.below hg.out hb2)
      clear hr hr2
      generalize xs[k] = a at *
      go_wp2
      go_quiet (fail)
      go_wp2
      go_roundw
      case rel => exact ⟨k + 1, by omega, by go_num, Lib.hid (below_drewN hg.out _)⟩
      case measure => simp [intOf]; omega
    · go_wp2
      go_ret
      exact ⟨rfl, hg.out⟩
end Go.Proofs.Ytpobkdbnldogcaa
