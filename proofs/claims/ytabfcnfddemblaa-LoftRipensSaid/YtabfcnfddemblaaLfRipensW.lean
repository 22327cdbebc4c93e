/- LoftRipens returns true, whatever the hangings, the place and the length. -/
import Derived.Test.YtabfcnfddemblaaLfS
namespace Go.Proofs.Ytabfcnfddemblaa.Lo
open Go.RowKit

theorem infoRHang : (Try.prog.info? 31).map (fun i => (i.zero, i.size, i.bytes)) = some (some (.agg #[.int .i64 0, .int .i64 0, .int .i64 0, .int .i64 0, .int .i64 0]), 5, 40) := by kernel_rfl
abbrev OwnRH (base : Nat) (w : World) (v : Value) (xs : List Lf.H) : Prop := OwnG 31 5 hangC base w v xs
theorem take_snoc {l : List Lf.H} {k : Nat} (h : k < l.length) : l.take (k + 1) = l.take k ++ [l[k]] := by rw [List.take_succ_eq_append_getElem h]
set_option maxRecDepth 100000 in
set_option maxHeartbeats 8000000 in
theorem ripens_walk (v : Value) (l : List Lf.H) (p n : Int) (w : World) (hl : Hangs w v l) : Calls Try.prog 4 #[v, .int .i64 p, .int .i64 n] w fun e w' => e = .returned (.bool true) ∧ Below w.heap.size w w' := by
  obtain ⟨i0, hi0, hz0, hz1, hz2⟩ := info_parts infoHang
  obtain ⟨j0, hj0, jz0, jz1, jz2⟩ := info_parts infoRHang
  have CS := Lib.hid (fun W => sane_any W)
  obtain ⟨ao, c, rfl, _, hlk⟩ := hl
  have HK := Lib.hid hlk
  have hw0 := Lib.hid (Below.refl w.heap.size w)
  clear hlk
  by_cases h20 : 20 < l.length
  · go_enter Try.func4, Try.ntmps4
    go_wp2_with fail
    refine (CS.out _).mono ?_
    rintro e w1 ⟨rfl, hb1⟩
    have H1 := Lib.hid hb1
    clear hb1
    go_wp2
    go_ret
    exact ⟨rfl, H1.out⟩
  have hd20 : decide (20 < (l.length : Int)) = false := decide_eq_false (by omega)
  have CM := Lib.hid (fun h W => mine_any h W)
  have CO := Lib.hid (fun h W => other_any h W)
  have CA := Lib.hid (fun v W hv => ripeF_any v l p W hv)
  have CB := Lib.hid (fun v W hv => rripeF_any v l p W hv)
  have CC := Lib.hid (fun v W hv => rangeF_any v l n W hv)
  have CD := Lib.hid (fun v W hv => rrangeF_any v l n W hv)
  generalize Lf.ripR l p = R1 at *
  generalize Lf.ripE l p = R2 at *
  generalize Lf.ranL l n = R3 at *
  generalize Lf.ranM l n = R4 at *
  generalize Lf.ranE l n = R5 at *
  have hl20 : l.length ≤ 20 := by omega
  have HT := Lib.hid (fun k (hk : k < l.length) => take_snoc hk)
  have HTL := Lib.hid (show l.take l.length = l by simp)
  go_enter Try.func4, Try.ntmps4
  go_wp2
  clear hd20
  go_loopw [7, 8, 9] (fun s u t wr => ∃ (k : Nat) (L : List Lf.H) (a : Option Addr) (c1 : Nat) (b : Option Addr) (c2 : Nat), k ≤ l.length ∧ L.length ≤ 20 ∧ s = .slice a L.length c1 ∧ u = .slice b L.length c2 ∧ t = .int .i64 k ∧ Hid (L = l.take k ∧ OwnHang w.heap.size wr (.slice a L.length c1) L ∧ OwnRH w.heap.size wr (.slice b L.length c2) L ∧ Below w.heap.size w wr)) (fun _ _ t _ => l.length - (intOf t).toNat)
  case atStart => exact ⟨0, [], none, 0, none, 0, Nat.zero_le _, by simp, rfl, rfl, rfl, Lib.hid ⟨rfl, OwnG.nil _ _, OwnG.nil _ _, hw0.out⟩⟩
  case round =>
    obtain ⟨k, L, a, c1, b, c2, hk, hL, rfl, rfl, rfl, hg⟩ := hrel
    clear hw0
    by_cases hlt : k < l.length
    · obtain ⟨bb, off, rfl, hb, hr⟩ := HK.out k hlt
      obtain ⟨y0, y1, y2, y3, y4⟩ := hang_at (hr.below hg.out.2.2.2 hb)
      have HTk := HT.out k hlt
      rw [← hg.out.1] at HTk
      have HG := Lib.hid hg.out.2
      have CMk := Lib.hid (fun W => CM.out l[k] W)
      have COk := Lib.hid (fun W => CO.out l[k] W)
      have HR := Lib.hid (fun (W : World) (hW : Below w.heap.size w W) => hang_at (hr.below hW hb))
      clear hg hr
      obtain ⟨L9, hL9⟩ : ∃ L9, L9 = l.take (k + 1) := ⟨_, rfl⟩
      have HL9 := Lib.hid hL9
      rw [← hL9] at HTk
      generalize l[k] = h at *
      obtain ⟨hd, hs, hy, hr, hf⟩ := h
      dsimp only at y0 y1 y2 y3 y4
      have HTK := Lib.hid HTk
      have hLlen : L.length ≤ 19 ∨ L.length = 20 := by omega
      have hLk : L9.length ≤ 20 := by rw [hL9]; simp; omega
      have hLn : L.length ≤ 19 := by have := congrArg List.length HTk; simp at this; omega
      clear HTk hL9 hLlen
      go_wp2_with fail
      refine (CMk.out _).mono ?_
      rintro e w1 ⟨rfl, hb1⟩
      have hown := HG.out.1.all hb1
      have hown2 := HG.out.2.1.all hb1
      have hw1 := below_step HG.out.2.2 hb1
      have hsz := hw1.size
      have hca := cells_new (cs := hangC ⟨hd, hs, hy, hr, hf⟩) w1 HangT
      clear hb1 HG y0 y1 y2 y3 y4
      go_wp2_with (at_builtin; refine wpList_append_own _ rfl _ _ 42 rfl w.heap.size 28 i0 _ 5 40 Try.underlying42 hi0 hz0 hz1 hz2 rfl (by decide) _ _ _ rfl (hown.alloc _) ⟨w1.heap.size, 0, none⟩ 1 1 (hangC ⟨hd, hs, hy, hr, hf⟩) rfl rfl ?c1 (hangC_one _) ?c3 ?c4 ?c5 ?_)
      case c1 => first | exact hca | exact fun j u h => h
      case c3 => unfold maxLen; omega
      case c4 => omega
      case c5 => first | omega | (simp; omega)
      intro v' w9 hr9 hg9 _
      have hw9 := (below_alloc2 hw1 (.cells (hangC ⟨hd, hs, hy, hr, hf⟩).toArray HangT)).grown hg9 (by simp; omega) (fun j e => (World.ownsRow.lt hown j e).1)
      have hp9 : OwnHang w.heap.size w9 v' (L ++ [⟨hd, hs, hy, hr, hf⟩]) := OwnG.pushed hr9
      have hq9 : OwnRH w.heap.size w9 (.slice b L.length c2) L := ownsRow_other (by decide) (hown2.alloc (.cells (hangC ⟨hd, hs, hy, hr, hf⟩).toArray HangT)) (hown.alloc (.cells (hangC ⟨hd, hs, hy, hr, hf⟩).toArray HangT)) hg9
      rw [← HTK.out] at hp9
      obtain ⟨a9, c9, e9⟩ := (hp9.rows hangC_len).form
      subst e9
      have H9 := Lib.hid (And.intro hp9 (And.intro hq9 hw9))
      clear hown hown2 hw1 hsz hca hr9 hg9 hw9 hp9 hq9
      obtain ⟨y0, y1, y2, y3, y4⟩ := HR.out _ H9.out.2.2
      go_wp2_with fail
      refine (COk.out _).mono ?_
      rintro e w2 ⟨rfl, hb1⟩
      have hown := H9.out.2.1.all hb1
      have hown2 := H9.out.1.all hb1
      have hw1 := below_step H9.out.2.2 hb1
      have hsz := hw1.size
      have hca := cells_new (cs := hangC ⟨hd, hs, hy, hr, hf⟩) w2 RHangT
      clear hb1 H9 y0 y1 y2 y3 y4
      go_wp2_with (at_builtin; refine wpList_append_own _ rfl _ _ 43 rfl w.heap.size 31 j0 _ 5 40 Try.underlying43 hj0 jz0 jz1 jz2 rfl (by decide) _ _ _ rfl (hown.alloc _) ⟨w2.heap.size, 0, none⟩ 1 1 (hangC ⟨hd, hs, hy, hr, hf⟩) rfl rfl ?d1 (hangC_one _) ?d3 ?d4 ?d5 ?_)
      case d1 => first | exact hca | exact fun j u h => h
      case d3 => unfold maxLen; omega
      case d4 => omega
      case d5 => first | omega | (simp; omega)
      intro v2 w3 hr9 hg9 _
      have hw9 := (below_alloc2 hw1 (.cells (hangC ⟨hd, hs, hy, hr, hf⟩).toArray RHangT)).grown hg9 (by simp; omega) (fun j e => (World.ownsRow.lt hown j e).1)
      have hp9 : OwnRH w.heap.size w3 v2 (L ++ [⟨hd, hs, hy, hr, hf⟩]) := OwnG.pushed hr9
      have hq9 : OwnHang w.heap.size w3 (.slice a9 L9.length c9) L9 := ownsRow_other (by decide) (hown2.alloc (.cells (hangC ⟨hd, hs, hy, hr, hf⟩).toArray RHangT)) (hown.alloc (.cells (hangC ⟨hd, hs, hy, hr, hf⟩).toArray RHangT)) hg9
      rw [← HTK.out] at hp9
      obtain ⟨b9, d9, e9⟩ := (hp9.rows hangC_len).form
      subst e9
      have H9 := Lib.hid (And.intro hq9 (And.intro hp9 hw9))
      clear hown hown2 hw1 hsz hca hr9 hg9 hw9 hp9 hq9
      go_wp2
      go_roundw
      case rel => exact ⟨k + 1, L9, a9, c9, b9, d9, by omega, hLk, rfl, rfl, by go_num, Lib.hid ⟨HL9.out, H9.out⟩⟩
      case measure => simp [intOf]; omega
    · obtain rfl : k = l.length := by omega
      have hLl : L = l := by rw [hg.out.1]; simp
      subst hLl
      have H1 := Lib.hid hg.out.2
      clear hg
      go_wp2_with fail
      refine (CA.out _ _ (H1.out.1.rows hangC_len)).mono ?_
      rintro e w1 ⟨rfl, hb1⟩
      have H2 := Lib.hid (And.intro (H1.out.1.all hb1) (And.intro (H1.out.2.1.all hb1) (below_step H1.out.2.2 hb1)))
      clear hb1 H1
      go_wp2_with fail
      refine (CB.out _ _ (H2.out.2.1.rows hangC_len)).mono ?_
      rintro e w2 ⟨rfl, hb1⟩
      have H3 := Lib.hid (And.intro (H2.out.1.all hb1) (And.intro (H2.out.2.1.all hb1) (below_step H2.out.2.2 hb1)))
      clear hb1 H2
      go_wp2_with fail
      refine (CC.out _ _ (H3.out.1.rows hangC_len)).mono ?_
      rintro e w3 ⟨rfl, hb1⟩
      have H4 := Lib.hid (And.intro (H3.out.1.all hb1) (And.intro (H3.out.2.1.all hb1) (below_step H3.out.2.2 hb1)))
      clear hb1 H3
      go_wp2_with fail
      refine (CD.out _ _ (H4.out.2.1.rows hangC_len)).mono ?_
      rintro e w4 ⟨rfl, hb1⟩
      have H5 := Lib.hid (below_step H4.out.2.2 hb1)
      clear hb1 H4
      go_wp2_with fail
      refine (CS.out _).mono ?_
      rintro e w5 ⟨rfl, hb1⟩
      have H6 := Lib.hid (below_step H5.out hb1)
      clear hb1
      go_wp2
      go_ret
      exact ⟨rfl, H6.out⟩
end Go.Proofs.Ytabfcnfddemblaa.Lo
