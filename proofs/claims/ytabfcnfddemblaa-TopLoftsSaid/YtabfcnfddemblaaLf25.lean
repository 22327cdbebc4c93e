/- Proofs: of the program. -/
import Derived.Test.YtabfcnfddemblaaLf20
namespace Go.Proofs.Ytabfcnfddemblaa.Lo
open Go.RowKit

theorem S_succ (f : Nat → Int) (n : Nat) : Lf.S f (n + 1) = Lf.S f n + f n := rfl
theorem pls_succ (ls : List Lf.F) {k : Nat} (h : k < ls.length) : Lf.pls ls (k + 1) = Lf.pls ls k + ls[k].p := by
  show Lf.pls ls k + (ls.getD k default).p = _
  rw [show ls.getD k default = ls[k] by simp [h]]
theorem pls_bd {ls : List Lf.F} (hF : ∀ k (hk : k < ls.length), Lf.okF ls[k] = true) : ∀ k, k ≤ ls.length → 0 ≤ Lf.pls ls k ∧ Lf.pls ls k ≤ 40 * k
  | 0, _ => ⟨Int.le_refl _, Int.le_refl _⟩
  | k + 1, hk => by
    have := pls_bd hF k (by omega)
    have := (Lf.okF_iff.1 (hF k (by omega))).1
    rw [pls_succ ls (by omega)]; omega
set_option maxRecDepth 100000 in
set_option maxHeartbeats 2000000 in
theorem polesOf_any (v : Value) (ls : List Lf.F) (w : World) (hl : Lofts w v ls) (hF : ∀ k (hk : k < ls.length), Lf.okF ls[k] = true) (h3 : ls.length ≤ 3) :
    Calls Try.prog 104 #[v] w fun e w' => e = .returned (.int .i64 (Lf.pls ls ls.length)) ∧ Below w.heap.size w w' := by
  obtain ⟨ao, c, rfl, _, hlk⟩ := hl
  have HK := Lib.hid hlk
  have hw0 := Lib.hid (Below.refl w.heap.size w)
  have HS := Lib.hid (fun k (hk : k < ls.length) => pls_succ ls hk)
  have HB := Lib.hid (fun k (hk : k ≤ ls.length) => pls_bd hF k hk)
  have H0 : Hid (Lf.pls ls 0 = 0) := Lib.hid rfl
  obtain ⟨E, hE⟩ : ∃ E, E = Lf.pls ls ls.length := ⟨_, rfl⟩
  rw [← hE]
  have HE := Lib.hid hE
  clear hlk hE hF
  go_enter Try.func104, Try.ntmps104
  go_wp2
  go_loopw [3, 8] (fun s t wr => ∃ (k : Nat) (x : Int), k ≤ ls.length ∧ s = .int .i64 x ∧ t = .int .i64 k ∧ (0 ≤ x ∧ x ≤ 120) ∧ Hid (x = Lf.pls ls k ∧ Below w.heap.size w wr)) (fun _ t _ => ls.length - (intOf t).toNat)
  case atStart => exact ⟨0, 0, Nat.zero_le _, rfl, rfl, by omega, Lib.hid ⟨H0.out.symm, hw0.out⟩⟩
  case round =>
    obtain ⟨k, x, hk, rfl, rfl, hx, hg⟩ := hrel
    clear hw0
    by_cases hlt : k < ls.length
    · obtain ⟨b, off, rfl, hb, hr⟩ := HK.out k hlt
      obtain ⟨v, ⟨c0, c1⟩, hI⟩ := hr.all hg.out.2 hb
      obtain ⟨va, vc, rfl⟩ := hI.form
      have HSk := HS.out k hlt
      have hb2 := HB.out (k + 1) (by omega)
      rw [← hg.out.1] at HSk
      have HG := Lib.hid (below_alloc2 hg.out.2 (.cells (loftA ls[k].p (.slice va ls[k].rs.length vc)) LoftT))
      have HBL := Lib.hid (BlockAt.new wr (loftA ls[k].p (.slice va ls[k].rs.length vc)) LoftT)
      obtain ⟨x2, hx2⟩ : ∃ x2, x2 = Lf.pls ls (k + 1) := ⟨_, rfl⟩
      rw [← hx2] at HSk hb2
      have HX2 := Lib.hid hx2
      clear hr hI hg hx2
      generalize ls[k] = f at *
      obtain ⟨fp, fr⟩ := f
      dsimp only at *
      have y0 : World.cell? _ _ = some (.int .i64 fp) := HBL.out.cell 0
      have g1 : IntKind.i64.wrap (x + fp) = x2 := by rw [← HSk]; exact IntWalk.i64_in _ ⟨by omega, by omega⟩
      go_wp2
      go_roundw
      case rel => exact ⟨k + 1, x2, by omega, by rw [HSk], by go_num, ⟨by omega, by omega⟩, Lib.hid ⟨HX2.out, HG.out⟩⟩
      case measure => simp [intOf]; omega
    · obtain rfl : k = ls.length := by omega
      have e9 := hg.out.1.trans HE.out.symm
      have HG := Lib.hid hg.out.2
      clear hg
      subst e9
      go_wp2
      go_ret
      exact ⟨rfl, HG.out⟩
abbrev SG := Lf.G × Nat
def stC (x : SG) : List Value := [.int .i64 x.1.p, .int .i64 x.1.n, .int .i64 x.1.m, .int .i64 x.1.a, .int .i64 x.1.u, .int .i64 (x.2 : Int)]
theorem stC_len (x : SG) : (stC x).length = 6 := rfl
theorem stC_one (x : SG) : ∀ u ∈ stC x, u.oneCell' = true := by
  intro u h; simp [stC] at h; rcases h with rfl | rfl | rfl | rfl | rfl | rfl <;> rfl
abbrev OwnSt (base : Nat) (w : World) (v : Value) (xs : List SG) : Prop := OwnG 155 6 stC base w v xs
abbrev Stays (w : World) (v : Value) (xs : List SG) : Prop := RowsOf 6 stC w v xs
def sts (ls : List Lf.F) (gs : List Lf.G) : List SG := gs.map fun g => (g, Lf.dyN ls g)
theorem sts_len (ls : List Lf.F) (gs : List Lf.G) : (sts ls gs).length = gs.length := by simp [sts]
theorem sts_take (ls : List Lf.F) (gs : List Lf.G) {k : Nat} (h : k < gs.length) : (sts ls gs).take (k + 1) = (sts ls gs).take k ++ [(gs[k], Lf.dyN ls gs[k])] := by
  rw [List.take_succ_eq_append_getElem (by rw [sts_len]; exact h)]; simp [sts]
theorem st_at {x : SG} {w : World} {b off : Nat} (h : CellsAt (stC x) w b off) : w.cell? ⟨b, off, none⟩ = some (.int .i64 x.1.p) ∧ w.cell? ⟨b, off + 1, none⟩ = some (.int .i64 x.1.n) ∧ w.cell? ⟨b, off + 2, none⟩ = some (.int .i64 x.1.m) ∧ w.cell? ⟨b, off + 3, none⟩ = some (.int .i64 x.1.a) ∧ w.cell? ⟨b, off + 4, none⟩ = some (.int .i64 x.1.u) ∧ w.cell? ⟨b, off + 5, none⟩ = some (.int .i64 (x.2 : Int)) :=
  ⟨h 0 _ rfl, h 1 _ rfl, h 2 _ rfl, h 3 _ rfl, h 4 _ rfl, h 5 _ rfl⟩
set_option maxRecDepth 100000 in
set_option maxHeartbeats 4000000 in
theorem staysOf_any (u v : Value) (ls : List Lf.F) (gs : List Lf.G) (w : World) (hu : Lofts w u ls) (hv : Goods w v gs) (hF : ∀ k (hk : k < ls.length), Lf.okF ls[k] = true) (h3 : ls.length ≤ 3) (hG : ∀ k (hk : k < gs.length), Lf.okG gs[k] = true) (h8 : gs.length ≤ 8) :
    Calls Try.prog 105 #[u, v] w fun e w' => ∃ a c, e = .returned (.slice a (sts ls gs).length c) ∧ OwnSt w.heap.size w' (.slice a (sts ls gs).length c) (sts ls gs) ∧ Below w.heap.size w w' := by
  obtain ⟨i0, hi0, hz0, hz1, hz2⟩ := info_parts infoStay
  have CS := Lib.hid (fun k (hk : k < gs.length) W (hW : Below w.heap.size w W) => stayOf_any u ls gs[k] W (hu.all hW) hF h3 (Lf.isRp_iff.2 (Lf.okG_iff.1 (hG k hk)).2.1))
  obtain ⟨ua, uc, rfl⟩ := hu.form
  obtain ⟨ao, c, rfl, _, hlk⟩ := hv
  have HK := Lib.hid hlk
  have hw0 := Lib.hid (Below.refl w.heap.size w)
  have HT := Lib.hid (fun k (hk : k < gs.length) => sts_take ls gs hk)
  have HTL := Lib.hid (show (sts ls gs).take gs.length = sts ls gs by rw [List.take_of_length_le (by rw [sts_len]; omega)])
  have HLN := Lib.hid (fun k (hk : k ≤ gs.length) => show ((sts ls gs).take k).length = k by rw [List.length_take, sts_len]; omega)
  have H0 : Hid ((sts ls gs).take 0 = []) := Lib.hid rfl
  clear hlk hF hu hG
  generalize sts ls gs = X at *
  go_enter Try.func105, Try.ntmps105
  go_wp2
  go_loopw [5, 10] (fun s t wr => ∃ (k : Nat) (L : List SG) (a : Option Addr) (c1 : Nat), k ≤ gs.length ∧ L.length ≤ 8 ∧ s = .slice a L.length c1 ∧ t = .int .i64 k ∧ Hid (L = X.take k ∧ OwnSt w.heap.size wr (.slice a L.length c1) L ∧ Below w.heap.size w wr)) (fun _ t _ => gs.length - (intOf t).toNat)
  case atStart => exact ⟨0, [], none, 0, Nat.zero_le _, by simp, rfl, rfl, Lib.hid ⟨H0.out.symm, OwnG.nil _ _, hw0.out⟩⟩
  case round =>
    obtain ⟨k, L, a, c1, hk, hL, rfl, rfl, hg⟩ := hrel
    clear hw0 H0
    by_cases hlt : k < gs.length
    · obtain ⟨bb, off, rfl, hb, hr⟩ := HK.out k hlt
      obtain ⟨y0, y1, y2, y3, y4⟩ := gd_at (hr.below hg.out.2.2 hb)
      have HTk := HT.out k hlt
      rw [← hg.out.1] at HTk
      have HXA := Lib.hid (And.intro (BlockAt.new wr (gdA gs[k]) GoodT) (below_alloc2 hg.out.2.2 (.cells (gdA gs[k]) GoodT)))
      have HOW := Lib.hid (hg.out.2.1.alloc (.cells (gdA gs[k]) GoodT))
      have CSk := Lib.hid (CS.out k hlt _ HXA.out.2)
      obtain ⟨L9, hL9⟩ : ∃ L9, L9 = X.take (k + 1) := ⟨_, rfl⟩
      have HL9 := Lib.hid hL9
      have hLk : L9.length ≤ 8 := by rw [hL9, HLN.out (k + 1) (by omega)]; omega
      rw [← hL9] at HTk
      clear hg hr hL9
      generalize Lf.dyN ls gs[k] = D at *
      generalize gs[k] = g at *
      obtain ⟨gp, gn, gm, ga, gu⟩ := g
      dsimp only at *
      have HTK := Lib.hid HTk
      clear HTk
      have x0 : World.cell? _ _ = some (.int .i64 gp) := HXA.out.1.cell 0
      have x1 : World.cell? _ _ = some (.int .i64 gn) := HXA.out.1.cell 1
      have x2 : World.cell? _ _ = some (.int .i64 gm) := HXA.out.1.cell 2
      have x3 : World.cell? _ _ = some (.int .i64 ga) := HXA.out.1.cell 3
      have x4 : World.cell? _ _ = some (.int .i64 gu) := HXA.out.1.cell 4
      go_wp2_with fail
      refine CSk.out.mono ?_
      rintro e w1 ⟨rfl, hb1⟩
      have hown := HOW.out.all hb1
      have hw1 := below_step HXA.out.2 hb1
      have hsz := hw1.size
      have hca := cells_new (cs := stC (⟨gp, gn, gm, ga, gu⟩, D)) w1 StT
      clear hb1 HOW HXA CSk x0 x1 x2 x3 x4 y0 y1 y2 y3 y4
      go_wp2_with (at_builtin; refine wpList_append_own _ rfl _ _ 160 rfl w.heap.size 155 i0 _ 6 48 Try.underlying160 hi0 hz0 hz1 hz2 rfl (by decide) _ _ _ rfl (hown.alloc _) ⟨w1.heap.size, 0, none⟩ 1 1 (stC (⟨gp, gn, gm, ga, gu⟩, D)) rfl rfl ?c1 (stC_one _) ?c3 ?c4 ?c5 ?_)
      case c1 => first | exact hca | exact fun j u h => h
      case c3 => unfold maxLen; omega
      case c4 => omega
      case c5 => first | omega | (simp; omega)
      intro v' w9 hr9 hg9 _
      have hw9 := (below_alloc2 hw1 (.cells (stC (⟨gp, gn, gm, ga, gu⟩, D)).toArray StT)).grown hg9 (by simp; omega) (fun j e => (World.ownsRow.lt hown j e).1)
      have hp9 : OwnSt w.heap.size w9 v' (L ++ [(⟨gp, gn, gm, ga, gu⟩, D)]) := OwnG.pushed hr9
      rw [← HTK.out] at hp9
      obtain ⟨a9, c9, e9⟩ := (hp9.rows stC_len).form
      subst e9
      have H9 := Lib.hid (And.intro hp9 hw9)
      clear hown hw1 hsz hca hr9 hg9 hw9 hp9
      go_wp2
      go_roundw
      case rel => exact ⟨k + 1, L9, a9, c9, by omega, hLk, rfl, by go_num, Lib.hid ⟨HL9.out, H9.out⟩⟩
      case measure => simp [intOf]; omega
    · obtain rfl : k = gs.length := by omega
      have e9 := hg.out.1.trans HTL.out
      have HG := Lib.hid hg.out.2
      clear hg HTL HT HLN
      subst e9
      go_wp2
      go_ret
      exact ⟨_, _, rfl, HG.out⟩
end Go.Proofs.Ytabfcnfddemblaa.Lo
