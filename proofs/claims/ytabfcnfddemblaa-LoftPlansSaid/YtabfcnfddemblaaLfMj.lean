/- Proofs: of the program. Proofs: of the program, whole. -/
import Derived.Test.YtabfcnfddemblaaLf20
namespace Go.Proofs.Ytabfcnfddemblaa.Lo
open Go.RowKit

theorem S_succ (f : Nat → Int) (n : Nat) : Lf.S f (n + 1) = Lf.S f n + f n := rfl
theorem pls_succ (ls : List Lf.F) {k : Nat} (h : k < ls.length) : Lf.pls ls (k + 1) = Lf.pls ls k + ls[k].p := by
  show Lf.pls ls k + (ls.getD k default).p = _
  rw [show ls.getD k default = ls[k] by simp [h]]
theorem pls_bd {ls : List Lf.F} (hF : ∀ k (hk : k < ls.length), Lf.okF ls[k] = true) : ∀ k, k ≤ ls.length → 0 ≤ Lf.pls ls k ∧ Lf.pls ls k ≤ 40 * k
  | 0, _ => ⟨Int.le_refl _, Int.le_refl _⟩
  | k + 1, hk => by
    have := pls_bd hF k (by omega)
    have := (Lf.okF_iff.1 (hF k (by omega))).1
    rw [pls_succ ls (by omega)]; omega
set_option maxRecDepth 100000 in
set_option maxHeartbeats 2000000 in
theorem polesOf_any (v : Value) (ls : List Lf.F) (w : World) (hl : Lofts w v ls) (hF : ∀ k (hk : k < ls.length), Lf.okF ls[k] = true) (h3 : ls.length ≤ 3) :
    Calls Try.prog 104 #[v] w fun e w' => e = .returned (.int .i64 (Lf.pls ls ls.length)) ∧ Below w.heap.size w w' := by
  obtain ⟨ao, c, rfl, _, hlk⟩ := hl
  have HK := Lib.hid hlk
  have hw0 := Lib.hid (Below.refl w.heap.size w)
  have HS := Lib.hid (fun k (hk : k < ls.length) => pls_succ ls hk)
  have HB := Lib.hid (fun k (hk : k ≤ ls.length) => pls_bd hF k hk)
  have H0 : Hid (Lf.pls ls 0 = 0) := Lib.hid rfl
  obtain ⟨E, hE⟩ : ∃ E, E = Lf.pls ls ls.length := ⟨_, rfl⟩
  rw [← hE]
  have HE := Lib.hid hE
  clear hlk hE hF
  go_enter Try.func104, Try.ntmps104
  go_wp2
  go_loopw [3, 8] (fun s t wr => ∃ (k : Nat) (x : Int), k ≤ ls.length ∧ s = .int .i64 x ∧ t = .int .i64 k ∧ (0 ≤ x ∧ x ≤ 120) ∧ Hid (x = Lf.pls ls k ∧ Below w.heap.size w wr)) (fun _ t _ => ls.length - (intOf t).toNat)
  case atStart => exact ⟨0, 0, Nat.zero_le _, rfl, rfl, by omega, Lib.hid ⟨H0.out.symm, hw0.out⟩⟩
  case round =>
    obtain ⟨k, x, hk, rfl, rfl, hx, hg⟩ := hrel
    clear hw0
    by_cases hlt : k < ls.length
    · obtain ⟨b, off, rfl, hb, hr⟩ := HK.out k hlt
      obtain ⟨v, ⟨c0, c1⟩, hI⟩ := hr.all hg.out.2 hb
      obtain ⟨va, vc, rfl⟩ := hI.form
      have HSk := HS.out k hlt
      have hb2 := HB.out (k + 1) (by omega)
      rw [← hg.out.1] at HSk
      have HG := Lib.hid (below_alloc2 hg.out.2 (.cells (loftA ls[k].p (.slice va ls[k].rs.length vc)) LoftT))
      have HBL := Lib.hid (BlockAt.new wr (loftA ls[k].p (.slice va ls[k].rs.length vc)) LoftT)
      obtain ⟨x2, hx2⟩ : ∃ x2, x2 = Lf.pls ls (k + 1) := ⟨_, rfl⟩
      rw [← hx2] at HSk hb2
      have HX2 := Lib.hid hx2
      clear hr hI hg hx2
      generalize ls[k] = f at *
      obtain ⟨fp, fr⟩ := f
      dsimp only at *
      have y0 : World.cell? _ _ = some (.int .i64 fp) := HBL.out.cell 0
      have g1 : IntKind.i64.wrap (x + fp) = x2 := by rw [← HSk]; exact IntWalk.i64_in _ ⟨by omega, by omega⟩
      go_wp2
      go_roundw
      case rel => exact ⟨k + 1, x2, by omega, by rw [HSk], by go_num, ⟨by omega, by omega⟩, Lib.hid ⟨HX2.out, HG.out⟩⟩
      case measure => simp [intOf]; omega
    · obtain rfl : k = ls.length := by omega
      have e9 := hg.out.1.trans HE.out.symm
      have HG := Lib.hid hg.out.2
      clear hg
      subst e9
      go_wp2
      go_ret
      exact ⟨rfl, HG.out⟩
abbrev SG := Lf.G × Nat
def stC (x : SG) : List Value := [.int .i64 x.1.p, .int .i64 x.1.n, .int .i64 x.1.m, .int .i64 x.1.a, .int .i64 x.1.u, .int .i64 (x.2 : Int)]
theorem stC_len (x : SG) : (stC x).length = 6 := rfl
theorem stC_one (x : SG) : ∀ u ∈ stC x, u.oneCell' = true := by
  intro u h; simp [stC] at h; rcases h with rfl | rfl | rfl | rfl | rfl | rfl <;> rfl
abbrev OwnSt (base : Nat) (w : World) (v : Value) (xs : List SG) : Prop := OwnG 155 6 stC base w v xs
abbrev Stays (w : World) (v : Value) (xs : List SG) : Prop := RowsOf 6 stC w v xs
def sts (ls : List Lf.F) (gs : List Lf.G) : List SG := gs.map fun g => (g, Lf.dyN ls g)
theorem sts_len (ls : List Lf.F) (gs : List Lf.G) : (sts ls gs).length = gs.length := by simp [sts]
theorem sts_take (ls : List Lf.F) (gs : List Lf.G) {k : Nat} (h : k < gs.length) : (sts ls gs).take (k + 1) = (sts ls gs).take k ++ [(gs[k], Lf.dyN ls gs[k])] := by
  rw [List.take_succ_eq_append_getElem (by rw [sts_len]; exact h)]; simp [sts]
theorem st_at {x : SG} {w : World} {b off : Nat} (h : CellsAt (stC x) w b off) : w.cell? ⟨b, off, none⟩ = some (.int .i64 x.1.p) ∧ w.cell? ⟨b, off + 1, none⟩ = some (.int .i64 x.1.n) ∧ w.cell? ⟨b, off + 2, none⟩ = some (.int .i64 x.1.m) ∧ w.cell? ⟨b, off + 3, none⟩ = some (.int .i64 x.1.a) ∧ w.cell? ⟨b, off + 4, none⟩ = some (.int .i64 x.1.u) ∧ w.cell? ⟨b, off + 5, none⟩ = some (.int .i64 (x.2 : Int)) :=
  ⟨h 0 _ rfl, h 1 _ rfl, h 2 _ rfl, h 3 _ rfl, h 4 _ rfl, h 5 _ rfl⟩
set_option maxRecDepth 100000 in
set_option maxHeartbeats 4000000 in
theorem staysOf_any (u v : Value) (ls : List Lf.F) (gs : List Lf.G) (w : World) (hu : Lofts w u ls) (hv : Goods w v gs) (hF : ∀ k (hk : k < ls.length), Lf.okF ls[k] = true) (h3 : ls.length ≤ 3) (hG : ∀ k (hk : k < gs.length), Lf.okG gs[k] = true) (h8 : gs.length ≤ 8) :
    Calls Try.prog 105 #[u, v] w fun e w' => ∃ a c, e = .returned (.slice a (sts ls gs).length c) ∧ OwnSt w.heap.size w' (.slice a (sts ls gs).length c) (sts ls gs) ∧ Below w.heap.size w w' := by
  obtain ⟨i0, hi0, hz0, hz1, hz2⟩ := info_parts infoStay
  have CS := Lib.hid (fun k (hk : k < gs.length) W (hW : Below w.heap.size w W) => stayOf_any u ls gs[k] W (hu.all hW) hF h3 (Lf.isRp_iff.2 (Lf.okG_iff.1 (hG k hk)).2.1))
  obtain ⟨ua, uc, rfl⟩ := hu.form
  obtain ⟨ao, c, rfl, _, hlk⟩ := hv
  have HK := Lib.hid hlk
  have hw0 := Lib.hid (Below.refl w.heap.size w)
  have HT := Lib.hid (fun k (hk : k < gs.length) => sts_take ls gs hk)
  have HTL := Lib.hid (show (sts ls gs).take gs.length = sts ls gs by rw [List.take_of_length_le (by rw [sts_len]; omega)])
  have HLN := Lib.hid (fun k (hk : k ≤ gs.length) => show ((sts ls gs).take k).length = k by rw [List.length_take, sts_len]; omega)
  have H0 : Hid ((sts ls gs).take 0 = []) := Lib.hid rfl
  clear hlk hF hu hG
  generalize sts ls gs = X at *
  go_enter Try.func105, Try.ntmps105
  go_wp2
  go_loopw [5, 10] (fun s t wr => ∃ (k : Nat) (L : List SG) (a : Option Addr) (c1 : Nat), k ≤ gs.length ∧ L.length ≤ 8 ∧ s = .slice a L.length c1 ∧ t = .int .i64 k ∧ Hid (L = X.take k ∧ OwnSt w.heap.size wr (.slice a L.length c1) L ∧ Below w.heap.size w wr)) (fun _ t _ => gs.length - (intOf t).toNat)
  case atStart => exact ⟨0, [], none, 0, Nat.zero_le _, by simp, rfl, rfl, Lib.hid ⟨H0.out.symm, OwnG.nil _ _, hw0.out⟩⟩
  case round =>
    obtain ⟨k, L, a, c1, hk, hL, rfl, rfl, hg⟩ := hrel
    clear hw0 H0
    by_cases hlt : k < gs.length
    · obtain ⟨bb, off, rfl, hb, hr⟩ := HK.out k hlt
      obtain ⟨y0, y1, y2, y3, y4⟩ := gd_at (hr.below hg.out.2.2 hb)
      have HTk := HT.out k hlt
      rw [← hg.out.1] at HTk
      have HXA := Lib.hid (And.intro (BlockAt.new wr (gdA gs[k]) GoodT) (below_alloc2 hg.out.2.2 (.cells (gdA gs[k]) GoodT)))
      have HOW := Lib.hid (hg.out.2.1.alloc (.cells (gdA gs[k]) GoodT))
      have CSk := Lib.hid (CS.out k hlt _ HXA.out.2)
      obtain ⟨L9, hL9⟩ : ∃ L9, L9 = X.take (k + 1) := ⟨_, rfl⟩
      have HL9 := Lib.hid hL9
      have hLk : L9.length ≤ 8 := by rw [hL9, HLN.out (k + 1) (by omega)]; omega
      rw [← hL9] at HTk
      clear hg hr hL9
      generalize Lf.dyN ls gs[k] = D at *
      generalize gs[k] = g at *
      obtain ⟨gp, gn, gm, ga, gu⟩ := g
      dsimp only at *
      have HTK := Lib.hid HTk
      clear HTk
      have x0 : World.cell? _ _ = some (.int .i64 gp) := HXA.out.1.cell 0
      have x1 : World.cell? _ _ = some (.int .i64 gn) := HXA.out.1.cell 1
      have x2 : World.cell? _ _ = some (.int .i64 gm) := HXA.out.1.cell 2
      have x3 : World.cell? _ _ = some (.int .i64 ga) := HXA.out.1.cell 3
      have x4 : World.cell? _ _ = some (.int .i64 gu) := HXA.out.1.cell 4
      go_wp2_with fail
      refine CSk.out.mono ?_
      rintro e w1 ⟨rfl, hb1⟩
      have hown := HOW.out.all hb1
      have hw1 := below_step HXA.out.2 hb1
      have hsz := hw1.size
      have hca := cells_new (cs := stC (⟨gp, gn, gm, ga, gu⟩, D)) w1 StT
      clear hb1 HOW HXA CSk x0 x1 x2 x3 x4 y0 y1 y2 y3 y4
      go_wp2_with (at_builtin; refine wpList_append_own _ rfl _ _ 160 rfl w.heap.size 155 i0 _ 6 48 Try.underlying160 hi0 hz0 hz1 hz2 rfl (by decide) _ _ _ rfl (hown.alloc _) ⟨w1.heap.size, 0, none⟩ 1 1 (stC (⟨gp, gn, gm, ga, gu⟩, D)) rfl rfl ?c1 (stC_one _) ?c3 ?c4 ?c5 ?_)
      case c1 => first | exact hca | exact fun j u h => h
      case c3 => unfold maxLen; omega
      case c4 => omega
      case c5 => first | omega | (simp; omega)
      intro v' w9 hr9 hg9 _
      have hw9 := (below_alloc2 hw1 (.cells (stC (⟨gp, gn, gm, ga, gu⟩, D)).toArray StT)).grown hg9 (by simp; omega) (fun j e => (World.ownsRow.lt hown j e).1)
      have hp9 : OwnSt w.heap.size w9 v' (L ++ [(⟨gp, gn, gm, ga, gu⟩, D)]) := OwnG.pushed hr9
      rw [← HTK.out] at hp9
      obtain ⟨a9, c9, e9⟩ := (hp9.rows stC_len).form
      subst e9
      have H9 := Lib.hid (And.intro hp9 hw9)
      clear hown hw1 hsz hca hr9 hg9 hw9 hp9
      go_wp2
      go_roundw
      case rel => exact ⟨k + 1, L9, a9, c9, by omega, hLk, rfl, by go_num, Lib.hid ⟨HL9.out, H9.out⟩⟩
      case measure => simp [intOf]; omega
    · obtain rfl : k = gs.length := by omega
      have e9 := hg.out.1.trans HTL.out
      have HG := Lib.hid hg.out.2
      clear hg HTL HT HLN
      subst e9
      go_wp2
      go_ret
      exact ⟨_, _, rfl, HG.out⟩
end Go.Proofs.Ytabfcnfddemblaa.Lo
namespace Go.Proofs.Ytabfcnfddemblaa.Lo
open Go.RowKit

theorem ndk_at (ls : List Lf.F) {gs : List Lf.G} (a b : Int) {k : Nat} (h : k < gs.length) : Lf.ndk ls gs a b k = if Lf.inW gs[k] a b = true then gs[k].p * Lf.dyN ls gs[k] else 0 := by
  unfold Lf.ndk
  rw [show gs.getD k default = gs[k] by simp [h]]
theorem ndS_in {ls : List Lf.F} {gs : List Lf.G} {a b : Int} {k : Nat} (h : k < gs.length) (hi : Lf.inW gs[k] a b = true) : Lf.S (Lf.ndk ls gs a b) (k + 1) = Lf.S (Lf.ndk ls gs a b) k + gs[k].p * Lf.dyN ls gs[k] := by
  rw [S_succ, ndk_at ls a b h, if_pos hi]
theorem ndS_out {ls : List Lf.F} {gs : List Lf.G} {a b : Int} {k : Nat} (h : k < gs.length) (hi : ¬ Lf.inW gs[k] a b = true) : Lf.S (Lf.ndk ls gs a b) (k + 1) = Lf.S (Lf.ndk ls gs a b) k := by
  rw [S_succ, ndk_at ls a b h, if_neg hi, Int.add_zero]
theorem pd_bd {p : Int} {d : Nat} (hp : 1 ≤ p ∧ p ≤ 40) (hd : d ≤ 12) : 0 ≤ p * (d : Int) ∧ p * (d : Int) ≤ 480 := by
  refine ⟨Int.mul_nonneg (by omega) (by omega), ?_⟩
  have h1 : p * (d : Int) ≤ 40 * (d : Int) := Int.mul_le_mul_of_nonneg_right hp.2 (by omega)
  omega
theorem ndS_bd {ls : List Lf.F} {gs : List Lf.G} (hG : ∀ k (hk : k < gs.length), Lf.okG gs[k] = true) (a b : Int) : ∀ k, k ≤ gs.length → 0 ≤ Lf.S (Lf.ndk ls gs a b) k ∧ Lf.S (Lf.ndk ls gs a b) k ≤ 480 * k
  | 0, _ => ⟨Int.le_refl _, Int.le_refl _⟩
  | k + 1, hk => by
    have ih := ndS_bd (ls := ls) hG a b k (by omega)
    have hp := (Lf.okG_iff.1 (hG k (by omega))).1
    have := pd_bd hp (Lf.dyk_le ls gs[k] ls.length)
    by_cases hi : Lf.inW gs[k] a b = true
    · rw [ndS_in (by omega) hi]
      have e : Lf.dyN ls gs[k] = Lf.dyk ls gs[k] ls.length := rfl
      rw [e]; omega
    · rw [ndS_out (by omega) hi]; omega
theorem nvr_succ {ls : List Lf.F} {gs : List Lf.G} {a b : Int} {k : Nat} (h : k < gs.length) : Lf.nvr ls gs a b (k + 1) = (Lf.nvr ls gs a b k || (Lf.inW gs[k] a b && decide (Lf.dyN ls gs[k] = 0))) := by
  unfold Lf.nvr
  rw [List.range_succ, List.any_append, List.any_cons, List.any_nil, Bool.or_false, show gs.getD k default = gs[k] by simp [h]]
theorem prf_not {ls : List Lf.F} {gs : List Lf.G} {a b : Int} (h : Lf.wOk a b = false) : Lf.prf ls gs a b = false := by rw [Lf.prf, h]; rfl
theorem prf_nvr {ls : List Lf.F} {gs : List Lf.G} {a b : Int} {k : Nat} (h : Lf.wOk a b = true) (hk : k < gs.length) (hi : Lf.inW gs[k] a b = true) (hd : Lf.dyN ls gs[k] = 0) : Lf.prf ls gs a b = true := by
  have e : Lf.nvr ls gs a b gs.length = true := by
    unfold Lf.nvr
    refine List.any_eq_true.2 ⟨k, List.mem_range.2 hk, ?_⟩
    rw [show gs.getD k default = gs[k] by simp [hk], hi, hd]; rfl
  rw [Lf.prf, h, e]; rfl
theorem prf_end {ls : List Lf.F} {gs : List Lf.G} {a b : Int} (h : Lf.wOk a b = true) (hn : Lf.nvr ls gs a b gs.length = false) : Lf.prf ls gs a b = decide (Lf.pls ls ls.length * (b - a) < Lf.S (Lf.ndk ls gs a b) gs.length) := by
  rw [Lf.prf, h, hn]; simp
theorem wOk_def (a b : Int) : Lf.wOk a b = (Lf.rng 0 b a && decide (b ≤ 60)) := rfl
theorem inW_def (g : Lf.G) (a b : Int) : Lf.inW g a b = (decide (a ≤ g.a) && decide (g.u ≤ b)) := rfl
abbrev WinT : TypeId := 90
abbrev winV (a b : Int) : Value := .agg #[.int .i64 a, .int .i64 b]
abbrev winA (a b : Int) : Array Value := #[.int .i64 a, .int .i64 b]
theorem pw_bd {P a b : Int} (hP : 0 ≤ P ∧ P ≤ 120) (h : 0 ≤ a ∧ a ≤ b ∧ b ≤ 60) : 0 ≤ P * (b - a) ∧ P * (b - a) ≤ 7200 := by
  refine ⟨Int.mul_nonneg hP.1 (by omega), ?_⟩
  have h1 : P * (b - a) ≤ 120 * (b - a) := Int.mul_le_mul_of_nonneg_right hP.2 (by omega)
  omega
set_option maxRecDepth 100000 in
set_option maxHeartbeats 8000000 in
theorem isProof_any (v : Value) (ls : List Lf.F) (gs : List Lf.G) (a b : Int) (w : World) (hv : Stays w v (sts ls gs)) (hF : ∀ k (hk : k < ls.length), Lf.okF ls[k] = true) (h3 : ls.length ≤ 3) (hG : ∀ k (hk : k < gs.length), Lf.okG gs[k] = true) (h8 : gs.length ≤ 8) :
    Calls Try.prog 106 #[.int .i64 (Lf.pls ls ls.length), v, winV a b] w fun e w' => e = .returned (.bool (Lf.prf ls gs a b)) ∧ Below w.heap.size w w' := by
  have HBW := Lib.hid (And.intro (BlockAt.new w (winA a b) WinT) (below_alloc2 (Below.refl w.heap.size w) (.cells (winA a b) WinT)))
  have x0 : World.cell? _ _ = some (.int .i64 a) := HBW.out.1.cell 0
  have x1 : World.cell? _ _ = some (.int .i64 b) := HBW.out.1.cell 1
  have C0 := Lib.hid (fun W => isFrom_any 0 b a W)
  have HP : 0 ≤ Lf.pls ls ls.length ∧ Lf.pls ls ls.length ≤ 120 := by have := pls_bd hF ls.length (Nat.le_refl _); omega
  obtain ⟨ao, c, rfl, _, hvk⟩ := hv
  have HK : Hid (∀ k (hk : k < gs.length), ∃ bb off, ao = some ⟨bb, off, none⟩ ∧ bb < w.heap.size ∧ CellsAt (stC (gs[k], Lf.dyN ls gs[k])) w bb (off + k * 6)) := Lib.hid fun k hk => by
    obtain ⟨bb, off, e1, e2, e3⟩ := hvk k (by rw [sts_len]; exact hk)
    refine ⟨bb, off, e1, e2, ?_⟩
    have e4 : (sts ls gs)[k]'(by rw [sts_len]; exact hk) = (gs[k], Lf.dyN ls gs[k]) := by simp [sts]
    rw [← e4]; exact e3
  rw [sts_len]
  clear hvk
  have HIN := Lib.hid (fun k (hk : k < gs.length) h => ndS_in (ls := ls) (a := a) (b := b) hk h)
  have HOUT := Lib.hid (fun k (hk : k < gs.length) h => ndS_out (ls := ls) (a := a) (b := b) hk h)
  have HNV := Lib.hid (fun k (hk : k < gs.length) => nvr_succ (ls := ls) (a := a) (b := b) hk)
  have HSB := Lib.hid (fun k (hk : k ≤ gs.length) => ndS_bd (ls := ls) hG a b k hk)
  have HPD := Lib.hid (fun k (hk : k < gs.length) => pd_bd (Lf.okG_iff.1 (hG k hk)).1 (show Lf.dyN ls gs[k] ≤ 12 from Lf.dyk_le ls gs[k] ls.length))
  have HD := Lib.hid (fun k (hk : k < gs.length) => show Lf.dyN ls gs[k] ≤ 12 from Lf.dyk_le ls gs[k] ls.length)
  have HGP := Lib.hid (fun k (hk : k < gs.length) => (Lf.okG_iff.1 (hG k hk)).1)
  have HID := Lib.hid (fun k (hk : k < gs.length) => inW_def gs[k] a b)
  have H0 : Hid (Lf.S (Lf.ndk ls gs a b) 0 = 0 ∧ Lf.nvr ls gs a b 0 = false) := Lib.hid ⟨rfl, rfl⟩
  have HNOT := Lib.hid (fun h => prf_not (ls := ls) (gs := gs) (a := a) (b := b) h)
  have HYES := Lib.hid (fun k hk h1 h2 h3 => prf_nvr (ls := ls) (gs := gs) (a := a) (b := b) (k := k) h1 hk h2 h3)
  have HEND := Lib.hid (fun h1 h2 => prf_end (ls := ls) (gs := gs) (a := a) (b := b) h1 h2)
  have HWD := Lib.hid (wOk_def a b)
  have HWI := Lib.hid (fun h => Lf.wOk_iff.1 (show Lf.wOk a b = true from h))
  generalize Lf.pls ls ls.length = P at *
  generalize Lf.prf ls gs a b = R at *
  generalize Lf.wOk a b = wo at *
  clear hF hG
  cases hr : Lf.rng 0 b a
  · have e1 := HNOT.out (by rw [HWD.out, hr]; rfl)
    subst e1
    rw [hr] at C0
    clear hr HNOT HYES HEND HWD HWI HIN HOUT HNV HSB HPD HD HGP HID H0 HK
    go_enter Try.func106, Try.ntmps106
    go_wp2_with fail
    refine (C0.out _).mono ?_
    rintro e w1 ⟨rfl, rfl⟩
    go_wp2
    go_ret
    exact ⟨rfl, HBW.out.2⟩
  by_cases hb60 : b ≤ 60
  case neg =>
    have e1 := HNOT.out (by rw [HWD.out, decide_eq_false hb60, Bool.and_false])
    subst e1
    rw [hr] at C0
    have q1 : decide (60 < b) = true := decide_eq_true (by omega)
    have q2 : decide (b > 60) = true := decide_eq_true (by omega)
    clear hr HNOT HYES HEND HWD HWI HIN HOUT HNV HSB HPD HD HGP HID H0 HK
    go_enter Try.func106, Try.ntmps106
    go_wp2_with fail
    refine (C0.out _).mono ?_
    rintro e w1 ⟨rfl, rfl⟩
    go_wp2
    go_ret
    exact ⟨rfl, HBW.out.2⟩
  have hwo : wo = true := by rw [HWD.out, hr, decide_eq_true hb60]; rfl
  have hwi := HWI.out hwo
  have HY2 := Lib.hid (fun k hk h2 h3 => HYES.out k hk hwo h2 h3)
  have HE2 := Lib.hid (fun h => HEND.out hwo h)
  have hpw := pw_bd HP hwi
  rw [hr] at C0
  have q1 : decide (60 < b) = false := decide_eq_false (by omega)
  have q2 : decide (b > 60) = false := decide_eq_false (by omega)
  clear hr HNOT HYES HEND HWD HWI hwo hb60
  obtain ⟨PW, hPW⟩ : ∃ PW, PW = P * (b - a) := ⟨_, rfl⟩
  rw [← hPW] at hpw HE2
  go_enter Try.func106, Try.ntmps106
  go_wp2_with fail
  refine (C0.out _).mono ?_
  rintro e w1 ⟨rfl, rfl⟩
  go_wp2
  clear q1 q2 x0 x1
  go_loopw [7, 23] (fun s t wr => ∃ (k : Nat) (x : Int), k ≤ gs.length ∧ s = .int .i64 x ∧ t = .int .i64 k ∧ (0 ≤ x ∧ x ≤ 3840) ∧ Hid (x = Lf.S (Lf.ndk ls gs a b) k ∧ Lf.nvr ls gs a b k = false ∧ BlockAt wr w.heap.size (winA a b) WinT ∧ Below w.heap.size w wr)) (fun _ t _ => gs.length - (intOf t).toNat)
  case atStart => exact ⟨0, 0, Nat.zero_le _, rfl, rfl, by omega, Lib.hid ⟨H0.out.1.symm, H0.out.2, HBW.out.1, HBW.out.2⟩⟩
  case round =>
    obtain ⟨k, x, hk, rfl, rfl, hx, hg⟩ := hrel
    clear HBW H0
    by_cases hlt : k < gs.length
    · obtain ⟨bb, off, hao, hb, hr⟩ := HK.out k hlt
      obtain ⟨y0, y1, y2, y3, y4, y5⟩ := st_at (hr.below hg.out.2.2.2 hb)
      have HINk := Lib.hid (HIN.out k hlt)
      have HOUTk := Lib.hid (HOUT.out k hlt)
      have HNVk := Lib.hid (HNV.out k hlt)
      have hsb := HSB.out (k + 1) (by omega)
      have hpd := HPD.out k hlt
      have hdd := HD.out k hlt
      have hgp := HGP.out k hlt
      have HIDk := Lib.hid (HID.out k hlt)
      have HYk := Lib.hid (HY2.out k hlt)
      have HX := Lib.hid (And.intro (BlockAt.new wr (stA gs[k] (Lf.dyN ls gs[k])) StT) (And.intro (hg.out.2.2.1.alloc (.cells (stA gs[k] (Lf.dyN ls gs[k])) StT)) (below_alloc2 hg.out.2.2.2 (.cells (stA gs[k] (Lf.dyN ls gs[k])) StT))))
      have HXK := Lib.hid (And.intro hg.out.1 hg.out.2.1)
      clear hr hg
      rw [← HXK.out.1] at HINk HOUTk
      rw [HXK.out.2] at HNVk
      obtain ⟨x2, hx2⟩ : ∃ x2, x2 = Lf.S (Lf.ndk ls gs a b) (k + 1) := ⟨_, rfl⟩
      rw [← hx2] at HINk HOUTk hsb
      have HX2 := Lib.hid hx2
      obtain ⟨nv, hnv⟩ : ∃ nv, nv = Lf.nvr ls gs a b (k + 1) := ⟨_, rfl⟩
      rw [← hnv] at HNVk
      have HNV2 := Lib.hid hnv
      clear hx2 hnv HXK
      generalize Lf.dyN ls gs[k] = D at *
      generalize Lf.inW gs[k] a b = iw at *
      generalize gs[k] = g at *
      obtain ⟨gp, gn, gm, ga, gu⟩ := g
      dsimp only at *
      have z0 : World.cell? _ _ = some (.int .i64 gp) := HX.out.1.cell 0
      have z3 : World.cell? _ _ = some (.int .i64 ga) := HX.out.1.cell 3
      have z4 : World.cell? _ _ = some (.int .i64 gu) := HX.out.1.cell 4
      have z5 : World.cell? _ _ = some (.int .i64 (D : Int)) := HX.out.1.cell 5
      have x0 : World.cell? _ _ = some (.int .i64 a) := HX.out.2.1.cell 0
      have x1 : World.cell? _ _ = some (.int .i64 b) := HX.out.2.1.cell 1
      by_cases q1 : a ≤ ga
      case neg =>
        have hiw : iw = false := by rw [HIDk.out, decide_eq_false q1]; rfl
        have e2 := HOUTk.out (by rw [hiw]; decide)
        have e3 : nv = false := by rw [HNVk.out, hiw]; rfl
        have d1 : decide (ga < a) = true := decide_eq_true (by omega)
        have HF := Lib.hid (And.intro (e2.symm.trans HX2.out) (e3.symm.trans HNV2.out))
        clear hiw e2 e3 HINk HOUTk HNVk HYk HIDk
        go_wp2
        go_roundw
        case rel => exact ⟨k + 1, x, by omega, rfl, by go_num, hx, Lib.hid ⟨HF.out.1, HF.out.2.symm, HX.out.2⟩⟩
        case measure => simp [intOf]; omega
      have d1 : decide (ga < a) = false := decide_eq_false (by omega)
      by_cases q2 : gu ≤ b
      case neg =>
        have hiw : iw = false := by rw [HIDk.out, decide_eq_false q2, Bool.and_false]
        have e2 := HOUTk.out (by rw [hiw]; decide)
        have e3 : nv = false := by rw [HNVk.out, hiw]; rfl
        have d2 : decide (gu > b) = true := decide_eq_true (by omega)
        have d3 : decide (b < gu) = true := decide_eq_true (by omega)
        have HF := Lib.hid (And.intro (e2.symm.trans HX2.out) (e3.symm.trans HNV2.out))
        clear hiw e2 e3 HINk HOUTk HNVk HYk HIDk
        go_wp2
        go_roundw
        case rel => exact ⟨k + 1, x, by omega, rfl, by go_num, hx, Lib.hid ⟨HF.out.1, HF.out.2.symm, HX.out.2⟩⟩
        case measure => simp [intOf]; omega
      have d2 : decide (gu > b) = false := decide_eq_false (by omega)
      have d3 : decide (b < gu) = false := decide_eq_false (by omega)
      have hiw : iw = true := by rw [HIDk.out, decide_eq_true q1, decide_eq_true q2]; rfl
      by_cases q4 : D = 0
      · have e1 := HYk.out hiw q4
        subst e1
        clear z0 z3 z4 z5 x0 x1
        subst q4
        have HX' : Hid (BlockAt (wr.alloc (.cells #[.int .i64 gp, .int .i64 gn, .int .i64 gm, .int .i64 ga, .int .i64 gu, .int .i64 0] StT)) wr.heap.size #[.int .i64 gp, .int .i64 gn, .int .i64 gm, .int .i64 ga, .int .i64 gu, .int .i64 0] StT ∧ BlockAt (wr.alloc (.cells #[.int .i64 gp, .int .i64 gn, .int .i64 gm, .int .i64 ga, .int .i64 gu, .int .i64 0] StT)) w.heap.size (winA a b) WinT ∧ Below w.heap.size w (wr.alloc (.cells #[.int .i64 gp, .int .i64 gn, .int .i64 gm, .int .i64 ga, .int .i64 gu, .int .i64 0] StT))) := Lib.hid HX.out
        have y5' : World.cell? wr ⟨bb, off + k * 6 + 5, none⟩ = some (.int .i64 0) := y5
        clear HX y5
        have HX := HX'
        clear HX'
        have z0 : World.cell? _ _ = some (.int .i64 gp) := HX.out.1.cell 0
        have z3 : World.cell? _ _ = some (.int .i64 ga) := HX.out.1.cell 3
        have z4 : World.cell? _ _ = some (.int .i64 gu) := HX.out.1.cell 4
        have z5 : World.cell? _ _ = some (.int .i64 0) := HX.out.1.cell 5
        have x0 : World.cell? _ _ = some (.int .i64 a) := HX.out.2.1.cell 0
        have x1 : World.cell? _ _ = some (.int .i64 b) := HX.out.2.1.cell 1
        clear hiw HINk HOUTk HNVk HYk HIDk HE2
        go_wp2
        go_ret
        exact ⟨rfl, HX.out.2.2⟩
      have d4 : ((D : Int) == 0) = false := beq_eq_false_iff_ne.2 (by omega)
      have d5 : decide ((D : Int) = 0) = false := decide_eq_false (by omega)
      have d6 : decide (D = 0) = false := decide_eq_false q4
      have e2 := HINk.out hiw
      have e3 : nv = false := by rw [HNVk.out, hiw, d6]; rfl
      obtain ⟨PD, hPD⟩ : ∃ PD, PD = gp * (D : Int) := ⟨_, rfl⟩
      rw [← hPD] at e2 hpd
      have g1 : IntKind.i64.wrap PD = PD := IntWalk.i64_in _ ⟨by omega, by omega⟩
      have g2 : IntKind.i64.wrap (x + PD) = x + PD := IntWalk.i64_in _ ⟨by omega, by omega⟩
      have HF := Lib.hid (And.intro HX2.out (e3.symm.trans HNV2.out))
      clear hiw e3 HINk HOUTk HNVk HYk HIDk
      go_upto_region 10 with fail
      go_wp2_with (rw [← hPD])
      go_roundw
      case rel => exact ⟨k + 1, x2, by omega, by rw [e2], by go_num, ⟨by omega, by omega⟩, Lib.hid ⟨HF.out.1, HF.out.2.symm, HX.out.2⟩⟩
      case measure => simp [intOf]; omega
    · obtain rfl : k = gs.length := by omega
      have e1 := HE2.out hg.out.2.1
      rw [← hg.out.1] at e1
      have HG := Lib.hid hg.out.2.2
      clear hg
      have x0 : World.cell? _ _ = some (.int .i64 a) := HG.out.1.cell 0
      have x1 : World.cell? _ _ = some (.int .i64 b) := HG.out.1.cell 1
      have g0 : IntKind.i64.wrap (b - a) = b - a := IntWalk.i64_in _ ⟨by omega, by omega⟩
      have g1 : IntKind.i64.wrap (P * (b - a)) = PW := by rw [← hPW]; exact IntWalk.i64_in _ ⟨by omega, by omega⟩
      subst e1
      go_wp2
      go_ret
      exact ⟨by first | rfl | (rw [hPW]; rfl) | (simp [hPW]), HG.out.2⟩
end Go.Proofs.Ytabfcnfddemblaa.Lo
