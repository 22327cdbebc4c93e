/- Proofs: what the reference needs. -/
import Derived.Test.YtabfcnfddemblaaLfMj
import Derived.Test.YtabfcnfddemblaaLf24
namespace Go.Proofs.Ytabfcnfddemblaa.Lo
open Go.RowKit

def ned (ls : List Lf.F) (g : Lf.G) : Int := if Lf.dyN ls g = 0 then -1 else (Lf.dyN ls g : Int) * g.p
def neds (ls : List Lf.F) (gs : List Lf.G) : List Int := gs.map (ned ls)
theorem ned_0 {ls : List Lf.F} {g : Lf.G} (h : Lf.dyN ls g = 0) : ned ls g = -1 := if_pos h
theorem ned_1 {ls : List Lf.F} {g : Lf.G} (h : ¬ Lf.dyN ls g = 0) : ned ls g = (Lf.dyN ls g : Int) * g.p := if_neg h
theorem neds_len (ls : List Lf.F) (gs : List Lf.G) : (neds ls gs).length = gs.length := by simp [neds]
theorem neds_at (ls : List Lf.F) {gs : List Lf.G} {k : Nat} (h : k < gs.length) : (neds ls gs)[k]'(by rw [neds_len]; exact h) = ned ls gs[k] := by simp [neds]
theorem neds_take (ls : List Lf.F) (gs : List Lf.G) {k : Nat} (h : k < gs.length) : (neds ls gs).take (k + 1) = (neds ls gs).take k ++ [ned ls gs[k]] := by
  rw [List.take_succ_eq_append_getElem (by rw [neds_len]; exact h), neds_at ls h]
set_option maxRecDepth 100000 in
set_option maxHeartbeats 4000000 in
theorem rneeded_any (u v : Value) (ls : List Lf.F) (gs : List Lf.G) (w : World) (hu : Lofts w u ls) (hv : Goods w v gs) (hF : ∀ k (hk : k < ls.length), Lf.okF ls[k] = true) (h3 : ls.length ≤ 3) (hG : ∀ k (hk : k < gs.length), Lf.okG gs[k] = true) (h8 : gs.length ≤ 8) :
    Calls Try.prog 107 #[u, v] w fun e w' => ∃ a c, e = .returned (.slice a (neds ls gs).length c) ∧ OwnI w.heap.size w' (.slice a (neds ls gs).length c) (neds ls gs) ∧ Below w.heap.size w w' := by
  obtain ⟨i0, hi0, hz0, hz1, hz2⟩ := info_parts infoInt
  have CS := Lib.hid (fun k (hk : k < gs.length) W (hW : Below w.heap.size w W) => rdays_any u ls gs[k] W (hu.all hW) hF h3 (Lf.isRp_iff.2 (Lf.okG_iff.1 (hG k hk)).2.1))
  have HD := Lib.hid (fun k (hk : k < gs.length) => show Lf.dyN ls gs[k] ≤ 12 from Lf.dyk_le ls gs[k] ls.length)
  have HPD := Lib.hid (fun k (hk : k < gs.length) => pd_bd (Lf.okG_iff.1 (hG k hk)).1 (show Lf.dyN ls gs[k] ≤ 12 from Lf.dyk_le ls gs[k] ls.length))
  have HN0 := Lib.hid (fun k (hk : k < gs.length) h => ned_0 (ls := ls) (g := gs[k]'hk) h)
  have HN1 := Lib.hid (fun k (hk : k < gs.length) h => ned_1 (ls := ls) (g := gs[k]'hk) h)
  obtain ⟨ua, uc, rfl⟩ := hu.form
  obtain ⟨ao, c, rfl, _, hlk⟩ := hv
  have HK := Lib.hid hlk
  have hw0 := Lib.hid (Below.refl w.heap.size w)
  have HT := Lib.hid (fun k (hk : k < gs.length) => neds_take ls gs hk)
  have HTL := Lib.hid (show (neds ls gs).take gs.length = neds ls gs by rw [List.take_of_length_le (by rw [neds_len]; omega)])
  have HLN := Lib.hid (fun k (hk : k ≤ gs.length) => show ((neds ls gs).take k).length = k by rw [List.length_take, neds_len]; omega)
  have H0 : Hid ((neds ls gs).take 0 = []) := Lib.hid rfl
  clear hlk hF hu hG
  generalize neds ls gs = X at *
  go_enter Try.func107, Try.ntmps107
  go_wp2
  go_loopw [5, 6] (fun s t wr => ∃ (k : Nat) (L : List Int) (a : Option Addr) (c1 : Nat), k ≤ gs.length ∧ L.length ≤ 8 ∧ s = .slice a L.length c1 ∧ t = .int .i64 k ∧ Hid (L = X.take k ∧ OwnI w.heap.size wr (.slice a L.length c1) L ∧ Below w.heap.size w wr)) (fun _ t _ => gs.length - (intOf t).toNat)
  case atStart => exact ⟨0, [], none, 0, Nat.zero_le _, by simp, rfl, rfl, Lib.hid ⟨H0.out.symm, OwnG.nil _ _, hw0.out⟩⟩
  case round =>
    obtain ⟨k, L, a, c1, hk, hL, rfl, rfl, hg⟩ := hrel
    clear hw0 H0
    by_cases hlt : k < gs.length
    · obtain ⟨bb, off, rfl, hb, hr⟩ := HK.out k hlt
      obtain ⟨y0, y1, y2, y3, y4⟩ := gd_at (hr.below hg.out.2.2 hb)
      have HRR := Lib.hid (fun W (hW : Below w.heap.size w W) => (gd_at (hr.below hW hb)).1)
      have HTk := HT.out k hlt
      rw [← hg.out.1] at HTk
      have HW := Lib.hid hg.out.2.2
      have HOW := Lib.hid hg.out.2.1
      have CSk := Lib.hid (CS.out k hlt _ HW.out)
      have hdd := HD.out k hlt
      have hpd := HPD.out k hlt
      have HM0 := Lib.hid (HN0.out k hlt)
      have HM1 := Lib.hid (HN1.out k hlt)
      obtain ⟨L9, hL9⟩ : ∃ L9, L9 = X.take (k + 1) := ⟨_, rfl⟩
      have HL9 := Lib.hid hL9
      have hLk : L9.length ≤ 8 := by rw [hL9, HLN.out (k + 1) (by omega)]; omega
      rw [← hL9] at HTk
      clear hg hr hL9
      generalize ned ls gs[k] = nd at *
      generalize Lf.dyN ls gs[k] = D at *
      generalize gs[k] = g at *
      obtain ⟨gp, gn, gm, ga, gu⟩ := g
      dsimp only at *
      have HTK := Lib.hid HTk
      clear HTk
      by_cases q0 : D = 0
      · have e1 := HM0.out q0
        subst e1
        subst q0
        clear HM0 HM1
        go_wp2_with fail
        refine CSk.out.mono ?_
        rintro e w1 ⟨rfl, hb1⟩
        clear y0 y1 y2 y3 y4
        have hown := HOW.out.all hb1
        have hw1 := below_step HW.out hb1
        have hsz := hw1.size
        have hca := cells_new (cs := intL (-1 : Int)) w1 3
        clear hb1 HOW HW CSk
        go_wp2_with (at_builtin; (refine wpList_append_own _ rfl _ _ 24 rfl w.heap.size 3 i0 (.int .i64 0) 1 8 Try.underlying24 hi0 hz0 hz1 hz2 rfl (by decide) _ _ _ rfl (hown.alloc _) ⟨w1.heap.size, 0, none⟩ 1 1 (intL (-1 : Int)) rfl rfl ?c1 (intL_one _) ?c3 ?c4 ?c5 ?_))
        case c1 => first | exact hca | exact fun j u h => h
        case c3 => unfold maxLen; omega
        case c4 => omega
        case c5 => first | omega | (simp; omega)
        intro v' w9 hr9 hg9 _
        have hw9 := (below_alloc2 hw1 (.cells (intL (-1 : Int)).toArray 3)).grown hg9 (by simp; omega) (fun j e => (World.ownsRow.lt hown j e).1)
        have hp9 : OwnI w.heap.size w9 v' (L ++ [(-1 : Int)]) := OwnG.pushed hr9
        rw [← HTK.out] at hp9
        obtain ⟨a9, c9, e9⟩ := hp9.form
        subst e9
        have H9 := Lib.hid (And.intro hp9 hw9)
        clear hown hw1 hsz hca hr9 hg9 hw9 hp9
        go_wp2
        go_roundw
        case rel => exact ⟨k + 1, L9, a9, c9, by omega, hLk, rfl, by go_num, Lib.hid ⟨HL9.out, H9.out⟩⟩
        case measure => simp [intOf]; omega
      · have e1 := HM1.out q0
        have d1 : decide (0 < D) = true := decide_eq_true (by omega)
        rw [d1] at CSk
        have hcm : (D : Int) * gp = gp * (D : Int) := Int.mul_comm _ _
        rw [← hcm] at hpd
        subst e1
        clear hcm
        clear HM0 HM1
        go_wp2_with fail
        refine CSk.out.mono ?_
        rintro e w1 ⟨rfl, hb1⟩
        clear y0 y1 y2 y3 y4
        have y0 : World.cell? _ _ = some (.int .i64 gp) := HRR.out _ (below_step HW.out hb1)
        have hown := HOW.out.all hb1
        have hw1 := below_step HW.out hb1
        have hsz := hw1.size
        have hca := cells_new (cs := intL ((D : Int) * gp)) w1 3
        clear hb1 HOW HW CSk
        go_wp2_with (at_builtin; (refine wpList_append_own _ rfl _ _ 24 rfl w.heap.size 3 i0 (.int .i64 0) 1 8 Try.underlying24 hi0 hz0 hz1 hz2 rfl (by decide) _ _ _ rfl (hown.alloc _) ⟨w1.heap.size, 0, none⟩ 1 1 (intL ((D : Int) * gp)) rfl rfl ?c1 (intL_one _) ?c3 ?c4 ?c5 ?_))
        case c1 => first | exact hca | exact fun j u h => h
        case c3 => unfold maxLen; omega
        case c4 => omega
        case c5 => first | omega | (simp; omega)
        intro v' w9 hr9 hg9 _
        have hw9 := (below_alloc2 hw1 (.cells (intL ((D : Int) * gp)).toArray 3)).grown hg9 (by simp; omega) (fun j e => (World.ownsRow.lt hown j e).1)
        have hp9 : OwnI w.heap.size w9 v' (L ++ [((D : Int) * gp)]) := OwnG.pushed hr9
        rw [← HTK.out] at hp9
        obtain ⟨a9, c9, e9⟩ := hp9.form
        subst e9
        have H9 := Lib.hid (And.intro hp9 hw9)
        clear hown hw1 hsz hca hr9 hg9 hw9 hp9
        go_wp2
        go_roundw
        case rel => exact ⟨k + 1, L9, a9, c9, by omega, hLk, rfl, by go_num, Lib.hid ⟨HL9.out, H9.out⟩⟩
        case measure => simp [intOf]; omega
    · obtain rfl : k = gs.length := by omega
      have e9 := hg.out.1.trans HTL.out
      have HG := Lib.hid hg.out.2
      clear hg HTL HT HLN
      subst e9
      go_wp2
      go_ret
      exact ⟨_, _, rfl, HG.out⟩
end Go.Proofs.Ytabfcnfddemblaa.Lo
