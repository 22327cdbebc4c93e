/- The strips of a room: of the reference. -/
import Derived.Test.YtpobkdbnldogcaaFl19
import Derived.Test.YtpobkdbnldogcaaFlN3
namespace Go.Proofs.Ytpobkdbnldogcaa
open Go.RowKit

/-- Whether one of the first q cells of a row is there. -/
def Fl.fdK (rs : List Fl.R) (x y : Int) : Nat → Bool
  | 0 => false
  | q + 1 => Fl.fdK rs x y q || Fl.hasB rs (x + q) y
theorem Fl.fdK_iff {rs : List Fl.R} {x y : Int} : ∀ {q : Nat}, Fl.fdK rs x y q = true ↔ ∃ c : Nat, c < q ∧ Fl.hasB rs (x + c) y = true
  | 0 => by simp [Fl.fdK]
  | q + 1 => by
    rw [Fl.fdK, Bool.or_eq_true, Fl.fdK_iff]
    constructor
    · rintro (⟨c, hc, h⟩ | h)
      · exact ⟨c, by omega, h⟩
      · exact ⟨q, by omega, h⟩
    · rintro ⟨c, hc, h⟩
      by_cases e : c = q
      · subst e; exact .inr h
      · exact .inl ⟨c, by omega, h⟩
theorem Fl.fdK_row {rs : List Fl.R} (ho : ∀ k (hk : k < rs.length), Fl.okR rs[k] = true) {x y w : Int} {q : Nat} (hq : (q : Int) = w) (hw : 1 ≤ w) : Fl.fdK rs x y q = Fl.rowB rs x w y := by
  rw [Bool.eq_iff_iff, Fl.fdK_iff, Fl.rowB_cells ho hw]
  constructor
  · rintro ⟨c, hc, h⟩; exact ⟨c, by omega, h⟩
  · rintro ⟨c, hc, h⟩; exact ⟨c, by omega, h⟩
def Fl.fF (F y : Int) (b : Bool) : Int := if b = true ∧ F < 0 then y else F
def Fl.fU (U y : Int) (b : Bool) : Int := if b = true then y + 1 else U
theorem Fl.fF_true {F y : Int} (_hy : 0 ≤ y) (b : Bool) : (Fl.fF F y b < 0 → Fl.fF F y true = y) ∧ (0 ≤ Fl.fF F y b → Fl.fF F y true = Fl.fF F y b) := by
  unfold Fl.fF
  by_cases h : F < 0
  · cases b
    · rw [if_neg (by simp), if_pos ⟨rfl, h⟩]
      exact ⟨fun _ => rfl, fun h2 => by omega⟩
    · rw [if_pos ⟨rfl, h⟩]
      exact ⟨fun _ => rfl, fun _ => rfl⟩
  · rw [if_neg (fun hc => h hc.2), if_neg (fun hc => h hc.2)]
    exact ⟨fun h2 => absurd h2 h, fun _ => rfl⟩
theorem Fl.fF_or (F y : Int) (b : Bool) : Fl.fF F y (b || true) = Fl.fF F y true := by cases b <;> rfl
theorem Fl.fU_or (U y : Int) (b : Bool) : Fl.fU U y (b || true) = y + 1 := by cases b <;> rfl
theorem Fl.stk_r {rs : List Fl.R} (ho : ∀ k (hk : k < rs.length), Fl.okR rs[k] = true) {w o x : Int} {i : Nat} (hx : x = o - w + i * w) :
    (Fl.rF rs x w 60 < 0 → Fl.stk rs w o (i + 1) = Fl.stk rs w o i) ∧ (0 ≤ Fl.rF rs x w 60 → Fl.stk rs w o (i + 1) = Fl.stk rs w o i ++ [⟨x, Fl.rF rs x w 60, Fl.rT rs x w 60⟩]) := by
  rcases Fl.strip_same ho x w with ⟨h1, h2⟩ | ⟨h1, h2, h3, h4⟩
  · exact ⟨fun _ => Fl.stk_none hx (decide_eq_false h2), fun h => by omega⟩
  · refine ⟨fun h => by omega, fun _ => ?_⟩
    rw [Fl.stk_one hx (decide_eq_true h2), h3, h4]
/-- What lies in memory while a strip is sought. -/
def TsS (W0 : World) (x F U : Int) (wr : World) : Prop := BlockAt wr W0.heap.size (stripA x F U) StripT ∧ Below W0.heap.size W0 wr
theorem TsS.below {W0 wr w2 : World} {x F U : Int} (h : TsS W0 x F U wr) (hb : Below wr.heap.size wr w2) : TsS W0 x F U w2 := ⟨h.1.below hb h.1.lt, below_step h.2 hb⟩
theorem TsS.setT {W0 wr : World} {x F U : Int} (h : TsS W0 x F U wr) (T : Int) : TsS W0 x F T (wr.setCell ⟨W0.heap.size, 2, none⟩ (.int .i64 T)) := ⟨h.1.set 2 _, below_set h.2 (Nat.le_refl _) _⟩
theorem TsS.setF {W0 wr : World} {x F U : Int} (h : TsS W0 x F U wr) (T : Int) : TsS W0 x T U (wr.setCell ⟨W0.heap.size, 1, none⟩ (.int .i64 T)) := ⟨h.1.set 1 _, below_set h.2 (Nat.le_refl _) _⟩
set_option maxRecDepth 20000 in
set_option maxHeartbeats 8000000 in
theorem rstrips_any (rv dv : Value) (rs : List Fl.R) (n o : Int) (w : World) (hv : Rects w rv rs) (hl : rs.length ≤ 1000) (hok : ∀ k (hk : k < rs.length), Fl.okR rs[k] = true) (hn0 : 1 ≤ n) (hn1 : n ≤ 20) (ho0 : 0 ≤ o) (ho1 : o < n) :
    Calls Try.prog 66 #[roomV rv dv, .int .i64 n, .int .i64 o] w fun e w' => ∃ a c, e = .returned (.slice a (Fl.stL rs n o).length c) ∧ OwnS w.heap.size w' (.slice a (Fl.stL rs n o).length c) (Fl.stL rs n o) ∧ Below w.heap.size w w' := by
  obtain ⟨i0, hi, hz0, hz1, hz2⟩ := info_parts infoStrip
  have FS := Lib.hid (fun x y W (hW : Below w.heap.size w W) => rcell_any rv dv rs x y W (hv.all hW) hl hok)
  have HW := Lib.hid (And.intro (BlockAt.new w #[rv, dv] RoomT) (below_alloc2 (Below.refl w.heap.size w) (.cells #[rv, dv] RoomT)))
  have HNX := Lib.hid (fun (x : Int) (i : Nat) hx => Fl.bord_next (w := n) (o := o) (x := x) (i := i) hx)
  have HLE := Lib.hid (fun (x : Int) (i : Nat) hx h => Fl.bord_le (w := n) (o := o) (x := x) (i := i) hn0 ho0 hx h hn1)
  have HEN := Lib.hid (fun (x : Int) (i : Nat) hx h1 h2 => Fl.bord_end (w := n) (o := o) (x := x) (i := i) hn0 ho1 hx h1 h2)
  have HIF := Lib.hid (Fl.nS_iff hn0 ho1)
  have HST := Lib.hid (fun (x : Int) (i : Nat) hx => Fl.stk_r hok (w := n) (o := o) (x := x) (i := i) hx)
  have HRB := Lib.hid (fun (x : Int) (k : Nat) => Fl.rF_bd rs x n k)
  have HRW := Lib.hid (fun (x y : Int) (q : Nat) hq => Fl.fdK_row hok (x := x) (y := y) (w := n) (q := q) hq hn0)
  have HRF : Hid (∀ (x : Int) (y : Nat), Fl.rF rs x n (y + 1) = Fl.fF (Fl.rF rs x n y) y (Fl.rowB rs x n y) ∧ Fl.rT rs x n (y + 1) = Fl.fU (Fl.rT rs x n y) y (Fl.rowB rs x n y)) := Lib.hid fun x y => ⟨rfl, rfl⟩
  have H0 : Hid (∀ x, Fl.rF rs x n 0 = -1 ∧ Fl.rT rs x n 0 = 0) := Lib.hid fun x => ⟨rfl, rfl⟩
  have HK0 : Hid (∀ x y F U, Fl.fF F y (Fl.fdK rs x y 0) = F ∧ Fl.fU U y (Fl.fdK rs x y 0) = U) := Lib.hid fun x y F U => ⟨by unfold Fl.fF; rw [if_neg]; simp [Fl.fdK], by unfold Fl.fU; rw [if_neg]; simp [Fl.fdK]⟩
  have HKY : Hid (∀ x y (q : Nat), Fl.hasB rs (x + q) y = true → Fl.fdK rs x y (q + 1) = (Fl.fdK rs x y q || true)) := Lib.hid fun x y q h => by rw [Fl.fdK, h]
  have HKN : Hid (∀ x y (q : Nat), Fl.hasB rs (x + q) y = false → Fl.fdK rs x y (q + 1) = Fl.fdK rs x y q) := Lib.hid fun x y q h => by rw [Fl.fdK, h, Bool.or_false]
  have HR : Hid (Fl.stL rs n o = Fl.stk rs n o (Fl.nS n o)) := Lib.hid rfl
  obtain ⟨ra, rc, rfl⟩ := hv.form
  generalize Fl.stL rs n o = R at *
  have HX0 : Hid (o - n = o - n + ((0 : Nat) : Int) * n) := Lib.hid (by simp)
  clear hv hok
  go_enter Try.func66, Try.ntmps66
  go_wp2
  go_loopw [7, 8] (fun s t wr => ∃ (i : Nat) (x : Int) (L : List Fl.S) (a : Option Addr) (c : Nat), (i ≤ 99 ∧ L.length ≤ i) ∧ (-20 ≤ x ∧ x ≤ 80) ∧ s = .slice a L.length c ∧ t = .int .i64 x ∧ Hid ((x = o - n + i * n ∧ i ≤ Fl.nS n o ∧ L = Fl.stk rs n o i) ∧ OwnS w.heap.size wr (.slice a L.length c) L ∧ BlockAt wr w.heap.size #[.slice ra rs.length rc, dv] RoomT ∧ Below w.heap.size w wr)) (fun _ t _ => (100 - intOf t).toNat)
  case atStart => exact ⟨0, o - n, [], none, 0, ⟨Nat.zero_le _, Nat.le_refl _⟩, ⟨by omega, by omega⟩, rfl, rfl, Lib.hid ⟨⟨HX0.out, Nat.zero_le _, rfl⟩, OwnG.nil _ _, HW.out⟩⟩
  case round =>
    obtain ⟨i, x, L, a, c, ⟨hi9, hll⟩, ⟨hx0, hx1⟩, rfl, rfl, hg⟩ := hrel
    clear HW HX0
    by_cases hlt : x < 60
    · have HI := Lib.hid (show i < Fl.nS n o from (HIF.out i).2 (by have := hg.out.1.1; omega))
      have HN2 := Lib.hid (HNX.out x i hg.out.1.1)
      have hi99 := HLE.out (x + n) (i + 1) HN2.out (by omega)
      have HS2 := Lib.hid (HST.out x i hg.out.1.1)
      rw [← hg.out.1.2.2] at HS2
      have HG := Lib.hid hg.out.2
      have hdx : decide (x < 60) = true := decide_eq_true hlt
      clear hg
      have HT0 := Lib.hid (show TsS wr x (Fl.rF rs x n 0) (Fl.rT rs x n 0) (wr.alloc (.cells (stripA x (-1) 0) StripT)) from by
        rw [(H0.out x).1, (H0.out x).2]
        exact ⟨BlockAt.new wr _ StripT, below_alloc2 (Below.refl _ _) _⟩)
      obtain ⟨W0, hW0⟩ : ∃ W, W = wr := ⟨_, rfl⟩
      rw [← hW0] at HG HT0 ⊢
      clear hW0
      go_wp2
      go_loopw [10] (fun t wr => ∃ y : Nat, y ≤ 60 ∧ t = .int .i64 y ∧ Hid (TsS W0 x (Fl.rF rs x n y) (Fl.rT rs x n y) wr)) (fun t _ => 60 - (intOf t).toNat)
      case atStart => exact ⟨0, Nat.zero_le _, rfl, HT0⟩
      case round =>
        obtain ⟨y, hy, rfl, hg⟩ := hrel
        clear HT0
        by_cases hyl : y < 60
        · have hyd : decide ((y : Int) < 60) = true := decide_eq_true (by omega)
          have hyd2 : decide (y < 60) = true := decide_eq_true hyl
          have HRF1 := Lib.hid (HRF.out x y)
          have hbd := HRB.out x y
          obtain ⟨F1, hF1⟩ : ∃ z, z = Fl.rF rs x n (y + 1) := ⟨_, rfl⟩
          obtain ⟨U1, hU1⟩ : ∃ z, z = Fl.rT rs x n (y + 1) := ⟨_, rfl⟩
          rw [← hF1, ← hU1] at HRF1
          have HFU := Lib.hid (And.intro hF1 hU1)
          have HKK := Lib.hid (HK0.out x (y : Int) (Fl.rF rs x n y) (Fl.rT rs x n y))
          have HT1 := Lib.hid (show TsS W0 x (Fl.fF (Fl.rF rs x n y) y (Fl.fdK rs x y 0)) (Fl.fU (Fl.rT rs x n y) y (Fl.fdK rs x y 0)) wr by rw [HKK.out.1, HKK.out.2]; exact hg.out)
          clear hF1 hU1 HKK hg
          generalize Fl.rF rs x n y = F at *
          generalize Fl.rT rs x n y = U at *
          go_wp2
          go_loopw [11] (fun t wr => ∃ q : Nat, (q : Int) ≤ n ∧ t = .int .i64 (x + q) ∧ Hid (TsS W0 x (Fl.fF F y (Fl.fdK rs x y q)) (Fl.fU U y (Fl.fdK rs x y q)) wr)) (fun t _ => (x + n - intOf t).toNat)
          case atStart => exact ⟨0, by omega, by simp, HT1⟩
          case round =>
            obtain ⟨q, hq, rfl, hg⟩ := hrel
            clear HT1
            by_cases hql : (q : Int) < n
            · have hRB := HG.out.2.1.below hg.out.2 HG.out.2.1.lt
              have x0 : World.cell? _ _ = some (.slice ra rs.length rc) := hRB.cell 0
              have x1 : World.cell? _ _ = some dv := hRB.cell 1
              have C := Lib.hid (FS.out (x + q) (y : Int) _ (below_step HG.out.2.2 hg.out.2))
              have HY1 := Lib.hid (HKY.out x (y : Int) q)
              have HN1 := Lib.hid (HKN.out x (y : Int) q)
              have HG1 := Lib.hid hg.out
              clear hRB hg
              generalize Fl.hasB rs (x + q) (y : Int) = b at *
              obtain ⟨K1, hK1⟩ : ∃ z, z = Fl.fdK rs x (y : Int) (q + 1) := ⟨_, rfl⟩
              rw [← hK1] at HY1 HN1
              have HK1 := Lib.hid hK1
              clear hK1
              generalize Fl.fdK rs x (y : Int) q = K at *
              have hoo : b = true ∨ b = false := by cases b <;> simp
              rcases hoo with h | h
              · have HE := Lib.hid (HY1.out h)
                have hff := Fl.fF_true (F := F) (y := (y : Int)) (by omega) K
                have HFO := Lib.hid (Fl.fF_or F (y : Int) K)
                have HUO := Lib.hid (Fl.fU_or U (y : Int) K)
                rw [h] at C
                clear h HY1 HN1
                go_wp2_with fail
                refine C.out.mono ?_
                rintro e w2 ⟨rfl, hb2⟩
                have HT2 := Lib.hid (HG1.out.below hb2)
                clear hb2 x0 x1 HG1 C
                generalize Fl.fF F (y : Int) K = F' at *
                generalize Fl.fU U (y : Int) K = U' at *
                have z1 : World.cell? _ _ = some (.int .i64 F') := HT2.out.1.cell 1
                have z2 : World.cell? _ _ = some (.int .i64 U') := HT2.out.1.cell 2
                have f1 := HT2.out.1.frozen 1
                have f2 := HT2.out.1.frozen 2
                have hlt0 := HT2.out.1.lt
                by_cases hF : F' < 0
                · have HF := Lib.hid (HFO.out.trans (hff.1 hF))
                  have HN := Lib.hid ((HT2.out.setT ((y : Int) + 1)).setF (y : Int))
                  clear hff HFO HT2
                  go_wp2
                  go_roundw
                  case rel => exact ⟨q + 1, by omega, by go_num, Lib.hid (by rw [← HK1.out, HE.out, HF.out, HUO.out]; exact HN.out)⟩
                  case measure => simp [intOf]; omega
                · have HF := Lib.hid (HFO.out.trans (hff.2 (by omega)))
                  have HN := Lib.hid (HT2.out.setT ((y : Int) + 1))
                  clear hff HFO HT2
                  go_wp2
                  go_roundw
                  case rel => exact ⟨q + 1, by omega, by go_num, Lib.hid (by rw [← HK1.out, HE.out, HF.out, HUO.out]; exact HN.out)⟩
                  case measure => simp [intOf]; omega
              · have HE := Lib.hid (HN1.out h)
                rw [h] at C
                clear h HY1 HN1
                go_wp2_with fail
                refine C.out.mono ?_
                rintro e w2 ⟨rfl, hb2⟩
                have HT2 := Lib.hid (HG1.out.below hb2)
                clear hb2 x0 x1 HG1 C
                go_wp2
                go_roundw
                case rel => exact ⟨q + 1, by omega, by go_num, Lib.hid (by rw [← HK1.out, HE.out]; exact HT2.out)⟩
                case measure => simp [intOf]; omega
            · have HRW1 := HRW.out x (y : Int) q (by omega)
              have HN := Lib.hid (show TsS W0 x F1 U1 wr by rw [HRF1.out.1, HRF1.out.2, ← HRW1]; exact hg.out)
              clear HRW1 hg
              go_wp2
              go_roundw
              case rel => exact ⟨y + 1, by omega, by go_num, Lib.hid (by rw [← HFU.out.1, ← HFU.out.2]; exact HN.out)⟩
              case measure => simp [intOf]; omega
        · have hye : y = 60 := by omega
          have HT := Lib.hid hg.out
          rw [hye] at HT
          clear hg
          have hyd : decide ((y : Int) < 60) = false := decide_eq_false (by omega)
          have hyd2 : decide (y < 60) = false := decide_eq_false hyl
          clear hye
          generalize Fl.rF rs x n 60 = F at *
          generalize Fl.rT rs x n 60 = U at *
          have z0 : World.cell? _ _ = some (.int .i64 x) := HT.out.1.cell 0
          have z1 : World.cell? _ _ = some (.int .i64 F) := HT.out.1.cell 1
          have z2 : World.cell? _ _ = some (.int .i64 U) := HT.out.1.cell 2
          by_cases hF : F < 0
          · have HE := Lib.hid (HS2.out.1 hF)
            have HN := Lib.hid (And.intro (OwnG.all HG.out.1 HT.out.2) (And.intro (HG.out.2.1.below HT.out.2 HG.out.2.1.lt) (below_step HG.out.2.2 HT.out.2)))
            clear HS2 HT
            go_wp2
            go_roundw
            case rel => exact ⟨i + 1, x + n, L, a, c, ⟨by omega, by omega⟩, ⟨by omega, by omega⟩, rfl, rfl, Lib.hid ⟨⟨HN2.out, HI.out, HE.out.symm⟩, HN.out⟩⟩
            case measure => simp [intOf]; omega
          · have HE := Lib.hid (HS2.out.2 (by omega))
            have hown := OwnG.all HG.out.1 HT.out.2
            have hB3 := HG.out.2.1.below HT.out.2 HG.out.2.1.lt
            have hw := below_step HG.out.2.2 HT.out.2
            have hsz := hw.size
            have hca := cells_new (cs := stripC ⟨x, F, U⟩) wr StripT
            clear HS2 HT
            go_wp2_with (at_builtin; refine wpList_append_own _ rfl _ _ 37 rfl w.heap.size 54 i0 (.agg #[.int .i64 0, .int .i64 0, .int .i64 0]) 3 24 Try.underlying37 hi hz0 hz1 hz2 rfl (by decide) _ _ _ rfl (hown.alloc _) ⟨wr.heap.size, 0, none⟩ 1 1 (stripC ⟨x, F, U⟩) rfl rfl ?c1 (stripC_one _) ?c3 ?c4 ?c5 ?_)
            case c1 => first | exact hca | exact fun j u h => h
            case c3 => unfold maxLen; omega
            case c4 => omega
            case c5 => first | omega | (simp; omega)
            intro v' w9 hr9 hg9 _
            have hw9 := (below_alloc2 hw (.cells (stripA x F U) StripT)).grown hg9 (by simp; omega) (fun j e => (World.ownsRow.lt hown j e).1)
            have hp9 : OwnS w.heap.size w9 v' (L ++ [⟨x, F, U⟩]) := OwnG.pushed hr9
            have hB9 : BlockAt w9 w.heap.size #[.slice ra rs.length rc, dv] RoomT := (hB3.alloc _).kept hg9 (BlockAt.not_row hB3 (by decide) hown)
            have hl9 : (L ++ [(⟨x, F, U⟩ : Fl.S)]).length ≤ i + 1 := by simp; omega
            generalize L ++ [(⟨x, F, U⟩ : Fl.S)] = L2 at *
            obtain ⟨a9, c9, e9⟩ := (OwnG.rows stripC_len hp9).form
            subst e9
            have HG9 := Lib.hid (And.intro hp9 (And.intro hB9 hw9))
            clear hown hB3 hw hca hr9 hg9 hw9 hp9 hB9
            go_wp2
            go_roundw
            case rel => exact ⟨i + 1, x + n, L2, a9, c9, ⟨by omega, hl9⟩, ⟨by omega, by omega⟩, rfl, rfl, Lib.hid ⟨⟨HN2.out, HI.out, HE.out.symm⟩, HG9.out⟩⟩
            case measure => simp [intOf]; omega
    · have HE := Lib.hid (HEN.out x i hg.out.1.1 hg.out.1.2.1 (by omega))
      have HL2 := Lib.hid hg.out.1.2.2
      have HM : Hid (L = R) := Lib.hid (by rw [hg.out.1.2.2, HR.out, HE.out])
      have HG := Lib.hid hg.out.2
      clear hg
      go_wp2
      go_ret
      exact ⟨a, c, by rw [← HM.out]; rfl, by rw [← HM.out]; exact HG.out.1, HG.out.2.2⟩
end Go.Proofs.Ytpobkdbnldogcaa
