/- Seams and doorways: of the reference. -/
import Derived.Test.YtpobkdbnldogcaaFl22
import Derived.Test.YtpobkdbnldogcaaFl23
namespace Go.Proofs.Ytpobkdbnldogcaa
open Go.RowKit

set_option maxRecDepth 20000 in
set_option maxHeartbeats 1000000 in
theorem rcross_any (rv dv : Value) (rs : List Fl.R) (x y : Int) (w : World) (hv : Rects w rv rs) (hl : rs.length ≤ 1000) (ho : ∀ k (hk : k < rs.length), Fl.okR rs[k] = true) (hx0 : -1000 ≤ x) (hx1 : x ≤ 1000) :
    Calls Try.prog 116 #[roomV rv dv, .int .i64 x, .int .i64 y] w fun e w' => e = .returned (.bool (Fl.jn rs x y)) ∧ Below w.heap.size w w' := by
  have F := Lib.hid (fun x W (hW : Below w.heap.size w W) => rcell_any rv dv rs x y W (hv.all hW) hl ho)
  have HW := Lib.hid (And.intro (BlockAt.new w #[rv, dv] RoomT) (below_alloc2 (Below.refl w.heap.size w) (.cells #[rv, dv] RoomT)))
  have HE := Lib.hid (Fl.jn_split rs x y)
  obtain ⟨ra, rc, rfl⟩ := hv.form
  have x0 : World.cell? _ _ = some (.slice ra rs.length rc) := HW.out.1.cell 0
  have x1 : World.cell? _ _ = some dv := HW.out.1.cell 1
  generalize Fl.jn rs x y = J at *
  have C1 := Lib.hid (F.out (x - 1) _ HW.out.2)
  have C2 := Lib.hid (F.out x)
  clear hv ho F
  cases h1 : Fl.hasB rs (x - 1) y
  · rw [h1] at C1 HE
    clear h1
    go_enter Try.func116, Try.ntmps116
    go_wp2_with fail
    refine C1.out.mono ?_
    rintro e w1 ⟨rfl, hb⟩
    have HB := Lib.hid (below_step HW.out.2 hb)
    clear hb x0 x1
    go_wp2
    go_ret
    exact ⟨by rw [HE.out]; rfl, HB.out⟩
  · rw [h1] at C1 HE
    clear h1
    generalize Fl.hasB rs x y = b at *
    go_enter Try.func116, Try.ntmps116
    go_wp2_with fail
    refine C1.out.mono ?_
    rintro e w1 ⟨rfl, hb⟩
    have HB := Lib.hid (below_step HW.out.2 hb)
    have bX := HW.out.1.below hb HW.out.1.lt
    have y0 : World.cell? _ _ = some (.slice ra rs.length rc) := bX.cell 0
    have y1 : World.cell? _ _ = some dv := bX.cell 1
    have C := Lib.hid (C2.out _ HB.out)
    clear hb x0 x1 bX
    go_wp2_with fail
    refine C.out.mono ?_
    rintro e w2 ⟨rfl, hb⟩
    have HB2 := Lib.hid (below_step HB.out hb)
    clear hb y0 y1
    go_wp2
    go_ret
    exact ⟨by rw [HE.out]; rfl, HB2.out⟩
/-- Whether one of the first y heights has both cells. -/
def Fl.sfd (rs : List Fl.R) (x : Int) : Nat → Bool
  | 0 => false
  | y + 1 => Fl.sfd rs x y || Fl.jn rs x y
theorem Fl.sfd_iff {rs : List Fl.R} {x : Int} : ∀ {n : Nat}, Fl.sfd rs x n = true ↔ ∃ y : Nat, y < n ∧ Fl.jn rs x y = true
  | 0 => by simp [Fl.sfd]
  | n + 1 => by
    rw [Fl.sfd, Bool.or_eq_true, Fl.sfd_iff]
    constructor
    · rintro (⟨c, hc, h⟩ | h)
      · exact ⟨c, by omega, h⟩
      · exact ⟨n, by omega, h⟩
    · rintro ⟨c, hc, h⟩
      by_cases e : c = n
      · subst e; exact .inr h
      · exact .inl ⟨c, by omega, h⟩
theorem Fl.sfd_all (rs : List Fl.R) (x : Int) : Fl.sfd rs x 60 = Fl.seam rs x := by
  rw [Bool.eq_iff_iff, Fl.sfd_iff, Fl.seam_iff]
set_option maxRecDepth 20000 in
set_option maxHeartbeats 8000000 in
theorem rseams_any (rv dv : Value) (rs : List Fl.R) (n o : Int) (w : World) (hv : Rects w rv rs) (hl : rs.length ≤ 1000) (hok : ∀ k (hk : k < rs.length), Fl.okR rs[k] = true) (hn0 : 1 ≤ n) (hn1 : n ≤ 20) (ho0 : 0 ≤ o) (ho1 : o < n) :
    Calls Try.prog 68 #[roomV rv dv, .int .i64 n, .int .i64 o] w fun e w' => ∃ a c, e = .returned (.slice a (Fl.smL rs n o).length c) ∧ OwnI w.heap.size w' (.slice a (Fl.smL rs n o).length c) (Fl.smL rs n o) ∧ Below w.heap.size w w' := by
  obtain ⟨i0, hi, hz0, hz1, hz2⟩ := info_parts infoInt
  have FS := Lib.hid (fun x y W (hW : Below w.heap.size w W) h0 h1 => rcross_any rv dv rs x y W (hv.all hW) hl hok h0 h1)
  have HW := Lib.hid (And.intro (BlockAt.new w #[rv, dv] RoomT) (below_alloc2 (Below.refl w.heap.size w) (.cells #[rv, dv] RoomT)))
  have H1 := Lib.hid (fun (x : Int) (i : Nat) hx h => Fl.smk_yes (rs := rs) (w := n) (o := o) (x := x) (i := i) hx h)
  have H2 := Lib.hid (fun (x : Int) (i : Nat) hx h => Fl.smk_no (rs := rs) (w := n) (o := o) (x := x) (i := i) hx h)
  have HNX := Lib.hid (fun (x : Int) (i : Nat) hx => Fl.sm_next (w := n) (o := o) (x := x) (i := i) hx)
  have HLE := Lib.hid (fun (x : Int) (i : Nat) hx h => Fl.smx_le (w := n) (o := o) (x := x) (i := i) hn0 ho0 hx h hn1)
  have HIN := Lib.hid (fun (x : Int) (i : Nat) hx h => Fl.sm_in (w := n) (o := o) (x := x) (i := i) hn0 ho1 hx h)
  have HEN := Lib.hid (fun (x : Int) (i : Nat) hx h1 h2 => Fl.sm_end (w := n) (o := o) (x := x) (i := i) hn0 ho1 hx h1 h2)
  have HSA := Lib.hid (fun x => Fl.sfd_all rs x)
  have H0 : Hid (∀ x, Fl.sfd rs x 0 = false) := Lib.hid fun _ => rfl
  have HSS : Hid (∀ x (y : Nat), Fl.sfd rs x (y + 1) = (Fl.sfd rs x y || Fl.jn rs x y)) := Lib.hid fun _ _ => rfl
  have HR : Hid (Fl.smL rs n o = Fl.smk rs n o (Fl.nS n o - 1)) := Lib.hid rfl
  obtain ⟨ra, rc, rfl⟩ := hv.form
  generalize Fl.smL rs n o = R at *
  have HX0 : Hid (o = o + ((0 : Nat) : Int) * n) := Lib.hid (by simp)
  clear hv hok
  go_enter Try.func68, Try.ntmps68
  go_wp2
  go_loopw [7, 8] (fun s t wr => ∃ (i : Nat) (x : Int) (L : List Int) (a : Option Addr) (c : Nat), (i ≤ 99 ∧ L.length ≤ i) ∧ (0 ≤ x ∧ x ≤ 80) ∧ s = .slice a L.length c ∧ t = .int .i64 x ∧ Hid ((x = o + i * n ∧ i ≤ Fl.nS n o - 1 ∧ L = Fl.smk rs n o i) ∧ OwnI w.heap.size wr (.slice a L.length c) L ∧ BlockAt wr w.heap.size #[.slice ra rs.length rc, dv] RoomT ∧ Below w.heap.size w wr)) (fun _ t _ => (100 - intOf t).toNat)
  case atStart => exact ⟨0, o, [], none, 0, ⟨Nat.zero_le _, Nat.le_refl _⟩, ⟨by omega, by omega⟩, rfl, rfl, Lib.hid ⟨⟨HX0.out, Nat.zero_le _, rfl⟩, OwnG.nil _ _, HW.out⟩⟩
  case round =>
    obtain ⟨i, x, L, a, c, ⟨hi9, hll⟩, ⟨hx0, hx1⟩, rfl, rfl, hg⟩ := hrel
    clear HW HX0
    by_cases hlt : x < 60
    · have HI := Lib.hid (HIN.out x i hg.out.1.1 hlt)
      have HN2 := Lib.hid (HNX.out x i hg.out.1.1)
      have hi99 := HLE.out (x + n) (i + 1) HN2.out (by omega)
      have H1x := Lib.hid (H1.out x i hg.out.1.1)
      have H2x := Lib.hid (H2.out x i hg.out.1.1)
      rw [← hg.out.1.2.2] at H1x H2x
      have HG := Lib.hid hg.out.2
      have hdx : decide (x < 60) = true := decide_eq_true hlt
      have H0x := Lib.hid (H0.out x)
      have HIH := Lib.hid (Below.refl wr.heap.size wr)
      clear hg
      obtain ⟨W0, hW0⟩ : ∃ W, W = wr := ⟨_, rfl⟩
      rw [← hW0] at HG HIH ⊢
      clear hW0
      go_wp2
      go_loopw [9, 10] (fun s t wr => ∃ y : Nat, y ≤ 60 ∧ s = .bool (Fl.sfd rs x y) ∧ t = .int .i64 y ∧ Hid (Below W0.heap.size W0 wr)) (fun _ t _ => 60 - (intOf t).toNat)
      case atStart => exact ⟨0, Nat.zero_le _, by rw [H0x.out], rfl, HIH⟩
      case round =>
        obtain ⟨y, hy, rfl, rfl, hg⟩ := hrel
        clear HIH
        by_cases hyl : y < 60
        · have HSx := Lib.hid (HSS.out x y)
          have hRB := HG.out.2.1.below hg.out HG.out.2.1.lt
          have x0 : World.cell? _ _ = some (.slice ra rs.length rc) := hRB.cell 0
          have x1 : World.cell? _ _ = some dv := hRB.cell 1
          have C := Lib.hid (FS.out x (y : Int) _ (below_step HG.out.2.2 hg.out) (by omega) (by omega))
          obtain ⟨K1, hK1⟩ : ∃ z, z = Fl.sfd rs x (y + 1) := ⟨_, rfl⟩
          rw [← hK1] at HSx
          have HK1 := Lib.hid hK1
          clear hRB hK1
          generalize Fl.jn rs x (y : Int) = b at *
          generalize Fl.sfd rs x y = K at *
          cases K
          · go_wp2_with fail
            refine C.out.mono ?_
            rintro e w2 ⟨rfl, hb2⟩
            have HG2 := Lib.hid (below_step hg.out hb2)
            clear hb2 x0 x1 C
            go_wp2
            go_roundw
            case rel => exact ⟨y + 1, by omega, by rw [← HK1.out, HSx.out]; simp, by go_num, HG2⟩
            case measure => simp [intOf]; omega
          · clear C
            go_wp2
            go_roundw
            case rel => exact ⟨y + 1, by omega, by rw [← HK1.out, HSx.out]; simp, by go_num, hg⟩
            case measure => simp [intOf]; omega
        · have hye : y = 60 := by omega
          have hyd : decide ((y : Int) < 60) = false := decide_eq_false (by omega)
          have hyd2 : decide (y < 60) = false := decide_eq_false hyl
          have HSx := Lib.hid (HSA.out x)
          rw [← hye] at HSx
          clear hye
          generalize Fl.sfd rs x y = K at *
          have HN := Lib.hid (And.intro (OwnG.all HG.out.1 hg.out) (And.intro (HG.out.2.1.below hg.out HG.out.2.1.lt) (below_step HG.out.2.2 hg.out)))
          clear hg
          cases K
          · have HE := Lib.hid (H2x.out HSx.out.symm)
            clear H1x H2x
            go_wp2
            go_roundw
            case rel => exact ⟨i + 1, x + n, L, a, c, ⟨by omega, by omega⟩, ⟨by omega, by omega⟩, rfl, rfl, Lib.hid ⟨⟨HN2.out, HI.out, HE.out.symm⟩, HN.out⟩⟩
            case measure => simp [intOf]; omega
          · have HE := Lib.hid (H1x.out HSx.out.symm)
            have hown := HN.out.1
            have hB3 := HN.out.2.1
            have hw := HN.out.2.2
            have hsz := hw.size
            have hca := cells_new (cs := intL x) wr 3
            clear H1x H2x HN
            go_wp2_with (at_builtin; refine wpList_append_own _ rfl _ _ 40 rfl w.heap.size 3 i0 (.int .i64 0) 1 8 Try.underlying40 hi hz0 hz1 hz2 rfl (by decide) _ _ _ rfl (OwnG.alloc hown _) ⟨wr.heap.size, 0, none⟩ 1 1 (intL x) rfl rfl ?c1 (intL_one _) ?c3 ?c4 ?c5 ?_)
            case c1 => first | exact hca | exact fun j u h => h
            case c3 => unfold maxLen; omega
            case c4 => omega
            case c5 => first | omega | (simp; omega)
            intro v' w9 hr9 hg9 _
            have hw9 := (below_alloc2 hw (.cells #[.int .i64 x] 3)).grown hg9 (by simp; omega) (fun j e => (World.ownsRow.lt hown j e).1)
            have hp9 : OwnI w.heap.size w9 v' (L ++ [x]) := OwnG.pushed hr9
            have hB9 : BlockAt w9 w.heap.size #[.slice ra rs.length rc, dv] RoomT := (hB3.alloc _).kept hg9 (BlockAt.not_row hB3 (by decide) hown)
            have hl9 : (L ++ [x]).length ≤ i + 1 := by simp; omega
            generalize L ++ [x] = L2 at *
            obtain ⟨a9, c9, e9⟩ := hp9.form
            subst e9
            have HG9 := Lib.hid (And.intro hp9 (And.intro hB9 hw9))
            clear hown hB3 hw hca hr9 hg9 hw9 hp9 hB9
            go_wp2
            go_roundw
            case rel => exact ⟨i + 1, x + n, L2, a9, c9, ⟨by omega, hl9⟩, ⟨by omega, by omega⟩, rfl, rfl, Lib.hid ⟨⟨HN2.out, HI.out, HE.out.symm⟩, HG9.out⟩⟩
            case measure => simp [intOf]; omega
    · have HE := Lib.hid (HEN.out x i hg.out.1.1 hg.out.1.2.1 (by omega))
      have HM : Hid (L = R) := Lib.hid (by rw [hg.out.1.2.2, HR.out, HE.out])
      have HG := Lib.hid hg.out.2
      clear hg
      go_wp2
      go_ret
      exact ⟨a, c, by rw [← HM.out]; rfl, by rw [← HM.out]; exact HG.out.1, HG.out.2.2⟩
end Go.Proofs.Ytpobkdbnldogcaa
