/- Area and Has of the program and of the reference. -/
import Derived.Test.YtpobkdbnldogcaaFl5
namespace Go.Proofs.Ytpobkdbnldogcaa
open Go.RowKit

def Fl.areaR (rs : List Fl.R) (ds : List Fl.D) : Int := if Fl.valE rs ds = 0 then Fl.ar rs rs.length else 0
def Fl.hasRr (rs : List Fl.R) (ds : List Fl.D) (x y : Int) : Bool := decide (Fl.valE rs ds = 0) && Fl.hasB rs x y
theorem Fl.val_ok {rs : List Fl.R} {ds : List Fl.D} (h : Fl.valE rs ds = 0) : ∀ k (hk : k < rs.length), Fl.okR rs[k] = true := (Fl.rectsB_iff.1 (Fl.valE_zero.1 h).1).2
theorem Fl.val_len {rs : List Fl.R} {ds : List Fl.D} (h : Fl.valE rs ds = 0) : 1 ≤ rs.length ∧ rs.length ≤ 8 ∧ ds.length ≤ 4 := by
  have := Fl.valE_zero.1 h
  exact ⟨(Fl.rectsB_iff.1 this.1).1.1, (Fl.rectsB_iff.1 this.1).1.2, this.2.2.1⟩
/-- The cells of the first x columns. -/
def Fl.gc (rs : List Fl.R) (x : Nat) : Nat := Fl.sm (fun x => Fl.sm (fun y => if Fl.hasB rs x y then 1 else 0) 60) x
def Fl.gr (rs : List Fl.R) (x y : Nat) : Nat := Fl.sm (fun y => if Fl.hasB rs x y then 1 else 0) y
theorem Fl.gc_succ (rs : List Fl.R) (x : Nat) : Fl.gc rs (x + 1) = Fl.gc rs x + Fl.gr rs x 60 := rfl
theorem Fl.gr_yes {rs : List Fl.R} {x y : Nat} (h : Fl.hasB rs x y = true) : Fl.gr rs x (y + 1) = Fl.gr rs x y + 1 := by unfold Fl.gr; rw [Fl.sm, h]; rfl
theorem Fl.gr_no {rs : List Fl.R} {x y : Nat} (h : Fl.hasB rs x y = false) : Fl.gr rs x (y + 1) = Fl.gr rs x y := by unfold Fl.gr; rw [Fl.sm, h]; rfl
theorem Fl.gr_le (rs : List Fl.R) (x y : Nat) : Fl.gr rs x y ≤ y := by
  have := Fl.sm_le (f := fun y => if Fl.hasB rs x y then 1 else 0) (c := 1) (fun i => by split <;> omega) y
  unfold Fl.gr; omega
theorem Fl.gc_le (rs : List Fl.R) (x : Nat) : Fl.gc rs x ≤ x * 60 := Fl.sm_le (fun i => Fl.gr_le rs i 60) x
theorem Fl.gc_area {rs : List Fl.R} {ds : List Fl.D} (h : Fl.valE rs ds = 0) : (Fl.gc rs 60 : Int) = Fl.ar rs rs.length := Fl.grid_area (Fl.val_ok h) (Fl.valE_zero.1 h).2.1
set_option maxRecDepth 20000 in
set_option maxHeartbeats 2000000 in
theorem area_any (rv dv : Value) (rs : List Fl.R) (ds : List Fl.D) (w : World) (hr : Rects w rv rs) (hd : Doors w dv ds) (h1 : rs.length ≤ 1000) (h2 : ds.length ≤ 1000) :
    Calls Try.prog 17 #[roomV rv dv] w fun e w' => e = .returned (.tuple #[.int .i64 (Fl.areaR rs ds), .int .i64 (Fl.valE rs ds)]) ∧ Below w.heap.size w w' := by
  have HW := Lib.hid (And.intro (BlockAt.new w #[rv, dv] RoomT) (below_alloc2 (Below.refl w.heap.size w) (.cells #[rv, dv] RoomT)))
  have x0 : World.cell? _ _ = some rv := HW.out.1.cell 0
  have x1 : World.cell? _ _ = some dv := HW.out.1.cell 1
  have CV := Lib.hid (validate_any rv dv rs ds _ (hr.all HW.out.2) (hd.all HW.out.2) h1 h2)
  obtain ⟨ra, rc, rfl, _, hrk⟩ := hr
  obtain ⟨da, dc, rfl⟩ := hd.form
  have HK := Lib.hid hrk
  clear hrk hd
  by_cases hz : Fl.valE rs ds = 0
  case neg =>
    have hA : Fl.areaR rs ds = 0 := if_neg hz
    rw [hA]
    clear hA
    generalize Fl.valE rs ds = E at *
    have hd : (E == 0) = false := beq_eq_false_iff_ne.2 hz
    have hd2 : (E != 0) = true := by rw [bne, hd]; rfl
    clear hz
    go_enter Try.func17, Try.ntmps17
    go_wp2_with fail
    refine (CV.out).mono ?_
    rintro e w1 ⟨rfl, hb1⟩
    have HB := Lib.hid (below_step HW.out.2 hb1)
    clear hb1 CV
    go_wp2
    go_ret2
    exact ⟨rfl, HB.out⟩
  have HA : Fl.areaR rs ds = Fl.ar rs rs.length := if_pos hz
  have hok := Fl.val_ok hz
  have hlen := Fl.val_len hz
  have HBD := Lib.hid (fun (k : Nat) (hk : k ≤ rs.length) => Fl.ar_bd hok hk)
  have HAT := Lib.hid (fun (k : Nat) (hk : k < rs.length) => Fl.ar_at hk)
  have HOK := Lib.hid hok
  have H0 : Hid (Fl.ar rs 0 = 0) := Lib.hid rfl
  rw [HA, hz]
  rw [hz] at CV
  clear HA hz hok
  go_enter Try.func17, Try.ntmps17
  go_wp2_with fail
  refine (CV.out).mono ?_
  rintro e w1 ⟨rfl, hb1⟩
  have HB := Lib.hid (below_step HW.out.2 hb1)
  have bX := HW.out.1.below hb1 HW.out.1.lt
  have y0 : World.cell? _ _ = some (.slice ra rs.length rc) := bX.cell 0
  clear hb1 CV x0 x1 bX
  go_wp2
  clear y0
  go_loopw [5, 16] (fun s t wr => ∃ k : Nat, k ≤ rs.length ∧ s = .int .i64 (Fl.ar rs k) ∧ t = .int .i64 k ∧ Hid (Below w.heap.size w wr)) (fun _ t _ => rs.length - (intOf t).toNat)
  case atStart => exact ⟨0, Nat.zero_le _, by rw [H0.out], rfl, HB⟩
  case round =>
    obtain ⟨k, hk, rfl, rfl, hg⟩ := hrel
    by_cases hlt : k < rs.length
    · obtain ⟨b, off, rfl, hb, hr⟩ := HK.out k hlt
      obtain ⟨c0, c1, c2, c3⟩ := rect_at (hr.below hg.out hb)
      obtain ⟨_, _, ⟨w0, w1'⟩, ⟨g0, g1⟩⟩ := okR_sum (HOK.out k hlt)
      have hbd := HBD.out k hk
      have HE := Lib.hid (HAT.out k hlt)
      have HG := Lib.hid (below_alloc2 hg.out (.cells (rectA rs[k]) RectT))
      generalize Fl.ar rs k = S at *
      generalize rs[k] = a at *
      have hp0 : 0 ≤ a.w * a.h := Int.mul_nonneg (by omega) (by omega)
      have hp1 : a.w * a.h ≤ 60 * 60 := Int.mul_le_mul (by omega) (by omega) (by omega) (by omega)
      have hwp : IntKind.i64.wrap (a.w * a.h) = a.w * a.h := IntWalk.i64_in _ ⟨by omega, by omega⟩
      have hws : IntKind.i64.wrap (S + a.w * a.h) = S + a.w * a.h := IntWalk.i64_in _ ⟨by omega, by omega⟩
      clear hr hg
      go_wp2
      go_roundw
      case rel => exact ⟨k + 1, by omega, by rw [HE.out], by go_num, HG⟩
      case measure => simp [intOf]; omega
    · obtain rfl : k = rs.length := by omega
      go_wp2
      go_ret2
      exact ⟨rfl, hg.out⟩
set_option maxRecDepth 20000 in
set_option maxHeartbeats 2000000 in
theorem rarea_any (rv dv : Value) (rs : List Fl.R) (ds : List Fl.D) (w : World) (hr : Rects w rv rs) (hd : Doors w dv ds) (h1 : rs.length ≤ 1000) (h2 : ds.length ≤ 1000) :
    Calls Try.prog 18 #[roomV rv dv] w fun e w' => e = .returned (.tuple #[.int .i64 (Fl.areaR rs ds), .int .i64 (Fl.valE rs ds)]) ∧ Below w.heap.size w w' := by
  have HW := Lib.hid (And.intro (BlockAt.new w #[rv, dv] RoomT) (below_alloc2 (Below.refl w.heap.size w) (.cells #[rv, dv] RoomT)))
  have x0 : World.cell? _ _ = some rv := HW.out.1.cell 0
  have x1 : World.cell? _ _ = some dv := HW.out.1.cell 1
  have CV := Lib.hid (rvalidate_any rv dv rs ds _ (hr.all HW.out.2) (hd.all HW.out.2) h1 h2)
  have FC := Lib.hid (fun x y W (hW : Below w.heap.size w W) ho => rcell_any rv dv rs x y W (hr.all hW) h1 ho)
  obtain ⟨ra, rc, rfl⟩ := hr.form
  obtain ⟨da, dc, rfl⟩ := hd.form
  clear hr hd
  by_cases hz : Fl.valE rs ds = 0
  case neg =>
    have hA : Fl.areaR rs ds = 0 := if_neg hz
    rw [hA]
    clear hA FC
    generalize Fl.valE rs ds = E at *
    have hd : (E == 0) = false := beq_eq_false_iff_ne.2 hz
    have hd2 : (E != 0) = true := by rw [bne, hd]; rfl
    clear hz
    go_enter Try.func18, Try.ntmps18
    go_wp2_with fail
    refine (CV.out).mono ?_
    rintro e w1 ⟨rfl, hb1⟩
    have HB := Lib.hid (below_step HW.out.2 hb1)
    clear hb1 CV
    go_wp2
    go_ret2
    exact ⟨rfl, HB.out⟩
  have HA : Fl.areaR rs ds = (Fl.gc rs 60 : Nat) := (if_pos hz).trans (Fl.gc_area hz).symm
  have HF := Lib.hid (fun x y W hW => FC.out x y W hW (Fl.val_ok hz))
  rw [HA, hz]
  rw [hz] at CV
  clear HA hz FC
  have H0 : Hid (Fl.gc rs 0 = 0) := Lib.hid rfl
  have HR0 : Hid (∀ x, Fl.gr rs x 0 = 0) := Lib.hid fun _ => rfl
  have HS := Lib.hid (Fl.gc_succ rs)
  have HRL := Lib.hid (Fl.gr_le rs)
  have HCL := Lib.hid (Fl.gc_le rs)
  have HY := Lib.hid (fun (x y : Nat) h => Fl.gr_yes (rs := rs) (x := x) (y := y) h)
  have HN := Lib.hid (fun (x y : Nat) h => Fl.gr_no (rs := rs) (x := x) (y := y) h)
  go_enter Try.func18, Try.ntmps18
  go_wp2_with fail
  refine (CV.out).mono ?_
  rintro e w1 ⟨rfl, hb1⟩
  have HB := Lib.hid (And.intro (HW.out.1.below hb1 HW.out.1.lt) (below_step HW.out.2 hb1))
  clear hb1 CV x0 x1 HW
  go_wp2
  go_loopw [5, 6] (fun s t wr => ∃ x : Nat, x ≤ 60 ∧ s = .int .i64 (Fl.gc rs x : Nat) ∧ t = .int .i64 x ∧ Hid (BlockAt wr w.heap.size #[.slice ra rs.length rc, .slice da ds.length dc] RoomT ∧ Below w.heap.size w wr)) (fun _ t _ => 60 - (intOf t).toNat)
  case atStart => exact ⟨0, Nat.zero_le _, by rw [H0.out]; rfl, rfl, HB⟩
  case round =>
    obtain ⟨x, hx, rfl, rfl, hg⟩ := hrel
    clear HB
    by_cases hxl : x < 60
    · have hxd : decide ((x : Int) < 60) = true := decide_eq_true (by omega)
      have hxd2 : decide (x < 60) = true := decide_eq_true hxl
      go_wp2
      go_loopw [5, 7] (fun s t wr => ∃ y : Nat, y ≤ 60 ∧ s = .int .i64 (Fl.gc rs x + Fl.gr rs x y : Nat) ∧ t = .int .i64 y ∧ Hid (BlockAt wr w.heap.size #[.slice ra rs.length rc, .slice da ds.length dc] RoomT ∧ Below w.heap.size w wr)) (fun _ t _ => 60 - (intOf t).toNat)
      case atStart => exact ⟨0, Nat.zero_le _, by rw [HR0.out]; rfl, rfl, hg⟩
      case round =>
        obtain ⟨y, hy, rfl, rfl, hg2⟩ := hrel
        by_cases hyl : y < 60
        · have C := Lib.hid (HF.out (x : Int) (y : Int) _ hg2.out.2)
          have hl1 := HRL.out x y
          have hl2 := HCL.out x
          have HY1 := Lib.hid (HY.out x y)
          have HN1 := Lib.hid (HN.out x y)
          have x0 : World.cell? _ _ = some (.slice ra rs.length rc) := hg2.out.1.cell 0
          have x1 : World.cell? _ _ = some (.slice da ds.length dc) := hg2.out.1.cell 1
          generalize Fl.hasB rs (x : Int) (y : Int) = o at *
          have hoo : o = true ∨ o = false := by cases o <;> simp
          rcases hoo with ho | ho
          · have HE := Lib.hid (HY1.out ho)
            rw [ho] at C
            clear ho HY1 HN1
            go_wp2_with fail
            refine (C.out).mono ?_
            rintro e w2 ⟨rfl, hb2⟩
            have HG := Lib.hid (And.intro (hg2.out.1.below hb2 hg2.out.1.lt) (below_step hg2.out.2 hb2))
            clear hb2 x0 x1
            go_wp2
            go_roundw
            case rel => exact ⟨y + 1, by omega, by rw [HE.out]; go_num, by go_num, HG⟩
            case measure => simp [intOf]; omega
          · have HE := Lib.hid (HN1.out ho)
            rw [ho] at C
            clear ho HY1 HN1
            go_wp2_with fail
            refine (C.out).mono ?_
            rintro e w2 ⟨rfl, hb2⟩
            have HG := Lib.hid (And.intro (hg2.out.1.below hb2 hg2.out.1.lt) (below_step hg2.out.2 hb2))
            clear hb2 x0 x1
            go_wp2
            go_roundw
            case rel => exact ⟨y + 1, by omega, by rw [HE.out]; go_num, by go_num, HG⟩
            case measure => simp [intOf]; omega
        · have HE := Lib.hid (HS.out x)
          obtain rfl : y = 60 := by omega
          go_wp2
          go_roundw
          case rel => exact ⟨x + 1, by omega, by rw [HE.out], by go_num, hg2⟩
          case measure => simp [intOf]; omega
    · obtain rfl : x = 60 := by omega
      go_wp2
      go_ret2
      exact ⟨rfl, hg.out.2⟩
set_option maxRecDepth 20000 in
set_option maxHeartbeats 1000000 in
theorem hasF_any (rv dv : Value) (rs : List Fl.R) (ds : List Fl.D) (x y : Int) (w : World) (hr : Rects w rv rs) (hd : Doors w dv ds) (h1 : rs.length ≤ 1000) (h2 : ds.length ≤ 1000) :
    Calls Try.prog 19 #[roomV rv dv, .int .i64 x, .int .i64 y] w fun e w' => e = .returned (.tuple #[.bool (Fl.hasRr rs ds x y), .int .i64 (Fl.valE rs ds)]) ∧ Below w.heap.size w w' := by
  have HW := Lib.hid (And.intro (BlockAt.new w #[rv, dv] RoomT) (below_alloc2 (Below.refl w.heap.size w) (.cells #[rv, dv] RoomT)))
  have x0 : World.cell? _ _ = some rv := HW.out.1.cell 0
  have x1 : World.cell? _ _ = some dv := HW.out.1.cell 1
  have CV := Lib.hid (validate_any rv dv rs ds _ (hr.all HW.out.2) (hd.all HW.out.2) h1 h2)
  have FC := Lib.hid (fun W (hW : Below w.heap.size w W) ho => has_any rv dv rs x y W (hr.all hW) h1 ho)
  obtain ⟨ra, rc, rfl⟩ := hr.form
  obtain ⟨da, dc, rfl⟩ := hd.form
  clear hr hd
  by_cases hz : Fl.valE rs ds = 0
  case neg =>
    have hA : Fl.hasRr rs ds x y = false := by unfold Fl.hasRr; rw [decide_eq_false hz]; rfl
    rw [hA]
    clear hA FC
    generalize Fl.valE rs ds = E at *
    have hd : (E == 0) = false := beq_eq_false_iff_ne.2 hz
    have hd2 : (E != 0) = true := by rw [bne, hd]; rfl
    clear hz
    go_enter Try.func19, Try.ntmps19
    go_wp2_with fail
    refine (CV.out).mono ?_
    rintro e w1 ⟨rfl, hb1⟩
    have HB := Lib.hid (below_step HW.out.2 hb1)
    clear hb1 CV
    go_wp2
    go_ret2
    exact ⟨rfl, HB.out⟩
  have HA : Fl.hasRr rs ds x y = Fl.hasB rs x y := by unfold Fl.hasRr; rw [decide_eq_true hz]; rfl
  have HF := Lib.hid (fun W hW => FC.out W hW (Fl.val_ok hz))
  rw [HA, hz]
  rw [hz] at CV
  clear HA hz FC
  generalize Fl.hasB rs x y = o at *
  go_enter Try.func19, Try.ntmps19
  go_wp2_with fail
  refine (CV.out).mono ?_
  rintro e w1 ⟨rfl, hb1⟩
  have HB := Lib.hid (below_step HW.out.2 hb1)
  have bX := HW.out.1.below hb1 HW.out.1.lt
  have y0 : World.cell? _ _ = some (.slice ra rs.length rc) := bX.cell 0
  have y1 : World.cell? _ _ = some (.slice da ds.length dc) := bX.cell 1
  have C := Lib.hid (HF.out _ HB.out)
  clear hb1 CV x0 x1 HW bX
  go_wp2_with fail
  refine (C.out).mono ?_
  rintro e w2 ⟨rfl, hb2⟩
  have HG := Lib.hid (below_step HB.out hb2)
  clear hb2 y0 y1
  go_wp2
  go_ret2
  exact ⟨rfl, HG.out⟩
set_option maxRecDepth 20000 in
set_option maxHeartbeats 1000000 in
theorem rhasF_any (rv dv : Value) (rs : List Fl.R) (ds : List Fl.D) (x y : Int) (w : World) (hr : Rects w rv rs) (hd : Doors w dv ds) (h1 : rs.length ≤ 1000) (h2 : ds.length ≤ 1000) :
    Calls Try.prog 20 #[roomV rv dv, .int .i64 x, .int .i64 y] w fun e w' => e = .returned (.tuple #[.bool (Fl.hasRr rs ds x y), .int .i64 (Fl.valE rs ds)]) ∧ Below w.heap.size w w' := by
  have HW := Lib.hid (And.intro (BlockAt.new w #[rv, dv] RoomT) (below_alloc2 (Below.refl w.heap.size w) (.cells #[rv, dv] RoomT)))
  have x0 : World.cell? _ _ = some rv := HW.out.1.cell 0
  have x1 : World.cell? _ _ = some dv := HW.out.1.cell 1
  have CV := Lib.hid (rvalidate_any rv dv rs ds _ (hr.all HW.out.2) (hd.all HW.out.2) h1 h2)
  have FC := Lib.hid (fun W (hW : Below w.heap.size w W) ho => rcell_any rv dv rs x y W (hr.all hW) h1 ho)
  obtain ⟨ra, rc, rfl⟩ := hr.form
  obtain ⟨da, dc, rfl⟩ := hd.form
  clear hr hd
  by_cases hz : Fl.valE rs ds = 0
  case neg =>
    have hA : Fl.hasRr rs ds x y = false := by unfold Fl.hasRr; rw [decide_eq_false hz]; rfl
    rw [hA]
    clear hA FC
    generalize Fl.valE rs ds = E at *
    have hd : (E == 0) = false := beq_eq_false_iff_ne.2 hz
    have hd2 : (E != 0) = true := by rw [bne, hd]; rfl
    clear hz
    go_enter Try.func20, Try.ntmps20
    go_wp2_with fail
    refine (CV.out).mono ?_
    rintro e w1 ⟨rfl, hb1⟩
    have HB := Lib.hid (below_step HW.out.2 hb1)
    clear hb1 CV
    go_wp2
    go_ret2
    exact ⟨rfl, HB.out⟩
  have HA : Fl.hasRr rs ds x y = Fl.hasB rs x y := by unfold Fl.hasRr; rw [decide_eq_true hz]; rfl
  have HF := Lib.hid (fun W hW => FC.out W hW (Fl.val_ok hz))
  rw [HA, hz]
  rw [hz] at CV
  clear HA hz FC
  generalize Fl.hasB rs x y = o at *
  go_enter Try.func20, Try.ntmps20
  go_wp2_with fail
  refine (CV.out).mono ?_
  rintro e w1 ⟨rfl, hb1⟩
  have HB := Lib.hid (below_step HW.out.2 hb1)
  have bX := HW.out.1.below hb1 HW.out.1.lt
  have y0 : World.cell? _ _ = some (.slice ra rs.length rc) := bX.cell 0
  have y1 : World.cell? _ _ = some (.slice da ds.length dc) := bX.cell 1
  have C := Lib.hid (HF.out _ HB.out)
  clear hb1 CV x0 x1 HW bX
  go_wp2_with fail
  refine (C.out).mono ?_
  rintro e w2 ⟨rfl, hb2⟩
  have HG := Lib.hid (below_step HB.out hb2)
  clear hb2 y0 y1
  go_wp2
  go_ret2
  exact ⟨rfl, HG.out⟩
end Go.Proofs.Ytpobkdbnldogcaa
