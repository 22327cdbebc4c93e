/- Strips, Seams and InDoor with their errors; FloorStrips returns true, whatever the room, the width and the offset. -/
import Derived.Test.YtpobkdbnldogcaaFl25
namespace Go.Proofs.Ytpobkdbnldogcaa
open Go.RowKit

def Fl.smR (rs : List Fl.R) (ds : List Fl.D) (n o : Int) : List Int := if Fl.offE rs ds n o = 0 then Fl.smL rs n o else []
def Fl.inR (rs : List Fl.R) (ds : List Fl.D) (n o : Int) : Bool := decide (Fl.offE rs ds n o = 0) && Fl.indoor rs ds (Fl.smL rs n o)
theorem Fl.val_doors {rs : List Fl.R} {ds : List Fl.D} (h : Fl.valE rs ds = 0) : ∀ k (hk : k < ds.length), Fl.okD ds[k] = true := Fl.doorsB_iff.1 (Fl.valE_zero.1 h).2.2.2
set_option maxRecDepth 20000 in
set_option maxHeartbeats 1000000 in
theorem rstripsF_any (rv dv : Value) (rs : List Fl.R) (ds : List Fl.D) (n o : Int) (w : World) (hr : Rects w rv rs) (hd : Doors w dv ds) (h1 : rs.length ≤ 1000) (h2 : ds.length ≤ 1000) :
    Calls Try.prog 24 #[roomV rv dv, .int .i64 n, .int .i64 o] w fun e w' => ∃ a c, e = .returned (.tuple #[.slice a (Fl.stR rs ds n o).length c, .int .i64 (Fl.offE rs ds n o)]) ∧ OwnS w.heap.size w' (.slice a (Fl.stR rs ds n o).length c) (Fl.stR rs ds n o) ∧ Below w.heap.size w w' := by
  have HW := Lib.hid (And.intro (BlockAt.new w #[rv, dv] RoomT) (below_alloc2 (Below.refl w.heap.size w) (.cells #[rv, dv] RoomT)))
  have x0 : World.cell? _ _ = some rv := HW.out.1.cell 0
  have x1 : World.cell? _ _ = some dv := HW.out.1.cell 1
  have CV := Lib.hid (sized_any rv dv rs ds n o _ (hr.all HW.out.2) (hd.all HW.out.2) h1 h2)
  have FC := Lib.hid (fun W (hW : Below w.heap.size w W) ho a b c d => rstrips_any rv dv rs n o W (hr.all hW) h1 ho a b c d)
  obtain ⟨ra, rc, rfl⟩ := hr.form
  obtain ⟨da, dc, rfl⟩ := hd.form
  clear hr hd
  by_cases hz : Fl.offE rs ds n o = 0
  case neg =>
    have hA : Fl.stR rs ds n o = [] := if_neg hz
    rw [hA]
    clear hA FC
    generalize Fl.offE rs ds n o = E at *
    have hd : (E == 0) = false := beq_eq_false_iff_ne.2 hz
    have hd2 : (E != 0) = true := by rw [bne, hd]; rfl
    clear hz
    go_enter Try.func24, Try.ntmps24
    go_wp2_with fail
    refine (CV.out).mono ?_
    rintro e w1 ⟨rfl, hb1⟩
    have HB := Lib.hid (below_step HW.out.2 hb1)
    clear hb1 CV
    go_wp2
    go_ret2
    exact ⟨none, 0, rfl, OwnG.nil _ _, HB.out⟩
  have HA : Fl.stR rs ds n o = Fl.stL rs n o := if_pos hz
  obtain ⟨z1, z2, z3⟩ := Fl.offE_zero.1 hz
  have HF := Lib.hid (fun W hW => FC.out W hW (Fl.val_ok z1) (by omega) (by omega) (by omega) (by omega))
  rw [HA, hz]
  rw [hz] at CV
  clear HA hz FC z1 z2 z3
  generalize Fl.stL rs n o = L at *
  go_enter Try.func24, Try.ntmps24
  go_wp2_with fail
  refine (CV.out).mono ?_
  rintro e w1 ⟨rfl, hb1⟩
  have HB := Lib.hid (below_step HW.out.2 hb1)
  have bX := HW.out.1.below hb1 HW.out.1.lt
  have y0 : World.cell? _ _ = some (.slice ra rs.length rc) := bX.cell 0
  have y1 : World.cell? _ _ = some (.slice da ds.length dc) := bX.cell 1
  have C := Lib.hid (HF.out _ HB.out)
  clear hb1 CV x0 x1 HW bX
  go_wp2_with fail
  refine (C.out).mono ?_
  rintro e w2 ⟨ua, uc, rfl, ho2, hb2⟩
  have HG := Lib.hid (And.intro (OwnG.mono ho2 HB.out.size) (below_step HB.out hb2))
  clear hb2 y0 y1 ho2
  go_wp2
  go_ret2
  exact ⟨ua, uc, rfl, HG.out.1, HG.out.2⟩
set_option maxRecDepth 20000 in
set_option maxHeartbeats 1000000 in
theorem seamsF_any (rv dv : Value) (rs : List Fl.R) (ds : List Fl.D) (n o : Int) (w : World) (hr : Rects w rv rs) (hd : Doors w dv ds) (h1 : rs.length ≤ 1000) (h2 : ds.length ≤ 1000) :
    Calls Try.prog 25 #[roomV rv dv, .int .i64 n, .int .i64 o] w fun e w' => ∃ a c, e = .returned (.tuple #[.slice a (Fl.smR rs ds n o).length c, .int .i64 (Fl.offE rs ds n o)]) ∧ OwnI w.heap.size w' (.slice a (Fl.smR rs ds n o).length c) (Fl.smR rs ds n o) ∧ Below w.heap.size w w' := by
  have HW := Lib.hid (And.intro (BlockAt.new w #[rv, dv] RoomT) (below_alloc2 (Below.refl w.heap.size w) (.cells #[rv, dv] RoomT)))
  have x0 : World.cell? _ _ = some rv := HW.out.1.cell 0
  have x1 : World.cell? _ _ = some dv := HW.out.1.cell 1
  have CV := Lib.hid (validateOffset_any rv dv rs ds n o _ (hr.all HW.out.2) (hd.all HW.out.2) h1 h2)
  have FC := Lib.hid (fun W (hW : Below w.heap.size w W) ho a b c d => seams_any rv dv rs n o W (hr.all hW) h1 ho a b c d)
  obtain ⟨ra, rc, rfl⟩ := hr.form
  obtain ⟨da, dc, rfl⟩ := hd.form
  clear hr hd
  by_cases hz : Fl.offE rs ds n o = 0
  case neg =>
    have hA : Fl.smR rs ds n o = [] := if_neg hz
    rw [hA]
    clear hA FC
    generalize Fl.offE rs ds n o = E at *
    have hd : (E == 0) = false := beq_eq_false_iff_ne.2 hz
    have hd2 : (E != 0) = true := by rw [bne, hd]; rfl
    clear hz
    go_enter Try.func25, Try.ntmps25
    go_wp2_with fail
    refine (CV.out).mono ?_
    rintro e w1 ⟨rfl, hb1⟩
    have HB := Lib.hid (below_step HW.out.2 hb1)
    clear hb1 CV
    go_wp2
    go_ret2
    exact ⟨none, 0, rfl, OwnG.nil _ _, HB.out⟩
  have HA : Fl.smR rs ds n o = Fl.smL rs n o := if_pos hz
  obtain ⟨z1, z2, z3⟩ := Fl.offE_zero.1 hz
  have HF := Lib.hid (fun W hW => FC.out W hW (Fl.val_ok z1) (by omega) (by omega) (by omega) (by omega))
  rw [HA, hz]
  rw [hz] at CV
  clear HA hz FC z1 z2 z3
  generalize Fl.smL rs n o = L at *
  go_enter Try.func25, Try.ntmps25
  go_wp2_with fail
  refine (CV.out).mono ?_
  rintro e w1 ⟨rfl, hb1⟩
  have HB := Lib.hid (below_step HW.out.2 hb1)
  have bX := HW.out.1.below hb1 HW.out.1.lt
  have y0 : World.cell? _ _ = some (.slice ra rs.length rc) := bX.cell 0
  have y1 : World.cell? _ _ = some (.slice da ds.length dc) := bX.cell 1
  have C := Lib.hid (HF.out _ HB.out)
  clear hb1 CV x0 x1 HW bX
  go_wp2_with fail
  refine (C.out).mono ?_
  rintro e w2 ⟨ua, uc, rfl, ho2, hb2⟩
  have HG := Lib.hid (And.intro (OwnG.mono ho2 HB.out.size) (below_step HB.out hb2))
  clear hb2 y0 y1 ho2
  go_wp2
  go_ret2
  exact ⟨ua, uc, rfl, HG.out.1, HG.out.2⟩
set_option maxRecDepth 20000 in
set_option maxHeartbeats 1000000 in
theorem rseamsF_any (rv dv : Value) (rs : List Fl.R) (ds : List Fl.D) (n o : Int) (w : World) (hr : Rects w rv rs) (hd : Doors w dv ds) (h1 : rs.length ≤ 1000) (h2 : ds.length ≤ 1000) :
    Calls Try.prog 26 #[roomV rv dv, .int .i64 n, .int .i64 o] w fun e w' => ∃ a c, e = .returned (.tuple #[.slice a (Fl.smR rs ds n o).length c, .int .i64 (Fl.offE rs ds n o)]) ∧ OwnI w.heap.size w' (.slice a (Fl.smR rs ds n o).length c) (Fl.smR rs ds n o) ∧ Below w.heap.size w w' := by
  have HW := Lib.hid (And.intro (BlockAt.new w #[rv, dv] RoomT) (below_alloc2 (Below.refl w.heap.size w) (.cells #[rv, dv] RoomT)))
  have x0 : World.cell? _ _ = some rv := HW.out.1.cell 0
  have x1 : World.cell? _ _ = some dv := HW.out.1.cell 1
  have CV := Lib.hid (sized_any rv dv rs ds n o _ (hr.all HW.out.2) (hd.all HW.out.2) h1 h2)
  have FC := Lib.hid (fun W (hW : Below w.heap.size w W) ho a b c d => rseams_any rv dv rs n o W (hr.all hW) h1 ho a b c d)
  obtain ⟨ra, rc, rfl⟩ := hr.form
  obtain ⟨da, dc, rfl⟩ := hd.form
  clear hr hd
  by_cases hz : Fl.offE rs ds n o = 0
  case neg =>
    have hA : Fl.smR rs ds n o = [] := if_neg hz
    rw [hA]
    clear hA FC
    generalize Fl.offE rs ds n o = E at *
    have hd : (E == 0) = false := beq_eq_false_iff_ne.2 hz
    have hd2 : (E != 0) = true := by rw [bne, hd]; rfl
    clear hz
    go_enter Try.func26, Try.ntmps26
    go_wp2_with fail
    refine (CV.out).mono ?_
    rintro e w1 ⟨rfl, hb1⟩
    have HB := Lib.hid (below_step HW.out.2 hb1)
    clear hb1 CV
    go_wp2
    go_ret2
    exact ⟨none, 0, rfl, OwnG.nil _ _, HB.out⟩
  have HA : Fl.smR rs ds n o = Fl.smL rs n o := if_pos hz
  obtain ⟨z1, z2, z3⟩ := Fl.offE_zero.1 hz
  have HF := Lib.hid (fun W hW => FC.out W hW (Fl.val_ok z1) (by omega) (by omega) (by omega) (by omega))
  rw [HA, hz]
  rw [hz] at CV
  clear HA hz FC z1 z2 z3
  generalize Fl.smL rs n o = L at *
  go_enter Try.func26, Try.ntmps26
  go_wp2_with fail
  refine (CV.out).mono ?_
  rintro e w1 ⟨rfl, hb1⟩
  have HB := Lib.hid (below_step HW.out.2 hb1)
  have bX := HW.out.1.below hb1 HW.out.1.lt
  have y0 : World.cell? _ _ = some (.slice ra rs.length rc) := bX.cell 0
  have y1 : World.cell? _ _ = some (.slice da ds.length dc) := bX.cell 1
  have C := Lib.hid (HF.out _ HB.out)
  clear hb1 CV x0 x1 HW bX
  go_wp2_with fail
  refine (C.out).mono ?_
  rintro e w2 ⟨ua, uc, rfl, ho2, hb2⟩
  have HG := Lib.hid (And.intro (OwnG.mono ho2 HB.out.size) (below_step HB.out hb2))
  clear hb2 y0 y1 ho2
  go_wp2
  go_ret2
  exact ⟨ua, uc, rfl, HG.out.1, HG.out.2⟩
set_option maxRecDepth 20000 in
set_option maxHeartbeats 1000000 in
theorem inDoorF_any (rv dv : Value) (rs : List Fl.R) (ds : List Fl.D) (n o : Int) (w : World) (hr : Rects w rv rs) (hd : Doors w dv ds) (h1 : rs.length ≤ 1000) (h2 : ds.length ≤ 1000) :
    Calls Try.prog 27 #[roomV rv dv, .int .i64 n, .int .i64 o] w fun e w' => e = .returned (.tuple #[.bool (Fl.inR rs ds n o), .int .i64 (Fl.offE rs ds n o)]) ∧ Below w.heap.size w w' := by
  have HW := Lib.hid (And.intro (BlockAt.new w #[rv, dv] RoomT) (below_alloc2 (Below.refl w.heap.size w) (.cells #[rv, dv] RoomT)))
  have x0 : World.cell? _ _ = some rv := HW.out.1.cell 0
  have x1 : World.cell? _ _ = some dv := HW.out.1.cell 1
  have CV := Lib.hid (validateOffset_any rv dv rs ds n o _ (hr.all HW.out.2) (hd.all HW.out.2) h1 h2)
  have FC := Lib.hid (fun W (hW : Below w.heap.size w W) ho hdo a b c d => inDoor_any rv dv rs ds n o W (hr.all hW) (hd.all hW) h1 h2 ho hdo a b c d)
  obtain ⟨ra, rc, rfl⟩ := hr.form
  obtain ⟨da, dc, rfl⟩ := hd.form
  clear hr hd
  by_cases hz : Fl.offE rs ds n o = 0
  case neg =>
    have hA : Fl.inR rs ds n o = false := by unfold Fl.inR; rw [decide_eq_false hz]; rfl
    rw [hA]
    clear hA FC
    generalize Fl.offE rs ds n o = E at *
    have hd : (E == 0) = false := beq_eq_false_iff_ne.2 hz
    have hd2 : (E != 0) = true := by rw [bne, hd]; rfl
    clear hz
    go_enter Try.func27, Try.ntmps27
    go_wp2_with fail
    refine (CV.out).mono ?_
    rintro e w1 ⟨rfl, hb1⟩
    have HB := Lib.hid (below_step HW.out.2 hb1)
    clear hb1 CV
    go_wp2
    go_ret2
    exact ⟨rfl, HB.out⟩
  have HA : Fl.inR rs ds n o = Fl.indoor rs ds (Fl.smL rs n o) := by unfold Fl.inR; rw [decide_eq_true hz]; rfl
  obtain ⟨z1, z2, z3⟩ := Fl.offE_zero.1 hz
  have HF := Lib.hid (fun W hW => FC.out W hW (Fl.val_ok z1) (Fl.val_doors z1) (by omega) (by omega) (by omega) (by omega))
  rw [HA, hz]
  rw [hz] at CV
  clear HA hz FC z1 z2 z3
  generalize Fl.indoor rs ds (Fl.smL rs n o) = b at *
  go_enter Try.func27, Try.ntmps27
  go_wp2_with fail
  refine (CV.out).mono ?_
  rintro e w1 ⟨rfl, hb1⟩
  have HB := Lib.hid (below_step HW.out.2 hb1)
  have bX := HW.out.1.below hb1 HW.out.1.lt
  have y0 : World.cell? _ _ = some (.slice ra rs.length rc) := bX.cell 0
  have y1 : World.cell? _ _ = some (.slice da ds.length dc) := bX.cell 1
  have C := Lib.hid (HF.out _ HB.out)
  clear hb1 CV x0 x1 HW bX
  go_wp2_with fail
  refine (C.out).mono ?_
  rintro e w2 ⟨rfl, hb2⟩
  have HG := Lib.hid (below_step HB.out hb2)
  clear hb2 y0 y1
  go_wp2
  go_ret2
  exact ⟨rfl, HG.out⟩
set_option maxRecDepth 20000 in
set_option maxHeartbeats 1000000 in
theorem rinDoorF_any (rv dv : Value) (rs : List Fl.R) (ds : List Fl.D) (n o : Int) (w : World) (hr : Rects w rv rs) (hd : Doors w dv ds) (h1 : rs.length ≤ 1000) (h2 : ds.length ≤ 1000) :
    Calls Try.prog 28 #[roomV rv dv, .int .i64 n, .int .i64 o] w fun e w' => e = .returned (.tuple #[.bool (Fl.inR rs ds n o), .int .i64 (Fl.offE rs ds n o)]) ∧ Below w.heap.size w w' := by
  have HW := Lib.hid (And.intro (BlockAt.new w #[rv, dv] RoomT) (below_alloc2 (Below.refl w.heap.size w) (.cells #[rv, dv] RoomT)))
  have x0 : World.cell? _ _ = some rv := HW.out.1.cell 0
  have x1 : World.cell? _ _ = some dv := HW.out.1.cell 1
  have CV := Lib.hid (sized_any rv dv rs ds n o _ (hr.all HW.out.2) (hd.all HW.out.2) h1 h2)
  have FC := Lib.hid (fun W (hW : Below w.heap.size w W) ho hdo a b c d => rinDoor_any rv dv rs ds n o W (hr.all hW) (hd.all hW) h1 h2 ho hdo a b c d)
  obtain ⟨ra, rc, rfl⟩ := hr.form
  obtain ⟨da, dc, rfl⟩ := hd.form
  clear hr hd
  by_cases hz : Fl.offE rs ds n o = 0
  case neg =>
    have hA : Fl.inR rs ds n o = false := by unfold Fl.inR; rw [decide_eq_false hz]; rfl
    rw [hA]
    clear hA FC
    generalize Fl.offE rs ds n o = E at *
    have hd : (E == 0) = false := beq_eq_false_iff_ne.2 hz
    have hd2 : (E != 0) = true := by rw [bne, hd]; rfl
    clear hz
    go_enter Try.func28, Try.ntmps28
    go_wp2_with fail
    refine (CV.out).mono ?_
    rintro e w1 ⟨rfl, hb1⟩
    have HB := Lib.hid (below_step HW.out.2 hb1)
    clear hb1 CV
    go_wp2
    go_ret2
    exact ⟨rfl, HB.out⟩
  have HA : Fl.inR rs ds n o = Fl.indoor rs ds (Fl.smL rs n o) := by unfold Fl.inR; rw [decide_eq_true hz]; rfl
  obtain ⟨z1, z2, z3⟩ := Fl.offE_zero.1 hz
  have HF := Lib.hid (fun W hW => FC.out W hW (Fl.val_ok z1) (Fl.val_doors z1) (by omega) (by omega) (by omega) (by omega))
  rw [HA, hz]
  rw [hz] at CV
  clear HA hz FC z1 z2 z3
  generalize Fl.indoor rs ds (Fl.smL rs n o) = b at *
  go_enter Try.func28, Try.ntmps28
  go_wp2_with fail
  refine (CV.out).mono ?_
  rintro e w1 ⟨rfl, hb1⟩
  have HB := Lib.hid (below_step HW.out.2 hb1)
  have bX := HW.out.1.below hb1 HW.out.1.lt
  have y0 : World.cell? _ _ = some (.slice ra rs.length rc) := bX.cell 0
  have y1 : World.cell? _ _ = some (.slice da ds.length dc) := bX.cell 1
  have C := Lib.hid (HF.out _ HB.out)
  clear hb1 CV x0 x1 HW bX
  go_wp2_with fail
  refine (C.out).mono ?_
  rintro e w2 ⟨rfl, hb2⟩
  have HG := Lib.hid (below_step HB.out hb2)
  clear hb2 y0 y1
  go_wp2
  go_ret2
  exact ⟨rfl, HG.out⟩
set_option maxRecDepth 20000 in
set_option maxHeartbeats 2000000 in
theorem sameInts_any (u v : Value) (xs : List Int) (w : World) (hu : Ints w u xs) (hv : Ints w v xs) (hl : xs.length ≤ 1000) :
    Calls Try.prog 30 #[u, v] w fun e w' => e = .returned (.bool true) ∧ Below w.heap.size w w' := by
  obtain ⟨ua, uc, rfl, _, huk⟩ := hu
  obtain ⟨va, vc, rfl, _, hvk⟩ := hv
  have HU := Lib.hid huk
  have HV := Lib.hid hvk
  have hw0 := Lib.hid (Below.refl w.heap.size w)
  clear huk hvk
  go_enter Try.func30, Try.ntmps30
  go_wp2
  go_loopw [5] (fun t wr => ∃ k : Nat, k ≤ xs.length ∧ t = .int .i64 k ∧ Hid (Below w.heap.size w wr)) (fun t _ => xs.length - (intOf t).toNat)
  case atStart => exact ⟨0, Nat.zero_le _, rfl, hw0⟩
  case round =>
    obtain ⟨k, hk, rfl, hg⟩ := hrel
    by_cases hlt : k < xs.length
    · obtain ⟨b, off, rfl, hb, hr⟩ := HU.out k hlt
      obtain ⟨b2, off2, rfl, hb2, hr2⟩ := HV.out k hlt
      have c0 := int_at (hr.below hg.out hb)
      have d0 := int_at (hr2.below hg.out hb2)
      rw [Nat.mul_one] at c0 d0
      clear hr hr2
      generalize xs[k] = a at *
      go_wp2
      go_quiet (fail)
      go_wp2
      go_roundw
      case rel => exact ⟨k + 1, by omega, by go_num, Lib.hid (below_drewN hg.out _)⟩
      case measure => simp [intOf]; omega
    · go_wp2
      go_ret
      exact ⟨rfl, hg.out⟩
theorem Fl.stR_len (rs : List Fl.R) (ds : List Fl.D) (n o : Int) : (Fl.stR rs ds n o).length ≤ 99 := by
  unfold Fl.stR
  split
  · rename_i h
    obtain ⟨_, z2, z3⟩ := Fl.offE_zero.1 h
    exact Fl.stL_len (by omega) (by omega) (by omega) (by omega)
  · simp
theorem Fl.smR_len (rs : List Fl.R) (ds : List Fl.D) (n o : Int) : (Fl.smR rs ds n o).length ≤ 99 := by
  unfold Fl.smR
  split
  · rename_i h
    obtain ⟨_, z2, z3⟩ := Fl.offE_zero.1 h
    exact Fl.smL_len (by omega) (by omega) (by omega) (by omega)
  · simp
abbrev LinesT : TypeId := 36
abbrev linesV (a b : Int) : Value := .agg #[.int .i64 a, .int .i64 b]
set_option maxRecDepth 100000 in
set_option maxHeartbeats 4000000 in
theorem strips_walk (rv dv : Value) (rs : List Fl.R) (ds : List Fl.D) (n o : Int) (w : World) (hr : Rects w rv rs) (hd : Doors w dv ds) :
    Calls Try.prog 4 #[roomV rv dv, linesV n o] w fun e w' => e = .returned (.bool true) ∧ Below w.heap.size w w' := by
  have HB0 := Lib.hid (show BlockAt ((w.alloc (.cells #[rv, dv] RoomT)).alloc (.cells #[.int .i64 n, .int .i64 o] LinesT)) w.heap.size #[rv, dv] RoomT ∧ BlockAt ((w.alloc (.cells #[rv, dv] RoomT)).alloc (.cells #[.int .i64 n, .int .i64 o] LinesT)) (w.heap.size + 1) #[.int .i64 n, .int .i64 o] LinesT ∧ Below w.heap.size w ((w.alloc (.cells #[rv, dv] RoomT)).alloc (.cells #[.int .i64 n, .int .i64 o] LinesT)) from
    ⟨(BlockAt.new w _ _).alloc _, by have := BlockAt.new (w.alloc (.cells #[rv, dv] RoomT)) #[.int .i64 n, .int .i64 o] LinesT; simpa using this, below_alloc2 (below_alloc2 (Below.refl w.heap.size w) _) _⟩)
  have CM := Lib.hid (many_any rv dv none 0 0 rs ds _ (hr.all HB0.out.2.2) (hd.all HB0.out.2.2))
  have HR := Lib.hid (And.intro hr hd)
  have FS := Lib.hid (fun W => sane_any W)
  obtain ⟨ra, rc, rfl⟩ := hr.form
  obtain ⟨da, dc, rfl⟩ := hd.form
  have x0 : World.cell? _ _ = some (.slice ra rs.length rc) := HB0.out.1.cell 0
  have x1 : World.cell? _ _ = some (.slice da ds.length dc) := HB0.out.1.cell 1
  clear hr hd
  cases hm : manyB rs ds 0
  case true =>
    rw [hm] at CM
    clear hm
    go_enter Try.func4, Try.ntmps4
    go_wp2_with fail
    refine CM.out.mono ?_
    rintro e w1 ⟨rfl, hb1⟩
    have HB1 := Lib.hid (below_step HB0.out.2.2 hb1)
    clear hb1 x0 x1
    go_wp2_with fail
    refine (FS.out _).mono ?_
    rintro e w2 ⟨rfl, hb2⟩
    have HB2 := Lib.hid (below_step HB1.out hb2)
    clear hb2
    go_wp2
    go_ret
    exact ⟨rfl, HB2.out⟩
  rw [hm] at CM
  obtain ⟨hl1, hl2, _⟩ := manyB_no hm
  clear hm
  have FA := Lib.hid (fun W (hW : Below w.heap.size w W) => stripsF_any _ _ rs ds n o W (HR.out.1.all hW) (HR.out.2.all hW) (by omega) (by omega))
  have FB := Lib.hid (fun W (hW : Below w.heap.size w W) => rstripsF_any _ _ rs ds n o W (HR.out.1.all hW) (HR.out.2.all hW) (by omega) (by omega))
  have FC := Lib.hid (fun W (hW : Below w.heap.size w W) => seamsF_any _ _ rs ds n o W (HR.out.1.all hW) (HR.out.2.all hW) (by omega) (by omega))
  have FD := Lib.hid (fun W (hW : Below w.heap.size w W) => rseamsF_any _ _ rs ds n o W (HR.out.1.all hW) (HR.out.2.all hW) (by omega) (by omega))
  have FE := Lib.hid (fun W (hW : Below w.heap.size w W) => inDoorF_any _ _ rs ds n o W (HR.out.1.all hW) (HR.out.2.all hW) (by omega) (by omega))
  have FF := Lib.hid (fun W (hW : Below w.heap.size w W) => rinDoorF_any _ _ rs ds n o W (HR.out.1.all hW) (HR.out.2.all hW) (by omega) (by omega))
  have HL1 := Lib.hid (Fl.stR_len rs ds n o)
  have HL2 := Lib.hid (Fl.smR_len rs ds n o)
  generalize Fl.offE rs ds n o = E at *
  generalize Fl.stR rs ds n o = LS at *
  generalize Fl.smR rs ds n o = LI at *
  generalize Fl.inR rs ds n o = Hb at *
  clear hl1 hl2
  go_enter Try.func4, Try.ntmps4
  go_wp2_with fail
  refine CM.out.mono ?_
  rintro e w1 ⟨rfl, hb1⟩
  have HN1 := Lib.hid (And.intro (HB0.out.1.below hb1 HB0.out.1.lt) (And.intro (HB0.out.2.1.below hb1 HB0.out.2.1.lt) (below_step HB0.out.2.2 hb1)))
  clear hb1 x0 x1 CM HB0
  have C := Lib.hid (FA.out _ HN1.out.2.2)
  have x0 : World.cell? _ _ = some (.slice ra rs.length rc) := HN1.out.1.cell 0
  have x1 : World.cell? _ _ = some (.slice da ds.length dc) := HN1.out.1.cell 1
  have y0 : World.cell? _ _ = some (.int .i64 n) := HN1.out.2.1.cell 0
  have y1 : World.cell? _ _ = some (.int .i64 o) := HN1.out.2.1.cell 1
  go_wp2_with fail
  refine C.out.mono ?_
  rintro e w2 ⟨a1, c1, rfl, ho, hb⟩
  have HN2 := Lib.hid (And.intro (HN1.out.1.below hb HN1.out.1.lt) (And.intro (HN1.out.2.1.below hb HN1.out.2.1.lt) (below_step HN1.out.2.2 hb)))
  have HO0 := Lib.hid (OwnG.rows stripC_len ho)
  clear ho
  clear hb x0 x1 y0 y1 HN1 C
  have C := Lib.hid (FB.out _ HN2.out.2.2)
  have x0 : World.cell? _ _ = some (.slice ra rs.length rc) := HN2.out.1.cell 0
  have x1 : World.cell? _ _ = some (.slice da ds.length dc) := HN2.out.1.cell 1
  have y0 : World.cell? _ _ = some (.int .i64 n) := HN2.out.2.1.cell 0
  have y1 : World.cell? _ _ = some (.int .i64 o) := HN2.out.2.1.cell 1
  go_wp2_with fail
  refine C.out.mono ?_
  rintro e w3 ⟨a2, c2, rfl, ho, hb⟩
  have HN3 := Lib.hid (And.intro (HN2.out.1.below hb HN2.out.1.lt) (And.intro (HN2.out.2.1.below hb HN2.out.2.1.lt) (below_step HN2.out.2.2 hb)))
  have HO0' := Lib.hid (HO0.out.all hb)
  clear HO0
  have HO0 := Lib.hid HO0'.out
  clear HO0'
  have HO1 := Lib.hid (OwnG.rows stripC_len ho)
  clear ho
  clear hb x0 x1 y0 y1 HN2 C
  have C := Lib.hid (FC.out _ HN3.out.2.2)
  have x0 : World.cell? _ _ = some (.slice ra rs.length rc) := HN3.out.1.cell 0
  have x1 : World.cell? _ _ = some (.slice da ds.length dc) := HN3.out.1.cell 1
  have y0 : World.cell? _ _ = some (.int .i64 n) := HN3.out.2.1.cell 0
  have y1 : World.cell? _ _ = some (.int .i64 o) := HN3.out.2.1.cell 1
  go_wp2_with fail
  refine C.out.mono ?_
  rintro e w4 ⟨a3, c3, rfl, ho, hb⟩
  have HN4 := Lib.hid (And.intro (HN3.out.1.below hb HN3.out.1.lt) (And.intro (HN3.out.2.1.below hb HN3.out.2.1.lt) (below_step HN3.out.2.2 hb)))
  have HO0' := Lib.hid (HO0.out.all hb)
  clear HO0
  have HO0 := Lib.hid HO0'.out
  clear HO0'
  have HO1' := Lib.hid (HO1.out.all hb)
  clear HO1
  have HO1 := Lib.hid HO1'.out
  clear HO1'
  have HO2 := Lib.hid (OwnG.rows (cs := intL) (fun _ => rfl) ho)
  clear ho
  clear hb x0 x1 y0 y1 HN3 C
  have C := Lib.hid (FD.out _ HN4.out.2.2)
  have x0 : World.cell? _ _ = some (.slice ra rs.length rc) := HN4.out.1.cell 0
  have x1 : World.cell? _ _ = some (.slice da ds.length dc) := HN4.out.1.cell 1
  have y0 : World.cell? _ _ = some (.int .i64 n) := HN4.out.2.1.cell 0
  have y1 : World.cell? _ _ = some (.int .i64 o) := HN4.out.2.1.cell 1
  go_wp2_with fail
  refine C.out.mono ?_
  rintro e w5 ⟨a4, c4, rfl, ho, hb⟩
  have HN5 := Lib.hid (And.intro (HN4.out.1.below hb HN4.out.1.lt) (And.intro (HN4.out.2.1.below hb HN4.out.2.1.lt) (below_step HN4.out.2.2 hb)))
  have HO0' := Lib.hid (HO0.out.all hb)
  clear HO0
  have HO0 := Lib.hid HO0'.out
  clear HO0'
  have HO1' := Lib.hid (HO1.out.all hb)
  clear HO1
  have HO1 := Lib.hid HO1'.out
  clear HO1'
  have HO2' := Lib.hid (HO2.out.all hb)
  clear HO2
  have HO2 := Lib.hid HO2'.out
  clear HO2'
  have HO3 := Lib.hid (OwnG.rows (cs := intL) (fun _ => rfl) ho)
  clear ho
  clear hb x0 x1 y0 y1 HN4 C
  have C := Lib.hid (FE.out _ HN5.out.2.2)
  have x0 : World.cell? _ _ = some (.slice ra rs.length rc) := HN5.out.1.cell 0
  have x1 : World.cell? _ _ = some (.slice da ds.length dc) := HN5.out.1.cell 1
  have y0 : World.cell? _ _ = some (.int .i64 n) := HN5.out.2.1.cell 0
  have y1 : World.cell? _ _ = some (.int .i64 o) := HN5.out.2.1.cell 1
  go_wp2_with fail
  refine C.out.mono ?_
  rintro e w6 ⟨rfl, hb⟩
  have HN6 := Lib.hid (And.intro (HN5.out.1.below hb HN5.out.1.lt) (And.intro (HN5.out.2.1.below hb HN5.out.2.1.lt) (below_step HN5.out.2.2 hb)))
  have HO0' := Lib.hid (HO0.out.all hb)
  clear HO0
  have HO0 := Lib.hid HO0'.out
  clear HO0'
  have HO1' := Lib.hid (HO1.out.all hb)
  clear HO1
  have HO1 := Lib.hid HO1'.out
  clear HO1'
  have HO2' := Lib.hid (HO2.out.all hb)
  clear HO2
  have HO2 := Lib.hid HO2'.out
  clear HO2'
  have HO3' := Lib.hid (HO3.out.all hb)
  clear HO3
  have HO3 := Lib.hid HO3'.out
  clear HO3'
  clear hb x0 x1 y0 y1 HN5 C
  have C := Lib.hid (FF.out _ HN6.out.2.2)
  have x0 : World.cell? _ _ = some (.slice ra rs.length rc) := HN6.out.1.cell 0
  have x1 : World.cell? _ _ = some (.slice da ds.length dc) := HN6.out.1.cell 1
  have y0 : World.cell? _ _ = some (.int .i64 n) := HN6.out.2.1.cell 0
  have y1 : World.cell? _ _ = some (.int .i64 o) := HN6.out.2.1.cell 1
  go_wp2_with fail
  refine C.out.mono ?_
  rintro e w7 ⟨rfl, hb⟩
  have HN7 := Lib.hid (And.intro (HN6.out.1.below hb HN6.out.1.lt) (And.intro (HN6.out.2.1.below hb HN6.out.2.1.lt) (below_step HN6.out.2.2 hb)))
  have HO0' := Lib.hid (HO0.out.all hb)
  clear HO0
  have HO0 := Lib.hid HO0'.out
  clear HO0'
  have HO1' := Lib.hid (HO1.out.all hb)
  clear HO1
  have HO1 := Lib.hid HO1'.out
  clear HO1'
  have HO2' := Lib.hid (HO2.out.all hb)
  clear HO2
  have HO2 := Lib.hid HO2'.out
  clear HO2'
  have HO3' := Lib.hid (HO3.out.all hb)
  clear HO3
  have HO3 := Lib.hid HO3'.out
  clear HO3'
  clear hb x0 x1 y0 y1 HN6 C
  have C1 := Lib.hid (sameStrips_any _ _ LS w7 HO0.out HO1.out (Nat.le_trans HL1.out (by omega)))
  go_wp2_with fail
  refine C1.out.mono ?_
  rintro e w8 ⟨rfl, hb⟩
  have C2 := Lib.hid (sameInts_any _ _ LI w8 (HO2.out.all hb) (HO3.out.all hb) (Nat.le_trans HL2.out (by omega)))
  have HN8 := Lib.hid (below_step HN7.out.2.2 hb)
  clear hb C1
  go_wp2_with fail
  refine C2.out.mono ?_
  rintro e w9 ⟨rfl, hb⟩
  have HN9 := Lib.hid (below_step HN8.out hb)
  clear hb C2
  go_wp2_with fail
  refine (FS.out _).mono ?_
  rintro e w10 ⟨rfl, hb⟩
  have HN10 := Lib.hid (below_step HN9.out hb)
  clear hb
  go_wp2
  go_ret
  exact ⟨rfl, HN10.out⟩
end Go.Proofs.Ytpobkdbnldogcaa
