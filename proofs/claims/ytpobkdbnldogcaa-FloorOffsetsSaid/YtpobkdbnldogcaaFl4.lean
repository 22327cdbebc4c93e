/- Validate, has, Area and Has of the program. -/
import Derived.Test.YtpobkdbnldogcaaFl3
namespace Go.Proofs.Ytpobkdbnldogcaa
open Go.RowKit

abbrev roomV (rv dv : Value) : Value := .agg #[rv, dv]
abbrev RoomT : TypeId := 25
theorem Fl.valE_1 {rs : List Fl.R} {ds : List Fl.D} (h : Fl.rectsB rs = false) : Fl.valE rs ds = 1 := by unfold Fl.valE; rw [h]; rfl
theorem Fl.valE_10 {rs : List Fl.R} {ds : List Fl.D} (h : Fl.rectsB rs = true) (h2 : Fl.ov rs = true) : Fl.valE rs ds = 10 := by unfold Fl.valE; rw [h, h2]; rfl
theorem Fl.valE_4 {rs : List Fl.R} {ds : List Fl.D} (h : Fl.rectsB rs = true) (h2 : Fl.ov rs = false) (h3 : 4 < ds.length) : Fl.valE rs ds = 4 := by unfold Fl.valE; rw [h, h2, if_pos rfl, if_neg (by simp), if_pos h3]
theorem Fl.valE_d {rs : List Fl.R} {ds : List Fl.D} (h : Fl.rectsB rs = true) (h2 : Fl.ov rs = false) (h3 : ¬ 4 < ds.length) : Fl.valE rs ds = if Fl.doorsB ds then 0 else 1 := by unfold Fl.valE; rw [h, h2, if_pos rfl, if_neg (by simp), if_neg h3]
set_option maxRecDepth 20000 in
set_option maxHeartbeats 1000000 in
theorem validate_any (rv dv : Value) (rs : List Fl.R) (ds : List Fl.D) (w : World) (hr : Rects w rv rs) (hd : Doors w dv ds) (h1 : rs.length ≤ 1000) (h2 : ds.length ≤ 1000) :
    Calls Try.prog 21 #[roomV rv dv] w fun e w' => e = .returned (.int .i64 (Fl.valE rs ds)) ∧ Below w.heap.size w w' := by
  have FA := Lib.hid (fun W (hW : Below w.heap.size w W) => areRects_any rv rs W (hr.all hW) h1)
  have FO := Lib.hid (fun W (hW : Below w.heap.size w W) ho => overlap_any rv rs W (hr.all hW) h1 ho)
  have FD := Lib.hid (fun W (hW : Below w.heap.size w W) => areDoors_any dv ds W (hd.all hW) h2)
  obtain ⟨ra, rc, rfl⟩ := hr.form
  obtain ⟨da, dc, rfl⟩ := hd.form
  have bX := BlockAt.new w #[.slice ra rs.length rc, .slice da ds.length dc] RoomT
  have HX := Lib.hid bX
  have HW := Lib.hid (below_alloc2 (Below.refl w.heap.size w) (.cells #[.slice ra rs.length rc, .slice da ds.length dc] RoomT))
  clear hr hd bX
  cases q1 : Fl.rectsB rs
  · have HE := Lib.hid (Fl.valE_1 (ds := ds) q1)
    have CA := Lib.hid (FA.out _ HW.out)
    rw [q1] at CA
    generalize Fl.valE rs ds = E at *
    clear q1 FA FO FD
    go_enter Try.func21, Try.ntmps21
    go_wp2_with fail
    refine (CA.out).mono ?_
    rintro e w1 ⟨rfl, hb1⟩
    have HB := Lib.hid (below_step HW.out hb1)
    clear hb1
    go_wp2
    go_ret
    exact ⟨by rw [HE.out]; rfl, HB.out⟩
  have CA := Lib.hid (FA.out _ HW.out)
  rw [q1] at CA
  have ho := (Fl.rectsB_iff.1 q1).2
  cases q2 : Fl.ov rs
  case true =>
    have HE := Lib.hid (Fl.valE_10 (ds := ds) q1 q2)
    have CO := Lib.hid (fun W hW => FO.out W hW ho)
    rw [q2] at CO
    generalize Fl.valE rs ds = E at *
    clear q1 q2 ho FA FO FD
    go_enter Try.func21, Try.ntmps21
    go_wp2_with fail
    refine (CA.out).mono ?_
    rintro e w1 ⟨rfl, hb1⟩
    have HB := Lib.hid (below_step HW.out hb1)
    have bX1 := HX.out.below hb1 HX.out.lt
    have x0 : World.cell? _ _ = some (.slice ra rs.length rc) := bX1.cell 0
    have C2 := Lib.hid (CO.out _ HB.out)
    clear hb1 bX1
    go_wp2_with fail
    refine (C2.out).mono ?_
    rintro e w2 ⟨rfl, hb2⟩
    have HB2 := Lib.hid (below_step HB.out hb2)
    clear hb2 x0
    go_wp2
    go_ret
    exact ⟨by rw [HE.out]; rfl, HB2.out⟩
  have CO := Lib.hid (fun W hW => FO.out W hW ho)
  rw [q2] at CO
  by_cases q3 : 4 < ds.length
  · have HE := Lib.hid (Fl.valE_4 (ds := ds) q1 q2 q3)
    generalize Fl.valE rs ds = E at *
    clear q1 q2 ho FA FO FD
    go_enter Try.func21, Try.ntmps21
    go_wp2_with fail
    refine (CA.out).mono ?_
    rintro e w1 ⟨rfl, hb1⟩
    have HB := Lib.hid (below_step HW.out hb1)
    have bX1 := HX.out.below hb1 HX.out.lt
    have x0 : World.cell? _ _ = some (.slice ra rs.length rc) := bX1.cell 0
    have C2 := Lib.hid (CO.out _ HB.out)
    have HX2 := Lib.hid bX1
    clear hb1 bX1
    go_wp2_with fail
    refine (C2.out).mono ?_
    rintro e w2 ⟨rfl, hb2⟩
    have HB2 := Lib.hid (below_step HB.out hb2)
    have bX2 := HX2.out.below hb2 HX2.out.lt
    have x1 : World.cell? _ _ = some (.slice da ds.length dc) := bX2.cell 1
    clear hb2 x0 bX2
    go_wp2
    go_ret
    exact ⟨by rw [HE.out]; rfl, HB2.out⟩
  · have HE := Lib.hid (Fl.valE_d (ds := ds) q1 q2 q3)
    generalize Fl.valE rs ds = E at *
    generalize Fl.doorsB ds = B at *
    clear q1 q2 ho FA FO
    cases B
    all_goals
      go_enter Try.func21, Try.ntmps21
      go_wp2_with fail
      refine (CA.out).mono ?_
      rintro e w1 ⟨rfl, hb1⟩
      have HB := Lib.hid (below_step HW.out hb1)
      have bX1 := HX.out.below hb1 HX.out.lt
      have x0 : World.cell? _ _ = some (.slice ra rs.length rc) := bX1.cell 0
      have C2 := Lib.hid (CO.out _ HB.out)
      have HX2 := Lib.hid bX1
      clear hb1 bX1
      go_wp2_with fail
      refine (C2.out).mono ?_
      rintro e w2 ⟨rfl, hb2⟩
      have HB2 := Lib.hid (below_step HB.out hb2)
      have bX2 := HX2.out.below hb2 HX2.out.lt
      have x1 : World.cell? _ _ = some (.slice da ds.length dc) := bX2.cell 1
      have C3 := Lib.hid (FD.out _ HB2.out)
      clear hb2 x0 bX2
      go_wp2_with fail
      refine (C3.out).mono ?_
      rintro e w3 ⟨rfl, hb3⟩
      have HB3 := Lib.hid (below_step HB2.out hb3)
      clear hb3 x1
      go_wp2
      go_ret
      exact ⟨by rw [HE.out]; rfl, HB3.out⟩
theorem Fl.hasR_split (r : Fl.R) (x y : Int) : Fl.hasR r x y = (Fl.hd r.x (r.x + r.w) x && Fl.hd r.y (r.y + r.h) y) := rfl
set_option maxRecDepth 20000 in
set_option maxHeartbeats 1000000 in
theorem has_any (rv dv : Value) (rs : List Fl.R) (x y : Int) (w : World) (hv : Rects w rv rs) (hl : rs.length ≤ 1000) (ho : ∀ k (hk : k < rs.length), Fl.okR rs[k] = true) :
    Calls Try.prog 57 #[roomV rv dv, .int .i64 x, .int .i64 y] w fun e w' => e = .returned (.bool (Fl.hasB rs x y)) ∧ Below w.heap.size w w' := by
  obtain ⟨ao, c, rfl, hlc, hlk⟩ := hv
  have HK := Lib.hid hlk
  have HO := Lib.hid ho
  have HW := Lib.hid (below_alloc2 (Below.refl w.heap.size w) (.cells #[.slice ao rs.length c, dv] RoomT))
  have FC := Lib.hid (fun r h W => columns_any r h W)
  have FR := Lib.hid (fun r h W => rows_any r h W)
  have FH := Lib.hid (fun a b n W => holds_any a b n W)
  have HYes := Lib.hid (fun k (hk : k < rs.length) (h : Fl.hasR rs[k] x y = true) => Fl.hasB_yes hk h)
  have HNo := Lib.hid (Fl.hasB_no (rs := rs) (x := x) (y := y))
  generalize Fl.hasB rs x y = E at *
  clear hlk ho
  go_enter Try.func57, Try.ntmps57
  go_wp2
  go_loopw [12] (fun t wr => ∃ k : Nat, k ≤ rs.length ∧ t = .int .i64 k ∧ Hid ((∀ j (hj : j < rs.length), j < k → Fl.hasR rs[j] x y = false) ∧ Below w.heap.size w wr)) (fun t _ => rs.length - (intOf t).toNat)
  case atStart => exact ⟨0, Nat.zero_le _, rfl, Lib.hid ⟨fun j _ h => absurd h (Nat.not_lt_zero _), HW.out⟩⟩
  case round =>
    obtain ⟨k, hk, rfl, hg⟩ := hrel
    clear HW
    by_cases hlt : k < rs.length
    · obtain ⟨b, off, rfl, hb, hr⟩ := HK.out k hlt
      obtain ⟨c0, c1, c2, c3⟩ := rect_at (hr.below hg.out.2 hb)
      have HY1 := Lib.hid (HYes.out k hlt)
      have HO1 := Lib.hid (HO.out k hlt)
      have HS := Lib.hid (Fl.hasR_split rs[k] x y)
      have HI : Hid (Fl.hasR rs[k] x y = false → ∀ j (hj : j < rs.length), j < k + 1 → Fl.hasR rs[j] x y = false) := Lib.hid fun h j hj hjk => by
        by_cases e : j = k
        · subst e; exact h
        · exact hg.out.1 j hj (by omega)
      have HG := Lib.hid (below_alloc2 hg.out.2 (.cells (rectA rs[k]) RectT))
      have HB8 := Lib.hid (RB.of (BlockAt.new wr (rectA rs[k]) RectT))
      clear hg hr HYes HO
      generalize Fl.hasR rs[k] x y = o at *
      generalize rs[k] = a at *
      have C1 := Lib.hid (fun W => FH.out a.x (a.x + a.w) x W)
      have C2 := Lib.hid (fun W => FH.out a.y (a.y + a.h) y W)
      cases h1 : Fl.hd a.x (a.x + a.w) x
      · rw [h1] at C1 HS
        have ho : o = false := HS.out
        have HI := Lib.hid (HI.out ho)
        clear h1 ho HS HY1 C2
        go_wp2_with fail
        refine (FC.out _ HO1.out _).mono ?_
        rintro e w1 ⟨rfl, hb1⟩
        have HG1 := Lib.hid (below_step HG.out hb1)
        clear hb1 HG c0 c1 c2 c3
        go_wp2_with fail
        refine (C1.out _).mono ?_
        rintro e w2 ⟨rfl, hb2⟩
        have HG2 := Lib.hid (below_step HG1.out hb2)
        clear hb2 HG1 HB8
        go_wp2
        go_roundw
        case rel => exact ⟨k + 1, by omega, by go_num, Lib.hid ⟨HI.out, HG2.out⟩⟩
        case measure => simp [intOf]; omega
      · rw [h1] at C1 HS
        cases h2 : Fl.hd a.y (a.y + a.h) y
        · rw [h2] at C2 HS
          have ho : o = false := HS.out
          have HI := Lib.hid (HI.out ho)
          clear h1 h2 ho HS HY1
          go_wp2_with fail
          refine (FC.out _ HO1.out _).mono ?_
          rintro e w1 ⟨rfl, hb1⟩
          have HG1 := Lib.hid (below_step HG.out hb1)
          have HB81 := Lib.hid (HB8.out.below hb1 HB8.out.2)
          clear hb1 HG c0 c1 c2 c3 HB8
          go_wp2_with fail
          refine (C1.out _).mono ?_
          rintro e w2 ⟨rfl, hb2⟩
          have HG2 := Lib.hid (below_step HG1.out hb2)
          have HB82 := HB81.out.below hb2 HB81.out.2
          obtain ⟨⟨c0, c1, c2, c3⟩, _⟩ := HB82
          clear hb2 HG1 HB81
          go_wp2_with fail
          refine (FR.out _ HO1.out _).mono ?_
          rintro e w3 ⟨rfl, hb3⟩
          have HG3 := Lib.hid (below_step HG2.out hb3)
          clear hb3 HG2 c0 c1 c2 c3
          go_wp2_with fail
          refine (C2.out _).mono ?_
          rintro e w4 ⟨rfl, hb4⟩
          have HG4 := Lib.hid (below_step HG3.out hb4)
          clear hb4 HG3
          go_wp2
          go_roundw
          case rel => exact ⟨k + 1, by omega, by go_num, Lib.hid ⟨HI.out, HG4.out⟩⟩
          case measure => simp [intOf]; omega
        · rw [h2] at C2 HS
          have ho : o = true := HS.out
          have HE := Lib.hid (HY1.out ho)
          clear h1 h2 ho HS HY1 HI
          go_wp2_with fail
          refine (FC.out _ HO1.out _).mono ?_
          rintro e w1 ⟨rfl, hb1⟩
          have HG1 := Lib.hid (below_step HG.out hb1)
          have HB81 := Lib.hid (HB8.out.below hb1 HB8.out.2)
          clear hb1 HG c0 c1 c2 c3 HB8
          go_wp2_with fail
          refine (C1.out _).mono ?_
          rintro e w2 ⟨rfl, hb2⟩
          have HG2 := Lib.hid (below_step HG1.out hb2)
          have HB82 := HB81.out.below hb2 HB81.out.2
          obtain ⟨⟨c0, c1, c2, c3⟩, _⟩ := HB82
          clear hb2 HG1 HB81
          go_wp2_with fail
          refine (FR.out _ HO1.out _).mono ?_
          rintro e w3 ⟨rfl, hb3⟩
          have HG3 := Lib.hid (below_step HG2.out hb3)
          clear hb3 HG2 c0 c1 c2 c3
          go_wp2_with fail
          refine (C2.out _).mono ?_
          rintro e w4 ⟨rfl, hb4⟩
          have HG4 := Lib.hid (below_step HG3.out hb4)
          clear hb4 HG3
          go_wp2
          go_ret
          exact ⟨by rw [HE.out]; rfl, HG4.out⟩
    · obtain rfl : k = rs.length := by omega
      have HE := Lib.hid (HNo.out fun j hj => hg.out.1 j hj hj)
      have HG := Lib.hid hg.out.2
      clear hg
      go_wp2
      go_ret
      exact ⟨by rw [HE.out]; rfl, HG.out⟩
end Go.Proofs.Ytpobkdbnldogcaa
