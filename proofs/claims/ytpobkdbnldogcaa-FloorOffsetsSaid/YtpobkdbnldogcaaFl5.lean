/- Validate, cell, Area and Has of the reference. -/
import Derived.Test.YtpobkdbnldogcaaFl4
namespace Go.Proofs.Ytpobkdbnldogcaa
open Go.RowKit

set_option maxRecDepth 20000 in
set_option maxHeartbeats 1000000 in
theorem rhas_any (r : Fl.R) (x y : Int) (h : Fl.okR r = true) (w : World) : Calls Try.prog 62 #[rectV r, .int .i64 x, .int .i64 y] w fun e w' => e = .returned (.bool (Fl.hasR r x y)) ∧ Below w.heap.size w w' := by
  obtain ⟨⟨x0, x1⟩, ⟨y0, y1⟩, ⟨w0, w1⟩, ⟨h0, h1⟩⟩ := okR_sum h
  have HE := Lib.hid (Fl.hasR_iff (r := r) (x := x) (y := y))
  generalize Fl.hasR r x y = E at *
  obtain ⟨rx, ry, rw, rh⟩ := r
  have HEF : Hid (¬ ((rx ≤ x ∧ x < rx + rw) ∧ (ry ≤ y ∧ y < ry + rh)) → E = false) := Lib.hid fun hn => by
    cases E
    · rfl
    · exact absurd (HE.out.1 rfl) hn
  have HET : Hid (((rx ≤ x ∧ x < rx + rw) ∧ (ry ≤ y ∧ y < ry + rh)) → E = true) := Lib.hid HE.out.2
  clear HE h
  dsimp only at *
  by_cases q1 : rx ≤ x
  case neg =>
    have HF := Lib.hid (HEF.out (by omega))
    clear HEF HET
    go_enter Try.func62, Try.ntmps62
    go_wp2
    go_ret
    exact ⟨by rw [HF.out]; rfl, below_alloc2 (Below.refl _ _) _⟩
  by_cases q2 : ry ≤ y
  case neg =>
    have HF := Lib.hid (HEF.out (by omega))
    clear HEF HET
    go_enter Try.func62, Try.ntmps62
    go_wp2
    go_ret
    exact ⟨by rw [HF.out]; rfl, below_alloc2 (Below.refl _ _) _⟩
  by_cases q3 : x < rx + rw
  case neg =>
    have HF := Lib.hid (HEF.out (by omega))
    clear HEF HET
    go_enter Try.func62, Try.ntmps62
    go_wp2
    go_ret
    exact ⟨by rw [HF.out]; rfl, below_alloc2 (Below.refl _ _) _⟩
  by_cases q4 : y < ry + rh
  case neg =>
    have HF := Lib.hid (HEF.out (by omega))
    clear HEF HET
    go_enter Try.func62, Try.ntmps62
    go_wp2
    go_ret
    exact ⟨by rw [HF.out]; rfl, below_alloc2 (Below.refl _ _) _⟩
  have HF := Lib.hid (HET.out (by omega))
  clear HEF HET
  go_enter Try.func62, Try.ntmps62
  go_wp2
  go_ret
  exact ⟨by rw [HF.out]; rfl, below_alloc2 (Below.refl _ _) _⟩
set_option maxRecDepth 20000 in
set_option maxHeartbeats 1000000 in
theorem rcell_any (rv dv : Value) (rs : List Fl.R) (x y : Int) (w : World) (hv : Rects w rv rs) (hl : rs.length ≤ 1000) (ho : ∀ k (hk : k < rs.length), Fl.okR rs[k] = true) :
    Calls Try.prog 56 #[roomV rv dv, .int .i64 x, .int .i64 y] w fun e w' => e = .returned (.bool (Fl.hasB rs x y)) ∧ Below w.heap.size w w' := by
  obtain ⟨ao, c, rfl, hlc, hlk⟩ := hv
  have HK := Lib.hid hlk
  have HO := Lib.hid ho
  have HW := Lib.hid (And.intro (BlockAt.new w #[.slice ao rs.length c, dv] RoomT) (below_alloc2 (Below.refl w.heap.size w) (.cells #[.slice ao rs.length c, dv] RoomT)))
  have FH := Lib.hid (fun r h W => rhas_any r x y h W)
  have HYes := Lib.hid (fun k (hk : k < rs.length) (h : Fl.hasR rs[k] x y = true) => Fl.hasB_yes hk h)
  have HNo := Lib.hid (Fl.hasB_no (rs := rs) (x := x) (y := y))
  generalize Fl.hasB rs x y = E at *
  clear hlk ho
  go_enter Try.func56, Try.ntmps56
  go_wp2
  go_loopw [7] (fun t wr => ∃ k : Nat, k ≤ rs.length ∧ t = .int .i64 k ∧ Hid ((∀ j (hj : j < rs.length), j < k → Fl.hasR rs[j] x y = false) ∧ BlockAt wr w.heap.size #[.slice ao rs.length c, dv] RoomT ∧ Below w.heap.size w wr)) (fun t _ => rs.length - (intOf t).toNat)
  case atStart => exact ⟨0, Nat.zero_le _, rfl, Lib.hid ⟨fun j _ h => absurd h (Nat.not_lt_zero _), HW.out⟩⟩
  case round =>
    obtain ⟨k, hk, rfl, hg⟩ := hrel
    clear HW
    have x0 : World.cell? _ _ = some (.slice ao rs.length c) := hg.out.2.1.cell 0
    by_cases hlt : k < rs.length
    · obtain ⟨b, off, rfl, hb, hr⟩ := HK.out k hlt
      obtain ⟨c0, c1, c2, c3⟩ := rect_at (hr.below hg.out.2.2 hb)
      have HY1 := Lib.hid (HYes.out k hlt)
      have HI : Hid (Fl.hasR rs[k] x y = false → ∀ j (hj : j < rs.length), j < k + 1 → Fl.hasR rs[j] x y = false) := Lib.hid fun h j hj hjk => by
        by_cases e : j = k
        · subst e; exact h
        · exact hg.out.1 j hj (by omega)
      have HG := Lib.hid hg.out.2
      have C1 := Lib.hid (fun W => FH.out rs[k] (HO.out k hlt) W)
      clear hg hr HYes HO
      generalize Fl.hasR rs[k] x y = o at *
      generalize rs[k] = a at *
      have hoo : o = true ∨ o = false := by cases o <;> simp
      rcases hoo with ho | ho
      · have HE := Lib.hid (HY1.out ho)
        rw [ho] at C1
        clear ho HI HY1
        go_wp2_with fail
        refine (C1.out _).mono ?_
        rintro e w1 ⟨rfl, hb1⟩
        have HG1 := Lib.hid (below_step HG.out.2 hb1)
        clear hb1 HG c0 c1 c2 c3 x0
        go_wp2
        go_ret
        exact ⟨by rw [HE.out]; rfl, HG1.out⟩
      · have HI := Lib.hid (HI.out ho)
        rw [ho] at C1
        clear ho HY1
        go_wp2_with fail
        refine (C1.out _).mono ?_
        rintro e w1 ⟨rfl, hb1⟩
        have HG1 := Lib.hid (And.intro (HG.out.1.below hb1 HG.out.1.lt) (below_step HG.out.2 hb1))
        clear hb1 HG c0 c1 c2 c3 x0
        go_wp2
        go_roundw
        case rel => exact ⟨k + 1, by omega, by go_num, Lib.hid ⟨HI.out, HG1.out⟩⟩
        case measure => simp [intOf]; omega
    · obtain rfl : k = rs.length := by omega
      have HE := Lib.hid (HNo.out fun j hj => hg.out.1 j hj hj)
      have HG := Lib.hid hg.out.2.2
      clear hg
      go_wp2
      go_ret
      exact ⟨by rw [HE.out]; rfl, HG.out⟩
theorem Fl.ov_yes {rs : List Fl.R} (ho : ∀ k (hk : k < rs.length), Fl.okR rs[k] = true) {x y : Nat} (hx : x < 60) (hy : y < 60) (h : 1 < Fl.cnt rs x y rs.length) : Fl.ov rs = true := (Fl.ov_cells ho).2 ⟨x, y, hx, hy, h⟩
theorem Fl.ov_none {rs : List Fl.R} (ho : ∀ k (hk : k < rs.length), Fl.okR rs[k] = true) (h : ∀ x : Nat, x < 60 → ∀ y : Nat, y < 60 → ¬ 1 < Fl.cnt rs x y rs.length) : Fl.ov rs = false := by
  apply Bool.eq_false_iff.2
  intro hc
  obtain ⟨x, y, hx, hy, h2⟩ := (Fl.ov_cells ho).1 hc
  exact h x hx y hy h2
theorem Fl.okR_bad {r : Fl.R} (h : r.x < 0 ∨ r.y < 0 ∨ r.w < 1 ∨ r.h < 1 ∨ 60 < r.x ∨ 60 < r.y ∨ 60 - r.x < r.w ∨ 60 - r.y < r.h) : Fl.okR r = false := by
  apply Bool.eq_false_iff.2
  intro hc; have := Fl.okR_iff.1 hc; omega
theorem Fl.okR_good {r : Fl.R} (h : ¬ (r.x < 0 ∨ r.y < 0 ∨ r.w < 1 ∨ r.h < 1 ∨ 60 < r.x ∨ 60 < r.y ∨ 60 - r.x < r.w ∨ 60 - r.y < r.h)) : Fl.okR r = true := Fl.okR_iff.2 (by omega)
theorem Fl.okD_bad {d : Fl.D} (h : d.a < 0 ∨ d.b ≤ d.a ∨ 60 < d.b) : Fl.okD d = false := by
  apply Bool.eq_false_iff.2
  intro hc; have := Fl.okD_iff.1 hc; omega
set_option maxRecDepth 100000 in
set_option maxHeartbeats 4000000 in
theorem rvalidate_any (rv dv : Value) (rs : List Fl.R) (ds : List Fl.D) (w : World) (hr : Rects w rv rs) (hd : Doors w dv ds) (h1 : rs.length ≤ 1000) (h2 : ds.length ≤ 1000) :
    Calls Try.prog 22 #[roomV rv dv] w fun e w' => e = .returned (.int .i64 (Fl.valE rs ds)) ∧ Below w.heap.size w w' := by
  obtain ⟨ra, rc, rfl, _, hrk⟩ := hr
  obtain ⟨da, dc, rfl, _, hdk⟩ := hd
  have HK := Lib.hid hrk
  have HDK := Lib.hid hdk
  have HW := Lib.hid (And.intro (BlockAt.new w #[.slice ra rs.length rc, .slice da ds.length dc] RoomT) (below_alloc2 (Below.refl w.heap.size w) (.cells #[.slice ra rs.length rc, .slice da ds.length dc] RoomT)))
  have x0 : World.cell? _ _ = some (.slice ra rs.length rc) := HW.out.1.cell 0
  have FW := Lib.hid (fun n lo hi W => within_any n lo hi W)
  have FH := Lib.hid (fun r x y h W => rhas_any r x y h W)
  clear hrk hdk
  cases q0 : rng 1 8 (rs.length : Int)
  · have HE := Lib.hid (Fl.valE_1 (ds := ds) (Fl.rectsB_len q0))
    have C0 := Lib.hid (fun W => FW.out (rs.length : Int) 1 8 W)
    rw [q0] at C0
    generalize Fl.valE rs ds = E at *
    clear q0 FH HK HDK
    go_enter Try.func22, Try.ntmps22
    go_wp2_with fail
    refine (C0.out _).mono ?_
    rintro e w1 ⟨rfl, rfl⟩
    go_wp2
    go_ret
    exact ⟨by rw [HE.out]; rfl, HW.out.2⟩
  have C0 := Lib.hid (fun W => FW.out (rs.length : Int) 1 8 W)
  rw [q0] at C0
  have HQ0 := Lib.hid q0
  have HBad := Lib.hid (fun k (hk : k < rs.length) h => Fl.valE_1 (ds := ds) (Fl.rectsB_bad hk h))
  have HOk := Lib.hid (Fl.rectsB_ok (rs := rs) q0)
  have H10 := Lib.hid (fun h h2 => Fl.valE_10 (rs := rs) (ds := ds) h h2)
  have H4 := Lib.hid (fun h h2 h3 => Fl.valE_4 (rs := rs) (ds := ds) h h2 h3)
  have HD0 := Lib.hid (fun h h2 h3 => Fl.valE_d (rs := rs) (ds := ds) h h2 h3)
  have HDB := Lib.hid (fun k (hk : k < ds.length) h => Fl.doorsB_bad hk h)
  have HDO := Lib.hid (Fl.doorsB_iff (ds := ds)).2
  generalize Fl.valE rs ds = E at *
  generalize Fl.doorsB ds = DB at *
  clear q0
  go_enter Try.func22, Try.ntmps22
  go_wp2_with fail
  refine (C0.out _).mono ?_
  rintro e w1 ⟨rfl, rfl⟩
  clear C0 x0
  go_wp2
  go_loopw [3] (fun t wr => ∃ k : Nat, k ≤ rs.length ∧ t = .int .i64 k ∧ Hid ((∀ j (hj : j < rs.length), j < k → Fl.okR rs[j] = true) ∧ BlockAt wr w.heap.size #[.slice ra rs.length rc, .slice da ds.length dc] RoomT ∧ Below w.heap.size w wr)) (fun t _ => rs.length - (intOf t).toNat)
  case atStart => exact ⟨0, Nat.zero_le _, rfl, Lib.hid ⟨fun j _ h => absurd h (Nat.not_lt_zero _), HW.out⟩⟩
  case round =>
    obtain ⟨k, hk, rfl, hg⟩ := hrel
    clear HW
    have x0 : World.cell? _ _ = some (.slice ra rs.length rc) := hg.out.2.1.cell 0
    by_cases hlt : k < rs.length
    · obtain ⟨b, off, rfl, hb, hr⟩ := HK.out k hlt
      obtain ⟨c0, c1, c2, c3⟩ := rect_at (hr.below hg.out.2.2 hb)
      have HB1 := Lib.hid (HBad.out k hlt)
      have HI : Hid (Fl.okR rs[k] = true → ∀ j (hj : j < rs.length), j < k + 1 → Fl.okR rs[j] = true) := Lib.hid fun h j hj hjk => by
        by_cases e : j = k
        · subst e; exact h
        · exact hg.out.1 j hj (by omega)
      have HG := Lib.hid (And.intro (hg.out.2.1.alloc (.cells (rectA rs[k]) RectT)) (below_alloc2 hg.out.2.2 (.cells (rectA rs[k]) RectT)))
      have HX := Lib.hid (Fl.okR_bad (r := rs[k]))
      have HZ := Lib.hid (Fl.okR_good (r := rs[k]))
      clear hg hr HBad HOk H10 H4 HD0 HDB HDO FH
      generalize Fl.okR rs[k] = o at *
      generalize rs[k] = a at *
      by_cases q1 : a.x < 0
      · have HE := Lib.hid (HB1.out (HX.out (by omega)))
        clear HX HZ HI HB1
        go_wp2
        go_ret
        exact ⟨by rw [HE.out]; rfl, HG.out.2⟩
      by_cases q2 : a.y < 0
      · have HE := Lib.hid (HB1.out (HX.out (by omega)))
        clear HX HZ HI HB1
        go_wp2
        go_ret
        exact ⟨by rw [HE.out]; rfl, HG.out.2⟩
      by_cases q3 : a.w < 1
      · have HE := Lib.hid (HB1.out (HX.out (by omega)))
        clear HX HZ HI HB1
        go_wp2
        go_ret
        exact ⟨by rw [HE.out]; rfl, HG.out.2⟩
      by_cases q4 : a.h < 1
      · have HE := Lib.hid (HB1.out (HX.out (by omega)))
        clear HX HZ HI HB1
        go_wp2
        go_ret
        exact ⟨by rw [HE.out]; rfl, HG.out.2⟩
      by_cases q5 : 60 < a.x
      · have HE := Lib.hid (HB1.out (HX.out (by omega)))
        clear HX HZ HI HB1
        go_wp2
        go_ret
        exact ⟨by rw [HE.out]; rfl, HG.out.2⟩
      by_cases q6 : 60 < a.y
      · have HE := Lib.hid (HB1.out (HX.out (by omega)))
        clear HX HZ HI HB1
        go_wp2
        go_ret
        exact ⟨by rw [HE.out]; rfl, HG.out.2⟩
      by_cases q7 : 60 - a.x < a.w
      · have HE := Lib.hid (HB1.out (HX.out (by omega)))
        clear HX HZ HI HB1
        go_wp2
        go_ret
        exact ⟨by rw [HE.out]; rfl, HG.out.2⟩
      by_cases q8 : 60 - a.y < a.h
      · have HE := Lib.hid (HB1.out (HX.out (by omega)))
        clear HX HZ HI HB1
        go_wp2
        go_ret
        exact ⟨by rw [HE.out]; rfl, HG.out.2⟩
      have HI := Lib.hid (HI.out (HZ.out (by omega)))
      clear HX HZ HB1
      go_wp2
      go_roundw
      case rel => exact ⟨k + 1, by omega, by go_num, Lib.hid ⟨HI.out, HG.out⟩⟩
      case measure => simp [intOf]; omega
    · obtain rfl : k = rs.length := by omega
      have hok : ∀ j (hj : j < rs.length), Fl.okR rs[j] = true := fun j hj => hg.out.1 j hj hj
      have HR := Lib.hid (HOk.out hok)
      have HOK := Lib.hid hok
      have HYES := Lib.hid (fun (x y : Nat) hx hy h => H10.out HR.out (Fl.ov_yes hok (x := x) (y := y) hx hy h))
      have HNONE := Lib.hid (Fl.ov_none hok)
      have HG := Lib.hid hg.out.2
      clear hg hok H10 HOk HBad
      go_wp2
      clear x0
      go_loopw [5] (fun t wr => ∃ x : Nat, x ≤ 60 ∧ t = .int .i64 x ∧ Hid ((∀ x' : Nat, x' < x → ∀ y : Nat, y < 60 → ¬ 1 < Fl.cnt rs x' y rs.length) ∧ BlockAt wr w.heap.size #[.slice ra rs.length rc, .slice da ds.length dc] RoomT ∧ Below w.heap.size w wr)) (fun t _ => 60 - (intOf t).toNat)
      case atStart => exact ⟨0, Nat.zero_le _, rfl, Lib.hid ⟨fun j h => absurd h (Nat.not_lt_zero _), HG.out⟩⟩
      case round =>
        obtain ⟨x, hx, rfl, hg⟩ := hrel
        clear HG
        by_cases hxl : x < 60
        · have hxd : decide ((x : Int) < 60) = true := decide_eq_true (by omega)
          have hxd2 : decide (x < 60) = true := decide_eq_true hxl
          go_wp2
          go_loopw [6] (fun t wr => ∃ y : Nat, y ≤ 60 ∧ t = .int .i64 y ∧ Hid ((∀ y' : Nat, y' < y → ¬ 1 < Fl.cnt rs x y' rs.length) ∧ BlockAt wr w.heap.size #[.slice ra rs.length rc, .slice da ds.length dc] RoomT ∧ Below w.heap.size w wr)) (fun t _ => 60 - (intOf t).toNat)
          case atStart => exact ⟨0, Nat.zero_le _, rfl, Lib.hid ⟨fun j h => absurd h (Nat.not_lt_zero _), hg.out.2⟩⟩
          case round =>
            obtain ⟨y, hy, rfl, hg2⟩ := hrel
            by_cases hyl : y < 60
            · have hyd : decide ((y : Int) < 60) = true := decide_eq_true (by omega)
              have hyd2 : decide (y < 60) = true := decide_eq_true hyl
              go_wp2
              go_loopw [7, 8] (fun s t wr => ∃ k : Nat, k ≤ rs.length ∧ s = .int .i64 (Fl.cnt rs x y k : Nat) ∧ t = .int .i64 k ∧ Hid (BlockAt wr w.heap.size #[.slice ra rs.length rc, .slice da ds.length dc] RoomT ∧ Below w.heap.size w wr)) (fun _ t _ => rs.length - (intOf t).toNat)
              case atStart => exact ⟨0, Nat.zero_le _, rfl, rfl, Lib.hid hg2.out.2⟩
              case round =>
                obtain ⟨k, hk, rfl, rfl, hg3⟩ := hrel
                have x0 : World.cell? _ _ = some (.slice ra rs.length rc) := hg3.out.1.cell 0
                have hcl := Fl.cnt_le rs x y k
                by_cases hlt : k < rs.length
                · obtain ⟨b, off, rfl, hb, hr⟩ := HK.out k hlt
                  obtain ⟨c0, c1, c2, c3⟩ := rect_at (hr.below hg3.out.2 hb)
                  have HG := Lib.hid hg3.out
                  have C1 := Lib.hid (fun W => FH.out rs[k] (x : Int) (y : Int) (HOK.out k hlt) W)
                  have HY := Lib.hid (fun h => Fl.cnt_yes (rs := rs) (x := (x : Int)) (y := (y : Int)) hlt h)
                  have HN := Lib.hid (fun h => Fl.cnt_no (rs := rs) (x := (x : Int)) (y := (y : Int)) hlt h)
                  clear hg3 hr
                  generalize Fl.hasR rs[k] (x : Int) (y : Int) = o at *
                  generalize rs[k] = a at *
                  have hoo : o = true ∨ o = false := by cases o <;> simp
                  rcases hoo with ho | ho
                  · have HE := Lib.hid (HY.out ho)
                    rw [ho] at C1
                    clear ho HY HN
                    go_wp2_with fail
                    refine (C1.out _).mono ?_
                    rintro e w2 ⟨rfl, hb1⟩
                    have HG1 := Lib.hid (And.intro (HG.out.1.below hb1 HG.out.1.lt) (below_step HG.out.2 hb1))
                    clear hb1 HG c0 c1 c2 c3 x0
                    go_wp2
                    go_roundw
                    case rel => exact ⟨k + 1, by omega, by rw [HE.out]; go_num, by go_num, HG1⟩
                    case measure => simp [intOf]; omega
                  · have HE := Lib.hid (HN.out ho)
                    rw [ho] at C1
                    clear ho HY HN
                    go_wp2_with fail
                    refine (C1.out _).mono ?_
                    rintro e w2 ⟨rfl, hb1⟩
                    have HG1 := Lib.hid (And.intro (HG.out.1.below hb1 HG.out.1.lt) (below_step HG.out.2 hb1))
                    clear hb1 HG c0 c1 c2 c3 x0
                    go_wp2
                    go_roundw
                    case rel => exact ⟨k + 1, by omega, by rw [HE.out], by go_num, HG1⟩
                    case measure => simp [intOf]; omega
                · obtain rfl : k = rs.length := by omega
                  by_cases hc1 : 1 < Fl.cnt rs x y rs.length
                  · have HE := Lib.hid (HYES.out x y hxl hyl hc1)
                    go_wp2
                    go_ret
                    exact ⟨by rw [HE.out]; rfl, hg3.out.2⟩
                  · have HI : Hid (∀ y' : Nat, y' < y + 1 → ¬ 1 < Fl.cnt rs x y' rs.length) := Lib.hid fun y' h => by
                      by_cases e : y' = y
                      · subst e; exact hc1
                      · exact hg2.out.1 y' (by omega)
                    go_wp2
                    go_roundw
                    case rel => exact ⟨y + 1, by omega, by go_num, Lib.hid ⟨HI.out, hg3.out⟩⟩
                    case measure => simp [intOf]; omega
            · obtain rfl : y = 60 := by omega
              have HI : Hid (∀ x' : Nat, x' < x + 1 → ∀ y : Nat, y < 60 → ¬ 1 < Fl.cnt rs x' y rs.length) := Lib.hid fun x' h => by
                by_cases e : x' = x
                · subst e; exact hg2.out.1
                · exact hg.out.1 x' (by omega)
              go_wp2
              go_roundw
              case rel => exact ⟨x + 1, by omega, by go_num, Lib.hid ⟨HI.out, hg2.out.2⟩⟩
              case measure => simp [intOf]; omega
        · have hxd : decide ((x : Int) < 60) = false := decide_eq_false (by omega)
          have hxd2 : decide (x < 60) = false := decide_eq_false hxl
          have HOV := Lib.hid (HNONE.out fun x' h => hg.out.1 x' (by omega))
          clear hx hxl
          have HG := Lib.hid hg.out.2
          have x1 : World.cell? _ _ = some (.slice da ds.length dc) := hg.out.2.1.cell 1
          clear hg HYES HNONE
          by_cases hd4 : 4 < ds.length
          · have HE := Lib.hid (H4.out HR.out HOV.out hd4)
            go_wp2
            go_ret
            exact ⟨by rw [HE.out]; rfl, HG.out.2⟩
          have HE0 := Lib.hid (HD0.out HR.out HOV.out hd4)
          have hdd : decide (4 < (ds.length : Int)) = false := decide_eq_false (by omega)
          have hdd2 : decide (4 < ds.length) = false := decide_eq_false hd4
          clear H4 HD0
          go_wp2
          clear x1
          go_loopw [9] (fun t wr => ∃ k : Nat, k ≤ ds.length ∧ t = .int .i64 k ∧ Hid ((∀ j (hj : j < ds.length), j < k → Fl.okD ds[j] = true) ∧ BlockAt wr w.heap.size #[.slice ra rs.length rc, .slice da ds.length dc] RoomT ∧ Below w.heap.size w wr)) (fun t _ => ds.length - (intOf t).toNat)
          case atStart => exact ⟨0, Nat.zero_le _, rfl, Lib.hid ⟨fun j _ h => absurd h (Nat.not_lt_zero _), HG.out⟩⟩
          case round =>
            obtain ⟨k, hk, rfl, hg⟩ := hrel
            clear HG
            have x1 : World.cell? _ _ = some (.slice da ds.length dc) := hg.out.2.1.cell 1
            by_cases hlt : k < ds.length
            · obtain ⟨b, off, rfl, hb, hr⟩ := HDK.out k hlt
              obtain ⟨c0, c1, c2⟩ := door_at (hr.below hg.out.2.2 hb)
              have HB1 := Lib.hid (HDB.out k hlt)
              have HI : Hid (Fl.okD ds[k] = true → ∀ j (hj : j < ds.length), j < k + 1 → Fl.okD ds[j] = true) := Lib.hid fun h j hj hjk => by
                by_cases e : j = k
                · subst e; exact h
                · exact hg.out.1 j hj (by omega)
              have HG := Lib.hid (And.intro (hg.out.2.1.alloc (.cells #[.int .i64 ds[k].a, .int .i64 ds[k].b, .int .i64 ds[k].y] 107)) (below_alloc2 hg.out.2.2 (.cells #[.int .i64 ds[k].a, .int .i64 ds[k].b, .int .i64 ds[k].y] 107)))
              have HX := Lib.hid (Fl.okD_bad (d := ds[k]))
              have HZ := Lib.hid (Fl.okD_rng (d := ds[k]))
              clear hg hr HDB HDO FH
              generalize Fl.okD ds[k] = o at *
              generalize ds[k] = a at *
              by_cases q1 : a.a < 0
              · have HF := Lib.hid (HB1.out (HX.out (by omega)))
                clear HX HZ HI HB1
                go_wp2
                go_ret
                exact ⟨by rw [HE0.out, HF.out]; rfl, HG.out.2⟩
              by_cases q2 : a.b ≤ a.a
              · have HF := Lib.hid (HB1.out (HX.out (by omega)))
                clear HX HZ HI HB1
                go_wp2
                go_ret
                exact ⟨by rw [HE0.out, HF.out]; rfl, HG.out.2⟩
              by_cases q3 : 60 < a.b
              · have HF := Lib.hid (HB1.out (HX.out (by omega)))
                clear HX HZ HI HB1
                go_wp2
                go_ret
                exact ⟨by rw [HE0.out, HF.out]; rfl, HG.out.2⟩
              have hr := HZ.out (by omega) (by omega) (by omega)
              have C1 := Lib.hid (fun W => FW.out a.y 0 60 W)
              rw [← hr] at C1
              clear hr HX HZ
              have hoo : o = true ∨ o = false := by cases o <;> simp
              rcases hoo with ho | ho
              · have HI := Lib.hid (HI.out ho)
                rw [ho] at C1
                clear ho HB1
                go_wp2_with fail
                refine (C1.out _).mono ?_
                rintro e w2 ⟨rfl, rfl⟩
                go_wp2
                go_roundw
                case rel => exact ⟨k + 1, by omega, by go_num, Lib.hid ⟨HI.out, HG.out⟩⟩
                case measure => simp [intOf]; omega
              · have HF := Lib.hid (HB1.out ho)
                rw [ho] at C1
                clear ho HI HB1
                go_wp2_with fail
                refine (C1.out _).mono ?_
                rintro e w2 ⟨rfl, rfl⟩
                go_wp2
                go_ret
                exact ⟨by rw [HE0.out, HF.out]; rfl, HG.out.2⟩
            · obtain rfl : k = ds.length := by omega
              have HF := Lib.hid (HDO.out fun j hj => hg.out.1 j hj hj)
              have HG := Lib.hid hg.out.2.2
              clear hg
              go_wp2
              go_ret
              exact ⟨by rw [HE0.out, HF.out]; rfl, HG.out⟩
end Go.Proofs.Ytpobkdbnldogcaa
