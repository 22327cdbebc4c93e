/- Widths and offsets; a strip: of the program. -/
import Derived.Test.YtpobkdbnldogcaaFl6
namespace Go.Proofs.Ytpobkdbnldogcaa
open Go.RowKit

def Fl.widE (rs : List Fl.R) (ds : List Fl.D) (w : Int) : Int := if Fl.valE rs ds = 0 then (if rng 1 20 w then 0 else 1) else Fl.valE rs ds
theorem Fl.widE_bad {rs : List Fl.R} {ds : List Fl.D} {w : Int} (h : Fl.valE rs ds ≠ 0) : Fl.widE rs ds w = Fl.valE rs ds := if_neg h
theorem Fl.widE_ok {rs : List Fl.R} {ds : List Fl.D} {w : Int} (h : Fl.valE rs ds = 0) : Fl.widE rs ds w = if rng 1 20 w then 0 else 1 := if_pos h
theorem Fl.widE_zero {rs : List Fl.R} {ds : List Fl.D} {w : Int} : Fl.widE rs ds w = 0 ↔ Fl.valE rs ds = 0 ∧ 1 ≤ w ∧ w ≤ 20 := by
  unfold Fl.widE
  constructor
  · intro h
    split at h
    · rename_i h1
      split at h
      · rename_i h2; exact ⟨h1, rng_iff.1 h2⟩
      · omega
    · omega
  · rintro ⟨h1, h2⟩
    rw [if_pos h1, if_pos (rng_iff.2 h2)]
theorem Fl.offE_wid {rs : List Fl.R} {ds : List Fl.D} {w o : Int} (h : Fl.widE rs ds w ≠ 0) : Fl.offE rs ds w o = Fl.widE rs ds w := by
  by_cases hv : Fl.valE rs ds = 0
  · have h2 : ¬ (1 ≤ w ∧ w ≤ 20) := fun hc => h (Fl.widE_zero.2 ⟨hv, hc⟩)
    unfold Fl.offE
    rw [if_pos hv, if_neg (fun hc => h2 hc.1), Fl.widE_ok hv, if_neg (fun hc => h2 (rng_iff.1 hc))]
  · unfold Fl.offE
    rw [if_neg hv, Fl.widE_bad hv]
theorem Fl.offE_off {rs : List Fl.R} {ds : List Fl.D} {w o : Int} (h : Fl.widE rs ds w = 0) : Fl.offE rs ds w o = if rng 0 (w - 1) o then 0 else 1 := by
  obtain ⟨h1, h2⟩ := Fl.widE_zero.1 h
  unfold Fl.offE
  rw [if_pos h1]
  cases e : rng 0 (w - 1) o
  · rw [if_neg (fun hc => rng_no e hc.2), if_neg (by simp)]
  · rw [if_pos ⟨h2, rng_iff.1 e⟩, if_pos rfl]
abbrev StripT : TypeId := 54
set_option maxRecDepth 20000 in
theorem isWidth_any (n : Int) (w : World) : Calls Try.prog 118 #[.int .i64 n] w fun e w' => e = .returned (.bool (rng 1 20 n)) ∧ w = w' := by
  have C := Lib.hid (fun W => isFrom_any 1 20 n W)
  generalize rng 1 20 n = r at *
  go_enter Try.func118, Try.ntmps118
  go_wp2_with fail
  refine (C.out _).mono ?_
  rintro e w1 ⟨rfl, rfl⟩
  go_wp2
  go_ret
  exact ⟨rfl, rfl⟩
set_option maxRecDepth 20000 in
set_option maxHeartbeats 1000000 in
theorem validateWidth_any (rv dv : Value) (rs : List Fl.R) (ds : List Fl.D) (n : Int) (w : World) (hr : Rects w rv rs) (hd : Doors w dv ds) (h1 : rs.length ≤ 1000) (h2 : ds.length ≤ 1000) :
    Calls Try.prog 71 #[roomV rv dv, .int .i64 n] w fun e w' => e = .returned (.int .i64 (Fl.widE rs ds n)) ∧ Below w.heap.size w w' := by
  have HW := Lib.hid (And.intro (BlockAt.new w #[rv, dv] RoomT) (below_alloc2 (Below.refl w.heap.size w) (.cells #[rv, dv] RoomT)))
  have x0 : World.cell? _ _ = some rv := HW.out.1.cell 0
  have x1 : World.cell? _ _ = some dv := HW.out.1.cell 1
  have CV := Lib.hid (validate_any rv dv rs ds _ (hr.all HW.out.2) (hd.all HW.out.2) h1 h2)
  have CW := Lib.hid (fun W => isWidth_any n W)
  obtain ⟨ra, rc, rfl⟩ := hr.form
  obtain ⟨da, dc, rfl⟩ := hd.form
  clear hr hd
  by_cases hz : Fl.valE rs ds = 0
  · rw [Fl.widE_ok hz]
    rw [hz] at CV
    clear hz
    generalize rng 1 20 n = r at *
    cases r
    all_goals
      go_enter Try.func71, Try.ntmps71
      go_wp2_with fail
      refine (CV.out).mono ?_
      rintro e w1 ⟨rfl, hb1⟩
      have HB := Lib.hid (below_step HW.out.2 hb1)
      clear hb1 CV
      go_wp2_with fail
      refine (CW.out _).mono ?_
      rintro e w2 ⟨rfl, rfl⟩
      go_wp2
      go_ret
      exact ⟨rfl, HB.out⟩
  · rw [Fl.widE_bad hz]
    generalize Fl.valE rs ds = E at *
    have hd : (E == 0) = false := beq_eq_false_iff_ne.2 hz
    have hd2 : (E != 0) = true := by rw [bne, hd]; rfl
    clear hz
    go_enter Try.func71, Try.ntmps71
    go_wp2_with fail
    refine (CV.out).mono ?_
    rintro e w1 ⟨rfl, hb1⟩
    have HB := Lib.hid (below_step HW.out.2 hb1)
    clear hb1 CV
    go_wp2
    go_ret
    exact ⟨rfl, HB.out⟩
set_option maxRecDepth 20000 in
set_option maxHeartbeats 1000000 in
theorem validateOffset_any (rv dv : Value) (rs : List Fl.R) (ds : List Fl.D) (n o : Int) (w : World) (hr : Rects w rv rs) (hd : Doors w dv ds) (h1 : rs.length ≤ 1000) (h2 : ds.length ≤ 1000) :
    Calls Try.prog 63 #[roomV rv dv, .int .i64 n, .int .i64 o] w fun e w' => e = .returned (.int .i64 (Fl.offE rs ds n o)) ∧ Below w.heap.size w w' := by
  have HW := Lib.hid (And.intro (BlockAt.new w #[rv, dv] RoomT) (below_alloc2 (Below.refl w.heap.size w) (.cells #[rv, dv] RoomT)))
  have x0 : World.cell? _ _ = some rv := HW.out.1.cell 0
  have x1 : World.cell? _ _ = some dv := HW.out.1.cell 1
  have CV := Lib.hid (validateWidth_any rv dv rs ds n _ (hr.all HW.out.2) (hd.all HW.out.2) h1 h2)
  have CW := Lib.hid (fun W => isFrom_any 0 (n - 1) o W)
  obtain ⟨ra, rc, rfl⟩ := hr.form
  obtain ⟨da, dc, rfl⟩ := hd.form
  clear hr hd
  by_cases hz : Fl.widE rs ds n = 0
  · rw [Fl.offE_off hz]
    have hn := (Fl.widE_zero.1 hz).2
    rw [hz] at CV
    clear hz
    generalize rng 0 (n - 1) o = r at *
    cases r
    all_goals
      go_enter Try.func63, Try.ntmps63
      go_wp2_with fail
      refine (CV.out).mono ?_
      rintro e w1 ⟨rfl, hb1⟩
      have HB := Lib.hid (below_step HW.out.2 hb1)
      clear hb1 CV
      go_wp2_with fail
      refine (CW.out _).mono ?_
      rintro e w2 ⟨rfl, rfl⟩
      go_wp2
      go_ret
      exact ⟨rfl, HB.out⟩
  · rw [Fl.offE_wid hz]
    generalize Fl.widE rs ds n = E at *
    have hd : (E == 0) = false := beq_eq_false_iff_ne.2 hz
    have hd2 : (E != 0) = true := by rw [bne, hd]; rfl
    clear hz
    go_enter Try.func63, Try.ntmps63
    go_wp2_with fail
    refine (CV.out).mono ?_
    rintro e w1 ⟨rfl, hb1⟩
    have HB := Lib.hid (below_step HW.out.2 hb1)
    clear hb1 CV
    go_wp2
    go_ret
    exact ⟨rfl, HB.out⟩
set_option maxRecDepth 20000 in
set_option maxHeartbeats 1000000 in
theorem sized_any (rv dv : Value) (rs : List Fl.R) (ds : List Fl.D) (n o : Int) (w : World) (hr : Rects w rv rs) (hd : Doors w dv ds) (h1 : rs.length ≤ 1000) (h2 : ds.length ≤ 1000) :
    Calls Try.prog 65 #[roomV rv dv, .int .i64 n, .int .i64 o] w fun e w' => e = .returned (.int .i64 (Fl.offE rs ds n o)) ∧ Below w.heap.size w w' := by
  have HW := Lib.hid (And.intro (BlockAt.new w #[rv, dv] RoomT) (below_alloc2 (Below.refl w.heap.size w) (.cells #[rv, dv] RoomT)))
  have x0 : World.cell? _ _ = some rv := HW.out.1.cell 0
  have x1 : World.cell? _ _ = some dv := HW.out.1.cell 1
  have CV := Lib.hid (rvalidate_any rv dv rs ds _ (hr.all HW.out.2) (hd.all HW.out.2) h1 h2)
  have CW := Lib.hid (fun W => within_any n 1 20 W)
  obtain ⟨ra, rc, rfl⟩ := hr.form
  obtain ⟨da, dc, rfl⟩ := hd.form
  clear hr hd
  by_cases hz : Fl.valE rs ds = 0
  · have HE : Hid (Fl.offE rs ds n o = if (1 ≤ n ∧ n ≤ 20) ∧ (0 ≤ o ∧ o ≤ n - 1) then 0 else 1) := Lib.hid (if_pos hz)
    rw [hz] at CV
    clear hz
    generalize Fl.offE rs ds n o = E at *
    cases q1 : rng 1 20 n
    · have HF : Hid (E = 1) := Lib.hid (HE.out.trans (if_neg fun hc => rng_no q1 hc.1))
      rw [q1] at CW
      clear q1
      go_enter Try.func65, Try.ntmps65
      go_wp2_with fail
      refine (CV.out).mono ?_
      rintro e w1 ⟨rfl, hb1⟩
      have HB := Lib.hid (below_step HW.out.2 hb1)
      clear hb1 CV
      go_wp2_with fail
      refine (CW.out _).mono ?_
      rintro e w2 ⟨rfl, rfl⟩
      go_wp2
      go_ret
      exact ⟨by rw [HF.out]; rfl, HB.out⟩
    have hn := rng_iff.1 q1
    rw [q1] at CW
    clear q1
    by_cases q2 : o < 0
    · have HF : Hid (E = 1) := Lib.hid (HE.out.trans (if_neg fun hc => by omega))
      go_enter Try.func65, Try.ntmps65
      go_wp2_with fail
      refine (CV.out).mono ?_
      rintro e w1 ⟨rfl, hb1⟩
      have HB := Lib.hid (below_step HW.out.2 hb1)
      clear hb1 CV
      go_wp2_with fail
      refine (CW.out _).mono ?_
      rintro e w2 ⟨rfl, rfl⟩
      go_wp2
      go_ret
      exact ⟨by rw [HF.out]; rfl, HB.out⟩
    by_cases q3 : n ≤ o
    · have HF : Hid (E = 1) := Lib.hid (HE.out.trans (if_neg fun hc => by omega))
      go_enter Try.func65, Try.ntmps65
      go_wp2_with fail
      refine (CV.out).mono ?_
      rintro e w1 ⟨rfl, hb1⟩
      have HB := Lib.hid (below_step HW.out.2 hb1)
      clear hb1 CV
      go_wp2_with fail
      refine (CW.out _).mono ?_
      rintro e w2 ⟨rfl, rfl⟩
      go_wp2
      go_ret
      exact ⟨by rw [HF.out]; rfl, HB.out⟩
    have HF : Hid (E = 0) := Lib.hid (HE.out.trans (if_pos (by omega)))
    go_enter Try.func65, Try.ntmps65
    go_wp2_with fail
    refine (CV.out).mono ?_
    rintro e w1 ⟨rfl, hb1⟩
    have HB := Lib.hid (below_step HW.out.2 hb1)
    clear hb1 CV
    go_wp2_with fail
    refine (CW.out _).mono ?_
    rintro e w2 ⟨rfl, rfl⟩
    go_wp2
    go_ret
    exact ⟨by rw [HF.out]; rfl, HB.out⟩
  · have HF : Hid (Fl.offE rs ds n o = Fl.valE rs ds) := Lib.hid (if_neg hz)
    rw [HF.out]
    clear HF
    generalize Fl.valE rs ds = E at *
    have hd : (E == 0) = false := beq_eq_false_iff_ne.2 hz
    have hd2 : (E != 0) = true := by rw [bne, hd]; rfl
    clear hz
    go_enter Try.func65, Try.ntmps65
    go_wp2_with fail
    refine (CV.out).mono ?_
    rintro e w1 ⟨rfl, hb1⟩
    have HB := Lib.hid (below_step HW.out.2 hb1)
    clear hb1 CV
    go_wp2
    go_ret
    exact ⟨rfl, HB.out⟩
set_option maxRecDepth 20000 in
theorem across_any (x f t : Int) (n : Int) (w : World) (h : IntKind.i64.wrap (x + n) = x + n) : Calls Try.prog 101 #[stripV ⟨x, f, t⟩, .int .i64 n] w fun e w' => e = .returned (spanV x (x + n)) ∧ Below w.heap.size w w' := by
  go_enter Try.func101, Try.ntmps101
  go_wp2
  exact bodyPost_ret (v := spanV x (x + n)) (by simp [results, Try.results101, go_sem]) rfl ⟨rfl, below_alloc2 (below_alloc2 (Below.refl _ _) _) _⟩
set_option maxRecDepth 20000 in
theorem along_any (x f t : Int) (w : World) : Calls Try.prog 102 #[stripV ⟨x, f, t⟩] w fun e w' => e = .returned (spanV f t) ∧ Below w.heap.size w w' := by
  go_enter Try.func102, Try.ntmps102
  go_wp2
  exact bodyPost_ret (v := spanV f t) (by simp [results, Try.results102, go_sem]) rfl ⟨rfl, below_alloc2 (below_alloc2 (Below.refl _ _) _) _⟩
end Go.Proofs.Ytpobkdbnldogcaa
