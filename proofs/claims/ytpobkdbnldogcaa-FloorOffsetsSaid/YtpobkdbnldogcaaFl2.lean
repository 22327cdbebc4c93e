/- Which rooms are valid: of the program. -/
import Derived.Test.YtpobkdbnldogcaaFl1
namespace Go.Proofs.Ytpobkdbnldogcaa
open Go.RowKit

theorem Fl.rectsB_len {rs : List Fl.R} (h : rng 1 8 (rs.length : Int) = false) : Fl.rectsB rs = false := by
  apply Bool.eq_false_iff.2
  intro hc
  have := (Fl.rectsB_iff.1 hc).1
  exact rng_no h ⟨by omega, by omega⟩
theorem Fl.rectsB_ok {rs : List Fl.R} (h : rng 1 8 (rs.length : Int) = true) (h2 : ∀ k (hk : k < rs.length), Fl.okR rs[k] = true) : Fl.rectsB rs = true := by
  have := rng_iff.1 h
  exact Fl.rectsB_iff.2 ⟨⟨by omega, by omega⟩, h2⟩
theorem Fl.okR_split (r : Fl.R) : Fl.okR r = (Fl.stretch r.x r.w && Fl.stretch r.y r.h) := rfl
set_option maxRecDepth 20000 in
set_option maxHeartbeats 1000000 in
theorem areRects_any (v : Value) (rs : List Fl.R) (w : World) (hv : Rects w v rs) (hl : rs.length ≤ 1000) :
    Calls Try.prog 58 #[v] w fun e w' => e = .returned (.bool (Fl.rectsB rs)) ∧ Below w.heap.size w w' := by
  obtain ⟨ao, c, rfl, _, hlk⟩ := hv
  have HK := Lib.hid hlk
  have hw0 := Below.refl w.heap.size w
  have F0 := Lib.hid (fun n W => isFrom_any 1 8 n W)
  have F1 := Lib.hid (fun f s W => isStretch_any f s W)
  cases h5 : rng 1 8 (rs.length : Int)
  · have HE := Lib.hid (Fl.rectsB_len h5)
    have C0 := Lib.hid (F0.out (rs.length : Int))
    rw [h5] at C0
    generalize Fl.rectsB rs = E at *
    clear h5
    go_enter Try.func58, Try.ntmps58
    go_wp2_with fail
    refine (C0.out _).mono ?_
    rintro e w1 ⟨rfl, rfl⟩
    go_wp2
    go_ret
    exact ⟨by rw [HE.out]; rfl, hw0⟩
  · have HBad := Lib.hid (fun k (hk : k < rs.length) h => Fl.rectsB_bad hk h)
    have HOk := Lib.hid (Fl.rectsB_ok h5)
    have C0 := Lib.hid (F0.out (rs.length : Int))
    rw [h5] at C0
    generalize Fl.rectsB rs = E at *
    clear h5 hlk
    go_enter Try.func58, Try.ntmps58
    go_wp2_with fail
    refine (C0.out _).mono ?_
    rintro e w1 ⟨rfl, rfl⟩
    go_wp2
    go_loopw [11] (fun t wr => ∃ k : Nat, k ≤ rs.length ∧ t = .int .i64 k ∧ Hid ((∀ j (hj : j < rs.length), j < k → Fl.okR rs[j] = true) ∧ Below w.heap.size w wr)) (fun t _ => rs.length - (intOf t).toNat)
    case atStart => exact ⟨0, Nat.zero_le _, rfl, Lib.hid ⟨fun j _ h => absurd h (Nat.not_lt_zero _), hw0⟩⟩
    case round =>
      obtain ⟨k, hk, rfl, hg⟩ := hrel
      clear hw0
      by_cases hlt : k < rs.length
      · obtain ⟨b, off, rfl, hb, hr⟩ := HK.out k hlt
        obtain ⟨c0, c1, c2, c3⟩ := rect_at (hr.below hg.out.2 hb)
        have HB1 := Lib.hid (HBad.out k hlt)
        have HS := Lib.hid (Fl.okR_split rs[k])
        have HI : Hid (Fl.okR rs[k] = true → ∀ j (hj : j < rs.length), j < k + 1 → Fl.okR rs[j] = true) := Lib.hid fun h j hj hjk => by
          by_cases e : j = k
          · subst e; exact h
          · exact hg.out.1 j hj (by omega)
        have HG := Lib.hid hg.out.2
        have hgs := hg.out.2.size
        clear hg hr HBad
        generalize Fl.okR rs[k] = o at *
        generalize rs[k] = a at *
        have C1 := Lib.hid (fun W => F1.out a.x a.w W)
        have C2 := Lib.hid (fun W => F1.out a.y a.h W)
        cases h1 : Fl.stretch a.x a.w
        · rw [h1] at C1
          have ho : o = false := by rw [HS.out, h1]; rfl
          have HE := Lib.hid (HB1.out ho)
          clear h1 ho HS HI HB1 C2
          go_wp2_with fail
          refine (C1.out _).mono ?_
          rintro e w1 ⟨rfl, rfl⟩
          go_wp2
          go_ret
          exact ⟨by rw [HE.out]; rfl, HG.out.alloc hgs _⟩
        · rw [h1] at C1
          cases h2 : Fl.stretch a.y a.h
          · rw [h2] at C2
            have ho : o = false := by rw [HS.out, h1, h2]; rfl
            have HE := Lib.hid (HB1.out ho)
            clear h1 h2 ho HS HI HB1
            go_wp2_with fail
            refine (C1.out _).mono ?_
            rintro e w1 ⟨rfl, rfl⟩
            go_wp2_with fail
            refine (C2.out _).mono ?_
            rintro e w1 ⟨rfl, rfl⟩
            go_wp2
            go_ret
            exact ⟨by rw [HE.out]; rfl, HG.out.alloc hgs _⟩
          · rw [h2] at C2
            have ho : o = true := by rw [HS.out, h1, h2]; rfl
            have HI := Lib.hid (HI.out ho)
            clear h1 h2 ho HS HB1
            go_wp2_with fail
            refine (C1.out _).mono ?_
            rintro e w1 ⟨rfl, rfl⟩
            go_wp2_with fail
            refine (C2.out _).mono ?_
            rintro e w1 ⟨rfl, rfl⟩
            go_wp2
            go_roundw
            case rel => exact ⟨k + 1, by omega, by go_num, Lib.hid ⟨HI.out, HG.out.alloc hgs _⟩⟩
            case measure => simp [intOf]; omega
      · obtain rfl : k = rs.length := by omega
        have HE := Lib.hid (HOk.out fun j hj => hg.out.1 j hj hj)
        have HG := Lib.hid hg.out.2
        clear hg
        go_wp2
        go_ret
        exact ⟨by rw [HE.out]; rfl, HG.out⟩
theorem Fl.okD_bad1 {d : Fl.D} (h : d.a < 0) : Fl.okD d = false := by
  apply Bool.eq_false_iff.2
  intro hc; have := Fl.okD_iff.1 hc; omega
theorem Fl.okD_bad2 {d : Fl.D} (h : d.b ≤ d.a) : Fl.okD d = false := by
  apply Bool.eq_false_iff.2
  intro hc; have := Fl.okD_iff.1 hc; omega
theorem Fl.okD_bad3 {d : Fl.D} (h : 60 < d.b) : Fl.okD d = false := by
  apply Bool.eq_false_iff.2
  intro hc; have := Fl.okD_iff.1 hc; omega
theorem Fl.okD_rng {d : Fl.D} (h1 : ¬ d.a < 0) (h2 : ¬ d.b ≤ d.a) (h3 : ¬ 60 < d.b) : Fl.okD d = rng 0 60 d.y := by
  cases h : rng 0 60 d.y
  · apply Bool.eq_false_iff.2
    intro hc; have := Fl.okD_iff.1 hc
    exact rng_no h ⟨by omega, by omega⟩
  · have := rng_iff.1 h
    exact Fl.okD_iff.2 ⟨by omega, by omega, by omega, by omega, by omega⟩
set_option maxRecDepth 20000 in
set_option maxHeartbeats 1000000 in
theorem areDoors_any (v : Value) (ds : List Fl.D) (w : World) (hv : Doors w v ds) (hl : ds.length ≤ 1000) :
    Calls Try.prog 60 #[v] w fun e w' => e = .returned (.bool (Fl.doorsB ds)) ∧ Below w.heap.size w w' := by
  obtain ⟨ao, c, rfl, _, hlk⟩ := hv
  have HK := Lib.hid hlk
  have hw0 := Below.refl w.heap.size w
  have F0 := Lib.hid (fun n W => isFrom_any 0 60 n W)
  have HBad := Lib.hid (fun k (hk : k < ds.length) h => Fl.doorsB_bad hk h)
  have HOk := Lib.hid (Fl.doorsB_iff (ds := ds)).2
  have HR := Lib.hid (fun (d : Fl.D) h1 h2 h3 => Fl.okD_rng (d := d) h1 h2 h3)
  generalize Fl.doorsB ds = E at *
  clear hlk
  go_enter Try.func60, Try.ntmps60
  go_wp2
  go_loopw [7] (fun t wr => ∃ k : Nat, k ≤ ds.length ∧ t = .int .i64 k ∧ Hid ((∀ j (hj : j < ds.length), j < k → Fl.okD ds[j] = true) ∧ Below w.heap.size w wr)) (fun t _ => ds.length - (intOf t).toNat)
  case atStart => exact ⟨0, Nat.zero_le _, rfl, Lib.hid ⟨fun j _ h => absurd h (Nat.not_lt_zero _), hw0⟩⟩
  case round =>
    obtain ⟨k, hk, rfl, hg⟩ := hrel
    clear hw0
    by_cases hlt : k < ds.length
    · obtain ⟨b, off, rfl, hb, hr⟩ := HK.out k hlt
      obtain ⟨c0, c1, c2⟩ := door_at (hr.below hg.out.2 hb)
      have HB1 := Lib.hid (HBad.out k hlt)
      have HI : Hid (Fl.okD ds[k] = true → ∀ j (hj : j < ds.length), j < k + 1 → Fl.okD ds[j] = true) := Lib.hid fun h j hj hjk => by
        by_cases e : j = k
        · subst e; exact h
        · exact hg.out.1 j hj (by omega)
      have HG := Lib.hid hg.out.2
      have hgs := hg.out.2.size
      have HR1 := Lib.hid (HR.out ds[k])
      have HX1 := Lib.hid (Fl.okD_bad1 (d := ds[k]))
      have HX2 := Lib.hid (Fl.okD_bad2 (d := ds[k]))
      have HX3 := Lib.hid (Fl.okD_bad3 (d := ds[k]))
      clear hg hr HBad HR
      generalize Fl.okD ds[k] = o at *
      generalize ds[k] = a at *
      have C1 := Lib.hid (fun W => F0.out a.y W)
      by_cases q1 : a.a < 0
      · have HE := Lib.hid (HB1.out (HX1.out q1))
        clear HX1 HX2 HX3 HR1 HI HB1 C1
        go_wp2
        go_ret
        exact ⟨by rw [HE.out]; rfl, HG.out.alloc hgs _⟩
      by_cases q2 : a.b ≤ a.a
      · have HE := Lib.hid (HB1.out (HX2.out q2))
        clear HX1 HX2 HX3 HR1 HI HB1 C1
        go_wp2
        go_ret
        exact ⟨by rw [HE.out]; rfl, HG.out.alloc hgs _⟩
      by_cases q3 : 60 < a.b
      · have HE := Lib.hid (HB1.out (HX3.out q3))
        clear HX1 HX2 HX3 HR1 HI HB1 C1
        go_wp2
        go_ret
        exact ⟨by rw [HE.out]; rfl, HG.out.alloc hgs _⟩
      have hr := HR1.out (by omega) (by omega) (by omega)
      rw [← hr] at C1
      clear hr HX1 HX2 HX3 HR1
      have hoo : o = true ∨ o = false := by cases o <;> simp
      rcases hoo with ho | ho
      case inr =>
        have HE := Lib.hid (HB1.out ho)
        rw [ho] at C1
        clear HI HB1 ho
        go_wp2_with fail
        refine (C1.out _).mono ?_
        rintro e w1 ⟨rfl, rfl⟩
        go_wp2
        go_ret
        exact ⟨by rw [HE.out]; rfl, HG.out.alloc hgs _⟩
      case inl =>
        have HI := Lib.hid (HI.out ho)
        rw [ho] at C1
        clear HB1 ho
        go_wp2_with fail
        refine (C1.out _).mono ?_
        rintro e w1 ⟨rfl, rfl⟩
        go_wp2
        go_roundw
        case rel => exact ⟨k + 1, by omega, by go_num, Lib.hid ⟨HI.out, HG.out.alloc hgs _⟩⟩
        case measure => simp [intOf]; omega
    · obtain rfl : k = ds.length := by omega
      have HE := Lib.hid (HOk.out fun j hj => hg.out.1 j hj hj)
      have HG := Lib.hid hg.out.2
      clear hg
      go_wp2
      go_ret
      exact ⟨by rw [HE.out]; rfl, HG.out⟩
end Go.Proofs.Ytpobkdbnldogcaa
