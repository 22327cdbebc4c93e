/- Which heats are valid, and their warmth: of the program and of the reference. -/
import Derived.Test.YtabfcnfddemblaaLf6
namespace Go.Proofs.Ytabfcnfddemblaa.Lo
open Go.RowKit

theorem okHt_def (l : List Int) (k : Nat) : Lf.okHt l k = Lf.stp (Lf.lst l k) (l.getD k 0) := rfl
theorem stp_def (a b : Int) : Lf.stp a b = Lf.rng (max 0 (a - 1)) (min 4 (a + 1)) b := rfl
theorem stp_bd {a b : Int} (h : Lf.stp a b = true) : 0 ≤ b ∧ b ≤ 4 := by have := Lf.stp_iff.1 h; omega
set_option maxRecDepth 100000 in
set_option maxHeartbeats 2000000 in
theorem vHeats_any (v : Value) (hs : List Int) (w : World) (hI : Ints w v hs) : Calls Try.prog 37 #[v] w fun e w' => e = .returned (.bool (Lf.vHt hs)) ∧ w = w' := by
  obtain ⟨a, c, rfl⟩ := hI.form
  have HA := Lib.hid (Ints.at hI)
  have F0 := Lib.hid (fun W => isFrom_any 1 12 (hs.length : Int) W)
  have CR := Lib.hid (fun x y n W => isFrom_any x y n W)
  have CL := Lib.hid (fun x W h => lowest_any x W h)
  have CH := Lib.hid (fun x W h => highest_any x W h)
  clear hI
  cases h5 : Lf.rng 1 12 (hs.length : Int)
  · have HE := Lib.hid (Lf.vHt_len h5)
    rw [h5] at F0
    generalize Lf.vHt hs = E at *
    clear h5
    go_enter Try.func37, Try.ntmps37
    go_wp2_with fail
    refine (F0.out _).mono ?_
    rintro e w1 ⟨rfl, rfl⟩
    go_wp2
    go_ret
    exact ⟨by rw [HE.out] <;> rfl, rfl⟩
  have HBad := Lib.hid (fun k (hk : k < hs.length) h => Lf.vHt_bad (hs := hs) hk h)
  have HOk := Lib.hid (fun h => Lf.vHt_ok h5 h)
  have hl12 : hs.length ≤ 12 := by have := Lf.rng_iff.1 h5; omega
  have HD := Lib.hid (fun k => okHt_def hs k)
  have HL := Lib.hid (fun k => lst_succ hs k)
  have HL0 : Hid (Lf.lst hs 0 = 0) := Lib.hid rfl
  have HSD := Lib.hid stp_def
  have HSB := Lib.hid (fun a b h => stp_bd (a := a) (b := b) h)
  rw [h5] at F0
  generalize Lf.vHt hs = E at *
  clear h5
  go_enter Try.func37, Try.ntmps37
  go_wp2_with fail
  refine (F0.out _).mono ?_
  rintro e w1 ⟨rfl, rfl⟩
  go_wp2
  go_loop [3, 12] (fun s t => ∃ (k : Nat) (x : Int), k ≤ hs.length ∧ t = .int .i64 k ∧ (0 ≤ x ∧ x ≤ 4) ∧ s = .int .i64 x ∧ Hid ((∀ j, j < k → Lf.okHt hs j = true) ∧ x = Lf.lst hs k)) (fun _ t => hs.length - (intOf t).toNat)
  case atStart => exact ⟨0, 0, Nat.zero_le _, rfl, ⟨by omega, by omega⟩, rfl, Lib.hid ⟨fun j h => absurd h (Nat.not_lt_zero _), HL0.out.symm⟩⟩
  case round =>
    obtain ⟨k, x, hk, rfl, ⟨hx0, hx4⟩, rfl, hg⟩ := hrel
    by_cases hlt : k < hs.length
    · obtain ⟨b, off, rfl, hb, c0⟩ := HA.out k hlt
      have HB1 := Lib.hid (HBad.out k hlt)
      have HDk := HD.out k
      have HLk := HL.out k
      have HI : Hid (Lf.okHt hs k = true → ∀ j, j < k + 1 → Lf.okHt hs j = true) := Lib.hid fun h j hjk => by
        by_cases e : j = k
        · subst e; exact h
        · exact hg.out.1 j (by omega)
      have CLk := Lib.hid (fun W => CL.out x W ⟨hx0, hx4⟩)
      have CHk := Lib.hid (fun W => CH.out x W ⟨hx0, hx4⟩)
      have CK := Lib.hid (CR.out (max 0 (x - 1)) (min 4 (x + 1)) (hs.getD k 0))
      have HSDk := HSD.out x (hs.getD k 0)
      have HSBk := Lib.hid (HSB.out x (hs.getD k 0))
      rw [← hg.out.2] at HDk
      have HX2 := Lib.hid HLk
      generalize hs.getD k 0 = y at *
      rw [← HSDk, ← HDk] at CK
      rw [← HDk] at HSBk
      clear hg HBad HDk HLk HSDk
      generalize hV : Lf.okHt hs k = o at *
      clear hV
      generalize max 0 (x - 1) = M at *
      generalize min 4 (x + 1) = N at *
      cases o
      · have HE := Lib.hid (HB1.out rfl)
        clear HI HB1 HSBk
        go_wp2_with fail
        refine (CLk.out _).mono ?_
        rintro e w1 ⟨rfl, rfl⟩
        go_wp2_with fail
        refine (CHk.out _).mono ?_
        rintro e w1 ⟨rfl, rfl⟩
        go_wp2_with fail
        refine (CK.out _).mono ?_
        rintro e w1 ⟨rfl, rfl⟩
        go_wp2
        go_ret
        exact ⟨by rw [HE.out] <;> rfl, rfl⟩
      · have HI2 := Lib.hid (HI.out rfl)
        have hy := HSBk.out rfl
        clear HI HB1 HSBk
        go_wp2_with fail
        refine (CLk.out _).mono ?_
        rintro e w1 ⟨rfl, rfl⟩
        go_wp2_with fail
        refine (CHk.out _).mono ?_
        rintro e w1 ⟨rfl, rfl⟩
        go_wp2_with fail
        refine (CK.out _).mono ?_
        rintro e w1 ⟨rfl, rfl⟩
        go_wp2
        go_round
        case rel => exact ⟨k + 1, y, by omega, by go_num, hy, rfl, Lib.hid ⟨HI2.out, HX2.out.symm⟩⟩
        case measure => simp [intOf]; omega
    · obtain rfl : k = hs.length := by omega
      have HE := Lib.hid (HOk.out fun j hj => hg.out.1 j hj)
      clear hg
      go_wp2
      go_ret
      exact ⟨by rw [HE.out] <;> rfl, rfl⟩
set_option maxRecDepth 100000 in
set_option maxHeartbeats 2000000 in
theorem rvHeats_any (v : Value) (hs : List Int) (w : World) (hI : Ints w v hs) : Calls Try.prog 38 #[v] w fun e w' => e = .returned (.bool (Lf.vHt hs)) ∧ w = w' := by
  obtain ⟨a, c, rfl⟩ := hI.form
  have HA := Lib.hid (Ints.at hI)
  have F0 := Lib.hid (fun W => within_any (hs.length : Int) 1 12 W)
  have CR := Lib.hid (fun n x y W => within_any n x y W)
  clear hI
  cases h5 : Lf.rng 1 12 (hs.length : Int)
  · have HE := Lib.hid (Lf.vHt_len h5)
    rw [h5] at F0
    generalize Lf.vHt hs = E at *
    clear h5
    go_enter Try.func38, Try.ntmps38
    go_wp2_with fail
    refine (F0.out _).mono ?_
    rintro e w1 ⟨rfl, rfl⟩
    go_wp2
    go_ret
    exact ⟨by rw [HE.out] <;> rfl, rfl⟩
  have HBad := Lib.hid (fun k (hk : k < hs.length) h => Lf.vHt_bad (hs := hs) hk h)
  have HOk := Lib.hid (fun h => Lf.vHt_ok h5 h)
  have hl12 : hs.length ≤ 12 := by have := Lf.rng_iff.1 h5; omega
  have HD := Lib.hid (fun k => okHt_def hs k)
  have HL := Lib.hid (fun k => lst_succ hs k)
  have HL0 : Hid (Lf.lst hs 0 = 0) := Lib.hid rfl
  have HSR := Lib.hid Lf.stp_ref
  have HSB := Lib.hid (fun a b h => stp_bd (a := a) (b := b) h)
  rw [h5] at F0
  generalize Lf.vHt hs = E at *
  clear h5
  go_enter Try.func38, Try.ntmps38
  go_wp2_with fail
  refine (F0.out _).mono ?_
  rintro e w1 ⟨rfl, rfl⟩
  go_wp2
  go_loop [3, 4] (fun s t => ∃ (k : Nat) (x : Int), k ≤ hs.length ∧ t = .int .i64 k ∧ (0 ≤ x ∧ x ≤ 4) ∧ s = .int .i64 x ∧ Hid ((∀ j, j < k → Lf.okHt hs j = true) ∧ x = Lf.lst hs k)) (fun _ t => hs.length - (intOf t).toNat)
  case atStart => exact ⟨0, 0, Nat.zero_le _, rfl, ⟨by omega, by omega⟩, rfl, Lib.hid ⟨fun j h => absurd h (Nat.not_lt_zero _), HL0.out.symm⟩⟩
  case round =>
    obtain ⟨k, x, hk, rfl, ⟨hx0, hx4⟩, rfl, hg⟩ := hrel
    by_cases hlt : k < hs.length
    · obtain ⟨b, off, rfl, hb, c0⟩ := HA.out k hlt
      have HB1 := Lib.hid (HBad.out k hlt)
      have HDk := HD.out k
      have HLk := HL.out k
      have HI : Hid (Lf.okHt hs k = true → ∀ j, j < k + 1 → Lf.okHt hs j = true) := Lib.hid fun h j hjk => by
        by_cases e : j = k
        · subst e; exact h
        · exact hg.out.1 j (by omega)
      have CA := Lib.hid (CR.out (hs.getD k 0) 0 4)
      have CB := Lib.hid (CR.out (hs.getD k 0) (x - 1) (x + 1))
      have HSRk := HSR.out x (hs.getD k 0)
      have HSBk := Lib.hid (HSB.out x (hs.getD k 0))
      rw [← hg.out.2] at HDk
      have HX2 := Lib.hid HLk
      generalize hs.getD k 0 = y at *
      rw [← HDk] at HSBk HSRk
      clear hg HBad HDk HLk
      generalize hV : Lf.okHt hs k = o at *
      clear hV
      cases h1 : Lf.rng 0 4 y
      · rw [h1] at CA HSRk
        have HE := Lib.hid (HB1.out HSRk.symm)
        clear HI HB1 HSBk h1 HSRk CB
        go_wp2_with fail
        refine (CA.out _).mono ?_
        rintro e w1 ⟨rfl, rfl⟩
        go_wp2
        go_ret
        exact ⟨by rw [HE.out] <;> rfl, rfl⟩
      rw [h1, Bool.true_and] at HSRk
      rw [h1] at CA
      rw [HSRk] at CB
      clear h1 HSRk
      cases o
      · have HE := Lib.hid (HB1.out rfl)
        clear HI HB1 HSBk
        go_wp2_with fail
        refine (CA.out _).mono ?_
        rintro e w1 ⟨rfl, rfl⟩
        go_wp2_with fail
        refine (CB.out _).mono ?_
        rintro e w1 ⟨rfl, rfl⟩
        go_wp2
        go_ret
        exact ⟨by rw [HE.out] <;> rfl, rfl⟩
      · have HI2 := Lib.hid (HI.out rfl)
        have hy := HSBk.out rfl
        clear HI HB1 HSBk
        go_wp2_with fail
        refine (CA.out _).mono ?_
        rintro e w1 ⟨rfl, rfl⟩
        go_wp2_with fail
        refine (CB.out _).mono ?_
        rintro e w1 ⟨rfl, rfl⟩
        go_wp2
        go_round
        case rel => exact ⟨k + 1, y, by omega, by go_num, hy, rfl, Lib.hid ⟨HI2.out, HX2.out.symm⟩⟩
        case measure => simp [intOf]; omega
    · obtain rfl : k = hs.length := by omega
      have HE := Lib.hid (HOk.out fun j hj => hg.out.1 j hj)
      clear hg
      go_wp2
      go_ret
      exact ⟨by rw [HE.out] <;> rfl, rfl⟩
theorem wm_succ (rs hs : List Int) (k : Nat) : Lf.wm rs hs (k + 1) = Lf.wm rs hs k + rs.getD (hs.getD k 0).toNat 0 := rfl
set_option maxRecDepth 100000 in
set_option maxHeartbeats 2000000 in
theorem warm_any (p : Int) (u v : Value) (rs hs : List Int) (w : World) (hu : Ints w u rs) (hv : Ints w v hs) (h5 : rs.length = 5) (hr : ∀ k, k < 5 → 0 ≤ rs.getD k 0 ∧ rs.getD k 0 ≤ 9) (hh : ∀ k, k < hs.length → 0 ≤ hs.getD k 0 ∧ hs.getD k 0 ≤ 4) (hl : hs.length ≤ 12) :
    Calls Try.prog 74 #[loftV p u, v] w fun e w' => e = .returned (.int .i64 (Lf.wm rs hs hs.length)) ∧ Below w.heap.size w w' := by
  have HBD := Lib.hid (fun k hk => Lf.wm_bd hr hh k hk)
  have HHH := Lib.hid hh
  have HRR := Lib.hid hr
  obtain ⟨ua, uc, rfl⟩ := hu.form
  obtain ⟨va, vc, rfl⟩ := hv.form
  have HW := Lib.hid (loft_box w p (.slice ua rs.length uc))
  have HB := Lib.hid HW.out.1
  have HU := Lib.hid (Ints.at (hu.all HW.out.2))
  have HV := Lib.hid (Ints.at (hv.all HW.out.2))
  have HS := Lib.hid (fun k => wm_succ rs hs k)
  have H0 : Hid (Lf.wm rs hs 0 = 0) := Lib.hid rfl
  have H5 := Lib.hid h5
  have hl5 : 5 ≤ rs.length := by omega
  have x1 : World.cell? _ _ = some (.slice ua rs.length uc) := HW.out.1.cell 1
  obtain ⟨E, hE⟩ : ∃ E, E = Lf.wm rs hs hs.length := ⟨_, rfl⟩
  rw [← hE]
  have HE := Lib.hid hE
  clear hu hv h5 hr hh hE
  go_enter Try.func74, Try.ntmps74
  go_wp2
  go_loopw [5, 10] (fun s t wr => ∃ k : Nat, k ≤ hs.length ∧ t = .int .i64 k ∧ ∃ x : Int, (0 ≤ x ∧ x ≤ 1000) ∧ s = .int .i64 x ∧ ∃ nd : Nat, wr = (w.alloc (.cells (loftA p (.slice ua rs.length uc)) LoftT)).drewN nd ∧ Hid (x = Lf.wm rs hs k)) (fun _ t _ => hs.length - (intOf t).toNat)
  case atStart => exact ⟨0, Nat.zero_le _, rfl, 0, ⟨by omega, by omega⟩, rfl, 0, rfl, Lib.hid H0.out.symm⟩
  case round =>
    obtain ⟨k, hk, rfl, x, ⟨hx0, hx1⟩, rfl, nd, rfl, hg⟩ := hrel
    by_cases hlt : k < hs.length
    · obtain ⟨b, off, rfl, hb, c0⟩ := HV.out k hlt
      have hy := HHH.out k hlt
      have HS1 := HS.out k
      rw [← hg.out] at HS1
      have hbd := HBD.out (k + 1) (by omega)
      rw [HS1] at hbd
      generalize hs.getD k 0 = y at *
      obtain ⟨n, hn⟩ : ∃ n : Nat, y = (n : Int) := ⟨y.toNat, by omega⟩
      subst hn
      rw [show ((n : Int)).toNat = n from rfl] at HS1 hbd
      have hn5 : n < rs.length := by omega
      obtain ⟨b2, off2, rfl, hb2, d0⟩ := HU.out n hn5
      have hz := HRR.out n (by omega)
      generalize rs.getD n 0 = z at *
      have HS2 := Lib.hid HS1
      clear HS1 hg hbd
      obtain ⟨hz0, hz1⟩ := hz
      go_wp2
      go_roundw
      case rel => exact ⟨k + 1, by omega, by go_num, x + z, ⟨by omega, by have := HBD.out (k + 1) (by omega); have := HS2.out; omega⟩, rfl, nd, rfl, Lib.hid HS2.out.symm⟩
      case measure => simp [intOf]; omega
    · obtain rfl : k = hs.length := by omega
      have HX := Lib.hid (hg.out.trans HE.out.symm)
      clear hg
      go_wp2
      go_ret
      exact ⟨ret_int HX.out, below_drewN HW.out.2 _⟩
set_option maxRecDepth 100000 in
set_option maxHeartbeats 2000000 in
theorem rwarm_any (p : Int) (u v : Value) (rs hs : List Int) (w : World) (hu : Ints w u rs) (hv : Ints w v hs) (h5 : rs.length = 5) (hr : ∀ k, k < 5 → 0 ≤ rs.getD k 0 ∧ rs.getD k 0 ≤ 9) (hh : ∀ k, k < hs.length → 0 ≤ hs.getD k 0 ∧ hs.getD k 0 ≤ 4) (hl : hs.length ≤ 12) :
    Calls Try.prog 75 #[loftV p u, v] w fun e w' => e = .returned (.int .i64 (Lf.wm rs hs hs.length)) ∧ Below w.heap.size w w' := by
  have HBD := Lib.hid (fun k hk => Lf.wm_bd hr hh k hk)
  have HHH := Lib.hid hh
  have HRR := Lib.hid hr
  obtain ⟨ua, uc, rfl⟩ := hu.form
  obtain ⟨va, vc, rfl⟩ := hv.form
  have HW := Lib.hid (loft_box w p (.slice ua rs.length uc))
  have HB := Lib.hid HW.out.1
  have HU := Lib.hid (Ints.at (hu.all HW.out.2))
  have HV := Lib.hid (Ints.at (hv.all HW.out.2))
  have HS := Lib.hid (fun k => wm_succ rs hs k)
  have H0 : Hid (Lf.wm rs hs 0 = 0) := Lib.hid rfl
  have H5 := Lib.hid h5
  have hl5 : 5 ≤ rs.length := by omega
  have x1 : World.cell? _ _ = some (.slice ua rs.length uc) := HW.out.1.cell 1
  obtain ⟨E, hE⟩ : ∃ E, E = Lf.wm rs hs hs.length := ⟨_, rfl⟩
  rw [← hE]
  have HE := Lib.hid hE
  clear hu hv h5 hr hh hE
  go_enter Try.func75, Try.ntmps75
  go_wp2
  go_loopw [5, 6] (fun s t wr => ∃ k : Nat, k ≤ hs.length ∧ t = .int .i64 k ∧ ∃ x : Int, (0 ≤ x ∧ x ≤ 1000) ∧ s = .int .i64 x ∧ ∃ nd : Nat, wr = (w.alloc (.cells (loftA p (.slice ua rs.length uc)) LoftT)).drewN nd ∧ Hid (x = Lf.wm rs hs k)) (fun _ t _ => hs.length - (intOf t).toNat)
  case atStart => exact ⟨0, Nat.zero_le _, rfl, 0, ⟨by omega, by omega⟩, rfl, 0, rfl, Lib.hid H0.out.symm⟩
  case round =>
    obtain ⟨k, hk, rfl, x, ⟨hx0, hx1⟩, rfl, nd, rfl, hg⟩ := hrel
    by_cases hlt : k < hs.length
    · obtain ⟨b, off, rfl, hb, c0⟩ := HV.out k hlt
      have hy := HHH.out k hlt
      have HS1 := HS.out k
      rw [← hg.out] at HS1
      have hbd := HBD.out (k + 1) (by omega)
      rw [HS1] at hbd
      generalize hs.getD k 0 = y at *
      obtain ⟨n, hn⟩ : ∃ n : Nat, y = (n : Int) := ⟨y.toNat, by omega⟩
      subst hn
      rw [show ((n : Int)).toNat = n from rfl] at HS1 hbd
      have hn5 : n < rs.length := by omega
      obtain ⟨b2, off2, rfl, hb2, d0⟩ := HU.out n hn5
      have hz := HRR.out n (by omega)
      generalize rs.getD n 0 = z at *
      have HS2 := Lib.hid HS1
      clear HS1 hg hbd
      obtain ⟨hz0, hz1⟩ := hz
      have g1 : IntKind.i64.wrap (x + z) = x + z := IntWalk.i64_in _ ⟨by omega, by omega⟩
      go_upto_region 5 with fail
      go_quiet (fail)
      clear g1
      go_wp2
      go_roundw
      case rel => exact ⟨k + 1, by omega, by go_num, x + z, ⟨by omega, by have := HBD.out (k + 1) (by omega); have := HS2.out; omega⟩, rfl, _, rfl, Lib.hid HS2.out.symm⟩
      case measure => simp [intOf]; omega
    · obtain rfl : k = hs.length := by omega
      have HX := Lib.hid (hg.out.trans HE.out.symm)
      clear hg
      go_wp2
      go_ret
      exact ⟨ret_int HX.out, below_drewN HW.out.2 _⟩
end Go.Proofs.Ytabfcnfddemblaa.Lo
