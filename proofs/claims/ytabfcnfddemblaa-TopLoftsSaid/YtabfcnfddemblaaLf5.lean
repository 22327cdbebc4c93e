/- Ripeness and Range of the program and of the reference. -/
import Derived.Test.YtabfcnfddemblaaLf4
namespace Go.Proofs.Ytabfcnfddemblaa.Lo
open Go.RowKit

theorem mn_succ (l : List Lf.H) (n : Nat) : Lf.mnN l (n + 1) = min (Lf.mnN l n) (Lf.rip l n l.length) := rfl
theorem mx_succ (l : List Lf.H) (n : Nat) : Lf.mxN l (n + 1) = max (Lf.mxN l n) (Lf.rip l n l.length) := rfl
theorem mn_one (l : List Lf.H) : Lf.mnN l 1 = Lf.rip l 0 l.length := by rw [mn_succ]; show min (Lf.rip l 0 l.length) (Lf.rip l (0 : Nat) l.length) = _; simp
theorem mx_one (l : List Lf.H) : Lf.mxN l 1 = Lf.rip l 0 l.length := by rw [mx_succ]; show max (Lf.rip l 0 l.length) (Lf.rip l (0 : Nat) l.length) = _; simp
set_option maxRecDepth 100000 in
set_option maxHeartbeats 1000000 in
theorem ripeF_any (v : Value) (l : List Lf.H) (p : Int) (w : World) (hl : Hangs w v l) : Calls Try.prog 26 #[v, .int .i64 p] w fun e w' => e = .returned (.tuple #[.int .i64 (Lf.ripR l p), .int .i64 (Lf.ripE l p)]) ∧ Below w.heap.size w w' := by
  have CV := Lib.hid (vHangs_any v l w hl)
  have CR := Lib.hid (fun W => isPlace_any p W)
  have CH := Lib.hid (fun W (hW : Below w.heap.size w W) h1 h2 h3 => ripe_any v l p W (hl.all hW) h1 h2 h3)
  have HE : Hid (Lf.ripE l p = if Lf.vlE l = 0 then (if Lf.rng 0 1000000 p = true then 0 else 1) else Lf.vlE l) := Lib.hid rfl
  have HR : Hid (Lf.ripR l p = if Lf.ripE l p = 0 then Lf.rip l p l.length else 0) := Lib.hid rfl
  obtain ⟨va, vc, rfl⟩ := hl.form
  clear hl
  by_cases hz : Lf.vlE l = 0
  case neg =>
    have e1 : Lf.ripE l p = Lf.vlE l := by rw [HE.out, if_neg hz]
    have e2 : Lf.ripR l p = 0 := by rw [HR.out, e1, if_neg hz]
    rw [e1, e2]
    clear e1 e2 CR CH HE HR
    generalize Lf.vlE l = E at *
    have hd : (E == 0) = false := beq_eq_false_iff_ne.2 hz
    have hd2 : (E != 0) = true := by rw [bne, hd]; rfl
    clear hz
    go_enter Try.func26, Try.ntmps26
    go_wp2_with fail
    refine CV.out.mono ?_
    rintro e w1 ⟨rfl, hb1⟩
    have HB := Lib.hid hb1
    clear hb1 CV
    go_wp2
    go_ret2
    exact ⟨rfl, HB.out⟩
  cases hr : Lf.rng 0 1000000 p
  · have e1 : Lf.ripE l p = 1 := by rw [HE.out, if_pos hz, hr]; rfl
    have e2 : Lf.ripR l p = 0 := by rw [HR.out, e1]; rfl
    rw [e1, e2]
    rw [hz] at CV
    rw [hr] at CR
    clear e1 e2 CH HE HR hz hr
    go_enter Try.func26, Try.ntmps26
    go_wp2_with fail
    refine CV.out.mono ?_
    rintro e w1 ⟨rfl, hb1⟩
    have HB := Lib.hid hb1
    clear hb1 CV
    go_wp2_with fail
    refine (CR.out _).mono ?_
    rintro e w2 ⟨rfl, rfl⟩
    go_wp2
    go_ret2
    exact ⟨rfl, HB.out⟩
  have e1 : Lf.ripE l p = 0 := by rw [HE.out, if_pos hz, hr]; rfl
  have e2 : Lf.ripR l p = Lf.rip l p l.length := by rw [HR.out, e1]; rfl
  rw [e1, e2]
  obtain ⟨h8, hv⟩ := Lf.vlE_zero hz
  have CH1 := Lib.hid (fun W hW => CH.out W hW hv h8 (Lf.rng_iff.1 hr))
  rw [hz] at CV
  rw [hr] at CR
  clear e1 e2 CH HE HR hz hr hv h8
  generalize Lf.rip l p l.length = R at *
  go_enter Try.func26, Try.ntmps26
  go_wp2_with fail
  refine CV.out.mono ?_
  rintro e w1 ⟨rfl, hb1⟩
  have HB := Lib.hid hb1
  clear hb1 CV
  go_wp2_with fail
  refine (CR.out _).mono ?_
  rintro e w2 ⟨rfl, rfl⟩
  go_wp2_with fail
  refine (CH1.out _ HB.out).mono ?_
  rintro e w3 ⟨rfl, hb1⟩
  have HB2 := Lib.hid (below_step HB.out hb1)
  clear hb1
  go_wp2
  go_ret2
  exact ⟨rfl, HB2.out⟩
set_option maxRecDepth 100000 in
set_option maxHeartbeats 1000000 in
theorem rripeF_any (v : Value) (l : List Lf.H) (p : Int) (w : World) (hl : Hangs w v l) : Calls Try.prog 27 #[v, .int .i64 p] w fun e w' => e = .returned (.tuple #[.int .i64 (Lf.ripR l p), .int .i64 (Lf.ripE l p)]) ∧ Below w.heap.size w w' := by
  have CV := Lib.hid (rvHangs_any v l w hl)
  have CR := Lib.hid (fun W => within_any p 0 1000000 W)
  have CH := Lib.hid (fun W (hW : Below w.heap.size w W) h1 h2 h3 => rripe_any v l p W (hl.all hW) h1 h2 h3)
  have HE : Hid (Lf.ripE l p = if Lf.vlE l = 0 then (if Lf.rng 0 1000000 p = true then 0 else 1) else Lf.vlE l) := Lib.hid rfl
  have HR : Hid (Lf.ripR l p = if Lf.ripE l p = 0 then Lf.rip l p l.length else 0) := Lib.hid rfl
  obtain ⟨va, vc, rfl⟩ := hl.form
  clear hl
  by_cases hz : Lf.vlE l = 0
  case neg =>
    have e1 : Lf.ripE l p = Lf.vlE l := by rw [HE.out, if_neg hz]
    have e2 : Lf.ripR l p = 0 := by rw [HR.out, e1, if_neg hz]
    rw [e1, e2]
    clear e1 e2 CR CH HE HR
    generalize Lf.vlE l = E at *
    have hd : (E == 0) = false := beq_eq_false_iff_ne.2 hz
    have hd2 : (E != 0) = true := by rw [bne, hd]; rfl
    clear hz
    go_enter Try.func27, Try.ntmps27
    go_wp2_with fail
    refine CV.out.mono ?_
    rintro e w1 ⟨rfl, hb1⟩
    have HB := Lib.hid hb1
    clear hb1 CV
    go_wp2
    go_ret2
    exact ⟨rfl, HB.out⟩
  cases hr : Lf.rng 0 1000000 p
  · have e1 : Lf.ripE l p = 1 := by rw [HE.out, if_pos hz, hr]; rfl
    have e2 : Lf.ripR l p = 0 := by rw [HR.out, e1]; rfl
    rw [e1, e2]
    rw [hz] at CV
    rw [hr] at CR
    clear e1 e2 CH HE HR hz hr
    go_enter Try.func27, Try.ntmps27
    go_wp2_with fail
    refine CV.out.mono ?_
    rintro e w1 ⟨rfl, hb1⟩
    have HB := Lib.hid hb1
    clear hb1 CV
    go_wp2_with fail
    refine (CR.out _).mono ?_
    rintro e w2 ⟨rfl, rfl⟩
    go_wp2
    go_ret2
    exact ⟨rfl, HB.out⟩
  have e1 : Lf.ripE l p = 0 := by rw [HE.out, if_pos hz, hr]; rfl
  have e2 : Lf.ripR l p = Lf.rip l p l.length := by rw [HR.out, e1]; rfl
  rw [e1, e2]
  obtain ⟨h8, hv⟩ := Lf.vlE_zero hz
  have CH1 := Lib.hid (fun W hW => CH.out W hW hv h8 (Lf.rng_iff.1 hr))
  rw [hz] at CV
  rw [hr] at CR
  clear e1 e2 CH HE HR hz hr hv h8
  generalize Lf.rip l p l.length = R at *
  go_enter Try.func27, Try.ntmps27
  go_wp2_with fail
  refine CV.out.mono ?_
  rintro e w1 ⟨rfl, hb1⟩
  have HB := Lib.hid hb1
  clear hb1 CV
  go_wp2_with fail
  refine (CR.out _).mono ?_
  rintro e w2 ⟨rfl, rfl⟩
  go_wp2_with fail
  refine (CH1.out _ HB.out).mono ?_
  rintro e w3 ⟨rfl, hb1⟩
  have HB2 := Lib.hid (below_step HB.out hb1)
  clear hb1
  go_wp2
  go_ret2
  exact ⟨rfl, HB2.out⟩
set_option maxRecDepth 100000 in
set_option maxHeartbeats 4000000 in
theorem rangeF_any (v : Value) (l : List Lf.H) (n : Int) (w : World) (hl : Hangs w v l) : Calls Try.prog 28 #[v, .int .i64 n] w fun e w' => e = .returned (.tuple #[.int .i64 (Lf.ranL l n), .int .i64 (Lf.ranM l n), .int .i64 (Lf.ranE l n)]) ∧ Below w.heap.size w w' := by
  have CV := Lib.hid (vHangs_any v l w hl)
  have CR := Lib.hid (fun W => isFrom_any 1 4000 n W)
  have CH := Lib.hid (fun (p : Int) W (hW : Below w.heap.size w W) h1 h2 h3 => ripe_any v l p W (hl.all hW) h1 h2 h3)
  have HE : Hid (Lf.ranE l n = if Lf.vlE l = 0 then (if Lf.rng 1 4000 n = true then 0 else 1) else Lf.vlE l) := Lib.hid rfl
  have HR : Hid (Lf.ranL l n = if Lf.ranE l n = 0 then Lf.mnN l n.toNat else 0) := Lib.hid rfl
  have HM : Hid (Lf.ranM l n = if Lf.ranE l n = 0 then Lf.mxN l n.toNat else 0) := Lib.hid rfl
  obtain ⟨va, vc, rfl⟩ := hl.form
  clear hl
  by_cases hz : Lf.vlE l = 0
  case neg =>
    have e1 : Lf.ranE l n = Lf.vlE l := by rw [HE.out, if_neg hz]
    have e2 : Lf.ranL l n = 0 := by rw [HR.out, e1, if_neg hz]
    have e3 : Lf.ranM l n = 0 := by rw [HM.out, e1, if_neg hz]
    rw [e1, e2, e3]
    clear e1 e2 e3 CR CH HE HR HM
    generalize Lf.vlE l = E at *
    have hd : (E == 0) = false := beq_eq_false_iff_ne.2 hz
    have hd2 : (E != 0) = true := by rw [bne, hd]; rfl
    clear hz
    go_enter Try.func28, Try.ntmps28
    go_wp2_with fail
    refine CV.out.mono ?_
    rintro e w1 ⟨rfl, hb1⟩
    have HB := Lib.hid hb1
    clear hb1 CV
    go_wp2
    refine bodyPost_ret (results_tmp3 rfl _ _ _) rfl ?_
    exact ⟨rfl, HB.out⟩
  cases hr : Lf.rng 1 4000 n
  · have e1 : Lf.ranE l n = 1 := by rw [HE.out, if_pos hz, hr]; rfl
    have e2 : Lf.ranL l n = 0 := by rw [HR.out, e1]; rfl
    have e3 : Lf.ranM l n = 0 := by rw [HM.out, e1]; rfl
    rw [e1, e2, e3]
    rw [hz] at CV
    rw [hr] at CR
    clear e1 e2 e3 CH HE HR HM hz hr
    go_enter Try.func28, Try.ntmps28
    go_wp2_with fail
    refine CV.out.mono ?_
    rintro e w1 ⟨rfl, hb1⟩
    have HB := Lib.hid hb1
    clear hb1 CV
    go_wp2_with fail
    refine (CR.out _).mono ?_
    rintro e w2 ⟨rfl, rfl⟩
    go_wp2
    refine bodyPost_ret (results_tmp3 rfl _ _ _) rfl ?_
    exact ⟨rfl, HB.out⟩
  have e1 : Lf.ranE l n = 0 := by rw [HE.out, if_pos hz, hr]; rfl
  have e2 : Lf.ranL l n = Lf.mnN l n.toNat := by rw [HR.out, e1]; rfl
  have e3 : Lf.ranM l n = Lf.mxN l n.toNat := by rw [HM.out, e1]; rfl
  rw [e1, e2, e3]
  obtain ⟨h8, hv⟩ := Lf.vlE_zero hz
  obtain ⟨hn1, hn2⟩ := Lf.rng_iff.1 hr
  have CH1 := Lib.hid (fun p W hW h => CH.out p W hW hv h8 h)
  have HMB := Lib.hid (fun k => Lf.mn_bd hv h8 k)
  have HXB := Lib.hid (fun k => Lf.mx_bd hv h8 k)
  have HRB := Lib.hid (fun (p : Int) => Lf.rip_bd hv p l.length (Nat.le_refl _))
  have HMS := Lib.hid (fun k => mn_succ l k)
  have HXS := Lib.hid (fun k => mx_succ l k)
  have H00 := Lib.hid (And.intro (show Lf.mnN l 0 = Lf.rip l 0 l.length from rfl) (show Lf.mxN l 0 = Lf.rip l 0 l.length from rfl))
  have h8' : (l.length : Int) ≤ 8 := by omega
  rw [hz] at CV
  rw [hr] at CR
  clear e1 e2 e3 CH HE HR HM hz hr hv
  obtain ⟨N, hN⟩ : ∃ N, N = n.toNat := ⟨_, rfl⟩
  rw [← hN]
  have hNn : n = (N : Int) := by omega
  subst hNn
  clear hN
  obtain ⟨EL, hEL⟩ : ∃ E, E = Lf.mnN l N := ⟨_, rfl⟩
  obtain ⟨EM, hEM⟩ : ∃ E, E = Lf.mxN l N := ⟨_, rfl⟩
  rw [← hEL, ← hEM]
  have HEE := Lib.hid (And.intro hEL hEM)
  clear hEL hEM
  have hr0 := HRB.out 0
  obtain ⟨R0, hR0⟩ : ∃ R, R = Lf.rip l 0 l.length := ⟨_, rfl⟩
  have C0 := Lib.hid (fun W hW => CH1.out 0 W hW ⟨by omega, by omega⟩)
  rw [← hR0] at C0 H00 hr0
  clear hR0
  go_enter Try.func28, Try.ntmps28
  go_wp2_with fail
  refine CV.out.mono ?_
  rintro e w1 ⟨rfl, hb1⟩
  have HB := Lib.hid hb1
  clear hb1 CV
  go_wp2_with fail
  refine (CR.out _).mono ?_
  rintro e w2 ⟨rfl, rfl⟩
  go_wp2_with fail
  refine (C0.out _ HB.out).mono ?_
  rintro e w3 ⟨rfl, hb1⟩
  have HB2 := Lib.hid (below_step HB.out hb1)
  clear hb1
  go_wp2
  go_loopw [4, 5, 22] (fun s u t wr => ∃ k : Nat, k ≤ N ∧ t = .int .i64 k ∧ ∃ x y : Int, ((0 ≤ x ∧ x ≤ 9600000) ∧ (0 ≤ y ∧ y ≤ 9600000)) ∧ s = .int .i64 x ∧ u = .int .i64 y ∧ Hid ((x = Lf.mnN l k ∧ y = Lf.mxN l k) ∧ Below w.heap.size w wr)) (fun _ _ t _ => N - (intOf t).toNat)
  case atStart => exact ⟨0, Nat.zero_le _, rfl, R0, R0, ⟨⟨by omega, by omega⟩, ⟨by omega, by omega⟩⟩, rfl, rfl, Lib.hid ⟨⟨H00.out.1.symm, H00.out.2.symm⟩, HB2.out⟩⟩
  case round =>
    obtain ⟨k, hk, rfl, x, y, ⟨⟨hx0, hx1⟩, ⟨hy0, hy1⟩⟩, rfl, rfl, hg⟩ := hrel
    clear HB2 C0 H00
    by_cases hlt : k < N
    · have CK := Lib.hid (fun W hW => CH1.out (k : Int) W hW ⟨by omega, by omega⟩)
      have hrb := HRB.out (k : Int)
      have HM1 := HMS.out k
      have HX1 := HXS.out k
      rw [← hg.out.1.1] at HM1
      rw [← hg.out.1.2] at HX1
      have HG := Lib.hid hg.out.2
      clear hg
      generalize Lf.rip l (k : Int) l.length = R at *
      have HMX := Lib.hid (And.intro HM1 HX1)
      clear HM1 HX1
      have hR : 0 ≤ R ∧ R ≤ 9600000 := ⟨hrb.1, by omega⟩
      obtain ⟨hR0, hR1⟩ := hR
      clear hrb
      go_wp2_with fail
      refine (CK.out _ HG.out).mono ?_
      rintro e w5 ⟨rfl, hb1⟩
      have HG2 := Lib.hid (below_step HG.out hb1)
      clear hb1 HG
      by_cases c1 : x < R
      all_goals by_cases c2 : y < R
      all_goals go_wp2
      all_goals
        go_roundw
        case rel => exact ⟨k + 1, by omega, by go_num, _, _, ⟨⟨by omega, by omega⟩, ⟨by omega, by omega⟩⟩, rfl, rfl, Lib.hid ⟨⟨by have := HMX.out.1; omega, by have := HMX.out.2; omega⟩, HG2.out⟩⟩
        case measure => simp [intOf]; omega
    · obtain rfl : k = N := by omega
      have HX := Lib.hid (And.intro (hg.out.1.1.trans HEE.out.1.symm) (hg.out.1.2.trans HEE.out.2.symm))
      have HG := Lib.hid hg.out.2
      clear hg
      go_wp2
      refine bodyPost_ret (results_tmp3 rfl _ _ _) rfl ?_
      rw [← HX.out.1, ← HX.out.2]
      exact ⟨rfl, HG.out⟩
set_option maxRecDepth 100000 in
set_option maxHeartbeats 4000000 in
theorem rrangeF_any (v : Value) (l : List Lf.H) (n : Int) (w : World) (hl : Hangs w v l) : Calls Try.prog 29 #[v, .int .i64 n] w fun e w' => e = .returned (.tuple #[.int .i64 (Lf.ranL l n), .int .i64 (Lf.ranM l n), .int .i64 (Lf.ranE l n)]) ∧ Below w.heap.size w w' := by
  have CV := Lib.hid (rvHangs_any v l w hl)
  have CR := Lib.hid (fun W => within_any n 1 4000 W)
  have CH := Lib.hid (fun (p : Int) W (hW : Below w.heap.size w W) h1 h2 h3 => rripe_any v l p W (hl.all hW) h1 h2 h3)
  have HE : Hid (Lf.ranE l n = if Lf.vlE l = 0 then (if Lf.rng 1 4000 n = true then 0 else 1) else Lf.vlE l) := Lib.hid rfl
  have HR : Hid (Lf.ranL l n = if Lf.ranE l n = 0 then Lf.mnN l n.toNat else 0) := Lib.hid rfl
  have HM : Hid (Lf.ranM l n = if Lf.ranE l n = 0 then Lf.mxN l n.toNat else 0) := Lib.hid rfl
  obtain ⟨va, vc, rfl⟩ := hl.form
  clear hl
  by_cases hz : Lf.vlE l = 0
  case neg =>
    have e1 : Lf.ranE l n = Lf.vlE l := by rw [HE.out, if_neg hz]
    have e2 : Lf.ranL l n = 0 := by rw [HR.out, e1, if_neg hz]
    have e3 : Lf.ranM l n = 0 := by rw [HM.out, e1, if_neg hz]
    rw [e1, e2, e3]
    clear e1 e2 e3 CR CH HE HR HM
    generalize Lf.vlE l = E at *
    have hd : (E == 0) = false := beq_eq_false_iff_ne.2 hz
    have hd2 : (E != 0) = true := by rw [bne, hd]; rfl
    clear hz
    go_enter Try.func29, Try.ntmps29
    go_wp2_with fail
    refine CV.out.mono ?_
    rintro e w1 ⟨rfl, hb1⟩
    have HB := Lib.hid hb1
    clear hb1 CV
    go_wp2
    refine bodyPost_ret (results_tmp3 rfl _ _ _) rfl ?_
    exact ⟨rfl, HB.out⟩
  cases hr : Lf.rng 1 4000 n
  · have e1 : Lf.ranE l n = 1 := by rw [HE.out, if_pos hz, hr]; rfl
    have e2 : Lf.ranL l n = 0 := by rw [HR.out, e1]; rfl
    have e3 : Lf.ranM l n = 0 := by rw [HM.out, e1]; rfl
    rw [e1, e2, e3]
    rw [hz] at CV
    rw [hr] at CR
    clear e1 e2 e3 CH HE HR HM hz hr
    go_enter Try.func29, Try.ntmps29
    go_wp2_with fail
    refine CV.out.mono ?_
    rintro e w1 ⟨rfl, hb1⟩
    have HB := Lib.hid hb1
    clear hb1 CV
    go_wp2_with fail
    refine (CR.out _).mono ?_
    rintro e w2 ⟨rfl, rfl⟩
    go_wp2
    refine bodyPost_ret (results_tmp3 rfl _ _ _) rfl ?_
    exact ⟨rfl, HB.out⟩
  have e1 : Lf.ranE l n = 0 := by rw [HE.out, if_pos hz, hr]; rfl
  have e2 : Lf.ranL l n = Lf.mnN l n.toNat := by rw [HR.out, e1]; rfl
  have e3 : Lf.ranM l n = Lf.mxN l n.toNat := by rw [HM.out, e1]; rfl
  rw [e1, e2, e3]
  obtain ⟨h8, hv⟩ := Lf.vlE_zero hz
  obtain ⟨hn1, hn2⟩ := Lf.rng_iff.1 hr
  have CH1 := Lib.hid (fun p W hW h => CH.out p W hW hv h8 h)
  have HMB := Lib.hid (fun k => Lf.mn_bd hv h8 k)
  have HXB := Lib.hid (fun k => Lf.mx_bd hv h8 k)
  have HRB := Lib.hid (fun (p : Int) => Lf.rip_bd hv p l.length (Nat.le_refl _))
  have HMS := Lib.hid (fun k => mn_succ l k)
  have HXS := Lib.hid (fun k => mx_succ l k)
  have H00 := Lib.hid (And.intro (mn_one l) (mx_one l))
  have h8' : (l.length : Int) ≤ 8 := by omega
  rw [hz] at CV
  rw [hr] at CR
  clear e1 e2 e3 CH HE HR HM hz hr hv
  obtain ⟨N, hN⟩ : ∃ N, N = n.toNat := ⟨_, rfl⟩
  rw [← hN]
  have hNn : n = (N : Int) := by omega
  subst hNn
  clear hN
  obtain ⟨EL, hEL⟩ : ∃ E, E = Lf.mnN l N := ⟨_, rfl⟩
  obtain ⟨EM, hEM⟩ : ∃ E, E = Lf.mxN l N := ⟨_, rfl⟩
  rw [← hEL, ← hEM]
  have HEE := Lib.hid (And.intro hEL hEM)
  clear hEL hEM
  have hr0 := HRB.out 0
  obtain ⟨R0, hR0⟩ : ∃ R, R = Lf.rip l 0 l.length := ⟨_, rfl⟩
  have C0 := Lib.hid (fun W hW => CH1.out 0 W hW ⟨by omega, by omega⟩)
  rw [← hR0] at C0 H00 hr0
  clear hR0
  go_enter Try.func29, Try.ntmps29
  go_wp2_with fail
  refine CV.out.mono ?_
  rintro e w1 ⟨rfl, hb1⟩
  have HB := Lib.hid hb1
  clear hb1 CV
  go_wp2_with fail
  refine (CR.out _).mono ?_
  rintro e w2 ⟨rfl, rfl⟩
  go_wp2_with fail
  refine (C0.out _ HB.out).mono ?_
  rintro e w3 ⟨rfl, hb1⟩
  have HB2 := Lib.hid (below_step HB.out hb1)
  clear hb1
  go_wp2_with fail
  refine (C0.out _ HB2.out).mono ?_
  rintro e w4 ⟨rfl, hb1⟩
  have HB3 := Lib.hid (below_step HB2.out hb1)
  clear hb1
  go_wp2
  go_loopw [8, 9, 10] (fun s u t wr => ∃ k : Nat, (1 ≤ k ∧ k ≤ N) ∧ t = .int .i64 k ∧ ∃ x y : Int, ((0 ≤ x ∧ x ≤ 9600000) ∧ (0 ≤ y ∧ y ≤ 9600000)) ∧ s = .int .i64 x ∧ u = .int .i64 y ∧ Hid ((x = Lf.mnN l k ∧ y = Lf.mxN l k) ∧ Below w.heap.size w wr)) (fun _ _ t _ => N - (intOf t).toNat)
  case atStart => exact ⟨1, ⟨Nat.le_refl _, by omega⟩, rfl, R0, R0, ⟨⟨by omega, by omega⟩, ⟨by omega, by omega⟩⟩, rfl, rfl, Lib.hid ⟨⟨H00.out.1.symm, H00.out.2.symm⟩, HB3.out⟩⟩
  case round =>
    obtain ⟨k, ⟨hk1, hk⟩, rfl, x, y, ⟨⟨hx0, hx1⟩, ⟨hy0, hy1⟩⟩, rfl, rfl, hg⟩ := hrel
    clear HB3 C0 H00
    by_cases hlt : k < N
    · have CK := Lib.hid (fun W hW => CH1.out (k : Int) W hW ⟨by omega, by omega⟩)
      have hrb := HRB.out (k : Int)
      have HM1 := HMS.out k
      have HX1 := HXS.out k
      rw [← hg.out.1.1] at HM1
      rw [← hg.out.1.2] at HX1
      have HG := Lib.hid hg.out.2
      clear hg
      generalize Lf.rip l (k : Int) l.length = R at *
      have HMX := Lib.hid (And.intro HM1 HX1)
      clear HM1 HX1
      have hR : 0 ≤ R ∧ R ≤ 9600000 := ⟨hrb.1, by omega⟩
      obtain ⟨hR0, hR1⟩ := hR
      clear hrb
      go_wp2_with fail
      refine (CK.out _ HG.out).mono ?_
      rintro e w5 ⟨rfl, hb1⟩
      have HG2 := Lib.hid (below_step HG.out hb1)
      clear hb1 HG
      by_cases c1 : x < R
      all_goals by_cases c2 : y < R
      all_goals
        go_wp2_with fail
      all_goals
        refine (CK.out _ HG2.out).mono ?_
        rintro e w6 ⟨rfl, hb1⟩
        have HG3 := Lib.hid (below_step HG2.out hb1)
        clear hb1
        go_wp2
      all_goals
        go_roundw
        case rel => exact ⟨k + 1, ⟨by omega, by omega⟩, by go_num, _, _, ⟨⟨by omega, by omega⟩, ⟨by omega, by omega⟩⟩, rfl, rfl, Lib.hid ⟨⟨by have := HMX.out.1; omega, by have := HMX.out.2; omega⟩, HG3.out⟩⟩
        case measure => simp [intOf]; omega
    · obtain rfl : k = N := by omega
      have HX := Lib.hid (And.intro (hg.out.1.1.trans HEE.out.1.symm) (hg.out.1.2.trans HEE.out.2.symm))
      have HG := Lib.hid hg.out.2
      clear hg
      go_wp2
      refine bodyPost_ret (results_tmp3 rfl _ _ _) rfl ?_
      rw [← HX.out.1, ← HX.out.2]
      exact ⟨rfl, HG.out⟩
end Go.Proofs.Ytabfcnfddemblaa.Lo
