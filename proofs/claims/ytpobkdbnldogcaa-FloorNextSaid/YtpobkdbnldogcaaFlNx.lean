/- FloorNext returns true, whatever the roll, the repeat, the place and the strip. -/
import Derived.Test.YtpobkdbnldogcaaFl19
namespace Go.Proofs.Ytpobkdbnldogcaa
open Go.RowKit

def Fl.nxtOk (r : Fl.L) (m a : Int) (s : Fl.S) : Bool := rng 1 144 m && Fl.okL m r && Fl.okS s && rng 0 300 a
def Fl.nxtE (r : Fl.L) (m a : Int) (s : Fl.S) : Int := if Fl.nxtOk r m a s then 0 else 1
def Fl.nxtR (r : Fl.L) (m a : Int) (s : Fl.S) : Int := if Fl.nxtOk r m a s then Fl.nxt r m a s else 0
theorem Fl.nxt_bad {r : Fl.L} {m a : Int} {s : Fl.S} (h : Fl.nxtOk r m a s = false) : Fl.nxtE r m a s = 1 ∧ Fl.nxtR r m a s = 0 := by
  unfold Fl.nxtE Fl.nxtR; rw [h]; exact ⟨rfl, rfl⟩
theorem Fl.nxt_good {r : Fl.L} {m a : Int} {s : Fl.S} (h : Fl.nxtOk r m a s = true) : Fl.nxtE r m a s = 0 ∧ Fl.nxtR r m a s = Fl.nxt r m a s := by
  unfold Fl.nxtE Fl.nxtR; rw [h]; exact ⟨rfl, rfl⟩
theorem Fl.nxtOk_iff {r : Fl.L} {m a : Int} {s : Fl.S} : Fl.nxtOk r m a s = true ↔ rng 1 144 m = true ∧ Fl.okL m r = true ∧ Fl.okS s = true ∧ rng 0 300 a = true := by
  simp [Fl.nxtOk, and_assoc]
theorem Fl.nxtOk_no {r : Fl.L} {m a : Int} {s : Fl.S} (h : rng 1 144 m = false ∨ Fl.okL m r = false ∨ Fl.okS s = false ∨ rng 0 300 a = false) : Fl.nxtOk r m a s = false := by
  apply Bool.eq_false_iff.2
  intro hc
  obtain ⟨h1, h2, h3, h4⟩ := Fl.nxtOk_iff.1 hc
  rw [h1, h2, h3, h4] at h
  simp at h
theorem Fl.nxtOk_M {r : Fl.L} {m a : Int} {s : Fl.S} (h : Fl.okM (IntKind.i64.wrap (m - 1)) r = false) : Fl.nxtOk r m a s = false := by
  by_cases hm : 1 ≤ m ∧ m ≤ 144
  · rw [wrap_rep hm] at h
    exact Fl.nxtOk_no (.inr (.inl h))
  · refine Fl.nxtOk_no (.inl ?_)
    apply Bool.eq_false_iff.2
    intro hc
    exact hm (rng_iff.1 hc)
theorem Fl.nxtOk_yes {r : Fl.L} {m a : Int} {s : Fl.S} (h : Fl.okM (IntKind.i64.wrap (m - 1)) r = true) (h1 : rng 1 144 m = true) (h2 : Fl.okS s = true) (h3 : rng 0 300 a = true) : Fl.nxtOk r m a s = true := by
  rw [wrap_rep (rng_iff.1 h1)] at h
  exact Fl.nxtOk_iff.2 ⟨h1, h, h2, h3⟩
/-- The first place with the phase. -/
theorem Fl.nxt_at {r : Fl.L} {m a : Int} {s : Fl.S} (hm : 1 ≤ m) {A : Int} (h1 : a ≤ A) (h2 : A ≤ Fl.nxt r m a s) : (r.p + A) % m = s.f % m ↔ A = Fl.nxt r m a s := by
  have h0 := Int.emod_nonneg (s.f - r.p - a) (show m ≠ 0 by omega)
  have h3 := Int.emod_lt_of_pos (s.f - r.p - a) (show 0 < m by omega)
  have h4 := Int.mul_ediv_add_emod (s.f - r.p - a) m
  unfold Fl.nxt at *
  constructor
  · intro h
    have h6 : (s.f - (r.p + A)) % m = 0 := Int.emod_eq_emod_iff_emod_sub_eq_zero.1 h.symm
    have h7 := Int.mul_ediv_add_emod (s.f - (r.p + A)) m
    rw [h6, Int.add_zero] at h7
    have h8 : m * ((s.f - (r.p + A)) / m - (s.f - r.p - a) / m) = (s.f - r.p - a) % m - (A - a) := by rw [Int.mul_sub]; omega
    generalize (s.f - (r.p + A)) / m - (s.f - r.p - a) / m = q at h8
    have : q = 0 := by
      rcases Int.lt_trichotomy q 0 with hq | hq | hq
      · have : m * q ≤ m * (-1) := Int.mul_le_mul_of_nonneg_left (by omega) (by omega)
        omega
      · exact hq
      · have : m * 1 ≤ m * q := Int.mul_le_mul_of_nonneg_left (by omega) (by omega)
        omega
    subst this
    rw [Int.mul_zero] at h8
    omega
  · intro h
    have e : r.p + A = s.f - m * ((s.f - r.p - a) / m) := by omega
    rw [e]
    rw [Int.sub_eq_add_neg, ← Int.mul_neg, Int.add_mul_emod_self_left]
set_option maxRecDepth 20000 in
set_option maxHeartbeats 1000000 in
theorem validStrip_any (s : Fl.S) (w : World) : Calls Try.prog 80 #[stripV s] w fun e w' => e = .returned (.bool (Fl.okS s)) ∧ Below w.heap.size w w' := by
  have HX := Lib.hid (Fl.okS_bad (s := s))
  have HZ := Lib.hid (Fl.okS_good (s := s))
  have C := Lib.hid (fun W => within_any s.x (-20) 60 W)
  generalize Fl.okS s = o at *
  obtain ⟨sx, sf, st⟩ := s
  dsimp only at *
  cases q1 : rng (-20) 60 sx
  · have HE := Lib.hid (HX.out (.inl q1))
    rw [q1] at C
    clear q1 HX HZ
    go_enter Try.func80, Try.ntmps80
    go_wp2_with fail
    refine (C.out _).mono ?_
    rintro e w1 ⟨rfl, rfl⟩
    go_wp2
    go_ret
    exact ⟨by rw [HE.out]; rfl, below_alloc2 (Below.refl _ _) _⟩
  by_cases p0 : sf < 0
  · skip
    have HE := Lib.hid (HX.out (.inr (.inl p0)))
    rw [q1] at C
    clear q1 HX HZ
    go_enter Try.func80, Try.ntmps80
    go_wp2_with fail
    refine (C.out _).mono ?_
    rintro e w1 ⟨rfl, rfl⟩
    go_wp2
    go_ret
    exact ⟨by rw [HE.out]; rfl, below_alloc2 (Below.refl _ _) _⟩
  by_cases p1 : st ≤ sf
  · skip
    have HE := Lib.hid (HX.out (.inr (.inr (.inl p1))))
    rw [q1] at C
    clear q1 HX HZ
    go_enter Try.func80, Try.ntmps80
    go_wp2_with fail
    refine (C.out _).mono ?_
    rintro e w1 ⟨rfl, rfl⟩
    go_wp2
    go_ret
    exact ⟨by rw [HE.out]; rfl, below_alloc2 (Below.refl _ _) _⟩
  by_cases p2 : 60 < st
  · have hd1 : decide (st ≤ 60) = false := decide_eq_false (by omega)
    have HE := Lib.hid (HX.out (.inr (.inr (.inr p2))))
    rw [q1] at C
    clear q1 HX HZ
    go_enter Try.func80, Try.ntmps80
    go_wp2_with fail
    refine (C.out _).mono ?_
    rintro e w1 ⟨rfl, rfl⟩
    go_wp2
    go_ret
    exact ⟨by rw [HE.out]; rfl, below_alloc2 (Below.refl _ _) _⟩
  have hd1 : decide (st ≤ 60) = true := decide_eq_true (by omega)
  have HE := Lib.hid (HZ.out q1 p0 p1 p2)
  rw [q1] at C
  clear q1 HX HZ
  go_enter Try.func80, Try.ntmps80
  go_wp2_with fail
  refine (C.out _).mono ?_
  rintro e w1 ⟨rfl, rfl⟩
  go_wp2
  go_ret
  exact ⟨by rw [HE.out]; rfl, below_alloc2 (Below.refl _ _) _⟩
theorem Fl.okL_bad {r : Fl.L} {m : Int} (h : rng 1 300 r.l = false ∨ r.p < 0 ∨ m ≤ r.p ∨ rng 0 99 r.c = false) : Fl.okL m r = false := by
  apply Bool.eq_false_iff.2
  intro hc
  have := Fl.okL_iff.1 hc
  rcases h with h | h | h | h
  · exact rng_no h ⟨by omega, by omega⟩
  · omega
  · omega
  · exact rng_no h ⟨by omega, by omega⟩
theorem Fl.okL_good {r : Fl.L} {m : Int} (h1 : rng 1 300 r.l = true) (h2 : ¬ r.p < 0) (h3 : ¬ m ≤ r.p) (h4 : rng 0 99 r.c = true) : Fl.okL m r = true := by
  have a := rng_iff.1 h1
  have b := rng_iff.1 h4
  exact Fl.okL_iff.2 ⟨a, ⟨by omega, by omega⟩, b⟩
set_option maxRecDepth 20000 in
set_option maxHeartbeats 1000000 in
theorem validRoll_any (r : Fl.L) (m : Int) (w : World) : Calls Try.prog 81 #[rolV r, .int .i64 m] w fun e w' => e = .returned (.bool (Fl.okL m r)) ∧ Below w.heap.size w w' := by
  have HX := Lib.hid (Fl.okL_bad (r := r) (m := m))
  have HZ := Lib.hid (Fl.okL_good (r := r) (m := m))
  have C1 := Lib.hid (fun W => within_any r.l 1 300 W)
  have C3 := Lib.hid (fun W => within_any r.c 0 99 W)
  have bX := BlockAt.new w (rolA r) RolT
  have r1 : World.cell? _ _ = some (.int .i64 r.p) := bX.cell 1
  have r2 : World.cell? _ _ = some (.int .i64 r.c) := bX.cell 2
  generalize Fl.okL m r = o at *
  clear bX
  cases q1 : rng 1 300 r.l
  · have HE := Lib.hid (HX.out (.inl q1))
    rw [q1] at C1
    clear q1 HX HZ
    go_enter Try.func81, Try.ntmps81
    go_wp2_with fail
    refine (C1.out _).mono ?_
    rintro e w1 ⟨rfl, rfl⟩
    go_wp2
    go_ret
    exact ⟨by rw [HE.out]; rfl, below_alloc2 (Below.refl _ _) _⟩
  by_cases p0 : r.p < 0
  · have HE := Lib.hid (HX.out (.inr (.inl p0)))
    have hd0 : decide (0 ≤ r.p) = false := decide_eq_false (by omega)
    rw [q1] at C1
    clear q1 HX HZ
    go_enter Try.func81, Try.ntmps81
    go_wp2_with fail
    refine (C1.out _).mono ?_
    rintro e w1 ⟨rfl, rfl⟩
    go_wp2
    go_ret
    exact ⟨by rw [HE.out]; rfl, below_alloc2 (Below.refl _ _) _⟩
  have hd0 : decide (0 ≤ r.p) = true := decide_eq_true (by omega)
  by_cases p1 : m ≤ r.p
  · have HE := Lib.hid (HX.out (.inr (.inr (.inl p1))))
    have hd1 : decide (r.p < m) = false := decide_eq_false (by omega)
    rw [q1] at C1
    clear q1 HX HZ
    go_enter Try.func81, Try.ntmps81
    go_wp2_with fail
    refine (C1.out _).mono ?_
    rintro e w1 ⟨rfl, rfl⟩
    go_wp2
    go_ret
    exact ⟨by rw [HE.out]; rfl, below_alloc2 (Below.refl _ _) _⟩
  have hd1 : decide (r.p < m) = true := decide_eq_true (by omega)
  cases q3 : rng 0 99 r.c
  · have HE := Lib.hid (HX.out (.inr (.inr (.inr q3))))
    rw [q1] at C1
    rw [q3] at C3
    clear q1 q3 HX HZ
    go_enter Try.func81, Try.ntmps81
    go_wp2_with fail
    refine (C1.out _).mono ?_
    rintro e w1 ⟨rfl, rfl⟩
    go_wp2_with fail
    refine (C3.out _).mono ?_
    rintro e w1 ⟨rfl, rfl⟩
    go_wp2
    go_ret
    exact ⟨by rw [HE.out]; rfl, below_alloc2 (Below.refl _ _) _⟩
  have HE := Lib.hid (HZ.out q1 p0 p1 q3)
  rw [q1] at C1
  rw [q3] at C3
  clear q1 q3 HX HZ
  go_enter Try.func81, Try.ntmps81
  go_wp2_with fail
  refine (C1.out _).mono ?_
  rintro e w1 ⟨rfl, rfl⟩
  go_wp2_with fail
  refine (C3.out _).mono ?_
  rintro e w1 ⟨rfl, rfl⟩
  go_wp2
  go_ret
  exact ⟨by rw [HE.out]; rfl, below_alloc2 (Below.refl _ _) _⟩
set_option maxRecDepth 20000 in
set_option maxHeartbeats 2000000 in
theorem rnext_any (r : Fl.L) (m a : Int) (s : Fl.S) (w : World) (hm : 1 ≤ m) (hm2 : m ≤ 144) (ha : 0 ≤ a) (ha2 : a ≤ 1000000) (hp : 0 ≤ r.p) (hp2 : r.p ≤ 143) (hf : 0 ≤ s.f) (hf2 : s.f ≤ 60) :
    Calls Try.prog 86 #[rolV r, .int .i64 m, .int .i64 a, stripV s] w fun e w' => e = .returned (.int .i64 (Fl.nxt r m a s)) ∧ Below w.heap.size w w' := by
  have hnb := Fl.nxt_bd (r := r) (a := a) (s := s) hm hm2
  have HAT := Lib.hid (fun A h1 h2 => Fl.nxt_at (r := r) (a := a) (s := s) hm (A := A) h1 h2)
  generalize Fl.nxt r m a s = N at *
  have HW := Lib.hid (show LB w.heap.size r ((w.alloc (.cells (rolA r) RolT)).alloc (.cells (stripA s.x s.f s.t) StripT)) ∧ SB (w.heap.size + 1) s ((w.alloc (.cells (rolA r) RolT)).alloc (.cells (stripA s.x s.f s.t) StripT)) ∧ Below w.heap.size w ((w.alloc (.cells (rolA r) RolT)).alloc (.cells (stripA s.x s.f s.t) StripT)) from
    ⟨LB.of ((BlockAt.new w (rolA r) RolT).alloc _), SB.of (t := StripT) (by have := BlockAt.new (w.alloc (.cells (rolA r) RolT)) (stripA s.x s.f s.t) StripT; simpa using this), below_alloc2 (below_alloc2 (Below.refl w.heap.size w) _) _⟩)
  have hm0 : (m == 0) = false := beq_eq_false_iff_ne.2 (by omega)
  have hmz : m ≠ 0 := by omega
  have hv0 := Int.emod_nonneg s.f hmz
  have hv1 := Int.emod_lt_of_pos s.f (show 0 < m by omega)
  have htf : Int.tmod s.f m = s.f % m := Int.tmod_eq_emod_of_nonneg hf
  have hwv : IntKind.i64.wrap (s.f % m) = s.f % m := IntWalk.i64_in _ ⟨by omega, by omega⟩
  go_enter Try.func86, Try.ntmps86
  go_wp2
  go_loopw [2] (fun t wr => ∃ A : Int, (a ≤ A ∧ A ≤ N) ∧ t = .int .i64 A ∧ Hid (LB w.heap.size r wr ∧ SB (w.heap.size + 1) s wr ∧ Below w.heap.size w wr)) (fun t _ => (N - intOf t).toNat)
  case atStart => exact ⟨a, ⟨Int.le_refl _, by omega⟩, rfl, HW⟩
  case round =>
    obtain ⟨A, ⟨hA1, hA2⟩, rfl, hg⟩ := hrel
    clear HW
    obtain ⟨⟨r0, r1, r2⟩, _⟩ := hg.out.1
    obtain ⟨⟨s0, s1, s2⟩, _⟩ := hg.out.2.1
    have HI := HAT.out A hA1 hA2
    have hu0 := Int.emod_nonneg (r.p + A) hmz
    have hu1 := Int.emod_lt_of_pos (r.p + A) (show 0 < m by omega)
    have hws : IntKind.i64.wrap (r.p + A) = r.p + A := IntWalk.i64_in _ ⟨by omega, by omega⟩
    have htu : Int.tmod (r.p + A) m = (r.p + A) % m := Int.tmod_eq_emod_of_nonneg (by omega)
    have hwu : IntKind.i64.wrap ((r.p + A) % m) = (r.p + A) % m := IntWalk.i64_in _ ⟨by omega, by omega⟩
    generalize (r.p + A) % m = u at *
    generalize s.f % m = v at *
    by_cases hAN : A = N
    · have huv : u = v := HI.2 hAN
      subst huv
      have hne : (u != u) = false := by simp
      have HG := Lib.hid hg.out.2.2
      have HAN := Lib.hid hAN
      clear HI hAN hg
      go_wp2
      go_quiet (fail)
      go_wp2
      go_ret
      exact ⟨by rw [HAN.out]; rfl, below_drewN HG.out _⟩
    · have huv : u ≠ v := fun h => hAN (HI.1 h)
      have hne1 : (u == v) = false := beq_eq_false_iff_ne.2 huv
      have hne : (u != v) = true := by rw [bne, hne1]; rfl
      have HG := Lib.hid hg.out
      clear HI huv hg
      go_wp2
      go_quiet (fail)
      go_wp2
      go_roundw
      case rel => exact ⟨A + 1, ⟨by omega, by omega⟩, rfl, Lib.hid ⟨HG.out.1.below (below_drewN (Below.refl _ _) _) HG.out.1.2, HG.out.2.1.below (below_drewN (Below.refl _ _) _) HG.out.2.1.2, below_drewN HG.out.2.2 _⟩⟩
      case measure => simp [intOf]; omega
set_option maxRecDepth 20000 in
set_option maxHeartbeats 2000000 in
theorem nextF_any (r : Fl.L) (m a : Int) (s : Fl.S) (w : World) :
    Calls Try.prog 43 #[rolV r, .int .i64 m, .int .i64 a, stripV s] w fun e w' => e = .returned (.tuple #[.int .i64 (Fl.nxtR r m a s), .int .i64 (Fl.nxtE r m a s)]) ∧ Below w.heap.size w w' := by
  have H0 := Lib.hid (show LB w.heap.size r ((w.alloc (.cells (rolA r) RolT)).alloc (.cells (stripA s.x s.f s.t) StripT)) ∧ SB (w.heap.size + 1) s ((w.alloc (.cells (rolA r) RolT)).alloc (.cells (stripA s.x s.f s.t) StripT)) ∧ Below w.heap.size w ((w.alloc (.cells (rolA r) RolT)).alloc (.cells (stripA s.x s.f s.t) StripT)) from
    ⟨LB.of ((BlockAt.new w (rolA r) RolT).alloc _), SB.of (t := StripT) (by have := BlockAt.new (w.alloc (.cells (rolA r) RolT)) (stripA s.x s.f s.t) StripT; simpa using this), below_alloc2 (below_alloc2 (Below.refl w.heap.size w) _) _⟩)
  have C0 := Lib.hid (fun W => isRoll_any r m _ W rfl)
  have C1 := Lib.hid (fun W => isStrip_any s W)
  have C2 := Lib.hid (fun W => isRepeat_any m W)
  have C3 := Lib.hid (fun W => isFrom_any 0 300 a W)
  have HX := Lib.hid (fun h => Fl.nxt_bad (r := r) (m := m) (a := a) (s := s) h)
  have HZ := Lib.hid (fun h => Fl.nxt_good (r := r) (m := m) (a := a) (s := s) h)
  have HBAD := Lib.hid (Fl.nxtOk_no (r := r) (m := m) (a := a) (s := s))
  have HBADM := Lib.hid (Fl.nxtOk_M (r := r) (m := m) (a := a) (s := s))
  have HGM := Lib.hid (Fl.nxtOk_yes (r := r) (m := m) (a := a) (s := s))
  have HGL := Lib.hid (fun h1 h2 h3 h4 => (Fl.nxtOk_iff (r := r) (m := m) (a := a) (s := s)).2 ⟨h1, h2, h3, h4⟩)
  generalize Fl.nxtR r m a s = RR at *
  generalize Fl.nxtE r m a s = EE at *
  generalize hok : Fl.nxtOk r m a s = OK at *
  cases q0 : Fl.okM (IntKind.i64.wrap (m - 1)) r
  · obtain ⟨hE, hR⟩ := HX.out (HBADM.out q0)
    subst hE
    subst hR
    rw [q0] at C0
    clear q0 HX HZ HBAD HBADM HGM HGL hok
    obtain ⟨⟨r0, r1, r2⟩, _⟩ := H0.out.1
    obtain ⟨⟨s0, s1, s2⟩, _⟩ := H0.out.2.1
    go_enter Try.func43, Try.ntmps43
    go_wp2_with fail
    refine (C0.out _).mono ?_
    rintro e w0 ⟨rfl, hb⟩
    have H1 := Lib.hid (And.intro (H0.out.1.below hb H0.out.1.2) (And.intro (H0.out.2.1.below hb H0.out.2.1.2) (below_step H0.out.2.2 hb)))
    clear hb r0 r1 r2 s0 s1 s2
    obtain ⟨⟨r0, r1, r2⟩, _⟩ := H1.out.1
    obtain ⟨⟨s0, s1, s2⟩, _⟩ := H1.out.2.1
    go_wp2
    go_ret2
    exact ⟨rfl, H1.out.2.2⟩
  cases q1 : Fl.okS s
  · obtain ⟨hE, hR⟩ := HX.out (HBAD.out (.inr (.inr (.inl q1))))
    subst hE
    subst hR
    rw [q0] at C0
    rw [q1] at C1
    clear q0 q1 HX HZ HBAD HBADM HGM HGL hok
    obtain ⟨⟨r0, r1, r2⟩, _⟩ := H0.out.1
    obtain ⟨⟨s0, s1, s2⟩, _⟩ := H0.out.2.1
    go_enter Try.func43, Try.ntmps43
    go_wp2_with fail
    refine (C0.out _).mono ?_
    rintro e w0 ⟨rfl, hb⟩
    have H1 := Lib.hid (And.intro (H0.out.1.below hb H0.out.1.2) (And.intro (H0.out.2.1.below hb H0.out.2.1.2) (below_step H0.out.2.2 hb)))
    clear hb r0 r1 r2 s0 s1 s2
    obtain ⟨⟨r0, r1, r2⟩, _⟩ := H1.out.1
    obtain ⟨⟨s0, s1, s2⟩, _⟩ := H1.out.2.1
    go_wp2_with fail
    refine (C1.out _).mono ?_
    rintro e w1 ⟨rfl, hb⟩
    have H2 := Lib.hid (And.intro (H1.out.1.below hb H1.out.1.2) (And.intro (H1.out.2.1.below hb H1.out.2.1.2) (below_step H1.out.2.2 hb)))
    clear hb r0 r1 r2 s0 s1 s2
    obtain ⟨⟨r0, r1, r2⟩, _⟩ := H2.out.1
    obtain ⟨⟨s0, s1, s2⟩, _⟩ := H2.out.2.1
    go_wp2
    go_ret2
    exact ⟨rfl, H2.out.2.2⟩
  cases q2 : rng 1 144 m
  · obtain ⟨hE, hR⟩ := HX.out (HBAD.out (.inl q2))
    subst hE
    subst hR
    rw [q0] at C0
    rw [q1] at C1
    rw [q2] at C2
    clear q0 q1 q2 HX HZ HBAD HBADM HGM HGL hok
    obtain ⟨⟨r0, r1, r2⟩, _⟩ := H0.out.1
    obtain ⟨⟨s0, s1, s2⟩, _⟩ := H0.out.2.1
    go_enter Try.func43, Try.ntmps43
    go_wp2_with fail
    refine (C0.out _).mono ?_
    rintro e w0 ⟨rfl, hb⟩
    have H1 := Lib.hid (And.intro (H0.out.1.below hb H0.out.1.2) (And.intro (H0.out.2.1.below hb H0.out.2.1.2) (below_step H0.out.2.2 hb)))
    clear hb r0 r1 r2 s0 s1 s2
    obtain ⟨⟨r0, r1, r2⟩, _⟩ := H1.out.1
    obtain ⟨⟨s0, s1, s2⟩, _⟩ := H1.out.2.1
    go_wp2_with fail
    refine (C1.out _).mono ?_
    rintro e w1 ⟨rfl, hb⟩
    have H2 := Lib.hid (And.intro (H1.out.1.below hb H1.out.1.2) (And.intro (H1.out.2.1.below hb H1.out.2.1.2) (below_step H1.out.2.2 hb)))
    clear hb r0 r1 r2 s0 s1 s2
    obtain ⟨⟨r0, r1, r2⟩, _⟩ := H2.out.1
    obtain ⟨⟨s0, s1, s2⟩, _⟩ := H2.out.2.1
    go_wp2_with fail
    refine (C2.out _).mono ?_
    rintro e w2 ⟨rfl, rfl⟩
    have H3 := H2
    go_wp2
    go_ret2
    exact ⟨rfl, H3.out.2.2⟩
  cases q3 : rng 0 300 a
  · obtain ⟨hE, hR⟩ := HX.out (HBAD.out (.inr (.inr (.inr q3))))
    subst hE
    subst hR
    rw [q0] at C0
    rw [q1] at C1
    rw [q2] at C2
    rw [q3] at C3
    clear q0 q1 q2 q3 HX HZ HBAD HBADM HGM HGL hok
    obtain ⟨⟨r0, r1, r2⟩, _⟩ := H0.out.1
    obtain ⟨⟨s0, s1, s2⟩, _⟩ := H0.out.2.1
    go_enter Try.func43, Try.ntmps43
    go_wp2_with fail
    refine (C0.out _).mono ?_
    rintro e w0 ⟨rfl, hb⟩
    have H1 := Lib.hid (And.intro (H0.out.1.below hb H0.out.1.2) (And.intro (H0.out.2.1.below hb H0.out.2.1.2) (below_step H0.out.2.2 hb)))
    clear hb r0 r1 r2 s0 s1 s2
    obtain ⟨⟨r0, r1, r2⟩, _⟩ := H1.out.1
    obtain ⟨⟨s0, s1, s2⟩, _⟩ := H1.out.2.1
    go_wp2_with fail
    refine (C1.out _).mono ?_
    rintro e w1 ⟨rfl, hb⟩
    have H2 := Lib.hid (And.intro (H1.out.1.below hb H1.out.1.2) (And.intro (H1.out.2.1.below hb H1.out.2.1.2) (below_step H1.out.2.2 hb)))
    clear hb r0 r1 r2 s0 s1 s2
    obtain ⟨⟨r0, r1, r2⟩, _⟩ := H2.out.1
    obtain ⟨⟨s0, s1, s2⟩, _⟩ := H2.out.2.1
    go_wp2_with fail
    refine (C2.out _).mono ?_
    rintro e w2 ⟨rfl, rfl⟩
    have H3 := H2
    go_wp2_with fail
    refine (C3.out _).mono ?_
    rintro e w3 ⟨rfl, rfl⟩
    have H4 := H3
    go_wp2
    go_ret2
    exact ⟨rfl, H4.out.2.2⟩
  have hyes := HGM.out q0 q2 q1 q3
  obtain ⟨hm1, hm2⟩ := rng_iff.1 q2
  obtain ⟨ha1, ha2⟩ := rng_iff.1 q3
  obtain ⟨_, _, hf1, hf2, hf3⟩ := Fl.okS_iff.1 q1
  have hq0 := q0
  rw [wrap_rep (rng_iff.1 q2)] at hq0
  have hpp := (Fl.okL_iff.1 (show Fl.okL m r = true from hq0)).2.1
  have CN := Lib.hid (fun W => next_any r m a s W hm1 hm2 ha1 (by omega) (by omega) (by omega) hf1 (by omega))
  obtain ⟨hE, hR⟩ := HZ.out hyes
  subst hE
  subst hR
  rw [q0] at C0
  rw [q1] at C1
  rw [q2] at C2
  rw [q3] at C3
  clear q0 q1 q2 q3 HX HZ HBAD HBADM HGM HGL hok
  obtain ⟨⟨r0, r1, r2⟩, _⟩ := H0.out.1
  obtain ⟨⟨s0, s1, s2⟩, _⟩ := H0.out.2.1
  go_enter Try.func43, Try.ntmps43
  go_wp2_with fail
  refine (C0.out _).mono ?_
  rintro e w0 ⟨rfl, hb⟩
  have H1 := Lib.hid (And.intro (H0.out.1.below hb H0.out.1.2) (And.intro (H0.out.2.1.below hb H0.out.2.1.2) (below_step H0.out.2.2 hb)))
  clear hb r0 r1 r2 s0 s1 s2
  obtain ⟨⟨r0, r1, r2⟩, _⟩ := H1.out.1
  obtain ⟨⟨s0, s1, s2⟩, _⟩ := H1.out.2.1
  go_wp2_with fail
  refine (C1.out _).mono ?_
  rintro e w1 ⟨rfl, hb⟩
  have H2 := Lib.hid (And.intro (H1.out.1.below hb H1.out.1.2) (And.intro (H1.out.2.1.below hb H1.out.2.1.2) (below_step H1.out.2.2 hb)))
  clear hb r0 r1 r2 s0 s1 s2
  obtain ⟨⟨r0, r1, r2⟩, _⟩ := H2.out.1
  obtain ⟨⟨s0, s1, s2⟩, _⟩ := H2.out.2.1
  go_wp2_with fail
  refine (C2.out _).mono ?_
  rintro e w2 ⟨rfl, rfl⟩
  have H3 := H2
  go_wp2_with fail
  refine (C3.out _).mono ?_
  rintro e w3 ⟨rfl, rfl⟩
  have H4 := H3
  go_wp2_with fail
  refine (CN.out _).mono ?_
  rintro e w9 ⟨rfl, hb9⟩
  have H9 := Lib.hid (below_step H4.out.2.2 hb9)
  clear hb9
  go_wp2
  go_ret2
  exact ⟨rfl, H9.out⟩
set_option maxRecDepth 20000 in
set_option maxHeartbeats 2000000 in
theorem rnextF_any (r : Fl.L) (m a : Int) (s : Fl.S) (w : World) :
    Calls Try.prog 44 #[rolV r, .int .i64 m, .int .i64 a, stripV s] w fun e w' => e = .returned (.tuple #[.int .i64 (Fl.nxtR r m a s), .int .i64 (Fl.nxtE r m a s)]) ∧ Below w.heap.size w w' := by
  have H0 := Lib.hid (show LB w.heap.size r ((w.alloc (.cells (rolA r) RolT)).alloc (.cells (stripA s.x s.f s.t) StripT)) ∧ SB (w.heap.size + 1) s ((w.alloc (.cells (rolA r) RolT)).alloc (.cells (stripA s.x s.f s.t) StripT)) ∧ Below w.heap.size w ((w.alloc (.cells (rolA r) RolT)).alloc (.cells (stripA s.x s.f s.t) StripT)) from
    ⟨LB.of ((BlockAt.new w (rolA r) RolT).alloc _), SB.of (t := StripT) (by have := BlockAt.new (w.alloc (.cells (rolA r) RolT)) (stripA s.x s.f s.t) StripT; simpa using this), below_alloc2 (below_alloc2 (Below.refl w.heap.size w) _) _⟩)
  have C0 := Lib.hid (fun W => within_any m 1 144 W)
  have C1 := Lib.hid (fun W => validRoll_any r m W)
  have C2 := Lib.hid (fun W => validStrip_any s W)
  have C3 := Lib.hid (fun W => within_any a 0 300 W)
  have HX := Lib.hid (fun h => Fl.nxt_bad (r := r) (m := m) (a := a) (s := s) h)
  have HZ := Lib.hid (fun h => Fl.nxt_good (r := r) (m := m) (a := a) (s := s) h)
  have HBAD := Lib.hid (Fl.nxtOk_no (r := r) (m := m) (a := a) (s := s))
  have HBADM := Lib.hid (Fl.nxtOk_M (r := r) (m := m) (a := a) (s := s))
  have HGM := Lib.hid (Fl.nxtOk_yes (r := r) (m := m) (a := a) (s := s))
  have HGL := Lib.hid (fun h1 h2 h3 h4 => (Fl.nxtOk_iff (r := r) (m := m) (a := a) (s := s)).2 ⟨h1, h2, h3, h4⟩)
  generalize Fl.nxtR r m a s = RR at *
  generalize Fl.nxtE r m a s = EE at *
  generalize hok : Fl.nxtOk r m a s = OK at *
  cases q0 : rng 1 144 m
  · obtain ⟨hE, hR⟩ := HX.out (HBAD.out (.inl q0))
    subst hE
    subst hR
    rw [q0] at C0
    clear q0 HX HZ HBAD HBADM HGM HGL hok
    obtain ⟨⟨r0, r1, r2⟩, _⟩ := H0.out.1
    obtain ⟨⟨s0, s1, s2⟩, _⟩ := H0.out.2.1
    go_enter Try.func44, Try.ntmps44
    go_wp2_with fail
    refine (C0.out _).mono ?_
    rintro e w0 ⟨rfl, rfl⟩
    have H1 := H0
    go_wp2
    go_ret2
    exact ⟨rfl, H1.out.2.2⟩
  cases q1 : Fl.okL m r
  · obtain ⟨hE, hR⟩ := HX.out (HBAD.out (.inr (.inl q1)))
    subst hE
    subst hR
    rw [q0] at C0
    rw [q1] at C1
    clear q0 q1 HX HZ HBAD HBADM HGM HGL hok
    obtain ⟨⟨r0, r1, r2⟩, _⟩ := H0.out.1
    obtain ⟨⟨s0, s1, s2⟩, _⟩ := H0.out.2.1
    go_enter Try.func44, Try.ntmps44
    go_wp2_with fail
    refine (C0.out _).mono ?_
    rintro e w0 ⟨rfl, rfl⟩
    have H1 := H0
    go_wp2_with fail
    refine (C1.out _).mono ?_
    rintro e w1 ⟨rfl, hb⟩
    have H2 := Lib.hid (And.intro (H1.out.1.below hb H1.out.1.2) (And.intro (H1.out.2.1.below hb H1.out.2.1.2) (below_step H1.out.2.2 hb)))
    clear hb r0 r1 r2 s0 s1 s2
    obtain ⟨⟨r0, r1, r2⟩, _⟩ := H2.out.1
    obtain ⟨⟨s0, s1, s2⟩, _⟩ := H2.out.2.1
    go_wp2
    go_ret2
    exact ⟨rfl, H2.out.2.2⟩
  cases q2 : Fl.okS s
  · obtain ⟨hE, hR⟩ := HX.out (HBAD.out (.inr (.inr (.inl q2))))
    subst hE
    subst hR
    rw [q0] at C0
    rw [q1] at C1
    rw [q2] at C2
    clear q0 q1 q2 HX HZ HBAD HBADM HGM HGL hok
    obtain ⟨⟨r0, r1, r2⟩, _⟩ := H0.out.1
    obtain ⟨⟨s0, s1, s2⟩, _⟩ := H0.out.2.1
    go_enter Try.func44, Try.ntmps44
    go_wp2_with fail
    refine (C0.out _).mono ?_
    rintro e w0 ⟨rfl, rfl⟩
    have H1 := H0
    go_wp2_with fail
    refine (C1.out _).mono ?_
    rintro e w1 ⟨rfl, hb⟩
    have H2 := Lib.hid (And.intro (H1.out.1.below hb H1.out.1.2) (And.intro (H1.out.2.1.below hb H1.out.2.1.2) (below_step H1.out.2.2 hb)))
    clear hb r0 r1 r2 s0 s1 s2
    obtain ⟨⟨r0, r1, r2⟩, _⟩ := H2.out.1
    obtain ⟨⟨s0, s1, s2⟩, _⟩ := H2.out.2.1
    go_wp2_with fail
    refine (C2.out _).mono ?_
    rintro e w2 ⟨rfl, hb⟩
    have H3 := Lib.hid (And.intro (H2.out.1.below hb H2.out.1.2) (And.intro (H2.out.2.1.below hb H2.out.2.1.2) (below_step H2.out.2.2 hb)))
    clear hb r0 r1 r2 s0 s1 s2
    obtain ⟨⟨r0, r1, r2⟩, _⟩ := H3.out.1
    obtain ⟨⟨s0, s1, s2⟩, _⟩ := H3.out.2.1
    go_wp2
    go_ret2
    exact ⟨rfl, H3.out.2.2⟩
  cases q3 : rng 0 300 a
  · obtain ⟨hE, hR⟩ := HX.out (HBAD.out (.inr (.inr (.inr q3))))
    subst hE
    subst hR
    rw [q0] at C0
    rw [q1] at C1
    rw [q2] at C2
    rw [q3] at C3
    clear q0 q1 q2 q3 HX HZ HBAD HBADM HGM HGL hok
    obtain ⟨⟨r0, r1, r2⟩, _⟩ := H0.out.1
    obtain ⟨⟨s0, s1, s2⟩, _⟩ := H0.out.2.1
    go_enter Try.func44, Try.ntmps44
    go_wp2_with fail
    refine (C0.out _).mono ?_
    rintro e w0 ⟨rfl, rfl⟩
    have H1 := H0
    go_wp2_with fail
    refine (C1.out _).mono ?_
    rintro e w1 ⟨rfl, hb⟩
    have H2 := Lib.hid (And.intro (H1.out.1.below hb H1.out.1.2) (And.intro (H1.out.2.1.below hb H1.out.2.1.2) (below_step H1.out.2.2 hb)))
    clear hb r0 r1 r2 s0 s1 s2
    obtain ⟨⟨r0, r1, r2⟩, _⟩ := H2.out.1
    obtain ⟨⟨s0, s1, s2⟩, _⟩ := H2.out.2.1
    go_wp2_with fail
    refine (C2.out _).mono ?_
    rintro e w2 ⟨rfl, hb⟩
    have H3 := Lib.hid (And.intro (H2.out.1.below hb H2.out.1.2) (And.intro (H2.out.2.1.below hb H2.out.2.1.2) (below_step H2.out.2.2 hb)))
    clear hb r0 r1 r2 s0 s1 s2
    obtain ⟨⟨r0, r1, r2⟩, _⟩ := H3.out.1
    obtain ⟨⟨s0, s1, s2⟩, _⟩ := H3.out.2.1
    go_wp2_with fail
    refine (C3.out _).mono ?_
    rintro e w3 ⟨rfl, rfl⟩
    have H4 := H3
    go_wp2
    go_ret2
    exact ⟨rfl, H4.out.2.2⟩
  have hyes := HGL.out q0 q1 q2 q3
  obtain ⟨hm1, hm2⟩ := rng_iff.1 q0
  obtain ⟨ha1, ha2⟩ := rng_iff.1 q3
  obtain ⟨_, _, hf1, hf2, hf3⟩ := Fl.okS_iff.1 q2
  have hpp := (Fl.okL_iff.1 q1).2.1
  have CN := Lib.hid (fun W => rnext_any r m a s W hm1 hm2 ha1 (by omega) (by omega) (by omega) hf1 (by omega))
  obtain ⟨hE, hR⟩ := HZ.out hyes
  subst hE
  subst hR
  rw [q0] at C0
  rw [q1] at C1
  rw [q2] at C2
  rw [q3] at C3
  clear q0 q1 q2 q3 HX HZ HBAD HBADM HGM HGL hok
  obtain ⟨⟨r0, r1, r2⟩, _⟩ := H0.out.1
  obtain ⟨⟨s0, s1, s2⟩, _⟩ := H0.out.2.1
  go_enter Try.func44, Try.ntmps44
  go_wp2_with fail
  refine (C0.out _).mono ?_
  rintro e w0 ⟨rfl, rfl⟩
  have H1 := H0
  go_wp2_with fail
  refine (C1.out _).mono ?_
  rintro e w1 ⟨rfl, hb⟩
  have H2 := Lib.hid (And.intro (H1.out.1.below hb H1.out.1.2) (And.intro (H1.out.2.1.below hb H1.out.2.1.2) (below_step H1.out.2.2 hb)))
  clear hb r0 r1 r2 s0 s1 s2
  obtain ⟨⟨r0, r1, r2⟩, _⟩ := H2.out.1
  obtain ⟨⟨s0, s1, s2⟩, _⟩ := H2.out.2.1
  go_wp2_with fail
  refine (C2.out _).mono ?_
  rintro e w2 ⟨rfl, hb⟩
  have H3 := Lib.hid (And.intro (H2.out.1.below hb H2.out.1.2) (And.intro (H2.out.2.1.below hb H2.out.2.1.2) (below_step H2.out.2.2 hb)))
  clear hb r0 r1 r2 s0 s1 s2
  obtain ⟨⟨r0, r1, r2⟩, _⟩ := H3.out.1
  obtain ⟨⟨s0, s1, s2⟩, _⟩ := H3.out.2.1
  go_wp2_with fail
  refine (C3.out _).mono ?_
  rintro e w3 ⟨rfl, rfl⟩
  have H4 := H3
  go_wp2_with fail
  refine (CN.out _).mono ?_
  rintro e w9 ⟨rfl, hb9⟩
  have H9 := Lib.hid (below_step H4.out.2.2 hb9)
  clear hb9
  go_wp2
  go_ret2
  exact ⟨rfl, H9.out⟩
end Go.Proofs.Ytpobkdbnldogcaa
