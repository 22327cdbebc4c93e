/- Where a strip can begin; which jobs are valid; the places of a cut: of the program. -/
import Derived.Test.YtpobkdbnldogcaaFl9
import Derived.Test.YtpobkdbnldogcaaFlP
namespace Go.Proofs.Ytpobkdbnldogcaa
open Go.RowKit

theorem tmod_fix (x n : Int) (hn : 1 ≤ n) : (x.tmod n < 0 → x.tmod n + n = x % n) ∧ (¬ x.tmod n < 0 → x.tmod n = x % n) ∧ -n ≤ x.tmod n ∧ x.tmod n < n := by
  have h0 := Int.emod_nonneg x (show n ≠ 0 by omega)
  have h1 := Int.emod_lt_of_pos x (show 0 < n by omega)
  have e : x % n = x.tmod n + ((if 0 ≤ x ∨ n ∣ x then 0 else n.natAbs : Nat) : Int) := Int.emod_eq_tmod
  have hs : (n.natAbs : Int) = n := by omega
  by_cases hc : 0 ≤ x ∨ n ∣ x
  · rw [if_pos hc] at e; omega
  · rw [if_neg hc] at e; omega
set_option maxRecDepth 20000 in
theorem modulo_any (x n : Int) (w : World) (hn : 1 ≤ n) (hn2 : n ≤ 1000000) (hx : -1000000000000 ≤ x) (hx2 : x ≤ 1000000000000) :
    Calls Try.prog 146 #[.int .i64 x, .int .i64 n] w fun e w' => e = .returned (.int .i64 (x % n)) ∧ w = w' := by
  by_cases h0 : 0 ≤ x
  · have h1 := Int.emod_nonneg x (show n ≠ 0 by omega)
    go_enter Try.func146, Try.ntmps146
    go_wp2
    go_ret
    exact ⟨rfl, rfl⟩
  · obtain ⟨f1, f2, f3, f4⟩ := tmod_fix x n hn
    by_cases hr : x.tmod n < 0
    · have HF := Lib.hid (f1 hr)
      clear f1 f2
      go_enter Try.func146, Try.ntmps146
      go_wp2
      go_ret
      exact ⟨by rw [← HF.out]; rfl, rfl⟩
    · have HF := Lib.hid (f2 hr)
      clear f1 f2
      go_enter Try.func146, Try.ntmps146
      go_wp2
      go_ret
      exact ⟨by rw [← HF.out]; rfl, rfl⟩
abbrev RolT : TypeId := 72
abbrev CutT : TypeId := 119
abbrev JobT : TypeId := 61
abbrev jobV (sv rv : Value) (m : Int) : Value := .agg #[sv, rv, .int .i64 m]
abbrev rolA (r : Fl.L) : Array Value := #[.int .i64 r.l, .int .i64 r.p, .int .i64 r.c]
abbrev cutA (r : Fl.C) : Array Value := #[.int .i64 r.s, .int .i64 r.r, .int .i64 r.a]
theorem fld0 (a b : Value) (w : World) : (Instr.field 162 (.agg #[a, b]) 0).run Try.prog w = .ok a w := by kernel_rfl
theorem fld1 (a b : Value) (w : World) : (Instr.field 162 (.agg #[a, b]) 1).run Try.prog w = .ok b w := by kernel_rfl
theorem fldS1 (a b : Value) (w : World) : (Instr.field 91 (.agg #[a, b]) 1).run Try.prog w = .ok b w := by kernel_rfl
abbrev fnV (k : Nat) : Value := .func (.func k) #[] #[]
set_option maxRecDepth 20000 in
theorem newFinders_any (w : World) : Calls Try.prog 126 #[] w fun e w' => e = .returned (.agg #[fnV 144, fnV 145]) ∧ Below w.heap.size w w' := by
  go_enter Try.func126, Try.ntmps126
  go_wp2
  exact bodyPost_ret (v := .agg #[fnV 144, fnV 145]) (by simp [results, Try.results126, go_sem]) rfl ⟨rfl, below_alloc2 (Below.refl _ _) _⟩
set_option maxRecDepth 20000 in
theorem plain_any (r : Fl.L) (m a : Int) (s : Fl.S) (w : World) : Calls Try.prog 144 #[rolV r, .int .i64 m, .int .i64 a, stripV s] w fun e w' => e = .returned (.int .i64 a) ∧ Below w.heap.size w w' := by
  go_enter Try.func144, Try.ntmps144
  go_wp2
  go_ret
  exact ⟨rfl, below_alloc2 (below_alloc2 (Below.refl _ _) _) _⟩
set_option maxRecDepth 20000 in
theorem patterned_any (r : Fl.L) (m a : Int) (s : Fl.S) (w : World) (hm : 1 ≤ m) (hm2 : m ≤ 144) (ha : 0 ≤ a) (ha2 : a ≤ 1000000) (hp : 0 ≤ r.p) (hp2 : r.p ≤ 143) (hf : 0 ≤ s.f) (hf2 : s.f ≤ 60) :
    Calls Try.prog 145 #[rolV r, .int .i64 m, .int .i64 a, stripV s] w fun e w' => e = .returned (.int .i64 (Fl.nxt r m a s)) ∧ Below w.heap.size w w' := by
  obtain ⟨rl, rp, rc⟩ := r
  obtain ⟨sx, sf, st⟩ := s
  dsimp only at *
  have HE : Hid (Fl.nxt ⟨rl, rp, rc⟩ m a ⟨sx, sf, st⟩ = a + (sf - rp - a) % m) := Lib.hid rfl
  have C := Lib.hid (fun W => modulo_any (sf - rp - a) m W hm (by omega) (by omega) (by omega))
  have e1 := Int.emod_nonneg (sf - rp - a) (show m ≠ 0 by omega)
  have e2 := Int.emod_lt_of_pos (sf - rp - a) (show 0 < m by omega)
  generalize Fl.nxt ⟨rl, rp, rc⟩ m a ⟨sx, sf, st⟩ = R at *
  generalize (sf - rp - a) % m = Q at *
  go_enter Try.func145, Try.ntmps145
  go_wp2_with fail
  refine (C.out _).mono ?_
  rintro e w1 ⟨rfl, rfl⟩
  go_wp2
  go_ret
  exact ⟨by rw [HE.out]; rfl, below_alloc2 (below_alloc2 (Below.refl _ _) _) _⟩
/-- A roll lies in a block. -/
def LB (B : Nat) (s : Fl.L) (W : World) : Prop :=
  (W.cell? ⟨B, 0, none⟩ = some (.int .i64 s.l) ∧ W.cell? ⟨B, 1, none⟩ = some (.int .i64 s.p) ∧ W.cell? ⟨B, 2, none⟩ = some (.int .i64 s.c)) ∧ B < W.heap.size
theorem LB.below {B N : Nat} {s : Fl.L} {W W2 : World} (h : LB B s W) (hb : Below N W W2) (hN : B < N) : LB B s W2 :=
  ⟨⟨(hb.cell (p := ⟨B, 0, none⟩) hN).trans h.1.1, (hb.cell (p := ⟨B, 1, none⟩) hN).trans h.1.2.1, (hb.cell (p := ⟨B, 2, none⟩) hN).trans h.1.2.2⟩, Nat.lt_of_lt_of_le h.2 hb.size⟩
theorem LB.of {B : Nat} {s : Fl.L} {W : World} {t : TypeId} (h : BlockAt W B #[.int .i64 s.l, .int .i64 s.p, .int .i64 s.c] t) : LB B s W := ⟨⟨h.cell 0, h.cell 1, h.cell 2⟩, h.lt⟩
set_option maxRecDepth 20000 in
set_option maxHeartbeats 1000000 in
theorem next_any (r : Fl.L) (m a : Int) (s : Fl.S) (w : World) (hm : 1 ≤ m) (hm2 : m ≤ 144) (ha : 0 ≤ a) (ha2 : a ≤ 1000000) (hp : 0 ≤ r.p) (hp2 : r.p ≤ 143) (hf : 0 ≤ s.f) (hf2 : s.f ≤ 60) :
    Calls Try.prog 85 #[rolV r, .int .i64 m, .int .i64 a, stripV s] w fun e w' => e = .returned (.int .i64 (Fl.nxt r m a s)) ∧ Below w.heap.size w w' := by
  have HB := Lib.hid (below_drewN (below_alloc2 (below_alloc2 (Below.refl w.heap.size w) (.cells (rolA r) RolT)) (.cells (stripA s.x s.f s.t) StripT)) 1)
  have HS := Lib.hid (show LB w.heap.size r ((w.alloc (.cells (rolA r) RolT)).alloc (.cells (stripA s.x s.f s.t) StripT)).drew ∧ SB (w.heap.size + 1) s ((w.alloc (.cells (rolA r) RolT)).alloc (.cells (stripA s.x s.f s.t) StripT)).drew from
    ⟨LB.of ((BlockAt.new w (rolA r) RolT).alloc _).drew, SB.of (t := StripT) (show BlockAt ((w.alloc (.cells (rolA r) RolT)).alloc (.cells (stripA s.x s.f s.t) StripT)) (w.heap.size + 1) (stripA s.x s.f s.t) StripT by have := BlockAt.new (w.alloc (.cells (rolA r) RolT)) (stripA s.x s.f s.t) StripT; simpa using this).drew⟩)
  by_cases h1 : m = 1
  · subst h1
    have HE : Hid (Fl.nxt r 1 a s = a) := Lib.hid (by unfold Fl.nxt; omega)
    generalize Fl.nxt r 1 a s = R at *
    go_enter Try.func85, Try.ntmps85
    have hfd := fun w => fld0 (fnV 144) (fnV 145) w
    go_upto_region 2 with fail
    refine wp_region_seq [(2, true), (3, true), (4, true), (5, true), (0, false), (1, true), (6, false), (7, true)] (fun W => LB w.heap.size r W ∧ SB (w.heap.size + 1) s W)
      (by kernel_rfl) (by kernel_rfl) (by kernel_rfl) (by kernel_rfl) (fun d _ _ _ _ h => by cases d <;> exact h) HS.out (fun _ => ?_)
    repeat (first | (refine SeqH.take (v := ?_) rfl (by rfl) ?_ ?_; rotate_left; (· intro w hSw; (try dsimp only at hSw); obtain ⟨⟨⟨r0, r1, r2⟩, _⟩, ⟨⟨s0, s1, s2⟩, _⟩⟩ := hSw; go_simp; (try with_reducible rfl)); simp only [Act.put, List.setIfInBounds_toArray, List.set_cons_zero, List.set_cons_succ]) | (refine SeqH.skip rfl (by rfl) ?_; simp only [Act.put, List.setIfInBounds_toArray, List.set_cons_zero, List.set_cons_succ]))
    refine SeqH.step rfl (by rfl) (fun K hK => ?_)
    go_simp
    go_at_call 126
    refine (newFinders_any _).mono ?_
    rintro e w3 ⟨rfl, hb3⟩
    try dsimp only
    refine hK.out _ _ ⟨HS.out.1.below hb3 HS.out.1.2, HS.out.2.below hb3 HS.out.2.2⟩ (fun _ => ?_)
    have HS1 := Lib.hid (And.intro (HS.out.1.below hb3 HS.out.1.2) (HS.out.2.below hb3 HS.out.2.2))
    have HB1 := Lib.hid (below_step HB.out hb3)
    clear hK K hb3 HS HB
    try simp only [Act.put, List.setIfInBounds_toArray, List.set_cons_zero, List.set_cons_succ]
    repeat (first | (refine SeqH.take (v := ?_) rfl (by rfl) ?_ ?_; rotate_left; (· intro w hSw; (try dsimp only at hSw); obtain ⟨⟨⟨r0, r1, r2⟩, _⟩, ⟨⟨s0, s1, s2⟩, _⟩⟩ := hSw; go_simp; (try with_reducible rfl)); simp only [Act.put, List.setIfInBounds_toArray, List.set_cons_zero, List.set_cons_succ]) | (refine SeqH.skip rfl (by rfl) ?_; simp only [Act.put, List.setIfInBounds_toArray, List.set_cons_zero, List.set_cons_succ]))
    refine SeqH.step rfl (by rfl) (fun K hK => ?_)
    go_simp
    go_at_call 144
    refine (plain_any r 1 a s _).mono ?_
    rintro e w4 ⟨rfl, hb3⟩
    try dsimp only
    refine hK.out _ _ ⟨HS1.out.1.below hb3 HS1.out.1.2, HS1.out.2.below hb3 HS1.out.2.2⟩ (fun _ => ?_)
    have HS2 := Lib.hid (And.intro (HS1.out.1.below hb3 HS1.out.1.2) (HS1.out.2.below hb3 HS1.out.2.2))
    have HB2 := Lib.hid (below_step HB1.out hb3)
    clear hK K hb3 HS1 HB1
    try simp only [Act.put, List.setIfInBounds_toArray, List.set_cons_zero, List.set_cons_succ]
    repeat (first | (refine SeqH.take (v := ?_) rfl (by rfl) ?_ ?_; rotate_left; (· intro w hSw; (try dsimp only at hSw); obtain ⟨⟨⟨r0, r1, r2⟩, _⟩, ⟨⟨s0, s1, s2⟩, _⟩⟩ := hSw; go_simp; (try with_reducible rfl)); simp only [Act.put, List.setIfInBounds_toArray, List.set_cons_zero, List.set_cons_succ]) | (refine SeqH.skip rfl (by rfl) ?_; simp only [Act.put, List.setIfInBounds_toArray, List.set_cons_zero, List.set_cons_succ]))
    refine SeqH.done ?_
    go_wp2
    go_ret
    exact ⟨by rw [HE.out]; rfl, HB2.out⟩
  · have hq : (m == 1) = false := beq_eq_false_iff_ne.2 h1
    have C := Lib.hid (fun W => patterned_any r m a s W hm hm2 ha ha2 hp hp2 hf hf2)
    generalize Fl.nxt r m a s = R at *
    clear h1
    go_enter Try.func85, Try.ntmps85
    have hfd := fun w => fld1 (fnV 144) (fnV 145) w
    go_upto_region 3 with fail
    refine wp_region_seq [(2, true), (3, true), (4, true), (5, true), (0, false), (1, true), (6, false), (7, true)] (fun W => LB w.heap.size r W ∧ SB (w.heap.size + 1) s W)
      (by kernel_rfl) (by kernel_rfl) (by kernel_rfl) (by kernel_rfl) (fun d _ _ _ _ h => by cases d <;> exact h) HS.out (fun _ => ?_)
    repeat (first | (refine SeqH.take (v := ?_) rfl (by rfl) ?_ ?_; rotate_left; (· intro w hSw; (try dsimp only at hSw); obtain ⟨⟨⟨r0, r1, r2⟩, _⟩, ⟨⟨s0, s1, s2⟩, _⟩⟩ := hSw; go_simp; (try with_reducible rfl)); simp only [Act.put, List.setIfInBounds_toArray, List.set_cons_zero, List.set_cons_succ]) | (refine SeqH.skip rfl (by rfl) ?_; simp only [Act.put, List.setIfInBounds_toArray, List.set_cons_zero, List.set_cons_succ]))
    refine SeqH.step rfl (by rfl) (fun K hK => ?_)
    go_simp
    go_at_call 126
    refine (newFinders_any _).mono ?_
    rintro e w3 ⟨rfl, hb3⟩
    try dsimp only
    refine hK.out _ _ ⟨HS.out.1.below hb3 HS.out.1.2, HS.out.2.below hb3 HS.out.2.2⟩ (fun _ => ?_)
    have HS1 := Lib.hid (And.intro (HS.out.1.below hb3 HS.out.1.2) (HS.out.2.below hb3 HS.out.2.2))
    have HB1 := Lib.hid (below_step HB.out hb3)
    clear hK K hb3 HS HB
    try simp only [Act.put, List.setIfInBounds_toArray, List.set_cons_zero, List.set_cons_succ]
    repeat (first | (refine SeqH.take (v := ?_) rfl (by rfl) ?_ ?_; rotate_left; (· intro w hSw; (try dsimp only at hSw); obtain ⟨⟨⟨r0, r1, r2⟩, _⟩, ⟨⟨s0, s1, s2⟩, _⟩⟩ := hSw; go_simp; (try with_reducible rfl)); simp only [Act.put, List.setIfInBounds_toArray, List.set_cons_zero, List.set_cons_succ]) | (refine SeqH.skip rfl (by rfl) ?_; simp only [Act.put, List.setIfInBounds_toArray, List.set_cons_zero, List.set_cons_succ]))
    refine SeqH.step rfl (by rfl) (fun K hK => ?_)
    go_simp
    go_at_call 145
    refine (C.out _).mono ?_
    rintro e w4 ⟨rfl, hb3⟩
    try dsimp only
    refine hK.out _ _ ⟨HS1.out.1.below hb3 HS1.out.1.2, HS1.out.2.below hb3 HS1.out.2.2⟩ (fun _ => ?_)
    have HS2 := Lib.hid (And.intro (HS1.out.1.below hb3 HS1.out.1.2) (HS1.out.2.below hb3 HS1.out.2.2))
    have HB2 := Lib.hid (below_step HB1.out hb3)
    clear hK K hb3 HS1 HB1
    try simp only [Act.put, List.setIfInBounds_toArray, List.set_cons_zero, List.set_cons_succ]
    repeat (first | (refine SeqH.take (v := ?_) rfl (by rfl) ?_ ?_; rotate_left; (· intro w hSw; (try dsimp only at hSw); obtain ⟨⟨⟨r0, r1, r2⟩, _⟩, ⟨⟨s0, s1, s2⟩, _⟩⟩ := hSw; go_simp; (try with_reducible rfl)); simp only [Act.put, List.setIfInBounds_toArray, List.set_cons_zero, List.set_cons_succ]) | (refine SeqH.skip rfl (by rfl) ?_; simp only [Act.put, List.setIfInBounds_toArray, List.set_cons_zero, List.set_cons_succ]))
    refine SeqH.done ?_
    go_wp2
    go_ret
    exact ⟨rfl, HB2.out⟩
theorem Fl.okS_bad {s : Fl.S} (h : rng (-20) 60 s.x = false ∨ s.f < 0 ∨ s.t ≤ s.f ∨ 60 < s.t) : Fl.okS s = false := by
  apply Bool.eq_false_iff.2
  intro hc
  have := Fl.okS_iff.1 hc
  rcases h with h | h
  · exact rng_no h ⟨by omega, by omega⟩
  · omega
theorem Fl.okS_good {s : Fl.S} (h1 : rng (-20) 60 s.x = true) (h2 : ¬ s.f < 0) (h3 : ¬ s.t ≤ s.f) (h4 : ¬ 60 < s.t) : Fl.okS s = true := by
  have := rng_iff.1 h1
  exact Fl.okS_iff.2 (by omega)
set_option maxRecDepth 20000 in
set_option maxHeartbeats 1000000 in
theorem isStrip_any (s : Fl.S) (w : World) : Calls Try.prog 77 #[stripV s] w fun e w' => e = .returned (.bool (Fl.okS s)) ∧ Below w.heap.size w w' := by
  have HX := Lib.hid (Fl.okS_bad (s := s))
  have HZ := Lib.hid (Fl.okS_good (s := s))
  have C := Lib.hid (fun W => isFrom_any (-20) 60 s.x W)
  generalize Fl.okS s = o at *
  obtain ⟨sx, sf, st⟩ := s
  dsimp only at *
  cases q1 : rng (-20) 60 sx
  · have HE := Lib.hid (HX.out (.inl q1))
    rw [q1] at C
    clear q1 HX HZ
    go_enter Try.func77, Try.ntmps77
    go_wp2_with fail
    refine (C.out _).mono ?_
    rintro e w1 ⟨rfl, rfl⟩
    go_wp2
    go_ret
    exact ⟨by rw [HE.out]; rfl, below_alloc2 (Below.refl _ _) _⟩
  by_cases p0 : sf < 0
  · skip
    have HE := Lib.hid (HX.out (.inr (.inl p0)))
    rw [q1] at C
    clear q1 HX HZ
    go_enter Try.func77, Try.ntmps77
    go_wp2_with fail
    refine (C.out _).mono ?_
    rintro e w1 ⟨rfl, rfl⟩
    go_wp2
    go_ret
    exact ⟨by rw [HE.out]; rfl, below_alloc2 (Below.refl _ _) _⟩
  by_cases p1 : st ≤ sf
  · skip
    have HE := Lib.hid (HX.out (.inr (.inr (.inl p1))))
    rw [q1] at C
    clear q1 HX HZ
    go_enter Try.func77, Try.ntmps77
    go_wp2_with fail
    refine (C.out _).mono ?_
    rintro e w1 ⟨rfl, rfl⟩
    go_wp2
    go_ret
    exact ⟨by rw [HE.out]; rfl, below_alloc2 (Below.refl _ _) _⟩
  by_cases p2 : 60 < st
  · have hd1 : decide (st ≤ 60) = false := decide_eq_false (by omega)
    have HE := Lib.hid (HX.out (.inr (.inr (.inr p2))))
    rw [q1] at C
    clear q1 HX HZ
    go_enter Try.func77, Try.ntmps77
    go_wp2_with fail
    refine (C.out _).mono ?_
    rintro e w1 ⟨rfl, rfl⟩
    go_wp2
    go_ret
    exact ⟨by rw [HE.out]; rfl, below_alloc2 (Below.refl _ _) _⟩
  have hd1 : decide (st ≤ 60) = true := decide_eq_true (by omega)
  have HE := Lib.hid (HZ.out q1 p0 p1 p2)
  rw [q1] at C
  clear q1 HX HZ
  go_enter Try.func77, Try.ntmps77
  go_wp2_with fail
  refine (C.out _).mono ?_
  rintro e w1 ⟨rfl, rfl⟩
  go_wp2
  go_ret
  exact ⟨by rw [HE.out]; rfl, below_alloc2 (Below.refl _ _) _⟩
def Fl.okM (M : Int) (r : Fl.L) : Bool := rng 1 300 r.l && rng 0 M r.p && rng 0 99 r.c
theorem Fl.okM_rng (M : Int) (r : Fl.L) : Fl.okM M r = (rng 1 300 r.l && rng 0 M r.p && rng 0 99 r.c) := rfl
theorem Fl.okL_M (m : Int) (r : Fl.L) : Fl.okL m r = Fl.okM (m - 1) r := rfl
set_option maxRecDepth 20000 in
set_option maxHeartbeats 1000000 in
theorem isRoll_any (r : Fl.L) (m M : Int) (w : World) (hw : IntKind.i64.wrap (m - 1) = M) : Calls Try.prog 78 #[rolV r, .int .i64 m] w fun e w' => e = .returned (.bool (Fl.okM M r)) ∧ Below w.heap.size w w' := by
  have HE := Lib.hid (Fl.okM_rng M r)
  have C1 := Lib.hid (fun W => isFrom_any 1 300 r.l W)
  have C2 := Lib.hid (fun W => isFrom_any 0 M r.p W)
  have C3 := Lib.hid (fun W => isFrom_any 0 99 r.c W)
  have bX := BlockAt.new w (rolA r) RolT
  have r1 : World.cell? _ _ = some (.int .i64 r.p) := bX.cell 1
  have r2 : World.cell? _ _ = some (.int .i64 r.c) := bX.cell 2
  generalize Fl.okM M r = o at *
  clear bX
  cases q1 : rng 1 300 r.l
  · rw [q1] at C1 HE
    clear q1
    go_enter Try.func78, Try.ntmps78
    go_wp2_with fail
    refine (C1.out _).mono ?_
    rintro e w1 ⟨rfl, rfl⟩
    go_wp2
    go_ret
    exact ⟨by rw [HE.out]; rfl, below_alloc2 (Below.refl _ _) _⟩
  rw [q1] at C1 HE
  clear q1
  cases q2 : rng 0 M r.p
  · rw [q2] at C2 HE
    clear q2
    go_enter Try.func78, Try.ntmps78
    go_wp2_with fail
    refine (C1.out _).mono ?_
    rintro e w1 ⟨rfl, rfl⟩
    go_wp2_with fail
    refine (C2.out _).mono ?_
    rintro e w1 ⟨rfl, rfl⟩
    go_wp2
    go_ret
    exact ⟨by rw [HE.out]; rfl, below_alloc2 (Below.refl _ _) _⟩
  rw [q2] at C2 HE
  clear q2
  generalize rng 0 99 r.c = b at *
  go_enter Try.func78, Try.ntmps78
  go_wp2_with fail
  refine (C1.out _).mono ?_
  rintro e w1 ⟨rfl, rfl⟩
  go_wp2_with fail
  refine (C2.out _).mono ?_
  rintro e w1 ⟨rfl, rfl⟩
  go_wp2_with fail
  refine (C3.out _).mono ?_
  rintro e w1 ⟨rfl, rfl⟩
  go_wp2
  go_ret
  exact ⟨by rw [HE.out]; rfl, below_alloc2 (Below.refl _ _) _⟩
set_option maxRecDepth 20000 in
theorem isRepeat_any (n : Int) (w : World) : Calls Try.prog 79 #[.int .i64 n] w fun e w' => e = .returned (.bool (rng 1 144 n)) ∧ w = w' := by
  have C := Lib.hid (fun W => isFrom_any 1 144 n W)
  generalize rng 1 144 n = r at *
  go_enter Try.func79, Try.ntmps79
  go_wp2_with fail
  refine (C.out _).mono ?_
  rintro e w1 ⟨rfl, rfl⟩
  go_wp2
  go_ret
  exact ⟨rfl, rfl⟩
end Go.Proofs.Ytpobkdbnldogcaa
