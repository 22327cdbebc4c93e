/- Small functions of package floor and of its reference: ranges, stretches, spans. -/
import Derived.Test.YtpobkdbnldogcaaFlM
namespace Go.Proofs.Ytpobkdbnldogcaa
open Go.RowKit

def rng (lo hi n : Int) : Bool := decide (lo ≤ n) && decide (n ≤ hi)
theorem rng_iff {lo hi n : Int} : rng lo hi n = true ↔ lo ≤ n ∧ n ≤ hi := by simp [rng]
theorem rng_no {lo hi n : Int} (h : rng lo hi n = false) : ¬ (lo ≤ n ∧ n ≤ hi) := fun hc => by rw [rng_iff.2 hc] at h; cases h
theorem stretch_rng (f s : Int) : Fl.stretch f s = (rng 0 60 f && rng 1 (60 - f) s) := rfl
set_option maxRecDepth 20000 in
theorem isFrom_any (lo hi n : Int) (w : World) : Calls Try.prog 84 #[.int .i64 lo, .int .i64 hi, .int .i64 n] w fun e w' => e = .returned (.bool (rng lo hi n)) ∧ w = w' := by
  by_cases h1 : lo ≤ n
  · have HE : Hid (rng lo hi n = decide (n ≤ hi)) := Lib.hid (by rw [rng, decide_eq_true h1]; rfl)
    generalize rng lo hi n = r at *
    go_enter Try.func84, Try.ntmps84
    go_wp2
    go_ret
    exact ⟨by rw [HE.out]; rfl, rfl⟩
  · have HE : Hid (rng lo hi n = false) := Lib.hid (by rw [rng, decide_eq_false h1]; rfl)
    generalize rng lo hi n = r at *
    go_enter Try.func84, Try.ntmps84
    go_wp2
    go_ret
    exact ⟨by rw [HE.out]; rfl, rfl⟩
set_option maxRecDepth 20000 in
theorem within_any (n lo hi : Int) (w : World) : Calls Try.prog 61 #[.int .i64 n, .int .i64 lo, .int .i64 hi] w fun e w' => e = .returned (.bool (rng lo hi n)) ∧ w = w' := by
  by_cases h1 : lo ≤ n
  · have HE : Hid (rng lo hi n = decide (n ≤ hi)) := Lib.hid (by rw [rng, decide_eq_true h1]; rfl)
    generalize rng lo hi n = r at *
    go_enter Try.func61, Try.ntmps61
    go_wp2
    go_ret
    exact ⟨by rw [HE.out]; rfl, rfl⟩
  · have HE : Hid (rng lo hi n = false) := Lib.hid (by rw [rng, decide_eq_false h1]; rfl)
    generalize rng lo hi n = r at *
    go_enter Try.func61, Try.ntmps61
    go_wp2
    go_ret
    exact ⟨by rw [HE.out]; rfl, rfl⟩
set_option maxRecDepth 20000 in
theorem isStretch_any (f s : Int) (w : World) : Calls Try.prog 112 #[.int .i64 f, .int .i64 s] w fun e w' => e = .returned (.bool (Fl.stretch f s)) ∧ w = w' := by
  have HE := Lib.hid (stretch_rng f s)
  generalize Fl.stretch f s = r at *
  have C1 := Lib.hid (fun W => isFrom_any 0 60 f W)
  have C2 := Lib.hid (fun W => isFrom_any 1 (60 - f) s W)
  cases h1 : rng 0 60 f
  · rw [h1] at C1 HE
    go_enter Try.func112, Try.ntmps112
    go_wp2_with fail
    refine (C1.out _).mono ?_
    rintro e w1 ⟨rfl, rfl⟩
    go_wp2
    go_ret
    exact ⟨by rw [HE.out]; rfl, rfl⟩
  · have h2 := rng_iff.1 h1
    rw [h1] at C1 HE
    clear h1
    generalize rng 1 (60 - f) s = b at *
    go_enter Try.func112, Try.ntmps112
    go_wp2_with fail
    refine (C1.out _).mono ?_
    rintro e w1 ⟨rfl, rfl⟩
    go_wp2_with fail
    refine (C2.out _).mono ?_
    rintro e w1 ⟨rfl, rfl⟩
    go_wp2
    go_ret
    exact ⟨by rw [HE.out]; rfl, rfl⟩
abbrev spanV (a b : Int) : Value := .agg #[.int .i64 a, .int .i64 b]
abbrev RectT : TypeId := 52
abbrev SpanT : TypeId := 91
theorem okR_sum {r : Fl.R} (h : Fl.okR r = true) : (0 ≤ r.x ∧ r.x ≤ 60) ∧ (0 ≤ r.y ∧ r.y ≤ 60) ∧ (1 ≤ r.w ∧ r.w ≤ 60) ∧ (1 ≤ r.h ∧ r.h ≤ 60) := by
  obtain ⟨⟨a, b, c, d⟩, ⟨e, f, g, i⟩⟩ := Fl.okR_iff.1 h
  exact ⟨⟨a, b⟩, ⟨e, f⟩, ⟨c, by omega⟩, ⟨g, by omega⟩⟩
set_option maxRecDepth 20000 in
theorem columns_any (r : Fl.R) (h : Fl.okR r = true) (w : World) : Calls Try.prog 110 #[rectV r] w fun e w' => e = .returned (spanV r.x (r.x + r.w)) ∧ Below w.heap.size w w' := by
  obtain ⟨⟨x0, x1⟩, ⟨y0, y1⟩, ⟨w0, w1⟩, ⟨h0, h1⟩⟩ := okR_sum h
  obtain ⟨x, y, ww, hh⟩ := r
  dsimp only at *
  clear h
  go_enter Try.func110, Try.ntmps110
  go_wp2
  exact bodyPost_ret (v := spanV x (x + ww)) (by simp [results, Try.results110, go_sem]) rfl ⟨rfl, below_alloc2 (below_alloc2 (Below.refl _ _) _) _⟩
set_option maxRecDepth 20000 in
theorem rows_any (r : Fl.R) (h : Fl.okR r = true) (w : World) : Calls Try.prog 111 #[rectV r] w fun e w' => e = .returned (spanV r.y (r.y + r.h)) ∧ Below w.heap.size w w' := by
  obtain ⟨⟨x0, x1⟩, ⟨y0, y1⟩, ⟨w0, w1⟩, ⟨h0, h1⟩⟩ := okR_sum h
  obtain ⟨x, y, ww, hh⟩ := r
  dsimp only at *
  clear h
  go_enter Try.func111, Try.ntmps111
  go_wp2
  exact bodyPost_ret (v := spanV y (y + hh)) (by simp [results, Try.results111, go_sem]) rfl ⟨rfl, below_alloc2 (below_alloc2 (Below.refl _ _) _) _⟩
theorem Fl.mt_def (a b c d : Int) : Fl.mt a b c d = (decide (a < d) && decide (c < b)) := rfl
theorem Fl.hd_def (a b n : Int) : Fl.hd a b n = (decide (a ≤ n) && decide (n < b)) := rfl
set_option maxRecDepth 20000 in
theorem meet_any (a b c d : Int) (w : World) : Calls Try.prog 113 #[spanV a b, spanV c d] w fun e w' => e = .returned (.bool (Fl.mt a b c d)) ∧ Below w.heap.size w w' := by
  have HE := Lib.hid (Fl.mt_def a b c d)
  generalize Fl.mt a b c d = r at *
  by_cases h1 : a < d
  · rw [decide_eq_true h1] at HE
    go_enter Try.func113, Try.ntmps113
    go_wp2
    go_ret
    exact ⟨by rw [HE.out]; rfl, (((Below.refl _ _).alloc (Nat.le_refl _) _).alloc (by simp) _)⟩
  · rw [decide_eq_false h1] at HE
    go_enter Try.func113, Try.ntmps113
    go_wp2
    go_ret
    exact ⟨by rw [HE.out]; rfl, (((Below.refl _ _).alloc (Nat.le_refl _) _).alloc (by simp) _)⟩
set_option maxRecDepth 20000 in
theorem holds_any (a b n : Int) (w : World) : Calls Try.prog 100 #[spanV a b, .int .i64 n] w fun e w' => e = .returned (.bool (Fl.hd a b n)) ∧ Below w.heap.size w w' := by
  have HE := Lib.hid (Fl.hd_def a b n)
  generalize Fl.hd a b n = r at *
  by_cases h1 : a ≤ n
  · rw [decide_eq_true h1] at HE
    go_enter Try.func100, Try.ntmps100
    go_wp2
    go_ret
    exact ⟨by rw [HE.out]; rfl, (((Below.refl _ _).alloc (Nat.le_refl _) _))⟩
  · rw [decide_eq_false h1] at HE
    go_enter Try.func100, Try.ntmps100
    go_wp2
    go_ret
    exact ⟨by rw [HE.out]; rfl, (((Below.refl _ _).alloc (Nat.le_refl _) _))⟩
end Go.Proofs.Ytpobkdbnldogcaa
