/- Working time adds up: what the law looks at, without the program. -/
import Derived.Test.YtmmmlcnclehilaaDoorTimeN
import Derived.Test.YtmmmlcnclehilaaDoorWork2
import Derived.Test.YtmmmlcnclehilaaDoorShareP
namespace Go.Proofs.YtmmmlcnclehilaaDoor
namespace Cal
theorem dayV_self {s e d x : Int} {o : Bool} : dayV s e o d x x = 0 := by
  unfold dayV
  cases o with
  | false => simp
  | true =>
    simp only [if_true]
    split <;> omega
theorem sumV_self {s e x : Int} {rs hs : List Int} : ∀ {n : Nat} {d : Int}, sumV s e rs hs x x n d = 0
  | 0, _ => rfl
  | n + 1, d => by rw [sumV, dayV_self, sumV_self]; rfl
theorem sumV_bd {s e x y : Int} {rs hs : List Int} (h1 : 0 ≤ s) (h2 : e ≤ 1440) : ∀ {n : Nat} {d : Int}, 0 ≤ sumV s e rs hs x y n d ∧ sumV s e rs hs x y n d ≤ n * 1440
  | 0, _ => by simp [sumV]
  | n + 1, d => by
    have i := sumV_bd (s := s) (e := e) (x := x) (y := y) (rs := rs) (hs := hs) h1 h2 (n := n) (d := d + 1)
    have j := dayV_bounds (s := s) (e := e) (d := d) (x := x) (y := y) (o := openB rs hs d) h1 h2
    rw [sumV]
    push_cast
    omega
theorem a_high {s e x : Int} {rs hs : List Int} (h2 : e ≤ 1440) : ∀ {n : Nat} {d m : Int}, 1 ≤ m → aE s e rs hs x n d m = 0 → aV s e rs hs x n d m ≤ 2880000
  | 0, d, m, _, h => by simp [aE] at h
  | n + 1, d, m, hm, h => by
    rw [aE] at h
    rw [aV]
    by_cases k : dayV s e (openB rs hs d) d x 2880000 < m
    · rw [if_pos k] at h ⊢
      exact a_high h2 (by omega) h
    · rw [if_neg k]
      unfold dayV at k
      split at k
      · split at k <;> omega
      · omega
theorem a_mono {s e x : Int} {rs hs : List Int} : ∀ {n : Nat} {d m q : Int}, q ≤ m → aE s e rs hs x n d m = 0 → aE s e rs hs x n d q = 0
  | 0, d, m, q, _, h => by simp [aE] at h
  | n + 1, d, m, q, hq, h => by
    rw [aE] at h ⊢
    by_cases k : dayV s e (openB rs hs d) d x 2880000 < q
    · rw [if_pos (by omega)] at h
      rw [if_pos k]
      exact a_mono (by omega) h
    · rw [if_neg k]
theorem af_dom {s e x m : Int} {rs hs : List Int} (hv : valE s e rs hs = 0) (h : afE s e rs hs x m = 0) : 0 ≤ x ∧ x ≤ 2880000 ∧ 0 ≤ m := by
  unfold afE at h
  rw [if_pos hv] at h
  by_cases k : 0 ≤ x ∧ x ≤ 2880000 ∧ 0 ≤ m
  · exact k
  · rw [if_neg k] at h; omega
theorem af_zero {s e x : Int} {rs hs : List Int} (hv : valE s e rs hs = 0) (h1 : 0 ≤ x) (h2 : x ≤ 2880000) : afV s e rs hs x 0 = x ∧ afE s e rs hs x 0 = 0 := by
  unfold afV afE
  rw [if_pos hv, if_pos hv]
  simp [h1, h2]
theorem af_pos {s e x m : Int} {rs hs : List Int} (hv : valE s e rs hs = 0) (h1 : 0 ≤ x) (h2 : x ≤ 2880000) (hm : 1 ≤ m) : afV s e rs hs x m = aV s e rs hs x 2000 0 m ∧ afE s e rs hs x m = aE s e rs hs x 2000 0 m := by
  unfold afV afE
  have k : 0 ≤ x ∧ x ≤ 2880000 ∧ 0 ≤ m := ⟨h1, h2, by omega⟩
  have k2 : ¬ m = 0 := by omega
  simp only [hv, if_true, if_pos k, if_neg k2, and_self]
/-- The time that is found. -/
theorem af_time {s e x m : Int} {rs hs : List Int} (hv : valE s e rs hs = 0) (h : afE s e rs hs x m = 0) :
    x ≤ afV s e rs hs x m ∧ afV s e rs hs x m ≤ 2880000 ∧ m ≤ 2880000 ∧ sumV s e rs hs x (afV s e rs hs x m) 2000 0 = m ∧ (1 ≤ m → x ≤ afV s e rs hs x m - 1 ∧ sumV s e rs hs x (afV s e rs hs x m - 1) 2000 0 = m - 1) := by
  obtain ⟨v1, v2, v3, v4⟩ := valE_zero_times hv
  obtain ⟨d1, d2, d3⟩ := af_dom hv h
  by_cases hm : m = 0
  · subst hm
    rw [(af_zero hv d1 d2).1]
    exact ⟨Int.le_refl _, d2, by omega, sumV_self, fun h => absurd h (by omega)⟩
  · obtain ⟨p1, p2⟩ := af_pos (rs := rs) (hs := hs) hv d1 d2 (show 1 ≤ m by omega)
    rw [p2] at h
    rw [p1]
    have lo := a_low (x := x) (rs := rs) (hs := hs) v1 (n := 2000) (d := 0) (m := m) (by omega) h
    have hi := a_high (s := s) (x := x) (rs := rs) (hs := hs) v4 (n := 2000) (d := 0) (m := m) (by omega) h
    have su := a_sum (x := x) (rs := rs) (hs := hs) v1 v4 (n := 2000) (d := 0) (m := m) (by omega) (by omega) h
    have bd := sumV_bd (s := s) (e := e) (x := x) (y := aV s e rs hs x 2000 0 m) (rs := rs) (hs := hs) v1 v4 (n := 2000) (d := 0)
    exact ⟨by omega, hi, by omega, su.1, fun _ => ⟨by omega, su.2⟩⟩
/-- Going on. -/
theorem af_more {s e x S p : Int} {rs hs : List Int} (hv : valE s e rs hs = 0) (h : afE s e rs hs x S = 0) (hp : 0 ≤ p) :
    afV s e rs hs (afV s e rs hs x S) p = afV s e rs hs x (S + p) ∧ afE s e rs hs (afV s e rs hs x S) p = afE s e rs hs x (S + p) := by
  obtain ⟨v1, v2, v3, v4⟩ := valE_zero_times hv
  obtain ⟨d1, d2, d3⟩ := af_dom hv h
  obtain ⟨t1, t2, _⟩ := af_time hv h
  by_cases hS : S = 0
  · subst hS
    rw [(af_zero hv d1 d2).1, Int.zero_add]
    exact ⟨rfl, rfl⟩
  · by_cases hp0 : p = 0
    · subst hp0
      rw [Int.add_zero, (af_zero hv (by omega) t2).1, (af_zero hv (by omega) t2).2, h]
      exact ⟨rfl, rfl⟩
    · obtain ⟨p1, p2⟩ := af_pos (rs := rs) (hs := hs) hv d1 d2 (show 1 ≤ S by omega)
      obtain ⟨q1, q2⟩ := af_pos (rs := rs) (hs := hs) hv d1 d2 (show 1 ≤ S + p by omega)
      obtain ⟨r1, r2⟩ := af_pos (rs := rs) (hs := hs) (x := afV s e rs hs x S) hv (by omega) t2 (show 1 ≤ p by omega)
      rw [r1, r2, q1, q2, p1]
      rw [p2] at h
      exact a_more v1 v4 (by omega) (by omega) (by omega) h
theorem af_mono {s e x m S : Int} {rs hs : List Int} (hv : valE s e rs hs = 0) (h : afE s e rs hs x m = 0) (h0 : 0 ≤ S) (h1 : S ≤ m) : afE s e rs hs x S = 0 := by
  obtain ⟨d1, d2, d3⟩ := af_dom hv h
  by_cases hS : S = 0
  · subst hS; exact (af_zero hv d1 d2).2
  · rw [(af_pos hv d1 d2 (by omega)).2]
    rw [(af_pos hv d1 d2 (by omega)).2] at h
    exact a_mono h1 h
theorem w_ok {s e x y : Int} {rs hs : List Int} (hv : valE s e rs hs = 0) (h : 0 ≤ x ∧ x ≤ y ∧ y ≤ 2880000) : wV s e rs hs x y = sumV s e rs hs x y 2000 0 ∧ wE s e rs hs x y = 0 := by
  unfold wV wE
  simp only [hv, if_true, if_pos h, and_self]
theorem w_dom {s e x y : Int} {rs hs : List Int} (hv : valE s e rs hs = 0) (h : wE s e rs hs x y = 0) : 0 ≤ x ∧ x ≤ y ∧ y ≤ 2880000 := by
  unfold wE at h
  rw [if_pos hv] at h
  by_cases k : 0 ≤ x ∧ x ≤ y ∧ y ≤ 2880000
  · exact k
  · rw [if_neg k] at h; omega
/-- Working time adds up. -/
theorem w_add {s e x b y : Int} {rs hs : List Int} (hv : valE s e rs hs = 0) (h1 : wE s e rs hs x b = 0) (h2 : wE s e rs hs b y = 0) :
    wE s e rs hs x y = 0 ∧ wV s e rs hs x y = wV s e rs hs x b + wV s e rs hs b y ∧ 0 ≤ wV s e rs hs x b ∧ wV s e rs hs x b ≤ 2880000 ∧ 0 ≤ wV s e rs hs b y ∧ wV s e rs hs b y ≤ 2880000 := by
  obtain ⟨v1, v2, v3, v4⟩ := valE_zero_times hv
  have d1 := w_dom hv h1
  have d2 := w_dom hv h2
  have d3 : 0 ≤ x ∧ x ≤ y ∧ y ≤ 2880000 := by omega
  rw [(w_ok hv d1).1, (w_ok hv d2).1, (w_ok hv d3).1, (w_ok hv d3).2]
  have b1 := sumV_bd (s := s) (e := e) (x := x) (y := b) (rs := rs) (hs := hs) v1 v4 (n := 2000) (d := 0)
  have b2 := sumV_bd (s := s) (e := e) (x := b) (y := y) (rs := rs) (hs := hs) v1 v4 (n := 2000) (d := 0)
  exact ⟨rfl, (sumV_add d1.2.1 d2.2.1).symm, b1.1, by omega, b2.1, by omega⟩
end Cal
namespace Lr
theorem sumN_nonneg {f : Nat → Int} : ∀ {n : Nat}, (∀ i, i < n → 0 ≤ f i) → 0 ≤ sumN f n
  | 0, _ => Int.le_refl _
  | n + 1, h => by
    have := sumN_nonneg (n := n) fun i hi => h i (by omega)
    have := h n (by omega)
    show 0 ≤ sumN f n + f n
    omega
end Lr
end Go.Proofs.YtmmmlcnclehilaaDoor
