/- Working time adds up, without the program. -/
import Derived.Test.YtmmmlcnclehilaaDoorAfter
namespace Go.Proofs.YtmmmlcnclehilaaDoor
namespace Cal

theorem dayV_add {s e d x b y : Int} {o : Bool} (h1 : x ≤ b) (h2 : b ≤ y) : dayV s e o d x b + dayV s e o d b y = dayV s e o d x y := by
  unfold dayV
  cases o with
  | false => simp
  | true =>
    simp only [if_true]
    by_cases k1 : min (d * 1440 + e) b < max (d * 1440 + s) x <;> by_cases k2 : min (d * 1440 + e) y < max (d * 1440 + s) b <;> by_cases k3 : min (d * 1440 + e) y < max (d * 1440 + s) x
    all_goals simp only [k1, k2, k3, if_true, if_false]
    all_goals omega
theorem sumV_add {s e x b y : Int} {rs hs : List Int} (h1 : x ≤ b) (h2 : b ≤ y) : ∀ {n : Nat} {d : Int}, sumV s e rs hs x b n d + sumV s e rs hs b y n d = sumV s e rs hs x y n d
  | 0, _ => rfl
  | n + 1, d => by
    have ih := sumV_add (s := s) (e := e) (rs := rs) (hs := hs) h1 h2 (n := n) (d := d + 1)
    have hd := dayV_add (s := s) (e := e) (d := d) (o := openB rs hs d) h1 h2
    rw [sumV, sumV, sumV]
    omega

/-- A time that is found lies behind the day's midnight and behind the first time. -/
theorem a_low {s e x : Int} {rs hs : List Int} (h1 : 0 ≤ s) : ∀ {n : Nat} {d m : Int}, 1 ≤ m → aE s e rs hs x n d m = 0 → d * 1440 + 1 ≤ aV s e rs hs x n d m ∧ x + 1 ≤ aV s e rs hs x n d m
  | 0, d, m, _, h => by simp [aE] at h
  | n + 1, d, m, hm, h => by
    rw [aE] at h
    rw [aV]
    by_cases k : dayV s e (openB rs hs d) d x 2880000 < m
    · rw [if_pos k] at h ⊢
      have ih := a_low (s := s) (e := e) (x := x) (rs := rs) (hs := hs) h1 (n := n) (d := d + 1) (by omega) h
      omega
    · rw [if_neg k]; omega
theorem dayV_full {s e d x t : Int} {o : Bool} (h : d * 1440 + 1440 ≤ t) (ht : d < 2000) (h2 : e ≤ 1440) : dayV s e o d x t = dayV s e o d x 2880000 := by
  have a1 : min (d * 1440 + e) t = d * 1440 + e := by omega
  have a2 : min (d * 1440 + e) 2880000 = d * 1440 + e := by omega
  unfold dayV
  rw [a1, a2]
/-- What is worked up to the time that is found, and a minute before. -/
theorem a_sum {s e x : Int} {rs hs : List Int} (h1 : 0 ≤ s) (h2 : e ≤ 1440) : ∀ {n : Nat} {d m : Int}, d + n ≤ 2000 → 1 ≤ m → aE s e rs hs x n d m = 0 →
    sumV s e rs hs x (aV s e rs hs x n d m) n d = m ∧ sumV s e rs hs x (aV s e rs hs x n d m - 1) n d = m - 1
  | 0, d, m, _, _, h => by simp [aE] at h
  | n + 1, d, m, hn, hm, h => by
    rw [aE] at h
    rw [aV]
    by_cases k : dayV s e (openB rs hs d) d x 2880000 < m
    · rw [if_pos k] at h ⊢
      obtain ⟨i1, i2⟩ := a_sum (s := s) (e := e) (x := x) (rs := rs) (hs := hs) h1 h2 (n := n) (d := d + 1) (by push_cast at hn; omega) (by omega) h
      have lo := (a_low (s := s) (e := e) (x := x) (rs := rs) (hs := hs) h1 (n := n) (d := d + 1) (by omega) h).1
      generalize aV s e rs hs x n (d + 1) (m - dayV s e (openB rs hs d) d x 2880000) = t at *
      rw [sumV, sumV, i1, i2, dayV_full (t := t) (by omega) (by push_cast at hn; omega) h2, dayV_full (t := t - 1) (by omega) (by push_cast at hn; omega) h2]
      omega
    · rw [if_neg k]
      have hp : 0 < dayV s e (openB rs hs d) d x 2880000 := by omega
      have hd : d < 2000 := by push_cast at hn; omega
      cases ho : openB rs hs d with
      | false => rw [ho] at hp; exact absurd hp (by show ¬ (0 : Int) < 0; decide)
      | true =>
        rw [ho] at k hp
        have a2 : min (d * 1440 + e) 2880000 = d * 1440 + e := by omega
        unfold dayV at k hp
        rw [a2] at k hp
        simp only [if_true] at k hp
        by_cases k3 : d * 1440 + e < max (d * 1440 + s) x
        · rw [if_pos k3] at hp; omega
        · rw [if_neg k3] at k hp
          have e1 : min (d * 1440 + e) (max (d * 1440 + s) x + m) = max (d * 1440 + s) x + m := by omega
          have e2 : min (d * 1440 + e) (max (d * 1440 + s) x + m - 1) = max (d * 1440 + s) x + m - 1 := by omega
          have l1 : sumV s e rs hs x (max (d * 1440 + s) x + m) n (d + 1) = 0 := sumV_late h1 (by omega)
          have l2 : sumV s e rs hs x (max (d * 1440 + s) x + m - 1) n (d + 1) = 0 := sumV_late h1 (by omega)
          rw [sumV, sumV, l1, l2, ho]
          unfold dayV
          rw [e1, e2]
          simp only [if_true]
          rw [if_neg (by omega), if_neg (by omega)]
          omega

/-- From a day on the first time plays no part if it is not behind the day's midnight. -/
theorem dayV_free {s e d x y z : Int} {o : Bool} (h1 : 0 ≤ s) (hx : x ≤ d * 1440) (hy : y ≤ d * 1440) : dayV s e o d x z = dayV s e o d y z := by
  unfold dayV
  rw [show max (d * 1440 + s) x = d * 1440 + s by omega, show max (d * 1440 + s) y = d * 1440 + s by omega]
theorem a_free {s e x y : Int} {rs hs : List Int} (h1 : 0 ≤ s) : ∀ {n : Nat} {d m : Int}, x ≤ d * 1440 → y ≤ d * 1440 → aV s e rs hs x n d m = aV s e rs hs y n d m ∧ aE s e rs hs x n d m = aE s e rs hs y n d m
  | 0, _, _, _, _ => ⟨rfl, rfl⟩
  | n + 1, d, m, hx, hy => by
    obtain ⟨i1, i2⟩ := a_free (s := s) (e := e) (rs := rs) (hs := hs) h1 (n := n) (d := d + 1) (m := m - dayV s e (openB rs hs d) d y 2880000) (x := x) (y := y) (by omega) (by omega)
    rw [aV, aE, aV, aE, dayV_free (y := y) h1 hx hy, i1, i2, show max (d * 1440 + s) x = d * 1440 + s by omega, show max (d * 1440 + s) y = d * 1440 + s by omega]
    exact ⟨rfl, rfl⟩

/-- Going on from a time that was found is going on from the first one. -/
theorem a_more {s e x : Int} {rs hs : List Int} (h1 : 0 ≤ s) (h2 : e ≤ 1440) {q : Int} (hq : 1 ≤ q) : ∀ {n : Nat} {d m : Int}, d + n ≤ 2000 → 1 ≤ m → aE s e rs hs x n d m = 0 →
    aV s e rs hs (aV s e rs hs x n d m) n d q = aV s e rs hs x n d (m + q) ∧ aE s e rs hs (aV s e rs hs x n d m) n d q = aE s e rs hs x n d (m + q)
  | 0, d, m, _, _, h => by simp [aE] at h
  | n + 1, d, m, hn, hm, h => by
    rw [aE] at h
    have hd : d < 2000 := by push_cast at hn; omega
    by_cases k : dayV s e (openB rs hs d) d x 2880000 < m
    · rw [if_pos k] at h
      have ev : aV s e rs hs x (n + 1) d m = aV s e rs hs x n (d + 1) (m - dayV s e (openB rs hs d) d x 2880000) := by rw [aV, if_pos k]
      rw [ev]
      obtain ⟨i1, i2⟩ := a_more (s := s) (e := e) (x := x) (rs := rs) (hs := hs) h1 h2 hq (n := n) (d := d + 1) (m := m - dayV s e (openB rs hs d) d x 2880000) (by push_cast at hn; omega) (by omega) h
      have lo := (a_low (s := s) (e := e) (x := x) (rs := rs) (hs := hs) h1 (n := n) (d := d + 1) (by omega) h).1
      generalize aV s e rs hs x n (d + 1) (m - dayV s e (openB rs hs d) d x 2880000) = t at *
      have z : dayV s e (openB rs hs d) d t 2880000 = 0 := dayV_early h2 (by omega)
      rw [aV, aE, aV, aE, z, if_pos (by omega), if_pos (by omega), if_pos (by omega), if_pos (by omega), show q - 0 = q by omega, i1, i2]
      rw [show m - dayV s e (openB rs hs d) d x 2880000 + q = m + q - dayV s e (openB rs hs d) d x 2880000 by omega]
      exact ⟨rfl, rfl⟩
    · have hp : 0 < dayV s e (openB rs hs d) d x 2880000 := by omega
      have ev : aV s e rs hs x (n + 1) d m = max (d * 1440 + s) x + m := by rw [aV, if_neg k]
      rw [ev]
      cases ho : openB rs hs d with
      | false => rw [ho] at hp; exact absurd hp (by show ¬ (0 : Int) < 0; decide)
      | true =>
        rw [ho] at k hp
        have a2 : min (d * 1440 + e) 2880000 = d * 1440 + e := by omega
        have hv : dayV s e true d x 2880000 = d * 1440 + e - max (d * 1440 + s) x := by
          unfold dayV at hp ⊢
          rw [a2] at hp ⊢
          simp only [if_true] at hp ⊢
          by_cases k3 : d * 1440 + e < max (d * 1440 + s) x
          · rw [if_pos k3] at hp; omega
          · rw [if_neg k3]
        have hw : dayV s e true d (max (d * 1440 + s) x + m) 2880000 = d * 1440 + e - (max (d * 1440 + s) x + m) := by
          unfold dayV
          rw [a2, show max (d * 1440 + s) (max (d * 1440 + s) x + m) = max (d * 1440 + s) x + m by omega]
          simp only [if_true]
          rw [if_neg (by omega)]
        obtain ⟨f1, f2⟩ := a_free (s := s) (e := e) (rs := rs) (hs := hs) h1 (n := n) (d := d + 1) (m := m + q - dayV s e true d x 2880000) (x := max (d * 1440 + s) x + m) (y := x) (by omega) (by omega)
        rw [aV, aE, aV, aE, ho, hw, show max (d * 1440 + s) (max (d * 1440 + s) x + m) = max (d * 1440 + s) x + m by omega]
        by_cases k2 : dayV s e true d x 2880000 < m + q
        · have kt : d * 1440 + e - (max (d * 1440 + s) x + m) < q := by omega
          rw [if_pos kt, if_pos kt, if_pos k2, if_pos k2, show q - (d * 1440 + e - (max (d * 1440 + s) x + m)) = m + q - dayV s e true d x 2880000 by omega, f1, f2]
          exact ⟨rfl, rfl⟩
        · have kt : ¬ d * 1440 + e - (max (d * 1440 + s) x + m) < q := by omega
          rw [if_neg kt, if_neg kt, if_neg k2, if_neg k2]
          exact ⟨by omega, rfl⟩
end Cal
end Go.Proofs.YtmmmlcnclehilaaDoor
