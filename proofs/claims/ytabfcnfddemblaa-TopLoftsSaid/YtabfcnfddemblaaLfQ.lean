/- Hangings, heats and loads in plain words: what the reference reckons otherwise; two hangings that differ by a drop. -/
import Derived.Test.YtabfcnfddemblaaLfP
namespace Go.Proofs.Ytabfcnfddemblaa
namespace Lf

theorem emod_of {x m q r : Int} (h : x = r + m * q) (h0 : 0 ≤ r) (h1 : r < m) : x % m = r := by
  rw [h, Int.add_mul_emod_self_left, Int.emod_eq_of_lt h0 h1]
/-- The reference's height: the place behind the pole. -/
theorem beh_pos {h : H} {p : Int} (hd : 1 ≤ h.d) (h0 : 0 ≤ p - h.s) : ((p - h.s) % (2 * h.d) + 2 * h.d) % (2 * h.d) = (p + 2 * h.d - h.s) % (2 * h.d) := by
  rw [show p + 2 * h.d - h.s = (p - h.s) + 2 * h.d by omega, Int.add_emod_right, Int.add_emod_right, Int.emod_emod_of_dvd _ (Int.dvd_refl _)]
theorem beh_neg {h : H} {p : Int} (_h0 : ¬ 0 ≤ p - h.s) : ((p - h.s) + 2 * h.d) % (2 * h.d) = (p + 2 * h.d - h.s) % (2 * h.d) := by
  rw [show p + 2 * h.d - h.s = (p - h.s) + 2 * h.d by omega]
theorem tmod_neg {a m : Int} (h0 : a < 0) (h1 : -m < a) : a.tmod m = a := by
  have hm : 0 < m := by omega
  have e : (-a).tmod m = -a := by rw [Int.tmod_eq_emod_of_nonneg (by omega)]; exact Int.emod_eq_of_lt (by omega) (by omega)
  have := Int.neg_tmod (a := -a) (b := m)
  rw [Int.neg_neg] at this
  rw [this, e, Int.neg_neg]
/-- The hanging that differs by a drop. -/
def ev (h : H) : H := { h with s := (h.s + h.d) % (2 * h.d) }
theorem ev_s {h : H} (hv : vH h = true) : (ev h).s = if h.s < h.d then h.s + h.d else h.s - h.d := by
  obtain ⟨⟨d1, d2⟩, ⟨s1, s2⟩, _⟩ := vH_iff.1 hv
  show (h.s + h.d) % (2 * h.d) = _
  split
  · exact Int.emod_eq_of_lt (by omega) (by omega)
  · exact emod_of (q := 1) (by omega) (by omega) (by omega)
theorem ev_ok {h : H} (hv : vH h = true) : vH (ev h) = true := by
  obtain ⟨⟨d1, d2⟩, ⟨s1, s2⟩, h3⟩ := vH_iff.1 hv
  refine vH_iff.2 ⟨⟨d1, d2⟩, ?_, h3⟩
  rw [ev_s hv]
  show 0 ≤ _ ∧ _ ≤ 2 * h.d - 1
  split <;> omega
theorem ev_hgt {h : H} (hv : vH h = true) (p : Int) : hgt h p + hgt (ev h) p = h.d := by
  obtain ⟨⟨d1, d2⟩, ⟨s1, s2⟩, _⟩ := vH_iff.1 hv
  have hs := ev_s hv
  have hd : (ev h).d = h.d := rfl
  unfold hgt
  rw [hd]
  have e := Int.emod_add_mul_ediv (p + 2 * h.d - h.s) (2 * h.d)
  have a0 := Int.emod_nonneg (p + 2 * h.d - h.s) (show 2 * h.d ≠ 0 by omega)
  have a1 := Int.emod_lt_of_pos (p + 2 * h.d - h.s) (show 0 < 2 * h.d by omega)
  generalize (p + 2 * h.d - h.s) % (2 * h.d) = A at *
  generalize (p + 2 * h.d - h.s) / (2 * h.d) = q at *
  have eq1 : 2 * h.d * (q - 1) = 2 * h.d * q - 2 * h.d := by rw [Int.mul_sub, Int.mul_one]
  have eq2 : 2 * h.d * (q + 1) = 2 * h.d * q + 2 * h.d := by rw [Int.mul_add, Int.mul_one]
  by_cases c1 : h.s < h.d
  · rw [if_pos c1] at hs
    by_cases c2 : h.d ≤ A
    · rw [emod_of (x := p + 2 * h.d - (ev h).s) (m := 2 * h.d) (q := q) (r := A - h.d) (by omega) (by omega) (by omega)]
      omega
    · rw [emod_of (x := p + 2 * h.d - (ev h).s) (m := 2 * h.d) (q := q - 1) (r := A + h.d) (by omega) (by omega) (by omega)]
      omega
  · rw [if_neg c1] at hs
    by_cases c2 : h.d ≤ A
    · rw [emod_of (x := p + 2 * h.d - (ev h).s) (m := 2 * h.d) (q := q + 1) (r := A - h.d) (by omega) (by omega) (by omega)]
      omega
    · rw [emod_of (x := p + 2 * h.d - (ev h).s) (m := 2 * h.d) (q := q) (r := A + h.d) (by omega) (by omega) (by omega)]
      omega
def evR (h : H) : Int := h.y * (2 * h.r - h.f * h.d)
theorem ev_rip {h : H} (hv : vH h = true) (p : Int) : rip [h, ev h] p 2 = evR h := by
  show 0 + ri h p + ri (ev h) p = _
  unfold ri evR
  have e := ev_hgt hv p
  have e1 : (ev h).y = h.y := rfl
  have e2 : (ev h).r = h.r := rfl
  have e3 : (ev h).f = h.f := rfl
  rw [e1, e2, e3, ← e, Int.zero_add, ← Int.mul_add, Int.mul_add h.f]
  congr 1
  omega
theorem ev_mn {h : H} (hv : vH h = true) : ∀ n, mnN [h, ev h] n = evR h
  | 0 => ev_rip hv 0
  | n + 1 => by rw [mnN, ev_mn hv n, show rip [h, ev h] n [h, ev h].length = evR h from ev_rip hv n]; omega
theorem ev_mx {h : H} (hv : vH h = true) : ∀ n, mxN [h, ev h] n = evR h
  | 0 => ev_rip hv 0
  | n + 1 => by rw [mxN, ev_mx hv n, show rip [h, ev h] n [h, ev h].length = evR h from ev_rip hv n]; omega
theorem ev_vl {h : H} (hv : vH h = true) : vlE [h, ev h] = 0 := by
  refine vlE_ok (by simp) fun k hk => ?_
  have : k < 2 := hk
  match k, this with
  | 0, _ => exact hv
  | 1, _ => exact ev_ok hv
theorem ev_ran {h : H} {n : Int} (hv : vH h = true) (h1 : 1 ≤ n) (h2 : n ≤ 4000) : ranE [h, ev h] n = 0 ∧ ranL [h, ev h] n = evR h ∧ ranM [h, ev h] n = evR h := by
  have e : ranE [h, ev h] n = 0 := by rw [ranE, if_pos (ev_vl hv), if_pos (rng_iff.2 ⟨h1, h2⟩)]
  refine ⟨e, ?_, ?_⟩
  · rw [ranL, if_pos e]; exact ev_mn hv _
  · rw [ranM, if_pos e]; exact ev_mx hv _
theorem stp_ref (a b : Int) : (rng 0 4 b && rng (a - 1) (a + 1) b) = stp a b := by
  unfold stp rng
  rw [Bool.eq_iff_iff]
  simp only [Bool.and_eq_true, decide_eq_true_eq]
  omega
end Lf
end Go.Proofs.Ytabfcnfddemblaa
