/- The quotient of two words by a small number, as the library reckons it: the plain part. -/
namespace Go.Proofs.Ytccjbefmcifaeaa
namespace Dv
/-- With T = 2^32, P = 2^s, R = 2^(64 - s), v = y * 2^(s - 32). -/
theorem q_eq {hi lo y v T P R : Nat} (hT : 0 < T) (hP : 0 < P) (hR : 0 < R) (hPR : P * R = T * T) (hy : 0 < y) (hv : v * T = y * P) (hh : hi < y) (hlo : lo < T * T)
    {u32 u10 u1 u0 q1 r1 u21 q0 r0 : Nat} (h32 : u32 = hi * P + lo / R) (h10 : u10 = lo % R * P) (hu1 : u1 = u10 / T) (hu0 : u0 = u10 % T) (hq1 : q1 = u32 / v) (hr1 : r1 = u32 % v)
    (h21 : u21 = r1 * T + u1) (hq0 : q0 = u21 / v) (hr0 : r0 = u21 % v) :
    q1 < T ∧ q0 < T ∧ u32 < v * T ∧ u21 < v * T ∧ u10 < T * T ∧ u1 < T ∧ u0 < T ∧ q1 * T + q0 = (hi * (T * T) + lo) / y ∧ r0 * T + u0 = (hi * (T * T) + lo) % y * P := by
  have hv0 : 0 < v := by
    rcases Nat.eq_zero_or_pos v with h | h
    · subst h; have := Nat.mul_pos hy hP; omega
    · exact h
  have d1 := Nat.div_add_mod lo R
  have d2 := Nat.mod_lt lo hR
  have d3 : lo / R < P := Nat.div_lt_of_lt_mul (by rw [Nat.mul_comm, hPR]; exact hlo)
  have l32 : u32 < v * T := by
    have : (hi + 1) * P ≤ y * P := Nat.mul_le_mul_right _ hh
    rw [Nat.add_mul] at this
    omega
  have l10 : u10 < T * T := by
    rw [h10, ← hPR, Nat.mul_comm P]
    exact Nat.mul_lt_mul_of_pos_right d2 hP
  have e1 : v * q1 + r1 = u32 := by rw [hq1, hr1]; exact Nat.div_add_mod u32 v
  have e0 : v * q0 + r0 = u21 := by rw [hq0, hr0]; exact Nat.div_add_mod u21 v
  have l1 : r1 < v := by rw [hr1]; exact Nat.mod_lt _ hv0
  have l0 : r0 < v := by rw [hr0]; exact Nat.mod_lt _ hv0
  have ew : T * u1 + u0 = u10 := by rw [hu1, hu0]; exact Nat.div_add_mod u10 T
  have lw : u0 < T := by rw [hu0]; exact Nat.mod_lt _ hT
  have lw1 : u1 < T := by rw [hu1]; exact Nat.div_lt_of_lt_mul l10
  have l21 : u21 < v * T := by
    have : (r1 + 1) * T ≤ v * T := Nat.mul_le_mul_right _ l1
    rw [Nat.add_mul] at this
    omega
  have k1 : q1 < T := by rw [hq1]; exact Nat.div_lt_of_lt_mul l32
  have k0 : q0 < T := by rw [hq0]; exact Nat.div_lt_of_lt_mul l21
  have hrr : r0 * T + u0 < y * P := by
    have : (r0 + 1) * T ≤ v * T := Nat.mul_le_mul_right _ l0
    rw [Nat.add_mul] at this
    omega
  have hQ : (hi * (T * T) + lo) * P = (q1 * T + q0) * (y * P) + (r0 * T + u0) := by
    generalize lo / R = a at *
    generalize lo % R = b at *
    rw [← hv]
    have A1 : hi * (T * T) * P = hi * P * (T * T) := by ac_rfl
    have A2 : lo * P = a * (T * T) + b * P := by rw [← d1, Nat.add_mul, ← hPR]; congr 1; ac_rfl
    have A3 : v * q1 * (T * T) = q1 * T * (v * T) := by ac_rfl
    have A4 : r1 * (T * T) + T * u1 = T * u21 := by rw [h21, Nat.mul_add]; congr 1; ac_rfl
    have A5 : T * u21 = q0 * (v * T) + r0 * T := by rw [← e0, Nat.mul_add]; congr 1 <;> ac_rfl
    have A6 : u32 * (T * T) = hi * P * (T * T) + a * (T * T) := by rw [h32, Nat.add_mul]
    have A7 : u32 * (T * T) = v * q1 * (T * T) + r1 * (T * T) := by rw [← e1, Nat.add_mul]
    rw [Nat.add_mul, Nat.add_mul (q1 * T) q0]
    clear hlo l32 l10 l21 hrr
    omega
  have hq : q1 * T + q0 = (hi * (T * T) + lo) / y := by
    have : (hi * (T * T) + lo) * P / (y * P) = q1 * T + q0 := by
      rw [hQ, Nat.mul_comm, Nat.mul_add_div (Nat.mul_pos hy hP), Nat.div_eq_of_lt hrr, Nat.add_zero]
    rw [← this, Nat.mul_div_mul_right _ _ hP]
  refine ⟨k1, k0, l32, l21, l10, lw1, lw, hq, ?_⟩
  have h1 := Nat.div_add_mod (hi * (T * T) + lo) y
  rw [← hq] at h1
  generalize (hi * (T * T) + lo) % y = z at *
  generalize hi * (T * T) + lo = n at *
  generalize q1 * T + q0 = q at *
  have : n * P = q * (y * P) + z * P := by rw [← h1, Nat.add_mul]; congr 1; rw [Nat.mul_comm y, Nat.mul_assoc]
  omega
end Dv
end Go.Proofs.Ytccjbefmcifaeaa
