/- The shares of all kinds add up to 1. Plain. -/
import Derived.Test.YtccjbefmcifaeaaKindsB
import Derived.Test.YtccjbefmcifaeaaNumOps
namespace Go.Proofs.Ytccjbefmcifaeaa
namespace Kd

def sm (f : Nat → Nat) : Nat → Nat
  | 0 => 0
  | n + 1 => sm f n + f n
theorem sm_congr {f g : Nat → Nat} : ∀ {n : Nat}, (∀ k, k < n → f k = g k) → sm f n = sm g n
  | 0, _ => rfl
  | n + 1, h => by
    show sm f n + f n = sm g n + g n
    rw [sm_congr fun k hk => h k (by omega), h n (by omega)]
theorem sm_zero : ∀ (n : Nat), sm (fun _ => 0) n = 0
  | 0 => rfl
  | n + 1 => by show sm (fun _ => 0) n + 0 = 0; rw [sm_zero n]
theorem sm_one {X k0 : Nat} : ∀ {n : Nat}, sm (fun k => if k = k0 then X else 0) n = if k0 < n then X else 0
  | 0 => rfl
  | n + 1 => by
    show sm (fun k => if k = k0 then X else 0) n + (if n = k0 then X else 0) = _
    rw [sm_one]
    by_cases e : n = k0
    · subst e; simp
    · rw [if_neg e]
      by_cases h : k0 < n
      · rw [if_pos h, if_pos (by omega)]; omega
      · rw [if_neg h, if_neg (by omega)]
theorem sm_add (f g : Nat → Nat) : ∀ n, sm (fun k => f k + g k) n = sm f n + sm g n
  | 0 => rfl
  | n + 1 => by
    show sm (fun k => f k + g k) n + (f n + g n) = (sm f n + f n) + (sm g n + g n)
    rw [sm_add f g n]; omega
theorem sm_mul (f : Nat → Nat) (c : Nat) : ∀ n, sm (fun k => f k * c) n = sm f n * c
  | 0 => by show 0 = 0 * c; rw [Nat.zero_mul]
  | n + 1 => by
    show sm (fun k => f k * c) n + f n * c = (sm f n + f n) * c
    rw [sm_mul f c n, Nat.add_mul]
theorem sm_sumS (ls : List Lt.L) (i n : Nat) (T : Nat → Nat → Nat) : ∀ ps : List Lt.P, sm (fun kd => Sh.sumS ls i (T kd) ps) n = Sh.sumS ls i (fun j => sm (fun kd => T kd j) n) ps
  | [] => sm_zero n
  | p :: r => by
    show sm (fun kd => T kd p.l.toNat * p.m.toNat * Sh.pr (Sh.be ls) (p.l.toNat + 1) (i - (p.l.toNat + 1)) + Sh.sumS ls i (T kd) r) n = sm (fun kd => T kd p.l.toNat) n * p.m.toNat * Sh.pr (Sh.be ls) (p.l.toNat + 1) (i - (p.l.toNat + 1)) + Sh.sumS ls i (fun j => sm (fun kd => T kd j) n) r
    rw [sm_add, sm_sumS ls i n T r]
    congr 1
    have := sm_mul (fun kd => T kd p.l.toNat) (p.m.toNat * Sh.pr (Sh.be ls) (p.l.toNat + 1) (i - (p.l.toNat + 1))) n
    rw [← Nat.mul_assoc] at this
    rw [← this]
    exact sm_congr fun k _ => Nat.mul_assoc _ _ _
theorem sumS_D (ls : List Lt.L) (i : Nat) : ∀ {ps : List Lt.P}, (∀ p ∈ ps, p.l.toNat < i ∧ 1 ≤ p.m) → Sh.sumS ls i (fun j => Sh.D ls (j + 1)) ps = (Lt.takes ps).toNat * Sh.D ls i ∧ 0 ≤ Lt.takes ps
  | [], _ => ⟨by show 0 = (0 : Int).toNat * _; simp, Int.le_refl _⟩
  | p :: r, h => by
    obtain ⟨ih, ih0⟩ := sumS_D ls i (ps := r) fun q hq => h q (by simp [hq])
    obtain ⟨h1, h2⟩ := h p (by simp)
    have hd := Sh.pr_split ls h1
    refine ⟨?_, by show 0 ≤ p.m + Lt.takes r; omega⟩
    show Sh.D ls (p.l.toNat + 1) * p.m.toNat * Sh.pr (Sh.be ls) (p.l.toNat + 1) (i - (p.l.toNat + 1)) + Sh.sumS ls i (fun j => Sh.D ls (j + 1)) r = (p.m + Lt.takes r).toNat * Sh.D ls i
    rw [ih, show (p.m + Lt.takes r).toNat = p.m.toNat + (Lt.takes r).toNat by omega, Nat.add_mul]
    congr 1
    rw [hd]
    simp only [Nat.mul_assoc, Nat.mul_comm, Nat.mul_left_comm]
/-- All kinds' numerators together are the denominator. -/
theorem kinds_sum {ls : List Lt.L} (herr : ∀ j, j < ls.length → Lt.errAt ls j = 0) : ∀ i, i < ls.length → sm (fun kd => Sh.S ls (kindO ls kd) i) 8 = Sh.D ls (i + 1) := by
  have hE := early_of herr
  intro i
  induction i using Nat.strongRecOn with
  | ind i ih =>
    intro hi
    obtain ⟨⟨hk, _⟩, _, hps, _⟩ := Lt.errAt_parts (herr i hi)
    have hk := Lt.okK_iff.1 hk
    by_cases h0 : (ls.getD i default).ps.length = 0
    · have hps0 : (ls.getD i default).ps = [] := List.length_eq_zero_iff.1 h0
      have : sm (fun kd => Sh.S ls (kindO ls kd) i) 8 = sm (fun kd => if kd = (ls.getD i default).k.toNat then Sh.D ls (i + 1) else 0) 8 := by
        refine sm_congr fun kd _ => ?_
        rw [Sh.S_eq hE _ hi]
        have hko : kindO ls kd i = decide ((ls.getD i default).k = (kd : Int)) := by unfold kindO; rw [h0]; simp
        rw [hko, hps0]
        by_cases e : kd = (ls.getD i default).k.toNat
        · rw [if_pos e, if_pos (decide_eq_true (by omega))]
        · rw [if_neg e, if_neg (by rw [decide_eq_true_eq]; omega)]
          rfl
      rw [this, sm_one, if_pos (by omega)]
    · have : sm (fun kd => Sh.S ls (kindO ls kd) i) 8 = sm (fun kd => Sh.sumS ls i (Sh.S ls (kindO ls kd)) (ls.getD i default).ps) 8 := by
        refine sm_congr fun kd _ => ?_
        rw [Sh.S_eq hE _ hi]
        have hko : kindO ls kd i = false := by unfold kindO; rw [decide_eq_false h0]; rfl
        rw [hko, if_neg (by decide)]
      rw [this, sm_sumS]
      have hin : ∀ p ∈ (ls.getD i default).ps, p.l.toNat < i ∧ 1 ≤ p.m := fun p hp => by
        have := Lt.okPs_mem hps p hp
        omega
      rw [Sh.sumS_congr (T := fun j => Sh.D ls (j + 1)) fun p hp => ih _ (hin p hp).1 (by have := (hin p hp).1; omega)]
      obtain ⟨e1, e2⟩ := sumS_D ls i hin
      rw [e1, Sh.D_succ, Nat.mul_comm]
      congr 1
      unfold Sh.be Sh.beI
      have hpos : 1 ≤ Lt.takes (ls.getD i default).ps := by
        cases hp : (ls.getD i default).ps with
        | nil => rw [hp] at h0; simp at h0
        | cons p r =>
          have h1 := hin p (by rw [hp]; simp)
          have h2 := (sumS_D ls i (ps := r) fun q hq => hin q (by rw [hp]; simp [hq])).2
          show 1 ≤ p.m + Lt.takes r
          omega
      rw [show max 1 (Lt.takes (ls.getD i default).ps) = Lt.takes (ls.getD i default).ps by omega]

/-- What the sum is after some kinds: a fraction with the value of their numerators' sum over the denominator. -/
def IsSum (a b : Int) (X A : Nat) : Prop := Fr.ok a b = true ∧ a * (X : Int) = b * (A : Int)
theorem IsSum.zero (X : Nat) : IsSum 0 1 X 0 := ⟨by decide, by simp⟩
theorem sum_okK {an ad bn bd : Int} (h : Fr.sumE an ad bn bd = 0) : Fr.both an ad bn bd = true ∧ Fr.ok (Fr.sumN an ad bn bd) (Fr.sumD an ad bn bd) = true ∧ Fr.sumN an ad bn bd * (ad * bd) = (an * bd + bn * ad) * Fr.sumD an ad bn bd := by
  cases hb : Fr.both an ad bn bd with
  | false => rw [(Fr.sum_not hb).2.2] at h; omega
  | true =>
    obtain ⟨e1, e2, e3⟩ := Fr.sum_both hb
    rw [e3] at h
    rw [e1, e2]
    exact ⟨rfl, Fr.ok_mk h, Fr.val_mk h⟩
theorem IsSum.step {a b tn td : Int} {X A S : Nat} (h : IsSum a b X A) (ht : 0 < td) (e1 : tn * (X : Int) = td * (S : Int)) (hsum : Fr.sumE a b tn td = 0) : IsSum (Fr.sumN a b tn td) (Fr.sumD a b tn td) X (A + S) := by
  obtain ⟨_, o3, v3⟩ := sum_okK hsum
  generalize Fr.sumN a b tn td = un at *
  generalize Fr.sumD a b tn td = ud at *
  refine ⟨o3, ?_⟩
  have hb := Fr.ok_iff.1 h.1
  have hv := h.2
  have hbt : b * td ≠ 0 := by
    have := Int.mul_pos (show 0 < b by omega) ht
    omega
  refine Int.eq_of_mul_eq_mul_right hbt ?_
  rw [Int.natCast_add]
  calc un * (X : Int) * (b * td) = (un * (b * td)) * X := by simp only [Int.mul_assoc, Int.mul_comm, Int.mul_left_comm]
    _ = ((a * td + tn * b) * ud) * X := by rw [v3]
    _ = ud * td * (a * X) + ud * b * (tn * X) := by
      rw [Int.add_mul, Int.add_mul]
      congr 1 <;> simp only [Int.mul_assoc, Int.mul_comm, Int.mul_left_comm]
    _ = ud * td * (b * A) + ud * b * (td * (S : Int)) := by rw [hv, e1]
    _ = ud * ((A : Int) + (S : Int)) * (b * td) := by
      rw [Int.mul_add, Int.add_mul]
      congr 1 <;> simp only [Int.mul_assoc, Int.mul_comm, Int.mul_left_comm]
theorem IsSum.fin {a b : Int} {X : Nat} (h : IsSum a b X X) (hX : 0 < X) : a = 1 ∧ b = 1 := by
  have hb := Fr.ok_iff.1 h.1
  have hv := h.2
  have hXi : (X : Int) ≠ 0 := by omega
  have hab : a = b := Int.eq_of_mul_eq_mul_right hXi hv
  refine Fr.uniq (by omega) (by omega) hb.2.2.2.2 (by decide) ?_
  rw [hab]; omega
/-- A kind's fraction has its value. -/
theorem kind_val {ls : List Lt.L} {i kd : Nat} (h : kE ls i kd = 0) (hle : Sh.S ls (kindO ls kd) i ≤ Sh.D ls (i + 1)) : 0 < kD ls i kd ∧ kN ls i kd * (Sh.D ls (i + 1) : Int) = kD ls i kd * (Sh.S ls (kindO ls kd) i : Int) ∧ (-1099511627776 ≤ kN ls i kd ∧ kN ls i kd ≤ 1099511627776) ∧ kD ls i kd ≤ 1048576 := by
  have hpos := Sh.D_pos ls (i + 1)
  unfold kE Rd.rE at h
  unfold kN kD Rd.rN Rd.rD
  generalize Sh.S ls (kindO ls kd) i = s at *
  generalize Sh.D ls (i + 1) = d at *
  have hb : d / Nat.gcd s d ≤ 1048576 := by
    by_cases hb : d / Nat.gcd s d ≤ 1048576
    · exact hb
    · rw [if_neg hb] at h; cases h
  rw [if_pos hb, if_pos hb]
  have hg : 0 < Nat.gcd s d := Nat.gcd_pos_of_pos_right _ hpos
  have h1 := Nat.div_mul_cancel (Nat.gcd_dvd_left s d)
  have h2 := Nat.div_mul_cancel (Nat.gcd_dvd_right s d)
  have hd' : 0 < d / Nat.gcd s d := Nat.div_pos (Nat.le_of_dvd hpos (Nat.gcd_dvd_right _ _)) hg
  have hs' : s / Nat.gcd s d ≤ d / Nat.gcd s d := Nat.div_le_div_right hle
  generalize s / Nat.gcd s d = x at *
  generalize d / Nat.gcd s d = y at *
  generalize Nat.gcd s d = g at *
  refine ⟨by omega, ?_, ⟨by omega, by omega⟩, by omega⟩
  have : x * d = y * s := by
    rw [← h1, ← h2]
    simp only [Nat.mul_assoc, Nat.mul_comm, Nat.mul_left_comm]
  rw [← Int.natCast_mul, ← Int.natCast_mul, this]
end Kd
end Go.Proofs.Ytccjbefmcifaeaa
