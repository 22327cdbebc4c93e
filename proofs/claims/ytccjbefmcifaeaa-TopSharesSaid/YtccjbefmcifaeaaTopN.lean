/- Shares by paths, the sum of shares in the sources, and the conservation of mass. Plain. -/
import Derived.Test.YtccjbefmcifaeaaRShare
import Derived.Test.YtccjbefmcifaeaaNumOps
import Derived.Test.YtccjbefmcifaeaaSets1
import Derived.Test.YtccjbefmcifaeaaAns2
namespace Go.Proofs.Ytccjbefmcifaeaa
namespace Tp

/-- A valid fraction whose value is A over X. -/
def IsS (a b X A : Int) : Prop := Fr.ok a b = true ∧ a * X = b * A
theorem IsS.zero (X : Int) : IsS 0 1 X 0 := ⟨by decide, by simp⟩
theorem IsS.one (X : Int) : IsS 1 1 X X := ⟨by decide, rfl⟩
theorem sum_okT {an ad bn bd : Int} (h : Fr.sumE an ad bn bd = 0) : Fr.ok (Fr.sumN an ad bn bd) (Fr.sumD an ad bn bd) = true ∧ Fr.sumN an ad bn bd * (ad * bd) = (an * bd + bn * ad) * Fr.sumD an ad bn bd := by
  cases hb : Fr.both an ad bn bd with
  | false => rw [(Fr.sum_not hb).2.2] at h; omega
  | true =>
    obtain ⟨e1, e2, e3⟩ := Fr.sum_both hb
    rw [e3] at h
    rw [e1, e2]
    exact ⟨Fr.ok_mk h, Fr.val_mk h⟩
theorem mul_okT {an ad bn bd : Int} (h : Fr.mulE an ad bn bd = 0) : Fr.ok (Fr.mulN an ad bn bd) (Fr.mulD an ad bn bd) = true ∧ Fr.mulN an ad bn bd * (ad * bd) = (an * bn) * Fr.mulD an ad bn bd := by
  cases hb : Fr.both an ad bn bd with
  | false => rw [(Fr.mul_not hb).2.2] at h; omega
  | true =>
    obtain ⟨e1, e2, e3⟩ := Fr.mul_both hb
    rw [e3] at h
    rw [e1, e2]
    exact ⟨Fr.ok_mk h, Fr.val_mk h⟩
theorem IsS.pos {a b X A : Int} (h : IsS a b X A) : 0 < b := by have := Fr.ok_iff.1 h.1; omega
theorem IsS.step {a b tn td X A S : Int} (h : IsS a b X A) (ht : IsS tn td X S) (hsum : Fr.sumE a b tn td = 0) : IsS (Fr.sumN a b tn td) (Fr.sumD a b tn td) X (A + S) := by
  obtain ⟨o3, v3⟩ := sum_okT hsum
  generalize Fr.sumN a b tn td = un at *
  generalize Fr.sumD a b tn td = ud at *
  refine ⟨o3, ?_⟩
  have hbt : b * td ≠ 0 := by have := Int.mul_pos h.pos ht.pos; omega
  refine Int.eq_of_mul_eq_mul_right hbt ?_
  calc un * X * (b * td) = (un * (b * td)) * X := by simp only [Int.mul_assoc, Int.mul_comm, Int.mul_left_comm]
    _ = ((a * td + tn * b) * ud) * X := by rw [v3]
    _ = ud * td * (a * X) + ud * b * (tn * X) := by
      rw [Int.add_mul, Int.add_mul]
      congr 1 <;> simp only [Int.mul_assoc, Int.mul_comm, Int.mul_left_comm]
    _ = ud * td * (b * A) + ud * b * (td * S) := by rw [h.2, ht.2]
    _ = ud * (A + S) * (b * td) := by
      rw [Int.mul_add, Int.add_mul]
      congr 1 <;> simp only [Int.mul_assoc, Int.mul_comm, Int.mul_left_comm]
theorem IsS.mul {sn sd kn kd X Y U T m pr : Int} (h : IsS sn sd Y U) (hk : 0 < kd) (hv : kn * T = m * kd) (hmul : Fr.mulE sn sd kn kd = 0) (hX : X = Y * pr * T) : IsS (Fr.mulN sn sd kn kd) (Fr.mulD sn sd kn kd) X (U * m * pr) := by
  obtain ⟨o3, v3⟩ := mul_okT hmul
  generalize Fr.mulN sn sd kn kd = tn at *
  generalize Fr.mulD sn sd kn kd = td at *
  refine ⟨o3, ?_⟩
  have hbt : sd * kd ≠ 0 := by have := Int.mul_pos h.pos hk; omega
  refine Int.eq_of_mul_eq_mul_right hbt ?_
  rw [hX]
  calc tn * (Y * pr * T) * (sd * kd) = (tn * (sd * kd)) * (Y * pr * T) := by simp only [Int.mul_assoc, Int.mul_comm, Int.mul_left_comm]
    _ = ((sn * kn) * td) * (Y * pr * T) := by rw [v3]
    _ = (sn * Y) * (kn * T) * (td * pr) := by simp only [Int.mul_assoc, Int.mul_comm, Int.mul_left_comm]
    _ = (sd * U) * (m * kd) * (td * pr) := by rw [h.2, hv]
    _ = td * (U * m * pr) * (sd * kd) := by simp only [Int.mul_assoc, Int.mul_comm, Int.mul_left_comm]
theorem IsS.scale {a b X A : Int} (h : IsS a b X A) (c : Int) : IsS a b (X * c) (A * c) := by
  refine ⟨h.1, ?_⟩
  rw [← Int.mul_assoc, h.2, Int.mul_assoc]
theorem IsS.fin {a b X c : Int} (h : IsS a b X (c * X)) (hX : 0 < X) : a = c ∧ b = 1 := by
  have hb := Fr.ok_iff.1 h.1
  have hv := h.2
  have hXi : X ≠ 0 := by omega
  have hab : a = b * c := by
    refine Int.eq_of_mul_eq_mul_right hXi ?_
    rw [hv, Int.mul_assoc]
  refine Fr.uniq (by omega) (by omega) hb.2.2.2.2 (by simp) ?_
  rw [hab, Int.mul_one, Int.mul_comm]
/-- The reduced fraction. -/
theorem IsS.red {a b : Int} {X S : Nat} (h : IsS a b X S) (hX : 0 < X) : Rd.rE S X = 0 ∧ Rd.rN S X = a ∧ Rd.rD S X = b := by
  have hb := Fr.ok_iff.1 h.1
  have hg : 0 < Nat.gcd S X := Nat.gcd_pos_of_pos_right _ hX
  have h1 := Nat.div_mul_cancel (Nat.gcd_dvd_left S X)
  have h2 := Nat.div_mul_cancel (Nat.gcd_dvd_right S X)
  have hc : Nat.gcd (S / Nat.gcd S X) (X / Nat.gcd S X) = 1 := Nat.gcd_div_gcd_div_gcd_of_pos_right hX
  have hd' : 0 < X / Nat.gcd S X := Nat.div_pos (Nat.le_of_dvd hX (Nat.gcd_dvd_right _ _)) hg
  have hv := h.2
  unfold Rd.rE Rd.rN Rd.rD
  generalize S / Nat.gcd S X = s' at *
  generalize X / Nat.gcd S X = d' at *
  generalize Nat.gcd S X = g at *
  have hu : a = (s' : Int) ∧ b = (d' : Int) := by
    refine Fr.uniq (by omega) (by omega) hb.2.2.2.2 (by simpa using hc) ?_
    have hgi : (g : Int) ≠ 0 := by omega
    refine Int.eq_of_mul_eq_mul_right hgi ?_
    rw [← h1, ← h2, Int.natCast_mul, Int.natCast_mul] at hv
    calc a * (d' : Int) * g = a * ((d' : Int) * g) := by rw [Int.mul_assoc]
      _ = b * ((s' : Int) * g) := hv
      _ = (s' : Int) * b * g := by simp only [Int.mul_assoc, Int.mul_comm, Int.mul_left_comm]
  have hle : d' ≤ 1048576 := by omega
  rw [if_pos hle, if_pos hle, if_pos hle]
  exact ⟨rfl, hu.1.symm, hu.2.symm⟩
/-- A share as a fraction has its value. -/
theorem red_is {X S : Nat} (hX : 0 < X) (hle : S ≤ X) (h : Rd.rE S X = 0) : IsS (Rd.rN S X) (Rd.rD S X) X S := by
  have hg : 0 < Nat.gcd S X := Nat.gcd_pos_of_pos_right _ hX
  have h1 := Nat.div_mul_cancel (Nat.gcd_dvd_left S X)
  have h2 := Nat.div_mul_cancel (Nat.gcd_dvd_right S X)
  have hc : Nat.gcd (S / Nat.gcd S X) (X / Nat.gcd S X) = 1 := Nat.gcd_div_gcd_div_gcd_of_pos_right hX
  have hd' : 0 < X / Nat.gcd S X := Nat.div_pos (Nat.le_of_dvd hX (Nat.gcd_dvd_right _ _)) hg
  have hs' : S / Nat.gcd S X ≤ X / Nat.gcd S X := Nat.div_le_div_right hle
  unfold Rd.rE at h
  unfold Rd.rN Rd.rD
  have hb : X / Nat.gcd S X ≤ 1048576 := by
    by_cases hb : X / Nat.gcd S X ≤ 1048576
    · exact hb
    · rw [if_neg hb] at h; cases h
  rw [if_pos hb, if_pos hb]
  generalize S / Nat.gcd S X = x at *
  generalize X / Nat.gcd S X = y at *
  generalize Nat.gcd S X = g at *
  refine ⟨Fr.ok_iff.2 ⟨by omega, by omega, by omega, by omega, by simpa using hc⟩, ?_⟩
  have : x * X = y * S := by
    rw [← h1, ← h2]
    simp only [Nat.mul_assoc, Nat.mul_comm, Nat.mul_left_comm]
  rw [← Int.natCast_mul, ← Int.natCast_mul, this]
/-- No path, no share. -/
theorem share_none {ls : List Lt.L} (herr : ∀ j, j < ls.length → Lt.errAt ls j = 0) {i : Nat} : ∀ j, j < ls.length → ¬ Reach ls i j → Sh.S ls (oneO i) j = 0 := by
  intro j
  induction j using Nat.strongRecOn with
  | _ j ih =>
    intro hj hn
    have hE := early_of herr
    rw [Sh.S_eq hE _ hj]
    have e : j ≠ i := fun e => hn (by subst e; exact .refl)
    rw [if_neg (by unfold oneO; simpa using e)]
    have key : ∀ ps : List Lt.P, (∀ p ∈ ps, Sh.S ls (oneO i) p.l.toNat = 0) → Sh.sumS ls j (Sh.S ls (oneO i)) ps = 0 := by
      intro ps
      induction ps with
      | nil => intro _; rfl
      | cons p r ihr =>
        intro h
        show Sh.S ls (oneO i) p.l.toNat * p.m.toNat * Sh.pr (Sh.be ls) (p.l.toNat + 1) (j - (p.l.toNat + 1)) + Sh.sumS ls j (Sh.S ls (oneO i)) r = 0
        rw [h p (by simp), ihr fun q hq => h q (by simp [hq]), Nat.zero_mul, Nat.zero_mul]
    refine key _ fun p hp => ih _ ?_ ?_ fun hr => hn (.part hp hr)
    · have := hE j hj p hp; omega
    · have := hE j hj p hp; omega

def sm (f : Nat → Nat) : Nat → Nat
  | 0 => 0
  | n + 1 => sm f n + f n
theorem sm_congr {f g : Nat → Nat} : ∀ {n : Nat}, (∀ k, k < n → f k = g k) → sm f n = sm g n
  | 0, _ => rfl
  | n + 1, h => by
    show sm f n + f n = sm g n + g n
    rw [sm_congr fun k hk => h k (by omega), h n (by omega)]
theorem sm_zero : ∀ (n : Nat), sm (fun _ => 0) n = 0
  | 0 => rfl
  | n + 1 => by show sm (fun _ => 0) n + 0 = 0; rw [sm_zero n]
theorem sm_one {X k0 : Nat} : ∀ {n : Nat}, sm (fun k => if k = k0 then X else 0) n = if k0 < n then X else 0
  | 0 => rfl
  | n + 1 => by
    show sm (fun k => if k = k0 then X else 0) n + (if n = k0 then X else 0) = _
    rw [sm_one]
    by_cases e : n = k0
    · subst e; simp
    · rw [if_neg e]
      by_cases h : k0 < n
      · rw [if_pos h, if_pos (by omega)]; omega
      · rw [if_neg h, if_neg (by omega)]
theorem sm_add (f g : Nat → Nat) : ∀ n, sm (fun k => f k + g k) n = sm f n + sm g n
  | 0 => rfl
  | n + 1 => by
    show sm (fun k => f k + g k) n + (f n + g n) = (sm f n + f n) + (sm g n + g n)
    rw [sm_add f g n]; omega
theorem sm_mul (f : Nat → Nat) (c : Nat) : ∀ n, sm (fun k => f k * c) n = sm f n * c
  | 0 => by show 0 = 0 * c; rw [Nat.zero_mul]
  | n + 1 => by
    show sm (fun k => f k * c) n + f n * c = (sm f n + f n) * c
    rw [sm_mul f c n, Nat.add_mul]
theorem sm_sumS (ls : List Lt.L) (i n : Nat) (T : Nat → Nat → Nat) : ∀ ps : List Lt.P, sm (fun kd => Sh.sumS ls i (T kd) ps) n = Sh.sumS ls i (fun j => sm (fun kd => T kd j) n) ps
  | [] => sm_zero n
  | p :: r => by
    show sm (fun kd => T kd p.l.toNat * p.m.toNat * Sh.pr (Sh.be ls) (p.l.toNat + 1) (i - (p.l.toNat + 1)) + Sh.sumS ls i (T kd) r) n = sm (fun kd => T kd p.l.toNat) n * p.m.toNat * Sh.pr (Sh.be ls) (p.l.toNat + 1) (i - (p.l.toNat + 1)) + Sh.sumS ls i (fun j => sm (fun kd => T kd j) n) r
    rw [sm_add, sm_sumS ls i n T r]
    congr 1
    have := sm_mul (fun kd => T kd p.l.toNat) (p.m.toNat * Sh.pr (Sh.be ls) (p.l.toNat + 1) (i - (p.l.toNat + 1))) n
    rw [← Nat.mul_assoc] at this
    rw [← this]
    exact sm_congr fun k _ => Nat.mul_assoc _ _ _
theorem sumS_D (ls : List Lt.L) (i : Nat) : ∀ {ps : List Lt.P}, (∀ p ∈ ps, p.l.toNat < i ∧ 1 ≤ p.m) → Sh.sumS ls i (fun j => Sh.D ls (j + 1)) ps = (Lt.takes ps).toNat * Sh.D ls i ∧ 0 ≤ Lt.takes ps
  | [], _ => ⟨by show 0 = (0 : Int).toNat * _; simp, Int.le_refl _⟩
  | p :: r, h => by
    obtain ⟨ih, ih0⟩ := sumS_D ls i (ps := r) fun q hq => h q (by simp [hq])
    obtain ⟨h1, h2⟩ := h p (by simp)
    have hd := Sh.pr_split ls h1
    refine ⟨?_, by show 0 ≤ p.m + Lt.takes r; omega⟩
    show Sh.D ls (p.l.toNat + 1) * p.m.toNat * Sh.pr (Sh.be ls) (p.l.toNat + 1) (i - (p.l.toNat + 1)) + Sh.sumS ls i (fun j => Sh.D ls (j + 1)) r = (p.m + Lt.takes r).toNat * Sh.D ls i
    rw [ih, show (p.m + Lt.takes r).toNat = p.m.toNat + (Lt.takes r).toNat by omega, Nat.add_mul]
    congr 1
    rw [hd]
    simp only [Nat.mul_assoc, Nat.mul_comm, Nat.mul_left_comm]
/-- The share of a received lot, 0 for the others. -/
def recvS (ls : List Lt.L) (i k : Nat) : Nat := if (ls.getD k default).ps.length = 0 then Sh.S ls (oneO k) i else 0
theorem recv_sum {ls : List Lt.L} (herr : ∀ j, j < ls.length → Lt.errAt ls j = 0) : ∀ i, i < ls.length → sm (recvS ls i) ls.length = Sh.D ls (i + 1) := by
  have hE := early_of herr
  intro i
  induction i using Nat.strongRecOn with
  | ind i ih =>
    intro hi
    obtain ⟨_, _, hps, _⟩ := Lt.errAt_parts (herr i hi)
    by_cases h0 : (ls.getD i default).ps.length = 0
    · have hps0 : (ls.getD i default).ps = [] := List.length_eq_zero_iff.1 h0
      have : sm (recvS ls i) ls.length = sm (fun k => if k = i then Sh.D ls (i + 1) else 0) ls.length := by
        refine sm_congr fun k _ => ?_
        unfold recvS
        rw [Sh.S_eq hE _ hi, hps0]
        by_cases e : k = i
        · subst e
          rw [if_pos h0, if_pos rfl, if_pos (by unfold oneO; simp)]
        · rw [if_neg e, if_neg (c := oneO k i = true) (by unfold oneO; simpa using fun h => e h.symm)]
          show (if _ then 0 else 0) = 0
          split <;> rfl
      rw [this, sm_one, if_pos hi]
    · have : sm (recvS ls i) ls.length = sm (fun k => Sh.sumS ls i (fun j => recvS ls j k) (ls.getD i default).ps) ls.length := by
        refine sm_congr fun k _ => ?_
        have key : ∀ ps : List Lt.P, Sh.sumS ls i (fun j => recvS ls j k) ps = if (ls.getD k default).ps.length = 0 then Sh.sumS ls i (Sh.S ls (oneO k)) ps else 0 := by
          intro ps
          by_cases hk : (ls.getD k default).ps.length = 0
          · rw [if_pos hk]
            exact Sh.sumS_congr fun p _ => by unfold recvS; rw [if_pos hk]
          · rw [if_neg hk]
            induction ps with
            | nil => rfl
            | cons p r ihr =>
              show recvS ls p.l.toNat k * p.m.toNat * Sh.pr (Sh.be ls) (p.l.toNat + 1) (i - (p.l.toNat + 1)) + Sh.sumS ls i (fun j => recvS ls j k) r = 0
              rw [ihr, show recvS ls p.l.toNat k = 0 by unfold recvS; rw [if_neg hk], Nat.zero_mul, Nat.zero_mul]
        rw [key]
        unfold recvS
        by_cases hk : (ls.getD k default).ps.length = 0
        · rw [if_pos hk, if_pos hk, Sh.S_eq hE _ hi, if_neg]
          unfold oneO
          intro e
          rw [decide_eq_true_eq] at e
          subst e
          exact h0 hk
        · rw [if_neg hk, if_neg hk]
      rw [this, sm_sumS ls i ls.length (fun k j => recvS ls j k)]
      have hin : ∀ p ∈ (ls.getD i default).ps, p.l.toNat < i ∧ 1 ≤ p.m := fun p hp => by
        have := Lt.okPs_mem hps p hp
        omega
      rw [Sh.sumS_congr (T := fun j => Sh.D ls (j + 1)) fun p hp => ih _ (hin p hp).1 (by have := (hin p hp).1; omega)]
      obtain ⟨e1, e2⟩ := sumS_D ls i hin
      rw [e1, Sh.D_succ, Nat.mul_comm]
      congr 1
      unfold Sh.be Sh.beI
      have hpos : 1 ≤ Lt.takes (ls.getD i default).ps := by
        cases hp : (ls.getD i default).ps with
        | nil => rw [hp] at h0; simp at h0
        | cons p r =>
          have h1 := hin p (by rw [hp]; simp)
          have h2 := (sumS_D ls i (ps := r) fun q hq => hin q (by rw [hp]; simp [hq])).2
          show 1 ≤ p.m + Lt.takes r
          omega
      rw [show max 1 (Lt.takes (ls.getD i default).ps) = Lt.takes (ls.getD i default).ps by omega]
/-- The sum over chosen numbers. -/
def lsum (ls : List Lt.L) (i : Nat) : List Int → Nat
  | [] => 0
  | x :: r => Sh.S ls (oneO x.toNat) i + lsum ls i r
theorem lsum_append (ls : List Lt.L) (i : Nat) (a b : List Int) : lsum ls i (a ++ b) = lsum ls i a + lsum ls i b := by
  induction a with
  | nil => simp [lsum]
  | cons x a ih => simp [lsum, ih]; omega
theorem lsum_take (ls : List Lt.L) (i : Nat) {ks : List Int} {k : Nat} (h : k < ks.length) : lsum ls i (ks.take (k + 1)) = lsum ls i (ks.take k) + Sh.S ls (oneO ks[k].toNat) i := by
  rw [List.take_succ_eq_append_getElem h, lsum_append]
  show _ + (_ + 0) = _
  rw [Nat.add_zero]
theorem lsum_sel (ls : List Lt.L) (i : Nat) (p : Nat → Bool) : ∀ n, lsum ls i (selK p n) = sm (fun k => if p k then Sh.S ls (oneO k) i else 0) n
  | 0 => rfl
  | n + 1 => by
    rw [selK_succ]
    show _ = sm (fun k => if p k then Sh.S ls (oneO k) i else 0) n + (if p n then Sh.S ls (oneO n) i else 0)
    rw [← lsum_sel ls i p n]
    by_cases h : p n = true
    · rw [if_pos h, if_pos h, lsum_append]
      show _ + (Sh.S ls (oneO (n : Int).toNat) i + 0) = _
      rw [Int.toNat_natCast, Nat.add_zero]
    · rw [if_neg h, if_neg h]; rfl
theorem sel_in {p : Nat → Bool} : ∀ {n : Nat} {x : Int}, x ∈ selK p n → 0 ≤ x ∧ x < (n : Int)
  | 0, x, h => by simp [selK] at h
  | n + 1, x, h => by
    rw [selK_succ] at h
    by_cases hp : p n = true
    · rw [if_pos hp] at h
      rcases List.mem_append.1 h with h | h
      · have := sel_in h; omega
      · have : x = (n : Int) := by simpa using h
        omega
    · rw [if_neg hp] at h
      have := sel_in h; omega
/-- The shares of a lot in the received lots add up to 1. -/
theorem src_sum {ls : List Lt.L} (hl : ls.length ≤ 24) (herr : ∀ j, j < ls.length → Lt.errAt ls j = 0) {i : Nat} (hi : i < ls.length) : lsum ls i (selK (srcP ls i) ls.length) = Sh.D ls (i + 1) := by
  rw [lsum_sel, ← recv_sum herr i hi]
  refine sm_congr fun k hk => ?_
  unfold srcP recvS
  by_cases h0 : (ls.getD k default).ps.length = 0
  · rw [decide_eq_true h0, Bool.true_and, if_pos h0]
    by_cases hp : 0 < pathsF ls k i
    · rw [decide_eq_true hp, if_pos rfl]
    · rw [decide_eq_false hp, if_neg (by decide)]
      exact (share_none herr i hi fun hr => hp ((paths_pos hl herr hk hi).2 hr)).symm
  · rw [decide_eq_false h0, Bool.false_and, if_neg (by decide), if_neg h0]

/-- Sums of whole numbers. -/
def si (f : Nat → Int) : Nat → Int
  | 0 => 0
  | n + 1 => si f n + f n
theorem si_congr {f g : Nat → Int} : ∀ {n : Nat}, (∀ k, k < n → f k = g k) → si f n = si g n
  | 0, _ => rfl
  | n + 1, h => by
    show si f n + f n = si g n + g n
    rw [si_congr fun k hk => h k (by omega), h n (by omega)]
theorem si_zero : ∀ (n : Nat), si (fun _ => 0) n = 0
  | 0 => rfl
  | n + 1 => by show si (fun _ => 0) n + 0 = 0; rw [si_zero n]; rfl
theorem si_one {X : Int} {k0 : Nat} : ∀ {n : Nat}, si (fun k => if k = k0 then X else 0) n = if k0 < n then X else 0
  | 0 => rfl
  | n + 1 => by
    show si (fun k => if k = k0 then X else 0) n + (if n = k0 then X else 0) = _
    rw [si_one]
    by_cases e : n = k0
    · subst e; simp
    · rw [if_neg e]
      by_cases h : k0 < n
      · rw [if_pos h, if_pos (by omega)]; omega
      · rw [if_neg h, if_neg (by omega)]; rfl
theorem si_add (f g : Nat → Int) : ∀ n, si (fun k => f k + g k) n = si f n + si g n
  | 0 => rfl
  | n + 1 => by
    show si (fun k => f k + g k) n + (f n + g n) = (si f n + f n) + (si g n + g n)
    rw [si_add f g n]; omega
theorem si_sub (f g : Nat → Int) : ∀ n, si (fun k => f k - g k) n = si f n - si g n
  | 0 => rfl
  | n + 1 => by
    show si (fun k => f k - g k) n + (f n - g n) = (si f n + f n) - (si g n + g n)
    rw [si_sub f g n]; omega
/-- What some parts take, each by a weight. -/
def wp (N : Nat → Int) : List Lt.P → Int
  | [] => 0
  | p :: r => N p.l.toNat * p.m + wp N r
def wl (N : Nat → Int) : List Lt.L → Int
  | [] => 0
  | x :: r => wp N x.ps + wl N r
theorem si_usedP (N : Nat → Int) (n : Nat) : ∀ {ps : List Lt.P}, (∀ p ∈ ps, 0 ≤ p.l ∧ p.l < (n : Int)) → si (fun i => N i * Lt.usedP i ps) n = wp N ps
  | [], _ => by
    show si (fun i => N i * 0) n = 0
    exact (si_congr (g := fun _ => 0) fun k _ => Int.mul_zero _).trans (si_zero n)
  | p :: r, h => by
    have h1 := h p (by simp)
    have ih := si_usedP N n (ps := r) fun q hq => h q (by simp [hq])
    show si (fun i => N i * ((if p.l = (i : Int) then p.m else 0) + Lt.usedP i r)) n = N p.l.toNat * p.m + wp N r
    rw [← ih]
    have e : si (fun k => if k = p.l.toNat then N p.l.toNat * p.m else 0) n = N p.l.toNat * p.m := by rw [si_one, if_pos (by omega)]
    rw [← e, ← si_add]
    refine si_congr fun k _ => ?_
    rw [Int.mul_add]
    congr 1
    by_cases hk : k = p.l.toNat
    · subst hk
      rw [if_pos (by omega), if_pos rfl]
    · rw [if_neg (by omega), if_neg hk, Int.mul_zero]
theorem si_used (N : Nat → Int) (n : Nat) : ∀ {L : List Lt.L}, (∀ x ∈ L, ∀ p ∈ x.ps, 0 ≤ p.l ∧ p.l < (n : Int)) → si (fun i => N i * Lt.used i L) n = wl N L
  | [], _ => by
    show si (fun i => N i * 0) n = 0
    exact (si_congr (g := fun _ => 0) fun k _ => Int.mul_zero _).trans (si_zero n)
  | x :: r, h => by
    have h1 := si_usedP N n (ps := x.ps) (h x (by simp))
    have ih := si_used N n (L := r) fun q hq => h q (by simp [hq])
    show si (fun i => N i * (Lt.usedP i x.ps + Lt.used i r)) n = wp N x.ps + wl N r
    rw [← ih, ← h1, ← si_add]
    exact si_congr fun k _ => Int.mul_add _ _ _
theorem wl_append (N : Nat → Int) (a b : List Lt.L) : wl N (a ++ b) = wl N a + wl N b := by
  induction a with
  | nil => simp [wl]
  | cons x a ih => simp [wl, ih]; omega
theorem wl_take (N : Nat → Int) (L : List Lt.L) : ∀ n, n ≤ L.length → wl N (L.take n) = si (fun i => wp N (L.getD i default).ps) n
  | 0, _ => rfl
  | n + 1, h => by
    rw [List.take_succ_eq_append_getElem (by omega), wl_append, wl_take N L n (by omega)]
    show _ + (_ + 0) = si _ n + wp N (L.getD n default).ps
    rw [Int.add_zero]
    congr 1
    simp [show n < L.length by omega]
/-- What is left and lost of a lot, by its share, over one denominator. -/
def wt (ls : List Lt.L) (i : Nat) : Int := Lt.left ls i + lostI (ls.getD i default)
def nK (ls : List Lt.L) (of i : Nat) : Int := (Sh.numK ls (oneO of) ls.length i : Int)
def mass (ls : List Lt.L) (of k : Nat) : Int := si (fun i => nK ls of i * wt ls i) k
theorem mass_succ (ls : List Lt.L) (of k : Nat) : mass ls of (k + 1) = mass ls of k + nK ls of k * wt ls k := rfl
theorem wp_num {ls : List Lt.L} (herr : ∀ j, j < ls.length → Lt.errAt ls j = 0) (of : Nat) {i : Nat} (hi : i < ls.length) : ∀ j, j ≤ (ls.getD i default).ps.length → wp (nK ls of) ((ls.getD i default).ps.take j) = (Sh.sumK ls (oneO of) ls.length i j : Int)
  | 0, _ => by rw [Sh.sumK_zero]; rfl
  | j + 1, h => by
    have hE := early_of herr i hi
    have hj : j < (ls.getD i default).ps.length := by omega
    have hp := hE _ (List.getElem_mem hj)
    have hap : ∀ a b : List Lt.P, wp (nK ls of) (a ++ b) = wp (nK ls of) a + wp (nK ls of) b := by
      intro a b
      induction a with
      | nil => simp [wp]
      | cons x a ih => simp [wp, ih]; omega
    rw [List.take_succ_eq_append_getElem hj, hap, wp_num herr of hi j (by omega)]
    rw [Sh.sumK_succ ls (oneO of) hj (p := (ls.getD i default).ps[j].l.toNat) (by omega) (by omega) hi]
    show _ + (nK ls of _ * _ + 0) = _
    rw [Int.add_zero, Int.natCast_add, Int.natCast_mul, show (((ls.getD i default).ps[j].m.toNat : Nat) : Int) = (ls.getD i default).ps[j].m by omega]
    rfl
/-- The mass of a received lot is found again. -/
theorem mass_all {ls : List Lt.L} (herr : ∀ j, j < ls.length → Lt.errAt ls j = 0) {of : Nat} (ho : of < ls.length) (h0 : (ls.getD of default).ps.length = 0) : mass ls of ls.length = (ls.getD of default).m * (Sh.D ls ls.length : Int) := by
  have hE := early_of herr
  have hw : ∀ i, i < ls.length → nK ls of i * wt ls i = ((if i = of then (ls.getD of default).m * (Sh.D ls ls.length : Int) else 0) + wp (nK ls of) (ls.getD i default).ps) - nK ls of i * Lt.used i ls := by
    intro i hi
    have hwn := wp_num herr of hi _ (Nat.le_refl _)
    rw [List.take_length] at hwn
    unfold wt Lt.left lostI
    by_cases e : i = of
    · subst e
      rw [if_pos rfl, if_pos h0, List.length_eq_zero_iff.1 h0]
      have hn : nK ls i i = (Sh.D ls ls.length : Int) := by unfold nK; rw [Sh.numK_mark hE (oneO i) ho (Nat.le_refl _) (by unfold oneO; simp)]
      show _ = _ + 0 - _
      rw [hn, Int.add_zero, Int.add_zero, Int.mul_sub, Int.mul_comm (ls.getD i default).m]
    · rw [if_neg e]
      have hof : oneO of i = false := by unfold oneO; simpa using e
      by_cases hz : (ls.getD i default).ps.length = 0
      · rw [if_pos hz, hwn]
        have hn : nK ls of i = 0 := by
          unfold nK Sh.numK
          rw [Sh.S_eq hE _ hi, hof, if_neg (by decide), List.length_eq_zero_iff.1 hz]
          show ((0 * _ : Nat) : Int) = 0
          rw [Nat.zero_mul]; rfl
        have hs : Sh.sumK ls (oneO of) ls.length i (ls.getD i default).ps.length = 0 := by rw [hz, Sh.sumK_zero]
        rw [hn, hs, Int.zero_mul, Int.zero_mul]; rfl
      · rw [if_neg hz, hwn]
        have hb : (Sh.be ls i : Int) = Lt.takes (ls.getD i default).ps := Sh.be_full rfl (Lt.fine_of (herr i hi)) (by omega)
        have hs : (Sh.sumK ls (oneO of) ls.length i (ls.getD i default).ps.length : Int) = nK ls of i * Lt.takes (ls.getD i default).ps := by
          rw [← hb]
          unfold nK
          rw [← Int.natCast_mul]
          unfold Sh.sumK Sh.numK
          rw [List.take_length, Sh.S_eq hE _ hi, hof, if_neg (by decide)]
          congr 1
          simp only [Nat.mul_assoc, Nat.mul_comm, Nat.mul_left_comm]
        rw [hs, Int.zero_add, ← Int.mul_sub]
        congr 1
        omega
  unfold mass
  rw [si_congr hw, si_sub, si_add, si_one, if_pos ho]
  have hin : ∀ x ∈ ls, ∀ p ∈ x.ps, 0 ≤ p.l ∧ p.l < (ls.length : Int) := by
    intro x hx p hp
    obtain ⟨i, hi, rfl⟩ := List.getElem_of_mem hx
    have := hE i hi p (by simpa [hi] using hp)
    omega
  rw [si_used (nK ls of) ls.length hin]
  have := wl_take (nK ls of) ls ls.length (Nat.le_refl _)
  rw [List.take_length] at this
  rw [this]
  omega
end Tp
end Go.Proofs.Ytccjbefmcifaeaa
