/- Join and Reverse, of the program and of the reference. -/
import Derived.Test.YtbmjjmpdlmbehaaBand13
namespace Go.Proofs.Ytbmjjmpdlmbehaa
open Go.RowKit

namespace Bd
theorem exp_reverse : ∀ b : List R, exp b.reverse = (exp b).reverse
  | [] => rfl
  | r :: b => by rw [List.reverse_cons, exp_append, exp_reverse b, exp_one]; simp [exp]
theorem nrm_reverse : ∀ {b : List R}, nrm b → nrm b.reverse
  | [], _ => by simp [nrm]
  | r :: b, h => by
    rw [List.reverse_cons]
    refine nrm_append.2 ⟨nrm_reverse h.2.2, by simp [nrm, h.1], fun p q hp hq => ?_⟩
    simp at hp hq
    subst hq
    exact fun e => h.2.1 p hp e.symm
theorem pos_reverse {b : List R} (h : pos b) : pos b.reverse := fun r hr => h r (by simpa using hr)
theorem norm_reverse {b : List R} (h : pos b) : norm b.reverse = (norm b).reverse :=
  nrm_unique (norm_nrm (pos_reverse h)) (nrm_reverse (norm_nrm h)) (by rw [norm_exp (pos_reverse h), exp_reverse, exp_reverse, norm_exp h])
theorem len_reverse : ∀ b : List R, len b.reverse = len b
  | [] => rfl
  | r :: b => by rw [List.reverse_cons, len_append, len_reverse b]; simp [len]; omega
def joinE (a b : List R) : Int := if bothE a b = 0 then toldE (a ++ b) else bothE a b
def joinR (a b : List R) : List R := if bothE a b = 0 then toldR (a ++ b) else []
def revR (b : List R) : List R := if valE b = 0 then (norm b).reverse else []
theorem told_reverse {b : List R} (h : valE b = 0) : toldE b.reverse = 0 ∧ toldR b.reverse = (norm b).reverse := by
  obtain ⟨h1, _, h3⟩ := valE_zero h
  have hp := valE_pos h
  have e := norm_reverse hp
  have := norm_length b
  obtain ⟨t1, t2⟩ := told_fits (b := b.reverse) (by rw [e, len_reverse]; simp; omega)
  exact ⟨t1, by rw [t2, e]⟩
theorem fine_both {a b : List R} (h : bothE a b = 0) : fine (a ++ b) := by
  obtain ⟨h1, h2⟩ := bothE_zero.1 h
  obtain ⟨a1, _, a3⟩ := valE_zero h1
  obtain ⟨b1, _, b3⟩ := valE_zero h2
  exact fine_append (by omega) (valE_pos h1) (valE_pos h2) (by omega)
theorem fine_reverse {b : List R} (h : valE b = 0) : fine b.reverse := by
  obtain ⟨a1, _, a3⟩ := valE_zero h
  exact ⟨by simp; omega, pos_reverse (valE_pos h), by rw [len_reverse]; omega⟩
end Bd

theorem cellsR_setRk : ∀ (rs : List Bd.R) (k : Nat) (x : Bd.R), k < rs.length → (((((cellsR rs).set (k * 4) (.int .i64 x.l)).set (k * 4 + 1) (.int .i64 x.m.t)).set (k * 4 + 2) (.int .i64 x.m.s)).set (k * 4 + 3) (.int .i64 x.m.f)) = cellsR (rs.set k x)
  | [], k, x, h => by simp at h
  | r :: b, 0, x, _ => rfl
  | r :: b, k + 1, x, h => by
    have ih := cellsR_setRk b k x (by simpa using h)
    have e : ∀ (l : List Value) (j : Nat) (u : Value), (runC r ++ l).set ((k + 1) * 4 + j) u = runC r ++ l.set (k * 4 + j) u := by
      intro l j u
      rw [List.set_append_right _ _ (by simp [runC]; omega)]
      congr 2
      simp [runC]; omega
    have e0 := fun l u => e l 0 u
    simp only [Nat.add_zero] at e0
    show ((((runC r ++ cellsR b).set ((k + 1) * 4) _).set ((k + 1) * 4 + 1) _).set ((k + 1) * 4 + 2) _).set ((k + 1) * 4 + 3) _ = runC r ++ cellsR (b.set k x)
    rw [e0, e, e, e, ih]
abbrev putRun (w : World) (g k : Nat) (x : Bd.R) : World := (((w.setCell ⟨g, k * 4, none⟩ (.int .i64 x.l)).setCell ⟨g, k * 4 + 1, none⟩ (.int .i64 x.m.t)).setCell ⟨g, k * 4 + 2, none⟩ (.int .i64 x.m.s)).setCell ⟨g, k * 4 + 3, none⟩ (.int .i64 x.m.f)
theorem Own.setRk {base : Nat} {w : World} {g n cap : Nat} {rs : List Bd.R} (h : Own base w (.slice (some ⟨g, 0, none⟩) n cap) rs) (hn : rs.length = n) (k : Nat) (x : Bd.R) (hk : k < n) :
    Own base (putRun w g k x) (.slice (some ⟨g, 0, none⟩) n cap) (rs.set k x) := by
  subst hn
  have h1 := (World.ownsRow.stored (World.ownsRow.stored (World.ownsRow.stored (World.ownsRow.stored h (k * 4) (.int .i64 x.l)).1 (k * 4 + 1) (.int .i64 x.m.t)).1 (k * 4 + 2) (.int .i64 x.m.s)).1 (k * 4 + 3) (.int .i64 x.m.f)).1
  rw [cellsR_setRk rs k x hk] at h1
  unfold Own
  rw [List.length_set]
  exact h1
theorem below_putRun {B : Nat} {a w : World} (h : Below B a w) {g : Nat} (hg : B ≤ g) (k : Nat) (x : Bd.R) : Below B a (putRun w g k x) :=
  (((h.setCell (p := ⟨g, k * 4, none⟩) hg _).setCell (p := ⟨g, k * 4 + 1, none⟩) hg _).setCell (p := ⟨g, k * 4 + 2, none⟩) hg _).setCell (p := ⟨g, k * 4 + 3, none⟩) hg _

theorem Own.drew {base : Nat} {w : World} {v : Value} {rs : List Bd.R} (h : Own base w v rs) : Own base w.drew v rs := h
/-- A list that is turned so far from both ends. -/
def turned (rs qs : List Bd.R) (i : Nat) : Prop := qs.length = rs.length ∧ ∀ p, p < rs.length → qs.getD p default = if p < i ∨ rs.length - 1 - i < p then rs.getD (rs.length - 1 - p) default else rs.getD p default
theorem turned_start (rs : List Bd.R) : turned rs rs 0 := ⟨rfl, fun p hp => by rw [if_neg (by omega)]⟩
theorem turned_step {rs qs : List Bd.R} {i : Nat} (h : turned rs qs i) (hi : i < rs.length - 1 - i) :
    turned rs ((qs.set i (qs.getD (rs.length - 1 - i) default)).set (rs.length - 1 - i) (qs.getD i default)) (i + 1) := by
  obtain ⟨h1, h2⟩ := h
  refine ⟨by simp [h1], fun p hp => ?_⟩
  have hi' := h2 i (by omega)
  have hj' := h2 (rs.length - 1 - i) (by omega)
  have hp' := h2 p hp
  rw [if_neg (by omega)] at hi' hj'
  rw [hi', hj']
  have eq : ∀ (l : List Bd.R) (a b : Nat) (x : Bd.R), b < l.length → (l.set a x).getD b default = if a = b then x else l.getD b default := by
    intro l a b x hb
    simp only [List.getD, List.getElem?_set]
    split
    · rename_i e; subst e; simp [hb]
    · rfl
  rw [eq _ _ _ _ (by simp; omega), eq _ _ _ _ (by omega)]
  by_cases e1 : rs.length - 1 - i = p
  · rw [if_pos e1, if_pos (by omega), ← e1, show rs.length - 1 - (rs.length - 1 - i) = i by omega]
  · rw [if_neg e1]
    by_cases e2 : i = p
    · rw [if_pos e2, if_pos (by omega), e2]
    · rw [if_neg e2, hp']
      by_cases e3 : p < i ∨ rs.length - 1 - i < p
      · rw [if_pos e3, if_pos (by omega)]
      · rw [if_neg e3, if_neg (by omega)]
theorem turned_end {rs qs : List Bd.R} {i : Nat} (h : turned rs qs i) (hi : rs.length - 1 - i ≤ i) : qs = rs.reverse := by
  obtain ⟨h1, h2⟩ := h
  refine List.ext_getElem (by simp [h1]) fun p hp hp2 => ?_
  have := h2 p (by omega)
  rw [getD_run hp] at this
  rw [this, List.getElem_reverse]
  by_cases e : p < i ∨ rs.length - 1 - i < p
  · rw [if_pos e, getD_run (by omega)]
  · rw [if_neg e, getD_run (by omega)]
    congr 1; omega

set_option maxRecDepth 20000 in
set_option maxHeartbeats 2000000 in
theorem reverse_any (base : Nat) (v : Value) (rs : List Bd.R) (w : World) (hv : Own base w v rs) (hl : rs.length ≤ 1000) :
    Calls Try.prog 48 #[v] w fun e w' => e = .returned (.tuple #[]) ∧ Own base w' v rs.reverse ∧ Below base w w' := by
  rcases hv.form with ⟨rfl, rfl⟩ | ⟨g, cap, rfl, hg1, hg2, hg3, hg4, hg5⟩
  · go_enter Try.func48, Try.ntmps48
    go_wp2
    go_loop [2, 3] (fun s t => s = .int .i64 0 ∧ t = .int .i64 (-1)) (fun _ t => (0 - intOf t).toNat)
    case atStart => exact ⟨rfl, rfl⟩
    case round =>
      obtain ⟨rfl, rfl⟩ := hrel
      go_wp2
      go_end0
      exact ⟨rfl, hv, Below.refl _ _⟩
  · generalize hn : rs.length = n at *
    have HN := Lib.hid (And.intro hv hn)
    clear hv hg4 hg5 hg3
    have HZ := Lib.hid hn
    clear hn
    go_enter Try.func48, Try.ntmps48
    go_wp2
    go_loopw [2, 3] (fun s t wr => ∃ (i : Nat), s = .int .i64 i ∧ t = .int .i64 ((n : Int) - 1 - i) ∧ i ≤ n ∧ Hid (∃ qs : List Bd.R, turned rs qs i ∧ Own base wr (.slice (some ⟨g, 0, none⟩) n cap) qs ∧ Below base w wr)) (fun s _ _ => n - (intOf s).toNat)
    case atStart => exact ⟨0, rfl, by simp, Nat.zero_le _, Lib.hid ⟨rs, turned_start rs, HN.out.1, Below.refl _ _⟩⟩
    case round =>
      obtain ⟨i, rfl, rfl, hin, hg⟩ := hrel
      clear HN
      by_cases hlt : (i : Int) < (n : Int) - 1 - i
      · obtain ⟨qs, hq1, hq2, hq3⟩ := hg.out
        have hqn : qs.length = n := hq1.1.trans HZ.out
        obtain ⟨j, hj⟩ : ∃ j : Nat, (j : Int) = (n : Int) - 1 - i := ⟨n - 1 - i, by omega⟩
        have hj' : rs.length - 1 - i = j := by have := HZ.out; omega
        rcases hq2.form with ⟨h, _⟩ | ⟨g', cap', h, _, _, _, hf, hr⟩
        · simp at h
        · rw [hqn] at h
          obtain ⟨rfl, rfl⟩ : g = g' ∧ cap = cap' := by simpa using h
          obtain ⟨c0, c1, c2, c3⟩ := hr i (by omega)
          obtain ⟨d0, d1, d2, d3⟩ := hr j (by omega)
          have hstep := turned_step hq1 (by omega)
          rw [hj'] at hstep
          have ho := (hq2.setRk hqn i (qs.getD j default) (by omega)).setRk (by simp [hqn]) j (qs.getD i default) (by omega)
          have hb := below_putRun (below_putRun hq3 hg1 i (qs.getD j default)) hg1 j (qs.getD i default)
          have HS := Lib.hid (And.intro hstep (And.intro ho hb))
          have f0 := hf (i * 4); have f1 := hf (i * 4 + 1); have f2 := hf (i * 4 + 2); have f3 := hf (i * 4 + 3)
          have y0 := hf (j * 4); have y1 := hf (j * 4 + 1); have y2 := hf (j * 4 + 2); have y3 := hf (j * 4 + 3)
          clear hg hq1 hq2 hq3 h hf hr hqn hj' hstep ho hb
          rw [← hj]
          have hij : i < j := by omega
          have hjn : j < n := by omega
          have HJ := Lib.hid hj
          clear hj hlt
          generalize qs.getD i default = a at *
          generalize qs.getD j default = b at *
          go_wp2
          go_region
          go_wp2
          go_roundw
          case rel => exact ⟨i + 1, by go_num, by (have := HJ.out); go_num, by omega, Lib.hid ⟨_, HS.out.1, Own.drew HS.out.2.1, HS.out.2.2.drew⟩⟩
          case measure => simp [intOf]; omega
      · go_wp2
        go_end0
        obtain ⟨qs, hq1, hq2, hq3⟩ := hg.out
        have := turned_end hq1 (by have := HZ.out; omega)
        subst this
        exact ⟨rfl, hq2, hq3⟩
end Go.Proofs.Ytbmjjmpdlmbehaa
