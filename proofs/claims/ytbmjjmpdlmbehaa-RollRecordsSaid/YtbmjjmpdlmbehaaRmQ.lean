/- Lists of runs one behind the other, in new memory. Any number of lists of runs one behind the other, in new memory. Join and Reverse, of the program and of the reference. Join and Reverse, of the program and of the reference. -/
import Derived.Test.YtbmjjmpdlmbehaaBand9
import Derived.Lib.AppendZeros
import Derived.Laws.AppendOwnNone
namespace Go.Proofs.Ytbmjjmpdlmbehaa
open Go.RowKit

theorem Bd.fine_append {a b : List Bd.R} (h1 : a.length + b.length ≤ 1000) (h2 : Bd.pos a) (h3 : Bd.pos b) (h4 : Bd.len a + Bd.len b ≤ 1000000000) : Bd.fine (a ++ b) :=
  ⟨by simp; omega, Bd.pos_append.2 ⟨h2, h3⟩, by rw [Bd.len_append]; exact h4⟩

/-- A slice that is read and appended to an own list. -/
theorem runs_src {w : World} {v : Value} {rs : List Bd.R} (h : Runs w v rs) :
    (v = .slice none 0 0 ∧ rs = []) ∨ ∃ ad c, v = .slice (some ad) rs.length c ∧ ∀ (j : Nat) (u : Value), (cellsR rs)[j]? = some u → w.cell? (ad.add j) = some u := by
  rcases h with ⟨a, c, rfl, rfl, hn⟩ | ⟨b, off, cap, rfl, hcap, hb, hc⟩
  · cases a with
    | none => obtain rfl := hn rfl; exact .inl ⟨rfl, rfl⟩
    | some ad => exact .inr ⟨ad, c, rfl, fun j u h => by simp [cellsR] at h⟩
  · refine .inr ⟨⟨b, off, none⟩, cap, rfl, fun j u h => ?_⟩
    have h1 := runs_cells (o := .deferred none) hb hc j u h
    have ha : ∀ n : Nat, (⟨b, off, none⟩ : Addr).add n = ⟨b, off + n, none⟩ := fun n => by
      unfold Addr.add
      split
      · rename_i e; subst e; rfl
      · rfl
    rw [ha] at h1 ⊢
    rwa [World.cell?_alloc_past _ _ _ hb] at h1
theorem Own.joined {base : Nat} {w : World} {v : Value} {a b : List Bd.R} (h : w.ownsRow base 52 4 v (a.length + b.length) (cellsR a ++ cellsR b)) : Own base w v (a ++ b) := by
  unfold Own; rw [List.length_append, cellsR_append]; exact h

set_option maxRecDepth 20000 in
set_option maxHeartbeats 1000000 in
theorem both_any (v u : Value) (rs qs : List Bd.R) (w : World) (hv : Runs w v rs) (hu : Runs w u qs) (hl : rs.length ≤ 1000) (hl2 : qs.length ≤ 1000) :
    Calls Try.prog 26 #[v, u] w fun e w' => ∃ x, e = .returned x ∧ Own w.heap.size w' x (rs ++ qs) ∧ Below w.heap.size w w' := by
  obtain ⟨i0, hi, hz0, hz1, hz2⟩ := info_parts infoRun
  have hown := World.ownsRow_made (base := w.heap.size) (e := 52) (size := 4) w #[] 0 (Nat.le_refl _) (by unfold maxLen; omega) rfl
  have hw0 := (Below.refl w.heap.size w).alloc (Nat.le_refl _) (.cells #[] 52)
  have hv1 := runs_src (hv.all hw0)
  have hu1 := hu.all hw0
  clear hv
  rcases hv1 with ⟨rfl, rfl⟩ | ⟨ad, c, rfl, hca⟩
  · rcases runs_src hu1 with ⟨rfl, rfl⟩ | ⟨ad2, c2, rfl, hcb⟩
    · go_enter Try.func26, Try.ntmps26
      go_wp2_with (at_builtin; refine wpList_append_own_none rfl _ _ 22 rfl w.heap.size 52 i0 4 Try.underlying22 hi _ _ _ rfl hown rfl ?_)
      go_ret
      exact ⟨_, rfl, hown, hw0⟩
    · go_enter Try.func26, Try.ntmps26
      go_wp2_with (first | (at_builtin; refine wpList_append_own_none rfl _ _ 22 rfl w.heap.size 52 i0 4 Try.underlying22 hi _ _ _ rfl hown rfl ?_) | (at_builtin; refine wpList_append_own _ rfl _ _ 22 rfl w.heap.size 52 i0 (.agg #[.int .i64 0, .int .i64 0, .int .i64 0, .int .i64 0]) 4 32 Try.underlying22 hi hz0 hz1 hz2 rfl (by decide) _ _ _ rfl hown ad2 qs.length c2 (cellsR qs) rfl (cellsR_length qs) hcb (cellsR_one qs) (by unfold maxLen; omega) (by omega) (by simp) ?_))
      intro v' w1 hown1 hgrow _
      have hw1 := hw0.grown hgrow (by simp) (fun j e => (World.ownsRow.lt hown j e).1)
      have hx : Own w.heap.size w1 v' ([] ++ qs) := Own.joined (a := []) (b := qs) (by simpa [cellsR] using hown1)
      clear hown hgrow hown1 hcb
      go_wp2
      go_ret
      exact ⟨_, rfl, hx, hw1⟩
  · go_enter Try.func26, Try.ntmps26
    go_wp2_with (at_builtin; refine wpList_append_own _ rfl _ _ 22 rfl w.heap.size 52 i0 (.agg #[.int .i64 0, .int .i64 0, .int .i64 0, .int .i64 0]) 4 32 Try.underlying22 hi hz0 hz1 hz2 rfl (by decide) _ _ _ rfl hown ad rs.length c (cellsR rs) rfl (cellsR_length rs) hca (cellsR_one rs) (by unfold maxLen; omega) (by omega) (by simp) ?_)
    intro v' w1 hown1 hgrow _
    have hw1 := hw0.grown hgrow (by simp) (fun j e => (World.ownsRow.lt hown j e).1)
    have hx1 : w1.ownsRow w.heap.size 52 4 v' rs.length (cellsR rs) := by simpa using hown1
    have hu2 := runs_src (hu.all hw1)
    clear hu hown hgrow hown1 hca hw0
    rcases hu2 with ⟨rfl, rfl⟩ | ⟨ad2, c2, rfl, hcb⟩
    · go_wp2_with (at_builtin; refine wpList_append_own_none rfl _ _ 22 rfl w.heap.size 52 i0 4 Try.underlying22 hi _ _ _ rfl hx1 rfl ?_)
      go_ret
      exact ⟨_, rfl, by rw [List.append_nil]; exact hx1, hw1⟩
    · go_wp2_with (at_builtin; refine wpList_append_own _ rfl _ _ 22 rfl w.heap.size 52 i0 (.agg #[.int .i64 0, .int .i64 0, .int .i64 0, .int .i64 0]) 4 32 Try.underlying22 hi hz0 hz1 hz2 rfl (by decide) _ _ _ rfl hx1 ad2 qs.length c2 (cellsR qs) rfl (cellsR_length qs) hcb (cellsR_one qs) (by unfold maxLen; omega) (by omega) hw1.size ?_)
      intro v2 w2 hown2 hgrow2 _
      have hw2 := hw1.grown hgrow2 hw1.size (fun j e => (World.ownsRow.lt hx1 j e).1)
      have hx2 := Own.joined hown2
      clear hown2 hgrow2 hcb hx1
      go_wp2
      go_ret
      exact ⟨_, rfl, hx2, hw2⟩
end Go.Proofs.Ytbmjjmpdlmbehaa
namespace Go.Proofs.Ytbmjjmpdlmbehaa
open Go.RowKit

def catR (vs : List (Value × List Bd.R)) : List Bd.R := (vs.map (·.2)).flatten
theorem catR_take_succ {vs : List (Value × List Bd.R)} {k : Nat} (h : k < vs.length) : catR (vs.take (k + 1)) = catR (vs.take k) ++ vs[k].2 := by
  unfold catR; rw [List.take_succ_eq_append_getElem h, List.map_append, List.flatten_append, List.map_cons, List.map_nil, List.flatten_cons, List.flatten_nil, List.append_nil]
theorem catR_take_le (vs : List (Value × List Bd.R)) (k : Nat) : (catR (vs.take k)).length ≤ (catR vs).length := by
  have : catR vs = catR (vs.take k) ++ catR (vs.drop k) := by
    unfold catR; rw [← List.flatten_append, ← List.map_append, List.take_append_drop]
  rw [this]; simp
theorem catR_all (vs : List (Value × List Bd.R)) : catR (vs.take vs.length) = catR vs := by rw [List.take_length]

end Go.Proofs.Ytbmjjmpdlmbehaa
namespace Go.Proofs.Ytbmjjmpdlmbehaa
open Go.RowKit

namespace Bd
theorem exp_reverse : ∀ b : List R, exp b.reverse = (exp b).reverse
  | [] => rfl
  | r :: b => by rw [List.reverse_cons, exp_append, exp_reverse b, exp_one]; simp [exp]
theorem nrm_reverse : ∀ {b : List R}, nrm b → nrm b.reverse
  | [], _ => by simp [nrm]
  | r :: b, h => by
    rw [List.reverse_cons]
    refine nrm_append.2 ⟨nrm_reverse h.2.2, by simp [nrm, h.1], fun p q hp hq => ?_⟩
    simp at hp hq
    subst hq
    exact fun e => h.2.1 p hp e.symm
theorem pos_reverse {b : List R} (h : pos b) : pos b.reverse := fun r hr => h r (by simpa using hr)
theorem norm_reverse {b : List R} (h : pos b) : norm b.reverse = (norm b).reverse :=
  nrm_unique (norm_nrm (pos_reverse h)) (nrm_reverse (norm_nrm h)) (by rw [norm_exp (pos_reverse h), exp_reverse, exp_reverse, norm_exp h])
theorem len_reverse : ∀ b : List R, len b.reverse = len b
  | [] => rfl
  | r :: b => by rw [List.reverse_cons, len_append, len_reverse b]; simp [len]; omega
def joinE (a b : List R) : Int := if bothE a b = 0 then toldE (a ++ b) else bothE a b
def joinR (a b : List R) : List R := if bothE a b = 0 then toldR (a ++ b) else []
def revR (b : List R) : List R := if valE b = 0 then (norm b).reverse else []
theorem told_reverse {b : List R} (h : valE b = 0) : toldE b.reverse = 0 ∧ toldR b.reverse = (norm b).reverse := by
  obtain ⟨h1, _, h3⟩ := valE_zero h
  have hp := valE_pos h
  have e := norm_reverse hp
  have := norm_length b
  obtain ⟨t1, t2⟩ := told_fits (b := b.reverse) (by rw [e, len_reverse]; simp; omega)
  exact ⟨t1, by rw [t2, e]⟩
theorem fine_both {a b : List R} (h : bothE a b = 0) : fine (a ++ b) := by
  obtain ⟨h1, h2⟩ := bothE_zero.1 h
  obtain ⟨a1, _, a3⟩ := valE_zero h1
  obtain ⟨b1, _, b3⟩ := valE_zero h2
  exact fine_append (by omega) (valE_pos h1) (valE_pos h2) (by omega)
theorem fine_reverse {b : List R} (h : valE b = 0) : fine b.reverse := by
  obtain ⟨a1, _, a3⟩ := valE_zero h
  exact ⟨by simp; omega, pos_reverse (valE_pos h), by rw [len_reverse]; omega⟩
end Bd

theorem cellsR_setRk : ∀ (rs : List Bd.R) (k : Nat) (x : Bd.R), k < rs.length → (((((cellsR rs).set (k * 4) (.int .i64 x.l)).set (k * 4 + 1) (.int .i64 x.m.t)).set (k * 4 + 2) (.int .i64 x.m.s)).set (k * 4 + 3) (.int .i64 x.m.f)) = cellsR (rs.set k x)
  | [], k, x, h => by simp at h
  | r :: b, 0, x, _ => rfl
  | r :: b, k + 1, x, h => by
    have ih := cellsR_setRk b k x (by simpa using h)
    have e : ∀ (l : List Value) (j : Nat) (u : Value), (runC r ++ l).set ((k + 1) * 4 + j) u = runC r ++ l.set (k * 4 + j) u := by
      intro l j u
      rw [List.set_append_right _ _ (by simp [runC]; omega)]
      congr 2
      simp [runC]; omega
    have e0 := fun l u => e l 0 u
    simp only [Nat.add_zero] at e0
    show ((((runC r ++ cellsR b).set ((k + 1) * 4) _).set ((k + 1) * 4 + 1) _).set ((k + 1) * 4 + 2) _).set ((k + 1) * 4 + 3) _ = runC r ++ cellsR (b.set k x)
    rw [e0, e, e, e, ih]
abbrev putRun (w : World) (g k : Nat) (x : Bd.R) : World := (((w.setCell ⟨g, k * 4, none⟩ (.int .i64 x.l)).setCell ⟨g, k * 4 + 1, none⟩ (.int .i64 x.m.t)).setCell ⟨g, k * 4 + 2, none⟩ (.int .i64 x.m.s)).setCell ⟨g, k * 4 + 3, none⟩ (.int .i64 x.m.f)
theorem Own.setRk {base : Nat} {w : World} {g n cap : Nat} {rs : List Bd.R} (h : Own base w (.slice (some ⟨g, 0, none⟩) n cap) rs) (hn : rs.length = n) (k : Nat) (x : Bd.R) (hk : k < n) :
    Own base (putRun w g k x) (.slice (some ⟨g, 0, none⟩) n cap) (rs.set k x) := by
  subst hn
  have h1 := (World.ownsRow.stored (World.ownsRow.stored (World.ownsRow.stored (World.ownsRow.stored h (k * 4) (.int .i64 x.l)).1 (k * 4 + 1) (.int .i64 x.m.t)).1 (k * 4 + 2) (.int .i64 x.m.s)).1 (k * 4 + 3) (.int .i64 x.m.f)).1
  rw [cellsR_setRk rs k x hk] at h1
  unfold Own
  rw [List.length_set]
  exact h1
theorem below_putRun {B : Nat} {a w : World} (h : Below B a w) {g : Nat} (hg : B ≤ g) (k : Nat) (x : Bd.R) : Below B a (putRun w g k x) :=
  (((h.setCell (p := ⟨g, k * 4, none⟩) hg _).setCell (p := ⟨g, k * 4 + 1, none⟩) hg _).setCell (p := ⟨g, k * 4 + 2, none⟩) hg _).setCell (p := ⟨g, k * 4 + 3, none⟩) hg _

theorem Own.drew {base : Nat} {w : World} {v : Value} {rs : List Bd.R} (h : Own base w v rs) : Own base w.drew v rs := h
/-- A list that is turned so far from both ends. -/
def turned (rs qs : List Bd.R) (i : Nat) : Prop := qs.length = rs.length ∧ ∀ p, p < rs.length → qs.getD p default = if p < i ∨ rs.length - 1 - i < p then rs.getD (rs.length - 1 - p) default else rs.getD p default
theorem turned_start (rs : List Bd.R) : turned rs rs 0 := ⟨rfl, fun p hp => by rw [if_neg (by omega)]⟩
theorem turned_step {rs qs : List Bd.R} {i : Nat} (h : turned rs qs i) (hi : i < rs.length - 1 - i) :
    turned rs ((qs.set i (qs.getD (rs.length - 1 - i) default)).set (rs.length - 1 - i) (qs.getD i default)) (i + 1) := by
  obtain ⟨h1, h2⟩ := h
  refine ⟨by simp [h1], fun p hp => ?_⟩
  have hi' := h2 i (by omega)
  have hj' := h2 (rs.length - 1 - i) (by omega)
  have hp' := h2 p hp
  rw [if_neg (by omega)] at hi' hj'
  rw [hi', hj']
  have eq : ∀ (l : List Bd.R) (a b : Nat) (x : Bd.R), b < l.length → (l.set a x).getD b default = if a = b then x else l.getD b default := by
    intro l a b x hb
    simp only [List.getD, List.getElem?_set]
    split
    · rename_i e; subst e; simp [hb]
    · rfl
  rw [eq _ _ _ _ (by simp; omega), eq _ _ _ _ (by omega)]
  by_cases e1 : rs.length - 1 - i = p
  · rw [if_pos e1, if_pos (by omega), ← e1, show rs.length - 1 - (rs.length - 1 - i) = i by omega]
  · rw [if_neg e1]
    by_cases e2 : i = p
    · rw [if_pos e2, if_pos (by omega), e2]
    · rw [if_neg e2, hp']
      by_cases e3 : p < i ∨ rs.length - 1 - i < p
      · rw [if_pos e3, if_pos (by omega)]
      · rw [if_neg e3, if_neg (by omega)]
theorem turned_end {rs qs : List Bd.R} {i : Nat} (h : turned rs qs i) (hi : rs.length - 1 - i ≤ i) : qs = rs.reverse := by
  obtain ⟨h1, h2⟩ := h
  refine List.ext_getElem (by simp [h1]) fun p hp hp2 => ?_
  have := h2 p (by omega)
  rw [getD_run hp] at this
  rw [this, List.getElem_reverse]
  by_cases e : p < i ∨ rs.length - 1 - i < p
  · rw [if_pos e, getD_run (by omega)]
  · rw [if_neg e, getD_run (by omega)]
    congr 1; omega

set_option maxRecDepth 20000 in
set_option maxHeartbeats 2000000 in
theorem reverse_any (base : Nat) (v : Value) (rs : List Bd.R) (w : World) (hv : Own base w v rs) (hl : rs.length ≤ 1000) :
    Calls Try.prog 48 #[v] w fun e w' => e = .returned (.tuple #[]) ∧ Own base w' v rs.reverse ∧ Below base w w' := by
  rcases hv.form with ⟨rfl, rfl⟩ | ⟨g, cap, rfl, hg1, hg2, hg3, hg4, hg5⟩
  · go_enter Try.func48, Try.ntmps48
    go_wp2
    go_loop [2, 3] (fun s t => s = .int .i64 0 ∧ t = .int .i64 (-1)) (fun _ t => (0 - intOf t).toNat)
    case atStart => exact ⟨rfl, rfl⟩
    case round =>
      obtain ⟨rfl, rfl⟩ := hrel
      go_wp2
      go_end0
      exact ⟨rfl, hv, Below.refl _ _⟩
  · generalize hn : rs.length = n at *
    have HN := Lib.hid (And.intro hv hn)
    clear hv hg4 hg5 hg3
    have HZ := Lib.hid hn
    clear hn
    go_enter Try.func48, Try.ntmps48
    go_wp2
    go_loopw [2, 3] (fun s t wr => ∃ (i : Nat), s = .int .i64 i ∧ t = .int .i64 ((n : Int) - 1 - i) ∧ i ≤ n ∧ Hid (∃ qs : List Bd.R, turned rs qs i ∧ Own base wr (.slice (some ⟨g, 0, none⟩) n cap) qs ∧ Below base w wr)) (fun s _ _ => n - (intOf s).toNat)
    case atStart => exact ⟨0, rfl, by simp, Nat.zero_le _, Lib.hid ⟨rs, turned_start rs, HN.out.1, Below.refl _ _⟩⟩
    case round =>
      obtain ⟨i, rfl, rfl, hin, hg⟩ := hrel
      clear HN
      by_cases hlt : (i : Int) < (n : Int) - 1 - i
      · obtain ⟨qs, hq1, hq2, hq3⟩ := hg.out
        have hqn : qs.length = n := hq1.1.trans HZ.out
        obtain ⟨j, hj⟩ : ∃ j : Nat, (j : Int) = (n : Int) - 1 - i := ⟨n - 1 - i, by omega⟩
        have hj' : rs.length - 1 - i = j := by have := HZ.out; omega
        rcases hq2.form with ⟨h, _⟩ | ⟨g', cap', h, _, _, _, hf, hr⟩
        · simp at h
        · rw [hqn] at h
          obtain ⟨rfl, rfl⟩ : g = g' ∧ cap = cap' := by simpa using h
          obtain ⟨c0, c1, c2, c3⟩ := hr i (by omega)
          obtain ⟨d0, d1, d2, d3⟩ := hr j (by omega)
          have hstep := turned_step hq1 (by omega)
          rw [hj'] at hstep
          have ho := (hq2.setRk hqn i (qs.getD j default) (by omega)).setRk (by simp [hqn]) j (qs.getD i default) (by omega)
          have hb := below_putRun (below_putRun hq3 hg1 i (qs.getD j default)) hg1 j (qs.getD i default)
          have HS := Lib.hid (And.intro hstep (And.intro ho hb))
          have f0 := hf (i * 4); have f1 := hf (i * 4 + 1); have f2 := hf (i * 4 + 2); have f3 := hf (i * 4 + 3)
          have y0 := hf (j * 4); have y1 := hf (j * 4 + 1); have y2 := hf (j * 4 + 2); have y3 := hf (j * 4 + 3)
          clear hg hq1 hq2 hq3 h hf hr hqn hj' hstep ho hb
          rw [← hj]
          have hij : i < j := by omega
          have hjn : j < n := by omega
          have HJ := Lib.hid hj
          clear hj hlt
          generalize qs.getD i default = a at *
          generalize qs.getD j default = b at *
          go_wp2
          go_region
          go_wp2
          go_roundw
          case rel => exact ⟨i + 1, by go_num, by (have := HJ.out); go_num, by omega, Lib.hid ⟨_, HS.out.1, Own.drew HS.out.2.1, HS.out.2.2.drew⟩⟩
          case measure => simp [intOf]; omega
      · go_wp2
        go_end0
        obtain ⟨qs, hq1, hq2, hq3⟩ := hg.out
        have := turned_end hq1 (by have := HZ.out; omega)
        subst this
        exact ⟨rfl, hq2, hq3⟩
end Go.Proofs.Ytbmjjmpdlmbehaa
namespace Go.Proofs.Ytbmjjmpdlmbehaa
open Go.RowKit

set_option maxRecDepth 20000 in
theorem num_reverse_any (v : Value) (rs : List Bd.R) (w : World) (hv : Runs w v rs) (hl : rs.length ≤ 1000) :
    Calls Try.prog 23 #[v] w fun e w' => ∃ x, e = .returned (.tuple #[x, .int .i64 (Bd.valE rs)]) ∧ Own w.heap.size w' x (Bd.revR rs) ∧ Below w.heap.size w w' := by
  have V := Lib.hid (validate_any v rs w hv hl)
  have N := Lib.hid (fun W (hW : Below w.heap.size w W) h => normal_any v rs W (hv.all hW) h)
  obtain ⟨a, c, rfl⟩ := hv.form
  clear hv
  unfold Bd.revR
  by_cases h : Bd.valE rs = 0
  · rw [if_pos h]
    have hf := Bd.fine_of_valid h
    have hl2 := Nat.le_trans (Bd.norm_length rs) hl
    rw [h] at V ⊢
    clear h
    go_enter Try.func23, Try.ntmps23
    go_wp2_with fail
    refine V.out.mono ?_
    rintro e w1 ⟨rfl, hb1⟩
    go_wp2_with fail
    refine (N.out _ hb1 hf).mono ?_
    rintro e w2 ⟨x, rfl, hx, hb2⟩
    have hb2' := below_step hb1 hb2
    go_wp2_with fail
    refine (reverse_any _ x _ _ hx hl2).mono ?_
    rintro e w3 ⟨rfl, hy, hb3⟩
    have hb3' := hb2'.trans (hb3.mono hb1.size)
    obtain ⟨xa, xc, rfl⟩ := hx.runs.form
    go_wp2
    go_ret2
    exact ⟨_, rfl, hy.mono hb1.size, hb3'⟩
  · rw [if_neg h]
    generalize Bd.valE rs = z at *
    clear N
    have hz : (z == 0) = false := by simp [h]
    clear h
    go_enter Try.func23, Try.ntmps23
    go_wp2_with fail
    refine V.out.mono ?_
    rintro e w1 ⟨rfl, hb1⟩
    go_wp2
    go_ret2
    exact ⟨_, rfl, Own.nil _ _, hb1⟩

end Go.Proofs.Ytbmjjmpdlmbehaa
