/- The iterator over the runs of a band with their places. -/
import Derived.RangeFuncNested
import Derived.RangeFuncBound
import Derived.RangeFuncCalls
import Derived.RangeFuncLeaves
import Derived.RangeFuncBox
import Derived.Shelf.Abstract
import Derived.Shelf.RegionOpen
import Derived.OwnWalkIn
import Derived.TacticsInMore
import Derived.LoopNIn
import Derived.LoopIn
import Derived.Test.YtbmjjmpdlmbehaaRmQ
namespace Go.Proofs.Ytbmjjmpdlmbehaa
open Go.RowKit Go.Shelf

attribute [local go_sem] Oper.semAt_some

namespace Bd
/-- A span with its mark, as the iterator hands it to a loop. -/
structure Sp where
  f : Int
  t : Int
  m : M
def SpOk (x : Sp) : Prop := 0 ≤ x.f ∧ x.f ≤ 2000000000 ∧ 0 ≤ x.t ∧ x.t ≤ 2000000000
abbrev SpB := { x : Sp // SpOk x }
def mkSp (f t : Int) (m : M) : SpB := if h : 0 ≤ f ∧ f ≤ 2000000000 ∧ 0 ≤ t ∧ t ≤ 2000000000 then ⟨⟨f, t, m⟩, h⟩ else ⟨⟨0, 0, m⟩, by simp [SpOk]⟩
def spk (rs : List R) (k : Nat) : SpB := mkSp (len (rs.take k)) (len (rs.take (k + 1))) (rs.getD k default).m
def upto (rs : List R) (k : Nat) : List SpB := (List.range k).map (spk rs)
theorem upto_succ (rs : List R) (k : Nat) : upto rs (k + 1) = upto rs k ++ [spk rs k] := by simp [upto, List.range_succ]
theorem upto_length (rs : List R) (k : Nat) : (upto rs k).length = k := by simp [upto]
theorem spk_eq {rs : List R} (h : fine rs) {k : Nat} (hk : k < rs.length) : (spk rs k).1 = ⟨len (rs.take k), len (rs.take (k + 1)), rs[k].m⟩ := by
  have h1 := len_take_le h.2.1 k
  have h2 := len_take_le h.2.1 (k + 1)
  have h3 := h.2.2
  unfold spk mkSp
  rw [dif_pos (by omega)]
  simp [hk]
end Bd
abbrev spanV (f t : Int) : Value := .agg #[.int .i64 f, .int .i64 t]
abbrev encs (x : Bd.SpB) : Array Value := #[.agg #[.int .i64 x.1.f, .int .i64 x.1.t], .agg #[.int .i64 x.1.m.t, .int .i64 x.1.m.s, .int .i64 x.1.m.f]]

theorem marks_any (a : Option Addr) (len cap : Nat) (w : World) :
    Calls Try.prog 72 #[.slice a len cap] w fun e w' => e = .returned (.func (.func 83) #[] #[.pointer (some ⟨w.heap.size, 0, none⟩)]) ∧ w' = w.alloc (.cells #[.slice a len cap] 22) := by
  go_enter Try.func72, Try.ntmps72
  go_wp2
  go_ret
  exact ⟨rfl, rfl⟩

set_option maxRecDepth 100000 in
set_option maxHeartbeats 4000000 in
/-- For every loop body that keeps what lay below n0. -/
theorem marks1_any (F : Fence) (n : Nat) (hF : F.fn 83) (hro : F.round = none) (hn : 1 ≤ n) (l Bs n₀ : Nat) (sv : Value) (rs : List Bd.R) (hf : Bd.fine rs) (J Jx : List Bd.SpB → World → Prop)
    (W : World) (hn₀ : n₀ ≤ W.heap.size) (hJa : AbidesFrom W.heap.size J)
    (hY : ∀ pre x W, J pre W → pre.length < rs.length → YieldAt F (n - 1) Try.prog l (encs x) W fun e W' =>
      (e = .returned (.bool true) ∧ J (pre ++ [x]) W' ∧ Below n₀ W W') ∨ (e = .returned (.bool false) ∧ Jx (pre ++ [x]) W'))
    (hBs : W.cell? ⟨Bs, 0, none⟩ = some sv) (hsv : ∃ ao c, sv = .slice ao rs.length c ∧ ∀ k (hk : k < rs.length), ∃ b off, ao = some ⟨b, off, none⟩ ∧ b < n₀ ∧ RunAt W b (off + k * 4) rs[k]) (h0 : J [] W) :
    CallsIn F n Try.prog 83 #[.func (.yield l) #[] #[], .pointer (some ⟨Bs, 0, none⟩)] W fun e W' => (∃ v, e = .returned v) ∧
      ((∃ ys, ys = Bd.upto rs rs.length ∧ J ys W') ∨ (∃ pre, (∃ k, k ≤ rs.length ∧ pre = Bd.upto rs k) ∧ Jx pre W')) := by
  obtain ⟨ao, c, rfl, hcell⟩ := hsv
  have HC := Lib.hid hcell
  clear hcell
  have HB := Lib.hid (Bd.len_take_le hf.2.1)
  have hmax := hf.2.2
  have hlen := hf.1
  have HF := Lib.hid (fun k (hk : k < rs.length) => Bd.spk_eq hf hk)
  clear hf
  refine callsIn_of_wp Try.func83 rfl hF ?_ hro
  simp only [Try.ntmps83, List.size_toArray, List.length_cons, List.length_nil, Nat.reduceAdd, Nat.reduceSub, Array.replicate_succ, Array.replicate_zero, List.push_toArray, List.append_toArray, List.nil_append, List.cons_append]
  gi_wp2
  gi_loopw [3, 9] (fun s t wr => ∃ k : Nat, k ≤ rs.length ∧ t = .int .i64 k ∧ s = .int .i64 (Bd.len (rs.take k)) ∧ Hid (J (Bd.upto rs k) wr ∧ Below n₀ W wr ∧ W.heap.size ≤ wr.heap.size)) (fun _ t _ => rs.length - (intOf t).toNat)
  case atStart => exact ⟨0, Nat.zero_le _, rfl, rfl, Lib.hid ⟨h0, Below.refl _ _, Nat.le_refl _⟩⟩
  case round =>
    obtain ⟨k, hk, rfl, rfl, hg⟩ := hrel
    by_cases hlt : k < rs.length
    · obtain ⟨hJs, hnx, hsz⟩ := hg.out
      obtain ⟨b, off, rfl, hb, hr⟩ := HC.out k hlt
      obtain ⟨c0, c1, c2, c3⟩ := hr.below hnx hb
      have hJ2 : J (Bd.upto rs k) (wr.alloc (.cells #[.int .i64 rs[k].l, .int .i64 rs[k].m.t, .int .i64 rs[k].m.s, .int .i64 rs[k].m.f] 52)) := hJa _ _ _ none hJs (World.grownBy_alloc _ _ none) (fun r e => by cases e)
      have hnx2 := hnx.alloc (Nat.le_trans hn₀ hsz) (.cells #[.int .i64 rs[k].l, .int .i64 rs[k].m.t, .int .i64 rs[k].m.s, .int .i64 rs[k].m.f] 52)
      obtain ⟨fn, tmps, assign, body, hy, hR⟩ := hY _ (Bd.spk rs k) _ hJ2 (by rw [Bd.upto_length]; exact hlt)
      have hs := Bd.len_take_succ hlt
      have b1 := HB.out k
      have b2 := HB.out (k + 1)
      have e1 := congrArg Bd.Sp.f (HF.out k hlt)
      have e2 := congrArg Bd.Sp.t (HF.out k hlt)
      have e3 := congrArg Bd.Sp.m (HF.out k hlt)
      dsimp only [encs] at e1 e2 e3 hy
      rw [e1, e2, e3, hs] at hy
      rw [hs] at b2
      have HS := Lib.hid hs
      have HR := Lib.hid hR
      have HN := Lib.hid (And.intro hnx2 (And.intro hsz hnx))
      clear hs e1 e2 e3 hR hg hJ2 hnx2 hJs hr hnx hsz
      generalize Bd.len (rs.take k) = s at *
      generalize rs[k] = r at *
      gi_wp2
      refine HR.out.mono ?_
      rintro e W3 (⟨rfl, hJ3, hk3⟩ | ⟨rfl, hJx3⟩)
      · gi_wp2
        go_roundw
        case rel => exact ⟨k + 1, by omega, by go_num, by rw [HS.out], Lib.hid ⟨by rw [Bd.upto_succ]; exact hJ3, HN.out.1.trans hk3, by have := hk3.size; simp at this; have := HN.out.2.1; omega⟩⟩
        case measure => simp [intOf]; omega
      · gi_wp2
        refine bodyPost_ret (results_none rfl _ _ _) rfl ?_
        exact ⟨⟨_, rfl⟩, .inr ⟨_, ⟨k + 1, by omega, (Bd.upto_succ _ _).symm⟩, hJx3⟩⟩
    · obtain rfl : k = rs.length := by omega
      gi_wp2
      go_end0
      exact ⟨⟨_, rfl⟩, .inl ⟨_, rfl, hg.out.1⟩⟩

/-- The iterator's contract, for a loop anywhere. -/
theorem marks_stops (F : Fence) (n : Nat) (hF : F.fn 83) (hro : F.round = none) (hn : 1 ≤ n) (Bs n₀ : Nat) (sv : Value) (rs : List Bd.R) (hf : Bd.fine rs) (w : World) (hBs : Bs < w.heap.size) (hn₀ : n₀ ≤ w.heap.size)
    (hc : w.cell? ⟨Bs, 0, none⟩ = some sv) (hsv : ∃ ao c, sv = .slice ao rs.length c ∧ ∀ k (hk : k < rs.length), ∃ b off, ao = some ⟨b, off, none⟩ ∧ b < n₀ ∧ RunAt w b (off + k * 4) rs[k]) :
    SeqStopsK F n Try.prog 83 #[.pointer (some ⟨Bs, 0, none⟩)] encs (Below n₀) (fun ys => ys = Bd.upto rs rs.length) (fun pre => ∃ k, k ≤ rs.length ∧ pre = Bd.upto rs k) rs.length w := fun l J Jx W hW hJ _ hY h0 => by
  obtain ⟨ao, c, e, h⟩ := hsv
  exact marks1_any F n hF hro hn l Bs n₀ sv rs hf J Jx W (Nat.le_trans hn₀ hW.size) hJ hY ((hW.cell (p := ⟨Bs, 0, none⟩) hBs).trans hc)
    ⟨ao, c, e, fun k hk => by obtain ⟨b, off, h1, h2, h3⟩ := h k hk; exact ⟨b, off, h1, h2, h3.below (hW.mono hn₀) h2⟩⟩ h0
end Go.Proofs.Ytbmjjmpdlmbehaa
