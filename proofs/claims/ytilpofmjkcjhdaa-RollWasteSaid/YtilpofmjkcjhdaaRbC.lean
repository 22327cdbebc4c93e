/- The iterator over the runs of a band with their places. A part of a band: a loop over the iterator that collects. Join and Reverse, of the program and of the reference. Join and Reverse, of the program and of the reference. Parts of bands: what they are place by place; the reference's. BandNormals returns true, whatever the list of runs. Slices of bands, of the program and of the reference; BandSlices. -/
import Derived.RangeFuncNested
import Derived.RangeFuncBound
import Derived.RangeFuncCalls
import Derived.RangeFuncLeaves
import Derived.RangeFuncBox
import Derived.Shelf.Abstract
import Derived.Shelf.RegionOpen
import Derived.OwnWalkIn
import Derived.TacticsInMore
import Derived.LoopNIn
import Derived.LoopIn
import Derived.Test.YtilpofmjkcjhdaaRbB
import Derived.Maps.AppendAt
namespace Go.Proofs.Ytilpofmjkcjhdaa
open Go.RowKit Go.Shelf

attribute [local go_sem] Oper.semAt_some

namespace Bd
/-- A span with its mark, as the iterator hands it to a loop. -/
structure Sp where
  f : Int
  t : Int
  m : M
def SpOk (x : Sp) : Prop := 0 ≤ x.f ∧ x.f ≤ 2000000000 ∧ 0 ≤ x.t ∧ x.t ≤ 2000000000
abbrev SpB := { x : Sp // SpOk x }
def mkSp (f t : Int) (m : M) : SpB := if h : 0 ≤ f ∧ f ≤ 2000000000 ∧ 0 ≤ t ∧ t ≤ 2000000000 then ⟨⟨f, t, m⟩, h⟩ else ⟨⟨0, 0, m⟩, by simp [SpOk]⟩
def spk (rs : List R) (k : Nat) : SpB := mkSp (len (rs.take k)) (len (rs.take (k + 1))) (rs.getD k default).m
def upto (rs : List R) (k : Nat) : List SpB := (List.range k).map (spk rs)
theorem upto_succ (rs : List R) (k : Nat) : upto rs (k + 1) = upto rs k ++ [spk rs k] := by simp [upto, List.range_succ]
theorem upto_length (rs : List R) (k : Nat) : (upto rs k).length = k := by simp [upto]
theorem spk_eq {rs : List R} (h : fine rs) {k : Nat} (hk : k < rs.length) : (spk rs k).1 = ⟨len (rs.take k), len (rs.take (k + 1)), rs[k].m⟩ := by
  have h1 := len_take_le h.2.1 k
  have h2 := len_take_le h.2.1 (k + 1)
  have h3 := h.2.2
  unfold spk mkSp
  rw [dif_pos (by omega)]
  simp [hk]
end Bd
abbrev spanV (f t : Int) : Value := .agg #[.int .i64 f, .int .i64 t]
abbrev encs (x : Bd.SpB) : Array Value := #[.agg #[.int .i64 x.1.f, .int .i64 x.1.t], .agg #[.int .i64 x.1.m.t, .int .i64 x.1.m.s, .int .i64 x.1.m.f]]

theorem marks_any (a : Option Addr) (len cap : Nat) (w : World) :
    Calls Try.prog 92 #[.slice a len cap] w fun e w' => e = .returned (.func (.func 102) #[] #[.pointer (some ⟨w.heap.size, 0, none⟩)]) ∧ w' = w.alloc (.cells #[.slice a len cap] 22) := by
  go_enter Try.func92, Try.ntmps92
  go_wp2
  go_ret
  exact ⟨rfl, rfl⟩

set_option maxRecDepth 100000 in
set_option maxHeartbeats 4000000 in
/-- For every loop body that keeps what lay below n0. -/
theorem marks1_any (F : Fence) (n : Nat) (hF : F.fn 102) (hro : F.round = none) (hn : 1 ≤ n) (l Bs n₀ : Nat) (sv : Value) (rs : List Bd.R) (hf : Bd.fine rs) (J Jx : List Bd.SpB → World → Prop)
    (W : World) (hn₀ : n₀ ≤ W.heap.size) (hJa : AbidesFrom W.heap.size J)
    (hY : ∀ pre x W, J pre W → pre.length < rs.length → YieldAt F (n - 1) Try.prog l (encs x) W fun e W' =>
      (e = .returned (.bool true) ∧ J (pre ++ [x]) W' ∧ Below n₀ W W') ∨ (e = .returned (.bool false) ∧ Jx (pre ++ [x]) W'))
    (hBs : W.cell? ⟨Bs, 0, none⟩ = some sv) (hsv : ∃ ao c, sv = .slice ao rs.length c ∧ ∀ k (hk : k < rs.length), ∃ b off, ao = some ⟨b, off, none⟩ ∧ b < n₀ ∧ RunAt W b (off + k * 4) rs[k]) (h0 : J [] W) :
    CallsIn F n Try.prog 102 #[.func (.yield l) #[] #[], .pointer (some ⟨Bs, 0, none⟩)] W fun e W' => (∃ v, e = .returned v) ∧
      ((∃ ys, ys = Bd.upto rs rs.length ∧ J ys W') ∨ (∃ pre, (∃ k, k ≤ rs.length ∧ pre = Bd.upto rs k) ∧ Jx pre W')) := by
  obtain ⟨ao, c, rfl, hcell⟩ := hsv
  have HC := Lib.hid hcell
  clear hcell
  have HB := Lib.hid (Bd.len_take_le hf.2.1)
  have hmax := hf.2.2
  have hlen := hf.1
  have HF := Lib.hid (fun k (hk : k < rs.length) => Bd.spk_eq hf hk)
  clear hf
  refine callsIn_of_wp Try.func102 rfl hF ?_ hro
  simp only [Try.ntmps102, List.size_toArray, List.length_cons, List.length_nil, Nat.reduceAdd, Nat.reduceSub, Array.replicate_succ, Array.replicate_zero, List.push_toArray, List.append_toArray, List.nil_append, List.cons_append]
  gi_wp2
  gi_loopw [3, 9] (fun s t wr => ∃ k : Nat, k ≤ rs.length ∧ t = .int .i64 k ∧ s = .int .i64 (Bd.len (rs.take k)) ∧ Hid (J (Bd.upto rs k) wr ∧ Below n₀ W wr ∧ W.heap.size ≤ wr.heap.size)) (fun _ t _ => rs.length - (intOf t).toNat)
  case atStart => exact ⟨0, Nat.zero_le _, rfl, rfl, Lib.hid ⟨h0, Below.refl _ _, Nat.le_refl _⟩⟩
  case round =>
    obtain ⟨k, hk, rfl, rfl, hg⟩ := hrel
    by_cases hlt : k < rs.length
    · obtain ⟨hJs, hnx, hsz⟩ := hg.out
      obtain ⟨b, off, rfl, hb, hr⟩ := HC.out k hlt
      obtain ⟨c0, c1, c2, c3⟩ := hr.below hnx hb
      have hJ2 : J (Bd.upto rs k) (wr.alloc (.cells #[.int .i64 rs[k].l, .int .i64 rs[k].m.t, .int .i64 rs[k].m.s, .int .i64 rs[k].m.f] 73)) := hJa _ _ _ none hJs (World.grownBy_alloc _ _ none) (fun r e => by cases e)
      have hnx2 := hnx.alloc (Nat.le_trans hn₀ hsz) (.cells #[.int .i64 rs[k].l, .int .i64 rs[k].m.t, .int .i64 rs[k].m.s, .int .i64 rs[k].m.f] 73)
      obtain ⟨fn, tmps, assign, body, hy, hR⟩ := hY _ (Bd.spk rs k) _ hJ2 (by rw [Bd.upto_length]; exact hlt)
      have hs := Bd.len_take_succ hlt
      have b1 := HB.out k
      have b2 := HB.out (k + 1)
      have e1 := congrArg Bd.Sp.f (HF.out k hlt)
      have e2 := congrArg Bd.Sp.t (HF.out k hlt)
      have e3 := congrArg Bd.Sp.m (HF.out k hlt)
      dsimp only [encs] at e1 e2 e3 hy
      rw [e1, e2, e3, hs] at hy
      rw [hs] at b2
      have HS := Lib.hid hs
      have HR := Lib.hid hR
      have HN := Lib.hid (And.intro hnx2 (And.intro hsz hnx))
      clear hs e1 e2 e3 hR hg hJ2 hnx2 hJs hr hnx hsz
      generalize Bd.len (rs.take k) = s at *
      generalize rs[k] = r at *
      gi_wp2
      refine HR.out.mono ?_
      rintro e W3 (⟨rfl, hJ3, hk3⟩ | ⟨rfl, hJx3⟩)
      · gi_wp2
        go_roundw
        case rel => exact ⟨k + 1, by omega, by go_num, by rw [HS.out], Lib.hid ⟨by rw [Bd.upto_succ]; exact hJ3, HN.out.1.trans hk3, by have := hk3.size; simp at this; have := HN.out.2.1; omega⟩⟩
        case measure => simp [intOf]; omega
      · gi_wp2
        refine bodyPost_ret (results_none rfl _ _ _) rfl ?_
        exact ⟨⟨_, rfl⟩, .inr ⟨_, ⟨k + 1, by omega, (Bd.upto_succ _ _).symm⟩, hJx3⟩⟩
    · obtain rfl : k = rs.length := by omega
      gi_wp2
      go_end0
      exact ⟨⟨_, rfl⟩, .inl ⟨_, rfl, hg.out.1⟩⟩

/-- The iterator's contract, for a loop anywhere. -/
theorem marks_stops (F : Fence) (n : Nat) (hF : F.fn 102) (hro : F.round = none) (hn : 1 ≤ n) (Bs n₀ : Nat) (sv : Value) (rs : List Bd.R) (hf : Bd.fine rs) (w : World) (hBs : Bs < w.heap.size) (hn₀ : n₀ ≤ w.heap.size)
    (hc : w.cell? ⟨Bs, 0, none⟩ = some sv) (hsv : ∃ ao c, sv = .slice ao rs.length c ∧ ∀ k (hk : k < rs.length), ∃ b off, ao = some ⟨b, off, none⟩ ∧ b < n₀ ∧ RunAt w b (off + k * 4) rs[k]) :
    SeqStopsK F n Try.prog 102 #[.pointer (some ⟨Bs, 0, none⟩)] encs (Below n₀) (fun ys => ys = Bd.upto rs rs.length) (fun pre => ∃ k, k ≤ rs.length ∧ pre = Bd.upto rs k) rs.length w := fun l J Jx W hW hJ _ hY h0 => by
  obtain ⟨ao, c, e, h⟩ := hsv
  exact marks1_any F n hF hro hn l Bs n₀ sv rs hf J Jx W (Nat.le_trans hn₀ hW.size) hJ hY ((hW.cell (p := ⟨Bs, 0, none⟩) hBs).trans hc)
    ⟨ao, c, e, fun k hk => by obtain ⟨b, off, h1, h2, h3⟩ := h k hk; exact ⟨b, off, h1, h2, h3.below (hW.mono hn₀) h2⟩⟩ h0
end Go.Proofs.Ytilpofmjkcjhdaa
namespace Go.Proofs.Ytilpofmjkcjhdaa
open Go.RowKit Go.Shelf

attribute [local go_sem] Oper.semAt_some

/-- What a span gives to a part. -/
def cutSp (fr to : Int) (x : Bd.Sp) : List Bd.R := if 0 < min x.t to - max x.f fr then [⟨min x.t to - max x.f fr, x.m⟩] else []
def cutS (fr to : Int) (pre : List Bd.SpB) : List Bd.R := pre.flatMap fun x => cutSp fr to x.1
theorem cutS_snoc (fr to : Int) (pre : List Bd.SpB) (x : Bd.SpB) : cutS fr to (pre ++ [x]) = cutS fr to pre ++ cutSp fr to x.1 := by simp [cutS]
theorem cutSp_pos {fr to : Int} {x : Bd.Sp} {a b : Int} (h : 0 < a - b) (ha : min x.t to = a) (hb : max x.f fr = b) : cutSp fr to x = [⟨a - b, x.m⟩] := by unfold cutSp; rw [ha, hb, if_pos h]
theorem cutSp_neg {fr to : Int} {x : Bd.Sp} {a b : Int} (h : ¬ 0 < a - b) (ha : min x.t to = a) (hb : max x.f fr = b) : cutSp fr to x = [] := by unfold cutSp; rw [ha, hb, if_neg h]
theorem cutSp_le (fr to : Int) (x : Bd.Sp) : (cutSp fr to x).length ≤ 1 := by unfold cutSp; split <;> simp
theorem cutS_le (fr to : Int) : ∀ pre : List Bd.SpB, (cutS fr to pre).length ≤ pre.length
  | [] => by simp [cutS]
  | x :: pre => by
    have h1 := cutS_le fr to pre
    have h2 := cutSp_le fr to x.1
    have e : cutS fr to (x :: pre) = cutSp fr to x.1 ++ cutS fr to pre := by simp [cutS]
    rw [e]; simp; omega

/-- A block of cells. -/
def BlockAt (W : World) (B : Nat) (cs : Array Value) (t : TypeId) : Prop := W.heap[B]? = some (.cells cs t (0, 0))
theorem BlockAt.lt {W : World} {B : Nat} {cs : Array Value} {t : TypeId} (h : BlockAt W B cs t) : B < W.heap.size := (Array.getElem?_eq_some_iff.1 h).1
theorem BlockAt.new (W : World) (cs : Array Value) (t : TypeId) : BlockAt (W.alloc (.cells cs t)) W.heap.size cs t := World.alloc_heap_new W _
theorem BlockAt.kept {W W' : World} {row : Option Nat} {B : Nat} {cs : Array Value} {t : TypeId} (h : BlockAt W B cs t) (hg : W.grownBy W' row) (hne : some B ≠ row) : BlockAt W' B cs t := (hg.block B h.lt hne).trans h
theorem BlockAt.alloc {W : World} {B : Nat} {cs : Array Value} {t : TypeId} (h : BlockAt W B cs t) (o : Obj) : BlockAt (W.alloc o) B cs t := h.kept (World.grownBy_alloc W o none) (by simp)
theorem BlockAt.cell {W : World} {B : Nat} {cs : Array Value} {t : TypeId} (h : BlockAt W B cs t) (i : Nat) : W.cell? ⟨B, i, none⟩ = cs[i]? := by simp [World.cell?, show W.heap[B]? = _ from h]
theorem block_own {β : Type} (B : Nat) (f : β → Array Value) (t : TypeId) : Go.Own (fun s W => BlockAt W B (f s) t) := by
  rintro s X Y row h hg hrow
  refine h.kept hg (fun e => ?_)
  obtain ⟨o, ho, hc⟩ := hrow B e.symm
  rw [show X.heap[B]? = _ from h] at ho; cases ho; cases hc

set_option maxRecDepth 100000 in
set_option maxHeartbeats 8000000 in
theorem part_any (v : Value) (rs : List Bd.R) (fr to : Int) (w : World) (hv0 : Runs w v rs) (hf : Bd.fine rs) (f1 : 0 ≤ fr) (f2 : fr ≤ 2000000000) (t1 : 0 ≤ to) (t2 : to ≤ 4000000000) :
    Calls Try.prog 73 #[v, .int .i64 fr, .int .i64 to] w fun e w' => ∃ u, e = .returned u ∧ Own w.heap.size w' u (cutS fr to (Bd.upto rs rs.length)) ∧ Below w.heap.size w w' := by
  obtain ⟨i0, hi, hz0, hz1, hz2⟩ := info_parts infoRun
  have hlk := hv0.look
  obtain ⟨ao, c, rfl, hlk⟩ := hlk
  have hlen := hf.1
  refine (callsIn_wide (n := 6)).1 ?_
  refine callsIn_of_wp_marks Try.func73 rfl trivial ?_ rfl
  simp only [Try.ntmps73, List.size_toArray, List.length_cons, List.length_nil, Nat.reduceAdd, Nat.reduceSub, Array.replicate_succ, Array.replicate_zero, List.push_toArray, List.append_toArray, List.nil_append, List.cons_append]
  gi_wp2_with (refine ⟨trivial, ?_⟩; gi_at_call 92; refine (callsIn_wide.2 (marks_any ao rs.length c _)).mono ?_; rintro e w' ⟨rfl, rfl⟩)
  have bF := (((Boxed.new w 3 (.int .i64 fr)).alloc (.cells #[.int .i64 to] 3)).alloc (.cells #[.slice none 0 0] 22)).alloc (.cells #[.slice ao rs.length c] 22)
  have bT := ((Boxed.new (w.alloc (.cells #[.int .i64 fr] 3)) 3 (.int .i64 to)).alloc (.cells #[.slice none 0 0] 22)).alloc (.cells #[.slice ao rs.length c] 22)
  have bO := (Boxed.new ((w.alloc (.cells #[.int .i64 fr] 3)).alloc (.cells #[.int .i64 to] 3)) 22 (.slice none 0 0)).alloc (.cells #[.slice ao rs.length c] 22)
  have bS := Boxed.new (((w.alloc (.cells #[.int .i64 fr] 3)).alloc (.cells #[.int .i64 to] 3)).alloc (.cells #[.slice none 0 0] 22)) 22 (.slice ao rs.length c)
  simp only [World.size_alloc] at bT bO bS
  have hB0 : Below w.heap.size w ((((w.alloc (.cells #[.int .i64 fr] 3)).alloc (.cells #[.int .i64 to] 3)).alloc (.cells #[.slice none 0 0] 22)).alloc (.cells #[.slice ao rs.length c] 22)) := by
    repeat' (first | exact Below.refl _ _ | refine Below.alloc ?_ (by simp <;> omega) _)
  have hsz : ((((w.alloc (.cells #[.int .i64 fr] 3)).alloc (.cells #[.int .i64 to] 3)).alloc (.cells #[.slice none 0 0] 22)).alloc (.cells #[.slice ao rs.length c] 22)).heap.size = w.heap.size + 4 := by simp
  obtain ⟨W0, hW0⟩ : ∃ W0, (((w.alloc (.cells #[.int .i64 fr] 3)).alloc (.cells #[.int .i64 to] 3)).alloc (.cells #[.slice none 0 0] 22)).alloc (.cells #[.slice ao rs.length c] 22) = W0 := ⟨_, rfl⟩
  rw [hW0] at bF bT bO bS hB0 hsz ⊢
  clear hW0 hv0
  refine wpIn_rangeFunc_ownH rfl (by omega) (gf := 102) (lb := #[.pointer (some ⟨w.heap.size + 1 + 1 + 1, 0, none⟩)]) rfl trivial (enters_of Try.func102 (by kernel_rfl) rfl)
    (marks_stops Fence.wide (6 - 1) trivial rfl (by omega) (w.heap.size + 1 + 1 + 1) w.heap.size _ rs hf W0 (by omega) (by omega) bS.cell ⟨ao, c, rfl, fun k hk => by obtain ⟨b, off, h1, h2, h3⟩ := hlk k hk; exact ⟨b, off, h1, h2, h3.below hB0 h2⟩⟩) belowK_t (belowK_b (by omega)) (Below.refl _ _) (fun _ => rfl)
    (fun pre W => ((Boxed W w.heap.size 3 (.int .i64 fr) ∧ Boxed W (w.heap.size + 1) 3 (.int .i64 to)) ∧ (∃ v, Boxed W (w.heap.size + 1 + 1) 22 v ∧ W.ownsRow w.heap.size 73 4 v (cutS fr to pre).length (cellsR (cutS fr to pre)) ∧ True)) ∧ Below w.heap.size w W)
    (fun _ _ _ => False)
    (OwnFrom.and (OwnFrom.and (OwnFrom.and (Own.from (boxed_own _ _ (fun _ => Value.int .i64 fr)) _) (Own.from (boxed_own _ _ (fun _ => Value.int .i64 to)) _)) (Own.from (holdsRow_own w.heap.size (w.heap.size + 1 + 1) 22 73 4 (fun pre => (cutS fr to pre).length) (fun pre => cellsR (cutS fr to pre)) (fun _ _ => True)) _)) (ownFrom_below (Nat.le_refl _) (by omega)))
    (fun _ _ _ _ _ hs _ _ => hs.elim)
    ⟨⟨⟨bF, bT⟩, _, bO, World.ownsRow_nil _ _ _ _, trivial⟩, hB0⟩
    (fun x a' W => ∃ Bx, w.heap.size + 2 < Bx ∧ (BlockAt W Bx #[.int .i64 x.1.f, .int .i64 x.1.t] 57 ∧ BlockAt W (Bx + 1) #[.int .i64 x.1.m.t, .int .i64 x.1.m.s, .int .i64 x.1.m.f] 71) ∧ a' = { tmps := #[.slice ao rs.length c, .int .i64 fr, .int .i64 to, undef, .pointer (some ⟨w.heap.size, 0, none⟩), .pointer (some ⟨w.heap.size + 1, 0, none⟩), .slice none 0 0, .pointer (some ⟨w.heap.size + 1 + 1, 0, none⟩), .pointer (some ⟨Bx, 0, none⟩), .pointer (some ⟨Bx + 1, 0, none⟩), undef, .slice ao rs.length c, .func (.func 102) #[] #[.pointer (some ⟨w.heap.size + 1 + 1 + 1, 0, none⟩)], .agg #[.int .i64 x.1.f, .int .i64 x.1.t], .agg #[.int .i64 x.1.m.t, .int .i64 x.1.m.s, .int .i64 x.1.m.f], undef, undef, undef, undef, undef, undef, undef, undef, undef, undef, undef, undef, undef, undef, undef, undef, undef, undef], defers := [] })
    (fun x a' _ X Y row hs hg hr => by obtain ⟨Bx, e1, ⟨e2, e4⟩, e3⟩ := hs; exact ⟨Bx, e1, ⟨block_own Bx (fun (_ : Unit) => #[.int .i64 x.1.f, .int .i64 x.1.t]) 57 () X Y row e2 hg (fun r e => (hr r e).2), block_own (Bx + 1) (fun (_ : Unit) => #[.int .i64 x.1.m.t, .int .i64 x.1.m.s, .int .i64 x.1.m.f]) 71 () X Y row e4 hg (fun r e => (hr r e).2)⟩, e3⟩)
    ?assign ?body ?done ?stop
  case assign =>
    rintro l pre x W K ⟨⟨⟨bF1, bT1⟩, v1, bO1, hrow1, _⟩, hB1⟩ hK
    have hsW := hB1.size
    gi_wp2
    exact hK _ _ (((KeepsOthers.alloc _ _).trans (KeepsOthers.alloc _ _)).from _) (((Below.refl _ W).alloc hsW _).alloc (by simp; omega) _) ⟨⟨⟨(bF1.alloc _).alloc _, (bT1.alloc _).alloc _⟩, _, (bO1.alloc _).alloc _, (hrow1.alloc _).alloc _, trivial⟩, (hB1.alloc hsW _).alloc (by simp; omega) _⟩ ⟨W.heap.size, by have := bO1.lt; omega, ⟨(BlockAt.new W _ _).alloc _, by simpa using BlockAt.new (W.alloc (.cells #[.int .i64 x.1.f, .int .i64 x.1.t] 57)) #[.int .i64 x.1.m.t, .int .i64 x.1.m.s, .int .i64 x.1.m.f] 71⟩, rfl⟩
  case body =>
    rintro l pre x a' W hl ⟨r, hr⟩ ⟨⟨⟨bF1, bT1⟩, v1, bO1, hrow1, _⟩, hB1⟩ ⟨Bx, hBx, ⟨e2, e4⟩, rfl⟩ hlt
    have cF := bF1.cell
    have cT := bT1.cell
    have cO := bO1.cell
    have x0 := (e2.cell 0).trans rfl
    have x1 := (e2.cell 1).trans rfl
    have y0 := (e4.cell 0).trans rfl
    have y1 := (e4.cell 1).trans rfl
    have y2 := (e4.cell 2).trans rfl
    obtain ⟨p1, p2, p3, p4⟩ := x.2
    have hcl := cutS_le fr to pre
    clear e2 e4 hr
    rcases (show (x.1.t ≤ to ∧ fr ≤ x.1.f) ∨ (x.1.t ≤ to ∧ x.1.f < fr) ∨ (to < x.1.t ∧ fr ≤ x.1.f) ∨ (to < x.1.t ∧ x.1.f < fr) by omega) with ⟨h1, h2⟩ | ⟨h1, h2⟩ | ⟨h1, h2⟩ | ⟨h1, h2⟩
    · by_cases hc : 0 < x.1.t - x.1.f
      · have HCut := Lib.hid (cutSp_pos (x := x.1) (fr := fr) (to := to) hc (by omega) (by omega))
        gi_wp2_with (gi_at_builtin; refine wpListIn_append_own _ rfl _ _ 22 rfl w.heap.size 73 i0 (.agg #[.int .i64 0, .int .i64 0, .int .i64 0, .int .i64 0]) 4 32 Try.underlying22 hi hz0 hz1 hz2 rfl (by decide) _ _ _ rfl (hrow1.alloc _) ⟨W.heap.size, 0, none⟩ 1 1 (runC ⟨x.1.t - x.1.f, x.1.m⟩) rfl rfl (runC_at W _ _) (runC_one _) (by unfold maxLen; omega) (by omega) (by have := hB1.size; simp; omega) ?_; intro v' w1 hown' hgrow _; obtain ⟨g', cap', rfl⟩ := ownsRow_succ hown'; obtain ⟨hv1, hv2, hr2, hk2, hb2⟩ := bO1.appended (by decide) hrow1 hB1.size (by omega) hown' hgrow; have bF2 := ((bF1.alloc _).kept hgrow (bF1.not_row (by decide) hrow1)).other (B' := w.heap.size + 1 + 1) (by omega) (.slice (some ⟨g', 0, none⟩) ((cutS fr to pre).length + 1) cap'); have bT2 := ((bT1.alloc _).kept hgrow (bT1.not_row (by decide) hrow1)).other (B' := w.heap.size + 1 + 1) (by omega) (.slice (some ⟨g', 0, none⟩) ((cutS fr to pre).length + 1) cap'); have hc1 := hv1.cell; have hf1 := hv1.frozen)
        exact ⟨hk2.from _, hb2, ⟨⟨bF2, bT2⟩, _, hv2, by rw [cutS_snoc, HCut.out]; exact Own.pushed hr2, trivial⟩, hB1.trans hb2⟩
      · have HCut := Lib.hid (cutSp_neg (x := x.1) (fr := fr) (to := to) hc (by omega) (by omega))
        gi_wp2
        first | exact ⟨KeepsFrom.refl _ _, Below.refl _ _, ⟨⟨bF1, bT1⟩, _, bO1, by rw [cutS_snoc, HCut.out, List.append_nil]; exact hrow1, trivial⟩, hB1⟩ | exact ⟨KeepsFrom.refl _ _, Below.refl _ _, ⟨⟨bF1, bT1⟩, _, bO1, by rw [cutS_snoc, HCut.out, List.append_nil]; exact hrow1⟩, hB1⟩
    · by_cases hc : 0 < x.1.t - fr
      · have HCut := Lib.hid (cutSp_pos (x := x.1) (fr := fr) (to := to) hc (by omega) (by omega))
        gi_wp2_with (gi_at_builtin; refine wpListIn_append_own _ rfl _ _ 22 rfl w.heap.size 73 i0 (.agg #[.int .i64 0, .int .i64 0, .int .i64 0, .int .i64 0]) 4 32 Try.underlying22 hi hz0 hz1 hz2 rfl (by decide) _ _ _ rfl (hrow1.alloc _) ⟨W.heap.size, 0, none⟩ 1 1 (runC ⟨x.1.t - fr, x.1.m⟩) rfl rfl (runC_at W _ _) (runC_one _) (by unfold maxLen; omega) (by omega) (by have := hB1.size; simp; omega) ?_; intro v' w1 hown' hgrow _; obtain ⟨g', cap', rfl⟩ := ownsRow_succ hown'; obtain ⟨hv1, hv2, hr2, hk2, hb2⟩ := bO1.appended (by decide) hrow1 hB1.size (by omega) hown' hgrow; have bF2 := ((bF1.alloc _).kept hgrow (bF1.not_row (by decide) hrow1)).other (B' := w.heap.size + 1 + 1) (by omega) (.slice (some ⟨g', 0, none⟩) ((cutS fr to pre).length + 1) cap'); have bT2 := ((bT1.alloc _).kept hgrow (bT1.not_row (by decide) hrow1)).other (B' := w.heap.size + 1 + 1) (by omega) (.slice (some ⟨g', 0, none⟩) ((cutS fr to pre).length + 1) cap'); have hc1 := hv1.cell; have hf1 := hv1.frozen)
        exact ⟨hk2.from _, hb2, ⟨⟨bF2, bT2⟩, _, hv2, by rw [cutS_snoc, HCut.out]; exact Own.pushed hr2, trivial⟩, hB1.trans hb2⟩
      · have HCut := Lib.hid (cutSp_neg (x := x.1) (fr := fr) (to := to) hc (by omega) (by omega))
        gi_wp2
        first | exact ⟨KeepsFrom.refl _ _, Below.refl _ _, ⟨⟨bF1, bT1⟩, _, bO1, by rw [cutS_snoc, HCut.out, List.append_nil]; exact hrow1, trivial⟩, hB1⟩ | exact ⟨KeepsFrom.refl _ _, Below.refl _ _, ⟨⟨bF1, bT1⟩, _, bO1, by rw [cutS_snoc, HCut.out, List.append_nil]; exact hrow1⟩, hB1⟩
    · by_cases hc : 0 < to - x.1.f
      · have HCut := Lib.hid (cutSp_pos (x := x.1) (fr := fr) (to := to) hc (by omega) (by omega))
        gi_wp2_with (gi_at_builtin; refine wpListIn_append_own _ rfl _ _ 22 rfl w.heap.size 73 i0 (.agg #[.int .i64 0, .int .i64 0, .int .i64 0, .int .i64 0]) 4 32 Try.underlying22 hi hz0 hz1 hz2 rfl (by decide) _ _ _ rfl (hrow1.alloc _) ⟨W.heap.size, 0, none⟩ 1 1 (runC ⟨to - x.1.f, x.1.m⟩) rfl rfl (runC_at W _ _) (runC_one _) (by unfold maxLen; omega) (by omega) (by have := hB1.size; simp; omega) ?_; intro v' w1 hown' hgrow _; obtain ⟨g', cap', rfl⟩ := ownsRow_succ hown'; obtain ⟨hv1, hv2, hr2, hk2, hb2⟩ := bO1.appended (by decide) hrow1 hB1.size (by omega) hown' hgrow; have bF2 := ((bF1.alloc _).kept hgrow (bF1.not_row (by decide) hrow1)).other (B' := w.heap.size + 1 + 1) (by omega) (.slice (some ⟨g', 0, none⟩) ((cutS fr to pre).length + 1) cap'); have bT2 := ((bT1.alloc _).kept hgrow (bT1.not_row (by decide) hrow1)).other (B' := w.heap.size + 1 + 1) (by omega) (.slice (some ⟨g', 0, none⟩) ((cutS fr to pre).length + 1) cap'); have hc1 := hv1.cell; have hf1 := hv1.frozen)
        exact ⟨hk2.from _, hb2, ⟨⟨bF2, bT2⟩, _, hv2, by rw [cutS_snoc, HCut.out]; exact Own.pushed hr2, trivial⟩, hB1.trans hb2⟩
      · have HCut := Lib.hid (cutSp_neg (x := x.1) (fr := fr) (to := to) hc (by omega) (by omega))
        gi_wp2
        first | exact ⟨KeepsFrom.refl _ _, Below.refl _ _, ⟨⟨bF1, bT1⟩, _, bO1, by rw [cutS_snoc, HCut.out, List.append_nil]; exact hrow1, trivial⟩, hB1⟩ | exact ⟨KeepsFrom.refl _ _, Below.refl _ _, ⟨⟨bF1, bT1⟩, _, bO1, by rw [cutS_snoc, HCut.out, List.append_nil]; exact hrow1⟩, hB1⟩
    · by_cases hc : 0 < to - fr
      · have HCut := Lib.hid (cutSp_pos (x := x.1) (fr := fr) (to := to) hc (by omega) (by omega))
        gi_wp2_with (gi_at_builtin; refine wpListIn_append_own _ rfl _ _ 22 rfl w.heap.size 73 i0 (.agg #[.int .i64 0, .int .i64 0, .int .i64 0, .int .i64 0]) 4 32 Try.underlying22 hi hz0 hz1 hz2 rfl (by decide) _ _ _ rfl (hrow1.alloc _) ⟨W.heap.size, 0, none⟩ 1 1 (runC ⟨to - fr, x.1.m⟩) rfl rfl (runC_at W _ _) (runC_one _) (by unfold maxLen; omega) (by omega) (by have := hB1.size; simp; omega) ?_; intro v' w1 hown' hgrow _; obtain ⟨g', cap', rfl⟩ := ownsRow_succ hown'; obtain ⟨hv1, hv2, hr2, hk2, hb2⟩ := bO1.appended (by decide) hrow1 hB1.size (by omega) hown' hgrow; have bF2 := ((bF1.alloc _).kept hgrow (bF1.not_row (by decide) hrow1)).other (B' := w.heap.size + 1 + 1) (by omega) (.slice (some ⟨g', 0, none⟩) ((cutS fr to pre).length + 1) cap'); have bT2 := ((bT1.alloc _).kept hgrow (bT1.not_row (by decide) hrow1)).other (B' := w.heap.size + 1 + 1) (by omega) (.slice (some ⟨g', 0, none⟩) ((cutS fr to pre).length + 1) cap'); have hc1 := hv1.cell; have hf1 := hv1.frozen)
        exact ⟨hk2.from _, hb2, ⟨⟨bF2, bT2⟩, _, hv2, by rw [cutS_snoc, HCut.out]; exact Own.pushed hr2, trivial⟩, hB1.trans hb2⟩
      · have HCut := Lib.hid (cutSp_neg (x := x.1) (fr := fr) (to := to) hc (by omega) (by omega))
        gi_wp2
        first | exact ⟨KeepsFrom.refl _ _, Below.refl _ _, ⟨⟨bF1, bT1⟩, _, bO1, by rw [cutS_snoc, HCut.out, List.append_nil]; exact hrow1, trivial⟩, hB1⟩ | exact ⟨KeepsFrom.refl _ _, Below.refl _ _, ⟨⟨bF1, bT1⟩, _, bO1, by rw [cutS_snoc, HCut.out, List.append_nil]; exact hrow1⟩, hB1⟩
  case done =>
    rintro D ys W hD rfl ⟨⟨⟨bF1, bT1⟩, v1, bO1, hrow1, _⟩, hB1⟩ hK
    have cO := bO1.cell
    gi_wp2
    refine ⟨by simp, .inl ⟨_, _, rfl, run_takeDeferred hK, ?_⟩⟩
    exact ⟨v1, by simp [results, Try.results73, go_sem], v1, rfl, ownsRow_putObj hrow1 _ hK rfl, hB1.trans (belowK_b (w := w) (Nat.le_refl _) W D _ _ (by omega) hK rfl rfl)⟩
  case stop =>
    rintro D c pre W _ _ h _
    exact h.elim
end Go.Proofs.Ytilpofmjkcjhdaa
namespace Go.Proofs.Ytilpofmjkcjhdaa
open Go.RowKit

namespace Bd
theorem exp_reverse : ∀ b : List R, exp b.reverse = (exp b).reverse
  | [] => rfl
  | r :: b => by rw [List.reverse_cons, exp_append, exp_reverse b, exp_one]; simp [exp]
theorem nrm_reverse : ∀ {b : List R}, nrm b → nrm b.reverse
  | [], _ => by simp [nrm]
  | r :: b, h => by
    rw [List.reverse_cons]
    refine nrm_append.2 ⟨nrm_reverse h.2.2, by simp [nrm, h.1], fun p q hp hq => ?_⟩
    simp at hp hq
    subst hq
    exact fun e => h.2.1 p hp e.symm
theorem pos_reverse {b : List R} (h : pos b) : pos b.reverse := fun r hr => h r (by simpa using hr)
theorem norm_reverse {b : List R} (h : pos b) : norm b.reverse = (norm b).reverse :=
  nrm_unique (norm_nrm (pos_reverse h)) (nrm_reverse (norm_nrm h)) (by rw [norm_exp (pos_reverse h), exp_reverse, exp_reverse, norm_exp h])
theorem len_reverse : ∀ b : List R, len b.reverse = len b
  | [] => rfl
  | r :: b => by rw [List.reverse_cons, len_append, len_reverse b]; simp [len]; omega
def joinE (a b : List R) : Int := if bothE a b = 0 then toldE (a ++ b) else bothE a b
def joinR (a b : List R) : List R := if bothE a b = 0 then toldR (a ++ b) else []
def revR (b : List R) : List R := if valE b = 0 then (norm b).reverse else []
theorem told_reverse {b : List R} (h : valE b = 0) : toldE b.reverse = 0 ∧ toldR b.reverse = (norm b).reverse := by
  obtain ⟨h1, _, h3⟩ := valE_zero h
  have hp := valE_pos h
  have e := norm_reverse hp
  have := norm_length b
  obtain ⟨t1, t2⟩ := told_fits (b := b.reverse) (by rw [e, len_reverse]; simp; omega)
  exact ⟨t1, by rw [t2, e]⟩
theorem fine_both {a b : List R} (h : bothE a b = 0) : fine (a ++ b) := by
  obtain ⟨h1, h2⟩ := bothE_zero.1 h
  obtain ⟨a1, _, a3⟩ := valE_zero h1
  obtain ⟨b1, _, b3⟩ := valE_zero h2
  exact fine_append (by omega) (valE_pos h1) (valE_pos h2) (by omega)
theorem fine_reverse {b : List R} (h : valE b = 0) : fine b.reverse := by
  obtain ⟨a1, _, a3⟩ := valE_zero h
  exact ⟨by simp; omega, pos_reverse (valE_pos h), by rw [len_reverse]; omega⟩
end Bd

theorem cellsR_setRk : ∀ (rs : List Bd.R) (k : Nat) (x : Bd.R), k < rs.length → (((((cellsR rs).set (k * 4) (.int .i64 x.l)).set (k * 4 + 1) (.int .i64 x.m.t)).set (k * 4 + 2) (.int .i64 x.m.s)).set (k * 4 + 3) (.int .i64 x.m.f)) = cellsR (rs.set k x)
  | [], k, x, h => by simp at h
  | r :: b, 0, x, _ => rfl
  | r :: b, k + 1, x, h => by
    have ih := cellsR_setRk b k x (by simpa using h)
    have e : ∀ (l : List Value) (j : Nat) (u : Value), (runC r ++ l).set ((k + 1) * 4 + j) u = runC r ++ l.set (k * 4 + j) u := by
      intro l j u
      rw [List.set_append_right _ _ (by simp [runC]; omega)]
      congr 2
      simp [runC]; omega
    have e0 := fun l u => e l 0 u
    simp only [Nat.add_zero] at e0
    show ((((runC r ++ cellsR b).set ((k + 1) * 4) _).set ((k + 1) * 4 + 1) _).set ((k + 1) * 4 + 2) _).set ((k + 1) * 4 + 3) _ = runC r ++ cellsR (b.set k x)
    rw [e0, e, e, e, ih]
abbrev putRun (w : World) (g k : Nat) (x : Bd.R) : World := (((w.setCell ⟨g, k * 4, none⟩ (.int .i64 x.l)).setCell ⟨g, k * 4 + 1, none⟩ (.int .i64 x.m.t)).setCell ⟨g, k * 4 + 2, none⟩ (.int .i64 x.m.s)).setCell ⟨g, k * 4 + 3, none⟩ (.int .i64 x.m.f)
theorem Own.setRk {base : Nat} {w : World} {g n cap : Nat} {rs : List Bd.R} (h : Own base w (.slice (some ⟨g, 0, none⟩) n cap) rs) (hn : rs.length = n) (k : Nat) (x : Bd.R) (hk : k < n) :
    Own base (putRun w g k x) (.slice (some ⟨g, 0, none⟩) n cap) (rs.set k x) := by
  subst hn
  have h1 := (World.ownsRow.stored (World.ownsRow.stored (World.ownsRow.stored (World.ownsRow.stored h (k * 4) (.int .i64 x.l)).1 (k * 4 + 1) (.int .i64 x.m.t)).1 (k * 4 + 2) (.int .i64 x.m.s)).1 (k * 4 + 3) (.int .i64 x.m.f)).1
  rw [cellsR_setRk rs k x hk] at h1
  unfold Own
  rw [List.length_set]
  exact h1
theorem below_putRun {B : Nat} {a w : World} (h : Below B a w) {g : Nat} (hg : B ≤ g) (k : Nat) (x : Bd.R) : Below B a (putRun w g k x) :=
  (((h.setCell (p := ⟨g, k * 4, none⟩) hg _).setCell (p := ⟨g, k * 4 + 1, none⟩) hg _).setCell (p := ⟨g, k * 4 + 2, none⟩) hg _).setCell (p := ⟨g, k * 4 + 3, none⟩) hg _

theorem Own.drew {base : Nat} {w : World} {v : Value} {rs : List Bd.R} (h : Own base w v rs) : Own base w.drew v rs := h
/-- A list that is turned so far from both ends. -/
def turned (rs qs : List Bd.R) (i : Nat) : Prop := qs.length = rs.length ∧ ∀ p, p < rs.length → qs.getD p default = if p < i ∨ rs.length - 1 - i < p then rs.getD (rs.length - 1 - p) default else rs.getD p default
theorem turned_start (rs : List Bd.R) : turned rs rs 0 := ⟨rfl, fun p hp => by rw [if_neg (by omega)]⟩
theorem turned_step {rs qs : List Bd.R} {i : Nat} (h : turned rs qs i) (hi : i < rs.length - 1 - i) :
    turned rs ((qs.set i (qs.getD (rs.length - 1 - i) default)).set (rs.length - 1 - i) (qs.getD i default)) (i + 1) := by
  obtain ⟨h1, h2⟩ := h
  refine ⟨by simp [h1], fun p hp => ?_⟩
  have hi' := h2 i (by omega)
  have hj' := h2 (rs.length - 1 - i) (by omega)
  have hp' := h2 p hp
  rw [if_neg (by omega)] at hi' hj'
  rw [hi', hj']
  have eq : ∀ (l : List Bd.R) (a b : Nat) (x : Bd.R), b < l.length → (l.set a x).getD b default = if a = b then x else l.getD b default := by
    intro l a b x hb
    simp only [List.getD, List.getElem?_set]
    split
    · rename_i e; subst e; simp [hb]
    · rfl
  rw [eq _ _ _ _ (by simp; omega), eq _ _ _ _ (by omega)]
  by_cases e1 : rs.length - 1 - i = p
  · rw [if_pos e1, if_pos (by omega), ← e1, show rs.length - 1 - (rs.length - 1 - i) = i by omega]
  · rw [if_neg e1]
    by_cases e2 : i = p
    · rw [if_pos e2, if_pos (by omega), e2]
    · rw [if_neg e2, hp']
      by_cases e3 : p < i ∨ rs.length - 1 - i < p
      · rw [if_pos e3, if_pos (by omega)]
      · rw [if_neg e3, if_neg (by omega)]
theorem turned_end {rs qs : List Bd.R} {i : Nat} (h : turned rs qs i) (hi : rs.length - 1 - i ≤ i) : qs = rs.reverse := by
  obtain ⟨h1, h2⟩ := h
  refine List.ext_getElem (by simp [h1]) fun p hp hp2 => ?_
  have := h2 p (by omega)
  rw [getD_run hp] at this
  rw [this, List.getElem_reverse]
  by_cases e : p < i ∨ rs.length - 1 - i < p
  · rw [if_pos e, getD_run (by omega)]
  · rw [if_neg e, getD_run (by omega)]
    congr 1; omega

set_option maxRecDepth 20000 in
set_option maxHeartbeats 2000000 in
theorem reverse_any (base : Nat) (v : Value) (rs : List Bd.R) (w : World) (hv : Own base w v rs) (hl : rs.length ≤ 1000) :
    Calls Try.prog 74 #[v] w fun e w' => e = .returned (.tuple #[]) ∧ Own base w' v rs.reverse ∧ Below base w w' := by
  rcases hv.form with ⟨rfl, rfl⟩ | ⟨g, cap, rfl, hg1, hg2, hg3, hg4, hg5⟩
  · go_enter Try.func74, Try.ntmps74
    go_wp2
    go_loop [2, 3] (fun s t => s = .int .i64 0 ∧ t = .int .i64 (-1)) (fun _ t => (0 - intOf t).toNat)
    case atStart => exact ⟨rfl, rfl⟩
    case round =>
      obtain ⟨rfl, rfl⟩ := hrel
      go_wp2
      go_end0
      exact ⟨rfl, hv, Below.refl _ _⟩
  · generalize hn : rs.length = n at *
    have HN := Lib.hid (And.intro hv hn)
    clear hv hg4 hg5 hg3
    have HZ := Lib.hid hn
    clear hn
    go_enter Try.func74, Try.ntmps74
    go_wp2
    go_loopw [2, 3] (fun s t wr => ∃ (i : Nat), s = .int .i64 i ∧ t = .int .i64 ((n : Int) - 1 - i) ∧ i ≤ n ∧ Hid (∃ qs : List Bd.R, turned rs qs i ∧ Own base wr (.slice (some ⟨g, 0, none⟩) n cap) qs ∧ Below base w wr)) (fun s _ _ => n - (intOf s).toNat)
    case atStart => exact ⟨0, rfl, by simp, Nat.zero_le _, Lib.hid ⟨rs, turned_start rs, HN.out.1, Below.refl _ _⟩⟩
    case round =>
      obtain ⟨i, rfl, rfl, hin, hg⟩ := hrel
      clear HN
      by_cases hlt : (i : Int) < (n : Int) - 1 - i
      · obtain ⟨qs, hq1, hq2, hq3⟩ := hg.out
        have hqn : qs.length = n := hq1.1.trans HZ.out
        obtain ⟨j, hj⟩ : ∃ j : Nat, (j : Int) = (n : Int) - 1 - i := ⟨n - 1 - i, by omega⟩
        have hj' : rs.length - 1 - i = j := by have := HZ.out; omega
        rcases hq2.form with ⟨h, _⟩ | ⟨g', cap', h, _, _, _, hf, hr⟩
        · simp at h
        · rw [hqn] at h
          obtain ⟨rfl, rfl⟩ : g = g' ∧ cap = cap' := by simpa using h
          obtain ⟨c0, c1, c2, c3⟩ := hr i (by omega)
          obtain ⟨d0, d1, d2, d3⟩ := hr j (by omega)
          have hstep := turned_step hq1 (by omega)
          rw [hj'] at hstep
          have ho := (hq2.setRk hqn i (qs.getD j default) (by omega)).setRk (by simp [hqn]) j (qs.getD i default) (by omega)
          have hb := below_putRun (below_putRun hq3 hg1 i (qs.getD j default)) hg1 j (qs.getD i default)
          have HS := Lib.hid (And.intro hstep (And.intro ho hb))
          have f0 := hf (i * 4); have f1 := hf (i * 4 + 1); have f2 := hf (i * 4 + 2); have f3 := hf (i * 4 + 3)
          have y0 := hf (j * 4); have y1 := hf (j * 4 + 1); have y2 := hf (j * 4 + 2); have y3 := hf (j * 4 + 3)
          clear hg hq1 hq2 hq3 h hf hr hqn hj' hstep ho hb
          rw [← hj]
          have hij : i < j := by omega
          have hjn : j < n := by omega
          have HJ := Lib.hid hj
          clear hj hlt
          generalize qs.getD i default = a at *
          generalize qs.getD j default = b at *
          go_wp2
          go_region
          go_wp2
          go_roundw
          case rel => exact ⟨i + 1, by go_num, by (have := HJ.out); go_num, by omega, Lib.hid ⟨_, HS.out.1, Own.drew HS.out.2.1, HS.out.2.2.drew⟩⟩
          case measure => simp [intOf]; omega
      · go_wp2
        go_end0
        obtain ⟨qs, hq1, hq2, hq3⟩ := hg.out
        have := turned_end hq1 (by have := HZ.out; omega)
        subst this
        exact ⟨rfl, hq2, hq3⟩
end Go.Proofs.Ytilpofmjkcjhdaa
namespace Go.Proofs.Ytilpofmjkcjhdaa
open Go.RowKit

set_option maxRecDepth 20000 in
theorem num_reverse_any (v : Value) (rs : List Bd.R) (w : World) (hv : Runs w v rs) (hl : rs.length ≤ 1000) :
    Calls Try.prog 47 #[v] w fun e w' => ∃ x, e = .returned (.tuple #[x, .int .i64 (Bd.valE rs)]) ∧ Own w.heap.size w' x (Bd.revR rs) ∧ Below w.heap.size w w' := by
  have V := Lib.hid (validate_any v rs w hv hl)
  have N := Lib.hid (fun W (hW : Below w.heap.size w W) h => normal_any v rs W (hv.all hW) h)
  obtain ⟨a, c, rfl⟩ := hv.form
  clear hv
  unfold Bd.revR
  by_cases h : Bd.valE rs = 0
  · rw [if_pos h]
    have hf := Bd.fine_of_valid h
    have hl2 := Nat.le_trans (Bd.norm_length rs) hl
    rw [h] at V ⊢
    clear h
    go_enter Try.func47, Try.ntmps47
    go_wp2_with fail
    refine V.out.mono ?_
    rintro e w1 ⟨rfl, hb1⟩
    go_wp2_with fail
    refine (N.out _ hb1 hf).mono ?_
    rintro e w2 ⟨x, rfl, hx, hb2⟩
    have hb2' := below_step hb1 hb2
    go_wp2_with fail
    refine (reverse_any _ x _ _ hx hl2).mono ?_
    rintro e w3 ⟨rfl, hy, hb3⟩
    have hb3' := hb2'.trans (hb3.mono hb1.size)
    obtain ⟨xa, xc, rfl⟩ := hx.runs.form
    go_wp2
    go_ret2
    exact ⟨_, rfl, hy.mono hb1.size, hb3'⟩
  · rw [if_neg h]
    generalize Bd.valE rs = z at *
    clear N
    have hz : (z == 0) = false := by simp [h]
    clear h
    go_enter Try.func47, Try.ntmps47
    go_wp2_with fail
    refine V.out.mono ?_
    rintro e w1 ⟨rfl, hb1⟩
    go_wp2
    go_ret2
    exact ⟨_, rfl, Own.nil _ _, hb1⟩

end Go.Proofs.Ytilpofmjkcjhdaa
namespace Go.Proofs.Ytilpofmjkcjhdaa
open Go.RowKit

namespace Bd
def cutL (rs : List R) (fr to : Int) : List R := cutS fr to (upto rs rs.length)
theorem exp_cutSp (fr to : Int) (x : Sp) : exp (cutSp fr to x) = List.replicate (min x.t to - max x.f fr).toNat x.m := by
  unfold cutSp; split
  · simp [exp]
  · rw [show (min x.t to - max x.f fr).toNat = 0 by omega]; rfl
theorem pos_cutSp (fr to : Int) (x : Sp) : pos (cutSp fr to x) := by
  unfold cutSp; split
  · intro r hr; simp at hr; subst hr; assumption
  · exact pos_nil
theorem pos_cutS (fr to : Int) (pre : List SpB) : pos (cutS fr to pre) := by
  intro r hr
  obtain ⟨x, _, hx⟩ := List.mem_flatMap.1 hr
  exact pos_cutSp fr to x.1 r hx
theorem exp_take_len {rs : List R} (h : pos rs) (k : Nat) : ((exp (rs.take k)).length : Int) = len (rs.take k) := (len_exp (pos_take h k)).symm
theorem exp_cut {rs : List R} (h : fine rs) {fr to : Int} (h1 : 0 ≤ fr) : ∀ k, k ≤ rs.length → exp (cutS fr to (upto rs k)) = ((exp (rs.take k)).take to.toNat).drop fr.toNat
  | 0, _ => by simp [upto, cutS, exp]
  | k + 1, hk => by
    have ih := exp_cut h (to := to) h1 k (by omega)
    have hl := exp_take_len h.2.1 k
    have hs := len_take_succ (b := rs) (k := k) (by omega)
    have hp := h.2.1 rs[k] (List.getElem_mem (by omega))
    rw [upto_succ, cutS_snoc, exp_append, ih, exp_cutSp, spk_eq h (by omega), List.take_succ_eq_append_getElem (by omega), exp_append, exp_one, List.take_append, List.drop_append]
    congr 1
    rw [List.take_replicate, List.drop_replicate, List.length_take]
    congr 1
    dsimp only
    rw [List.take_succ_eq_append_getElem (by omega)] at hs
    rw [hs, ← hl]
    omega
theorem exp_cutL {rs : List R} (h : fine rs) {fr to : Int} (h1 : 0 ≤ fr) : exp (cutL rs fr to) = ((exp rs).take to.toNat).drop fr.toNat := by
  unfold cutL; rw [exp_cut h h1 _ (Nat.le_refl _), List.take_length]
theorem pos_cutL (rs : List R) (fr to : Int) : pos (cutL rs fr to) := pos_cutS _ _ _
theorem cutL_length (rs : List R) (fr to : Int) : (cutL rs fr to).length ≤ rs.length := by
  have := cutS_le fr to (upto rs rs.length)
  rwa [upto_length] at this
theorem len_cutL {rs : List R} (h : fine rs) {fr to : Int} (h1 : 0 ≤ fr) (h2 : fr ≤ to) (h3 : to ≤ len rs) : len (cutL rs fr to) = to - fr := by
  rw [len_exp (pos_cutL _ _ _), exp_cutL h h1, List.length_drop, List.length_take]
  rw [len_exp h.2.1] at h3
  omega
theorem fine_cutL {rs : List R} (h : fine rs) {fr to : Int} (h1 : 0 ≤ fr) (h2 : fr ≤ to) (h3 : to ≤ len rs) : fine (cutL rs fr to) := by
  have a := cutL_length rs fr to
  have b := len_cutL h h1 h2 h3
  obtain ⟨c1, c2, c3⟩ := h
  exact ⟨by omega, pos_cutL _ _ _, by omega⟩
def spanOk (rs : List R) (fr to : Int) : Prop := 0 ≤ fr ∧ fr ≤ to ∧ to ≤ len rs
instance (rs : List R) (fr to : Int) : Decidable (spanOk rs fr to) := inferInstanceAs (Decidable (_ ∧ _ ∧ _))
def sliE (rs : List R) (fr to : Int) : Int := if valE rs = 0 then (if spanOk rs fr to then 0 else 1) else valE rs
def sliR (rs : List R) (fr to : Int) : List R := if sliE rs fr to = 0 then norm (cutL rs fr to) else []
theorem sliE_zero {rs : List R} {fr to : Int} : sliE rs fr to = 0 ↔ valE rs = 0 ∧ spanOk rs fr to := by
  unfold sliE
  by_cases h : valE rs = 0
  · rw [if_pos h]
    by_cases h2 : spanOk rs fr to
    · simp [h, h2]
    · simp [h2]
  · simp [h]
theorem told_cut {rs : List R} {fr to : Int} (h : sliE rs fr to = 0) : toldE (cutL rs fr to) = 0 ∧ toldR (cutL rs fr to) = norm (cutL rs fr to) := by
  obtain ⟨h1, h2, h3, h4⟩ := sliE_zero.1 h
  obtain ⟨a1, _, a3⟩ := valE_zero h1
  have hf := fine_of_valid h1
  have b1 := len_cutL hf h2 h3 h4
  have b2 := cutL_length rs fr to
  have b3 := norm_length (cutL rs fr to)
  exact told_fits (by omega)
end Bd

set_option maxRecDepth 20000 in
set_option maxHeartbeats 4000000 in
theorem ref_cut_any (v : Value) (rs : List Bd.R) (fr to : Int) (w : World) (hv : Runs w v rs) (hf : Bd.fine rs) (f1 : 0 ≤ fr) (f2 : fr ≤ 2000000000) (t1 : 0 ≤ to) (t2 : to ≤ 2000000000) :
    Calls Try.prog 88 #[v, .int .i64 fr, .int .i64 to] w fun e w' => ∃ u, e = .returned u ∧ Own w.heap.size w' u (Bd.cutL rs fr to) ∧ Below w.heap.size w w' := by
  obtain ⟨i0, hi, hz0, hz1, hz2⟩ := info_parts infoRun
  obtain ⟨ao, c, rfl, hlk⟩ := hv.look
  have HK := Lib.hid hlk
  have HB := Lib.hid (Bd.len_take_le hf.2.1)
  have HX := Lib.hid (fun k (hk : k < rs.length) => Bd.spk_eq hf hk)
  have hmax := hf.2.2
  have hlen := hf.1
  have HP := Lib.hid hf.2.1
  clear hv hlk hf
  go_enter Try.func88, Try.ntmps88
  go_wp2
  have hw0 := Below.refl w.heap.size w
  go_loopw [7, 8, 9] (fun o s t wr => ∃ k : Nat, k ≤ rs.length ∧ t = .int .i64 k ∧ s = .int .i64 (Bd.len (rs.take k)) ∧ Hid (Own w.heap.size wr o (cutS fr to (Bd.upto rs k)) ∧ Below w.heap.size w wr)) (fun _ _ t _ => rs.length - (intOf t).toNat)
  case atStart => exact ⟨0, Nat.zero_le _, rfl, rfl, Lib.hid ⟨Own.nil _ _, hw0⟩⟩
  case round =>
    obtain ⟨k, hk, rfl, rfl, hg⟩ := hrel
    clear hw0
    by_cases hlt : k < rs.length
    · obtain ⟨hown, hw⟩ := hg.out
      obtain ⟨b, off, rfl, hb, hr⟩ := HK.out k hlt
      obtain ⟨c0, c1, c2, c3⟩ := hr.below hw hb
      have hs := Bd.len_take_succ hlt
      have b1 := HB.out k
      have b2 := HB.out (k + 1)
      have hx := HX.out k hlt
      have hp := HP.out rs[k] (List.getElem_mem hlt)
      rw [hs] at b2 hx
      have HS := Lib.hid hs
      have HF := Lib.hid hx
      have hcl := cutS_le fr to (Bd.upto rs k)
      rw [Bd.upto_length] at hcl
      clear hs hx hg hr HB HX HP
      generalize hc2 : cutS fr to (Bd.upto rs k) = cs at *
      have HC2 := Lib.hid hc2
      clear hc2
      generalize Bd.len (rs.take k) = s at *
      generalize rs[k] = r at *
      rcases (show (s + r.l ≤ to ∧ fr ≤ s) ∨ (s + r.l ≤ to ∧ s < fr) ∨ (to < s + r.l ∧ fr ≤ s) ∨ (to < s + r.l ∧ s < fr) by omega) with ⟨h1, h2⟩ | ⟨h1, h2⟩ | ⟨h1, h2⟩ | ⟨h1, h2⟩
      · by_cases hc : 0 < s + r.l - s
        · have HCut := Lib.hid ((congrArg (cutSp fr to) HF.out).trans (cutSp_pos (x := ⟨s, s + r.l, r.m⟩) hc (by dsimp only; omega) (by dsimp only; omega)))
          clear HF
          go_wp2
          go_quiet (fail)
          obtain ⟨wq, hq⟩ : ∃ wq : World, wq = wr.drewN nq := ⟨_, rfl⟩
          have hown' := hown.drewN nq
          rw [← hq] at hown'
          have hw' : Below w.heap.size w wq := by rw [hq]; exact below_drewN hw _
          have c1' : wq.cell? ⟨b, off + k * 4 + 1, none⟩ = some (.int .i64 r.m.t) := by rw [hq]; exact c1
          have c2' : wq.cell? ⟨b, off + k * 4 + 2, none⟩ = some (.int .i64 r.m.s) := by rw [hq]; exact c2
          have c3' : wq.cell? ⟨b, off + k * 4 + 3, none⟩ = some (.int .i64 r.m.f) := by rw [hq]; exact c3
          rw [← hq]
          clear hq hown hw c0 c1 c2 c3
          unfold Own at hown'
          go_wp2_with (at_builtin; refine wpList_append_own _ rfl _ _ 22 rfl w.heap.size 73 i0 (.agg #[.int .i64 0, .int .i64 0, .int .i64 0, .int .i64 0]) 4 32 Try.underlying22 hi hz0 hz1 hz2 rfl (by decide) _ _ _ rfl (hown'.alloc _) ⟨wq.heap.size, 0, none⟩ 1 1 (runC ⟨s + r.l - s, r.m⟩) rfl rfl (runC_at wq _ _) (runC_one _) (by unfold maxLen; omega) (by omega) (by have := hw'.size; simp; omega) ?_)
          intro v' w2 hown1 hgrow _
          have hw2 := (hw'.alloc hw'.size (runObj ⟨s + r.l - s, r.m⟩)).grown hgrow (by have := hw'.size; simp; omega) (fun j e => (World.ownsRow.lt hown' j e).1)
          have hx2 := Own.pushed (a := cs) hown1
          clear hown1 hgrow hown' c1' c2' c3' hw'
          go_wp2
          go_roundw
          case rel => exact ⟨k + 1, by omega, by go_num, by rw [HS.out], Lib.hid ⟨by rw [Bd.upto_succ, cutS_snoc, HCut.out, HC2.out]; exact hx2, hw2⟩⟩
          case measure => simp [intOf]; omega
        · exfalso; omega
      · by_cases hc : 0 < s + r.l - fr
        · have HCut := Lib.hid ((congrArg (cutSp fr to) HF.out).trans (cutSp_pos (x := ⟨s, s + r.l, r.m⟩) hc (by dsimp only; omega) (by dsimp only; omega)))
          clear HF
          go_wp2
          go_quiet (fail)
          obtain ⟨wq, hq⟩ : ∃ wq : World, wq = wr.drewN nq := ⟨_, rfl⟩
          have hown' := hown.drewN nq
          rw [← hq] at hown'
          have hw' : Below w.heap.size w wq := by rw [hq]; exact below_drewN hw _
          have c1' : wq.cell? ⟨b, off + k * 4 + 1, none⟩ = some (.int .i64 r.m.t) := by rw [hq]; exact c1
          have c2' : wq.cell? ⟨b, off + k * 4 + 2, none⟩ = some (.int .i64 r.m.s) := by rw [hq]; exact c2
          have c3' : wq.cell? ⟨b, off + k * 4 + 3, none⟩ = some (.int .i64 r.m.f) := by rw [hq]; exact c3
          rw [← hq]
          clear hq hown hw c0 c1 c2 c3
          unfold Own at hown'
          go_wp2_with (at_builtin; refine wpList_append_own _ rfl _ _ 22 rfl w.heap.size 73 i0 (.agg #[.int .i64 0, .int .i64 0, .int .i64 0, .int .i64 0]) 4 32 Try.underlying22 hi hz0 hz1 hz2 rfl (by decide) _ _ _ rfl (hown'.alloc _) ⟨wq.heap.size, 0, none⟩ 1 1 (runC ⟨s + r.l - fr, r.m⟩) rfl rfl (runC_at wq _ _) (runC_one _) (by unfold maxLen; omega) (by omega) (by have := hw'.size; simp; omega) ?_)
          intro v' w2 hown1 hgrow _
          have hw2 := (hw'.alloc hw'.size (runObj ⟨s + r.l - fr, r.m⟩)).grown hgrow (by have := hw'.size; simp; omega) (fun j e => (World.ownsRow.lt hown' j e).1)
          have hx2 := Own.pushed (a := cs) hown1
          clear hown1 hgrow hown' c1' c2' c3' hw'
          go_wp2
          go_roundw
          case rel => exact ⟨k + 1, by omega, by go_num, by rw [HS.out], Lib.hid ⟨by rw [Bd.upto_succ, cutS_snoc, HCut.out, HC2.out]; exact hx2, hw2⟩⟩
          case measure => simp [intOf]; omega
        · have HCut := Lib.hid ((congrArg (cutSp fr to) HF.out).trans (cutSp_neg (x := ⟨s, s + r.l, r.m⟩) hc (by dsimp only; omega) (by dsimp only; omega)))
          clear HF
          go_wp2
          go_quiet (fail)
          go_wp2
          go_roundw
          case rel => exact ⟨k + 1, by omega, by go_num, by rw [HS.out], Lib.hid ⟨by rw [Bd.upto_succ, cutS_snoc, HCut.out, List.append_nil, HC2.out]; exact hown.drewN _, below_drewN hw _⟩⟩
          case measure => simp [intOf]; omega
      · by_cases hc : 0 < to - s
        · have HCut := Lib.hid ((congrArg (cutSp fr to) HF.out).trans (cutSp_pos (x := ⟨s, s + r.l, r.m⟩) hc (by dsimp only; omega) (by dsimp only; omega)))
          clear HF
          go_wp2
          go_quiet (fail)
          obtain ⟨wq, hq⟩ : ∃ wq : World, wq = wr.drewN nq := ⟨_, rfl⟩
          have hown' := hown.drewN nq
          rw [← hq] at hown'
          have hw' : Below w.heap.size w wq := by rw [hq]; exact below_drewN hw _
          have c1' : wq.cell? ⟨b, off + k * 4 + 1, none⟩ = some (.int .i64 r.m.t) := by rw [hq]; exact c1
          have c2' : wq.cell? ⟨b, off + k * 4 + 2, none⟩ = some (.int .i64 r.m.s) := by rw [hq]; exact c2
          have c3' : wq.cell? ⟨b, off + k * 4 + 3, none⟩ = some (.int .i64 r.m.f) := by rw [hq]; exact c3
          rw [← hq]
          clear hq hown hw c0 c1 c2 c3
          unfold Own at hown'
          go_wp2_with (at_builtin; refine wpList_append_own _ rfl _ _ 22 rfl w.heap.size 73 i0 (.agg #[.int .i64 0, .int .i64 0, .int .i64 0, .int .i64 0]) 4 32 Try.underlying22 hi hz0 hz1 hz2 rfl (by decide) _ _ _ rfl (hown'.alloc _) ⟨wq.heap.size, 0, none⟩ 1 1 (runC ⟨to - s, r.m⟩) rfl rfl (runC_at wq _ _) (runC_one _) (by unfold maxLen; omega) (by omega) (by have := hw'.size; simp; omega) ?_)
          intro v' w2 hown1 hgrow _
          have hw2 := (hw'.alloc hw'.size (runObj ⟨to - s, r.m⟩)).grown hgrow (by have := hw'.size; simp; omega) (fun j e => (World.ownsRow.lt hown' j e).1)
          have hx2 := Own.pushed (a := cs) hown1
          clear hown1 hgrow hown' c1' c2' c3' hw'
          go_wp2
          go_roundw
          case rel => exact ⟨k + 1, by omega, by go_num, by rw [HS.out], Lib.hid ⟨by rw [Bd.upto_succ, cutS_snoc, HCut.out, HC2.out]; exact hx2, hw2⟩⟩
          case measure => simp [intOf]; omega
        · have HCut := Lib.hid ((congrArg (cutSp fr to) HF.out).trans (cutSp_neg (x := ⟨s, s + r.l, r.m⟩) hc (by dsimp only; omega) (by dsimp only; omega)))
          clear HF
          go_wp2
          go_quiet (fail)
          go_wp2
          go_roundw
          case rel => exact ⟨k + 1, by omega, by go_num, by rw [HS.out], Lib.hid ⟨by rw [Bd.upto_succ, cutS_snoc, HCut.out, List.append_nil, HC2.out]; exact hown.drewN _, below_drewN hw _⟩⟩
          case measure => simp [intOf]; omega
      · by_cases hc : 0 < to - fr
        · have HCut := Lib.hid ((congrArg (cutSp fr to) HF.out).trans (cutSp_pos (x := ⟨s, s + r.l, r.m⟩) hc (by dsimp only; omega) (by dsimp only; omega)))
          clear HF
          go_wp2
          go_quiet (fail)
          obtain ⟨wq, hq⟩ : ∃ wq : World, wq = wr.drewN nq := ⟨_, rfl⟩
          have hown' := hown.drewN nq
          rw [← hq] at hown'
          have hw' : Below w.heap.size w wq := by rw [hq]; exact below_drewN hw _
          have c1' : wq.cell? ⟨b, off + k * 4 + 1, none⟩ = some (.int .i64 r.m.t) := by rw [hq]; exact c1
          have c2' : wq.cell? ⟨b, off + k * 4 + 2, none⟩ = some (.int .i64 r.m.s) := by rw [hq]; exact c2
          have c3' : wq.cell? ⟨b, off + k * 4 + 3, none⟩ = some (.int .i64 r.m.f) := by rw [hq]; exact c3
          rw [← hq]
          clear hq hown hw c0 c1 c2 c3
          unfold Own at hown'
          go_wp2_with (at_builtin; refine wpList_append_own _ rfl _ _ 22 rfl w.heap.size 73 i0 (.agg #[.int .i64 0, .int .i64 0, .int .i64 0, .int .i64 0]) 4 32 Try.underlying22 hi hz0 hz1 hz2 rfl (by decide) _ _ _ rfl (hown'.alloc _) ⟨wq.heap.size, 0, none⟩ 1 1 (runC ⟨to - fr, r.m⟩) rfl rfl (runC_at wq _ _) (runC_one _) (by unfold maxLen; omega) (by omega) (by have := hw'.size; simp; omega) ?_)
          intro v' w2 hown1 hgrow _
          have hw2 := (hw'.alloc hw'.size (runObj ⟨to - fr, r.m⟩)).grown hgrow (by have := hw'.size; simp; omega) (fun j e => (World.ownsRow.lt hown' j e).1)
          have hx2 := Own.pushed (a := cs) hown1
          clear hown1 hgrow hown' c1' c2' c3' hw'
          go_wp2
          go_roundw
          case rel => exact ⟨k + 1, by omega, by go_num, by rw [HS.out], Lib.hid ⟨by rw [Bd.upto_succ, cutS_snoc, HCut.out, HC2.out]; exact hx2, hw2⟩⟩
          case measure => simp [intOf]; omega
        · have HCut := Lib.hid ((congrArg (cutSp fr to) HF.out).trans (cutSp_neg (x := ⟨s, s + r.l, r.m⟩) hc (by dsimp only; omega) (by dsimp only; omega)))
          clear HF
          go_wp2
          go_quiet (fail)
          go_wp2
          go_roundw
          case rel => exact ⟨k + 1, by omega, by go_num, by rw [HS.out], Lib.hid ⟨by rw [Bd.upto_succ, cutS_snoc, HCut.out, List.append_nil, HC2.out]; exact hown.drewN _, below_drewN hw _⟩⟩
          case measure => simp [intOf]; omega
    · obtain rfl : k = rs.length := by omega
      go_wp2
      go_ret
      exact ⟨_, rfl, hg.out.1, hg.out.2⟩
end Go.Proofs.Ytilpofmjkcjhdaa
namespace Go.Proofs.Ytilpofmjkcjhdaa
open Go.RowKit

theorem same_runs_true (v u : Value) (rs : List Bd.R) (w : World) (hv : Runs w v rs) (hu : Runs w u rs) (hlen : rs.length ≤ 1000) :
    Calls Try.prog 41 #[v, u] w fun e w' => e = .returned (.bool true) ∧ Below w.heap.size w w' :=
  (same_runs_any v u rs rs w hv hu hlen hlen).mono fun e w' ⟨h1, h2⟩ => ⟨by rw [h1]; simp, h2⟩
theorem Bd.norR_length (b : List Bd.R) : (Bd.norR b).length ≤ b.length := by
  unfold Bd.norR; split
  · exact Bd.norm_length b
  · simp

end Go.Proofs.Ytilpofmjkcjhdaa
namespace Go.Proofs.Ytilpofmjkcjhdaa
open Go.RowKit

theorem Bd.len_valid {rs : List Bd.R} (h : Bd.valE rs = 0) : 0 ≤ Bd.len rs ∧ Bd.len rs ≤ 1000000 := ⟨Bd.len_nonneg (Bd.valE_pos h), (Bd.valE_zero h).2.2⟩
theorem Bd.sliE_ok {rs : List Bd.R} {fr to : Int} (h : Bd.valE rs = 0) (h1 : 0 ≤ fr) (h2 : fr ≤ to) (h3 : to ≤ Bd.len rs) : Bd.sliE rs fr to = 0 := Bd.sliE_zero.2 ⟨h, h1, h2, h3⟩
theorem Bd.sliE_bad {rs : List Bd.R} {fr to : Int} (h : Bd.valE rs = 0) (h1 : fr < 0 ∨ to < fr ∨ Bd.len rs < to) : Bd.sliE rs fr to = 1 := by
  unfold Bd.sliE; rw [if_pos h, if_neg]; rintro ⟨a, b, c⟩; omega
theorem Bd.sliE_inv {rs : List Bd.R} {fr to : Int} (h : Bd.valE rs ≠ 0) : Bd.sliE rs fr to = Bd.valE rs := by unfold Bd.sliE; rw [if_neg h]

theorem validate_span_any (v : Value) (rs : List Bd.R) (fr to : Int) (w : World) (hv : Runs w v rs) (hl : rs.length ≤ 1000) :
    Calls Try.prog 71 #[v, .int .i64 fr, .int .i64 to] w fun e w' => e = .returned (.int .i64 (Bd.sliE rs fr to)) ∧ Below w.heap.size w w' := by
  have V := Lib.hid (validate_any v rs w hv hl)
  have N := Lib.hid (fun W (hW : Below w.heap.size w W) h => length_any v rs W (hv.all hW) h)
  obtain ⟨a, c, rfl⟩ := hv.form
  clear hv
  generalize hE : Bd.sliE rs fr to = E
  by_cases h : Bd.valE rs = 0
  · have hf := Bd.fine_of_valid h
    have N := Lib.hid (fun W hW => N.out W hW hf)
    rw [h] at V
    clear hf
    rcases (show (0 ≤ fr ∧ fr ≤ to ∧ to ≤ Bd.len rs) ∨ (0 ≤ fr ∧ fr ≤ to ∧ Bd.len rs < to) ∨ (0 ≤ fr ∧ to < fr) ∨ fr < 0 by omega) with ⟨h1, h2, h3⟩ | ⟨h1, h2, h3⟩ | ⟨h1, h2⟩ | h1
    · rw [Bd.sliE_ok h h1 h2 h3] at hE
      have HE := Lib.hid hE
      clear h hE
      generalize Bd.len rs = m at *
      go_enter Try.func71, Try.ntmps71
      go_wp2_with fail
      refine V.out.mono ?_
      rintro e w1 ⟨rfl, hb1⟩
      go_wp2_with fail
      refine (N.out _ hb1).mono ?_
      rintro e w2 ⟨rfl, hb2⟩
      go_wp2
      go_ret
      exact ⟨ret_int HE.out, below_step hb1 hb2⟩
    · rw [Bd.sliE_bad h (by omega)] at hE
      have HE := Lib.hid hE
      clear h hE
      generalize Bd.len rs = m at *
      go_enter Try.func71, Try.ntmps71
      go_wp2_with fail
      refine V.out.mono ?_
      rintro e w1 ⟨rfl, hb1⟩
      go_wp2_with fail
      refine (N.out _ hb1).mono ?_
      rintro e w2 ⟨rfl, hb2⟩
      go_wp2
      go_ret
      exact ⟨ret_int HE.out, below_step hb1 hb2⟩
    · rw [Bd.sliE_bad h (by omega)] at hE
      have HE := Lib.hid hE
      clear h hE
      go_enter Try.func71, Try.ntmps71
      go_wp2_with fail
      refine V.out.mono ?_
      rintro e w1 ⟨rfl, hb1⟩
      go_wp2
      go_ret
      exact ⟨ret_int HE.out, hb1⟩
    · rw [Bd.sliE_bad h (by omega)] at hE
      have HE := Lib.hid hE
      clear h hE
      go_enter Try.func71, Try.ntmps71
      go_wp2_with fail
      refine V.out.mono ?_
      rintro e w1 ⟨rfl, hb1⟩
      go_wp2
      go_ret
      exact ⟨ret_int HE.out, hb1⟩
  · rw [Bd.sliE_inv h] at hE
    subst hE
    generalize Bd.valE rs = z at *
    have hz : (z == 0) = false := by simp [h]
    clear h N
    go_enter Try.func71, Try.ntmps71
    go_wp2_with fail
    refine V.out.mono ?_
    rintro e w1 ⟨rfl, hb1⟩
    go_wp2
    go_ret
    exact ⟨rfl, hb1⟩

theorem span_any (v : Value) (rs : List Bd.R) (fr to : Int) (w : World) (hv : Runs w v rs) (h : Bd.valE rs = 0) :
    Calls Try.prog 86 #[v, .int .i64 fr, .int .i64 to] w fun e w' => e = .returned (.bool (decide (Bd.sliE rs fr to = 0))) ∧ Below w.heap.size w w' := by
  have N := Lib.hid (size_any v rs w hv (Bd.fine_of_valid h))
  obtain ⟨a, c, rfl⟩ := hv.form
  clear hv
  generalize hE : decide (Bd.sliE rs fr to = 0) = E
  rcases (show (0 ≤ fr ∧ fr ≤ to ∧ to ≤ Bd.len rs) ∨ (0 ≤ fr ∧ fr ≤ to ∧ Bd.len rs < to) ∨ (0 ≤ fr ∧ to < fr) ∨ fr < 0 by omega) with ⟨h1, h2, h3⟩ | ⟨h1, h2, h3⟩ | ⟨h1, h2⟩ | h1
  · rw [Bd.sliE_ok h h1 h2 h3] at hE
    have HE := Lib.hid hE
    clear h hE
    generalize Bd.len rs = m at *
    go_enter Try.func86, Try.ntmps86
    go_wp2_with fail
    refine N.out.mono ?_
    rintro e w1 ⟨rfl, hb1⟩
    go_wp2
    go_ret
    exact ⟨ret_bool (by rw [← HE.out]; simp; try omega), hb1⟩
  · rw [Bd.sliE_bad h (by omega)] at hE
    have HE := Lib.hid hE
    clear h hE
    generalize Bd.len rs = m at *
    go_enter Try.func86, Try.ntmps86
    go_wp2_with fail
    refine N.out.mono ?_
    rintro e w1 ⟨rfl, hb1⟩
    go_wp2
    go_ret
    exact ⟨ret_bool (by rw [← HE.out]; simp; try omega), hb1⟩
  · rw [Bd.sliE_bad h (by omega)] at hE
    have HE := Lib.hid hE
    clear h hE N
    go_enter Try.func86, Try.ntmps86
    go_wp2
    go_ret
    exact ⟨ret_bool (by rw [← HE.out]; simp; try omega), Below.refl _ _⟩
  · rw [Bd.sliE_bad h (by omega)] at hE
    have HE := Lib.hid hE
    clear h hE N
    go_enter Try.func86, Try.ntmps86
    go_wp2
    go_ret
    exact ⟨ret_bool (by rw [← HE.out]; simp; try omega), Below.refl _ _⟩

theorem num_slice_any (v : Value) (rs : List Bd.R) (fr to : Int) (w : World) (hv : Runs w v rs) (hl : rs.length ≤ 1000) :
    Calls Try.prog 45 #[v, .int .i64 fr, .int .i64 to] w fun e w' => ∃ x, e = .returned (.tuple #[x, .int .i64 (Bd.sliE rs fr to)]) ∧ Own w.heap.size w' x (Bd.sliR rs fr to) ∧ Below w.heap.size w w' := by
  have V := Lib.hid (validate_span_any v rs fr to w hv hl)
  have N := Lib.hid (fun W (hW : Below w.heap.size w W) h => part_any v rs fr to W (hv.all hW) h)
  obtain ⟨a, c, rfl⟩ := hv.form
  clear hv
  unfold Bd.sliR
  by_cases h : Bd.sliE rs fr to = 0
  · rw [if_pos h]
    obtain ⟨h0, h1, h2, h3⟩ := Bd.sliE_zero.1 h
    have hf := Bd.fine_of_valid h0
    have hlv := Bd.len_valid h0
    have N := Lib.hid (fun W hW => N.out W hW hf h1 (by omega) (by omega) (by omega))
    have hfc := Bd.fine_cutL hf h1 h2 h3
    rw [h] at V ⊢
    have e0 : cutS fr to (Bd.upto rs rs.length) = Bd.cutL rs fr to := rfl
    rw [e0] at N
    clear h h0 h1 h2 h3 hf hlv e0
    generalize Bd.cutL rs fr to = cs at *
    go_enter Try.func45, Try.ntmps45
    go_wp2_with fail
    refine V.out.mono ?_
    rintro e w1 ⟨rfl, hb1⟩
    go_wp2_with fail
    refine (N.out _ hb1).mono ?_
    rintro e w2 ⟨x, rfl, hx, hb2⟩
    have hb2' := below_step hb1 hb2
    go_wp2_with fail
    refine (normal_any x _ _ hx.runs hfc).mono ?_
    rintro e w3 ⟨y, rfl, hy, hb3⟩
    have hb3' := below_step hb2' hb3
    obtain ⟨ya, yc, hyf⟩ := hy.runs.form
    subst hyf
    go_wp2
    go_ret2
    exact ⟨_, rfl, hy.mono hb2'.size, hb3'⟩
  · rw [if_neg h]
    generalize Bd.sliE rs fr to = z at *
    have hz : (z == 0) = false := by simp [h]
    clear h N
    go_enter Try.func45, Try.ntmps45
    go_wp2_with fail
    refine V.out.mono ?_
    rintro e w1 ⟨rfl, hb1⟩
    go_wp2
    go_ret2
    exact ⟨_, rfl, Own.nil _ _, hb1⟩

theorem ref_slice_any (v : Value) (rs : List Bd.R) (fr to : Int) (w : World) (hv : Runs w v rs) (hl : rs.length ≤ 1000) :
    Calls Try.prog 68 #[v, .int .i64 fr, .int .i64 to] w fun e w' => ∃ x, e = .returned (.tuple #[x, .int .i64 (Bd.sliE rs fr to)]) ∧ Own w.heap.size w' x (Bd.sliR rs fr to) ∧ Below w.heap.size w w' := by
  have V := Lib.hid (ref_validate_any v rs w hv hl)
  have S := Lib.hid (fun W (hW : Below w.heap.size w W) h => span_any v rs fr to W (hv.all hW) h)
  have N := Lib.hid (fun W (hW : Below w.heap.size w W) h => ref_cut_any v rs fr to W (hv.all hW) h)
  obtain ⟨a, c, rfl⟩ := hv.form
  clear hv
  unfold Bd.sliR
  by_cases hv0 : Bd.valE rs = 0
  · have S := Lib.hid (fun W hW => S.out W hW hv0)
    rw [hv0] at V
    by_cases h : Bd.sliE rs fr to = 0
    · rw [if_pos h]
      obtain ⟨h0, h1, h2, h3⟩ := Bd.sliE_zero.1 h
      have hf := Bd.fine_of_valid h0
      have hlv := Bd.len_valid h0
      have N := Lib.hid (fun W hW => N.out W hW hf h1 (by omega) (by omega) (by omega))
      have hfc := Bd.fine_cutL hf h1 h2 h3
      have ht := Bd.told_cut h
      rw [h] at S ⊢
      have S := Lib.hid (fun W hW => (S.out W hW : Calls _ _ _ _ fun e w' => e = .returned (.bool true) ∧ Below W.heap.size W w'))
      have HT := Lib.hid ht
      clear h h0 h1 h2 h3 hf hlv ht hv0
      generalize Bd.cutL rs fr to = cs at *
      go_enter Try.func68, Try.ntmps68
      go_wp2_with fail
      refine V.out.mono ?_
      rintro e w1 ⟨rfl, hb1⟩
      go_wp2_with fail
      refine (S.out _ hb1).mono ?_
      rintro e w2 ⟨rfl, hb2⟩
      have hb2' := below_step hb1 hb2
      go_wp2_with fail
      refine (N.out _ hb2').mono ?_
      rintro e w3 ⟨x, rfl, hx, hb3⟩
      have hb3' := below_step hb2' hb3
      have TT := Lib.hid (told_any x _ _ hx.runs hfc)
      rw [HT.out.1, HT.out.2] at TT
      go_wp2_with fail
      refine TT.out.mono ?_
      rintro e w4 ⟨y, rfl, hy, hb4⟩
      have hb4' := below_step hb3' hb4
      go_wp2
      go_ret2
      exact ⟨_, rfl, hy.mono hb3'.size, hb4'⟩
    · rw [if_neg h]
      have h1 : Bd.sliE rs fr to = 1 := by
        unfold Bd.sliE at h ⊢
        rw [if_pos hv0] at h ⊢
        by_cases hs : Bd.spanOk rs fr to
        · rw [if_pos hs] at h; exact absurd rfl h
        · rw [if_neg hs]
      rw [h1] at S ⊢
      have S := Lib.hid (fun W hW => (S.out W hW : Calls _ _ _ _ fun e w' => e = .returned (.bool false) ∧ Below W.heap.size W w'))
      clear h h1 hv0 N
      go_enter Try.func68, Try.ntmps68
      go_wp2_with fail
      refine V.out.mono ?_
      rintro e w1 ⟨rfl, hb1⟩
      go_wp2_with fail
      refine (S.out _ hb1).mono ?_
      rintro e w2 ⟨rfl, hb2⟩
      have hb2' := below_step hb1 hb2
      go_wp2
      go_ret2
      exact ⟨_, rfl, Own.nil _ _, hb2'⟩
  · have h : Bd.sliE rs fr to ≠ 0 := by rw [Bd.sliE_inv hv0]; exact hv0
    rw [if_neg h, Bd.sliE_inv hv0]
    generalize Bd.valE rs = z at *
    have hz : (z == 0) = false := by simp [hv0]
    clear h N S hv0
    go_enter Try.func68, Try.ntmps68
    go_wp2_with fail
    refine V.out.mono ?_
    rintro e w1 ⟨rfl, hb1⟩
    go_wp2
    go_ret2
    exact ⟨_, rfl, Own.nil _ _, hb1⟩

theorem Bd.sliR_length (rs : List Bd.R) (fr to : Int) : (Bd.sliR rs fr to).length ≤ rs.length := by
  unfold Bd.sliR; split
  · exact Nat.le_trans (Bd.norm_length _) (Bd.cutL_length _ _ _)
  · simp

end Go.Proofs.Ytilpofmjkcjhdaa
