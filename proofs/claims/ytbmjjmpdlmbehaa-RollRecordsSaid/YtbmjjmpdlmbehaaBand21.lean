/- A part of a band: a loop over the iterator that collects. -/
import Derived.Test.YtbmjjmpdlmbehaaBand20
import Derived.Maps.AppendAt
namespace Go.Proofs.Ytbmjjmpdlmbehaa
open Go.RowKit Go.Shelf

attribute [local go_sem] Oper.semAt_some

/-- What a span gives to a part. -/
def cutSp (fr to : Int) (x : Bd.Sp) : List Bd.R := if 0 < min x.t to - max x.f fr then [⟨min x.t to - max x.f fr, x.m⟩] else []
def cutS (fr to : Int) (pre : List Bd.SpB) : List Bd.R := pre.flatMap fun x => cutSp fr to x.1
theorem cutS_snoc (fr to : Int) (pre : List Bd.SpB) (x : Bd.SpB) : cutS fr to (pre ++ [x]) = cutS fr to pre ++ cutSp fr to x.1 := by simp [cutS]
theorem cutSp_pos {fr to : Int} {x : Bd.Sp} {a b : Int} (h : 0 < a - b) (ha : min x.t to = a) (hb : max x.f fr = b) : cutSp fr to x = [⟨a - b, x.m⟩] := by unfold cutSp; rw [ha, hb, if_pos h]
theorem cutSp_neg {fr to : Int} {x : Bd.Sp} {a b : Int} (h : ¬ 0 < a - b) (ha : min x.t to = a) (hb : max x.f fr = b) : cutSp fr to x = [] := by unfold cutSp; rw [ha, hb, if_neg h]
theorem cutSp_le (fr to : Int) (x : Bd.Sp) : (cutSp fr to x).length ≤ 1 := by unfold cutSp; split <;> simp
theorem cutS_le (fr to : Int) : ∀ pre : List Bd.SpB, (cutS fr to pre).length ≤ pre.length
  | [] => by simp [cutS]
  | x :: pre => by
    have h1 := cutS_le fr to pre
    have h2 := cutSp_le fr to x.1
    have e : cutS fr to (x :: pre) = cutSp fr to x.1 ++ cutS fr to pre := by simp [cutS]
    rw [e]; simp; omega

/-- A block of cells. -/
def BlockAt (W : World) (B : Nat) (cs : Array Value) (t : TypeId) : Prop := W.heap[B]? = some (.cells cs t (0, 0))
theorem BlockAt.lt {W : World} {B : Nat} {cs : Array Value} {t : TypeId} (h : BlockAt W B cs t) : B < W.heap.size := (Array.getElem?_eq_some_iff.1 h).1
theorem BlockAt.new (W : World) (cs : Array Value) (t : TypeId) : BlockAt (W.alloc (.cells cs t)) W.heap.size cs t := World.alloc_heap_new W _
theorem BlockAt.kept {W W' : World} {row : Option Nat} {B : Nat} {cs : Array Value} {t : TypeId} (h : BlockAt W B cs t) (hg : W.grownBy W' row) (hne : some B ≠ row) : BlockAt W' B cs t := (hg.block B h.lt hne).trans h
theorem BlockAt.alloc {W : World} {B : Nat} {cs : Array Value} {t : TypeId} (h : BlockAt W B cs t) (o : Obj) : BlockAt (W.alloc o) B cs t := h.kept (World.grownBy_alloc W o none) (by simp)
theorem BlockAt.cell {W : World} {B : Nat} {cs : Array Value} {t : TypeId} (h : BlockAt W B cs t) (i : Nat) : W.cell? ⟨B, i, none⟩ = cs[i]? := by simp [World.cell?, show W.heap[B]? = _ from h]
theorem block_own {β : Type} (B : Nat) (f : β → Array Value) (t : TypeId) : Go.Own (fun s W => BlockAt W B (f s) t) := by
  rintro s X Y row h hg hrow
  refine h.kept hg (fun e => ?_)
  obtain ⟨o, ho, hc⟩ := hrow B e.symm
  rw [show X.heap[B]? = _ from h] at ho; cases ho; cases hc

set_option maxRecDepth 100000 in
set_option maxHeartbeats 8000000 in
theorem part_any (v : Value) (rs : List Bd.R) (fr to : Int) (w : World) (hv0 : Runs w v rs) (hf : Bd.fine rs) (f1 : 0 ≤ fr) (f2 : fr ≤ 2000000000) (t1 : 0 ≤ to) (t2 : to ≤ 4000000000) :
    Calls Try.prog 50 #[v, .int .i64 fr, .int .i64 to] w fun e w' => ∃ u, e = .returned u ∧ Own w.heap.size w' u (cutS fr to (Bd.upto rs rs.length)) ∧ Below w.heap.size w w' := by
  obtain ⟨i0, hi, hz0, hz1, hz2⟩ := info_parts infoRun
  have hlk := hv0.look
  obtain ⟨ao, c, rfl, hlk⟩ := hlk
  have hlen := hf.1
  refine (callsIn_wide (n := 6)).1 ?_
  refine callsIn_of_wp_marks Try.func50 rfl trivial ?_ rfl
  simp only [Try.ntmps50, List.size_toArray, List.length_cons, List.length_nil, Nat.reduceAdd, Nat.reduceSub, Array.replicate_succ, Array.replicate_zero, List.push_toArray, List.append_toArray, List.nil_append, List.cons_append]
  gi_wp2_with (refine ⟨trivial, ?_⟩; gi_at_call 72; refine (callsIn_wide.2 (marks_any ao rs.length c _)).mono ?_; rintro e w' ⟨rfl, rfl⟩)
  have bF := (((Boxed.new w 3 (.int .i64 fr)).alloc (.cells #[.int .i64 to] 3)).alloc (.cells #[.slice none 0 0] 22)).alloc (.cells #[.slice ao rs.length c] 22)
  have bT := ((Boxed.new (w.alloc (.cells #[.int .i64 fr] 3)) 3 (.int .i64 to)).alloc (.cells #[.slice none 0 0] 22)).alloc (.cells #[.slice ao rs.length c] 22)
  have bO := (Boxed.new ((w.alloc (.cells #[.int .i64 fr] 3)).alloc (.cells #[.int .i64 to] 3)) 22 (.slice none 0 0)).alloc (.cells #[.slice ao rs.length c] 22)
  have bS := Boxed.new (((w.alloc (.cells #[.int .i64 fr] 3)).alloc (.cells #[.int .i64 to] 3)).alloc (.cells #[.slice none 0 0] 22)) 22 (.slice ao rs.length c)
  simp only [World.size_alloc] at bT bO bS
  have hB0 : Below w.heap.size w ((((w.alloc (.cells #[.int .i64 fr] 3)).alloc (.cells #[.int .i64 to] 3)).alloc (.cells #[.slice none 0 0] 22)).alloc (.cells #[.slice ao rs.length c] 22)) := by
    repeat' (first | exact Below.refl _ _ | refine Below.alloc ?_ (by simp <;> omega) _)
  have hsz : ((((w.alloc (.cells #[.int .i64 fr] 3)).alloc (.cells #[.int .i64 to] 3)).alloc (.cells #[.slice none 0 0] 22)).alloc (.cells #[.slice ao rs.length c] 22)).heap.size = w.heap.size + 4 := by simp
  obtain ⟨W0, hW0⟩ : ∃ W0, (((w.alloc (.cells #[.int .i64 fr] 3)).alloc (.cells #[.int .i64 to] 3)).alloc (.cells #[.slice none 0 0] 22)).alloc (.cells #[.slice ao rs.length c] 22) = W0 := ⟨_, rfl⟩
  rw [hW0] at bF bT bO bS hB0 hsz ⊢
  clear hW0 hv0
  refine wpIn_rangeFunc_ownH rfl (by omega) (gf := 83) (lb := #[.pointer (some ⟨w.heap.size + 1 + 1 + 1, 0, none⟩)]) rfl trivial (enters_of Try.func83 (by kernel_rfl) rfl)
    (marks_stops Fence.wide (6 - 1) trivial rfl (by omega) (w.heap.size + 1 + 1 + 1) w.heap.size _ rs hf W0 (by omega) (by omega) bS.cell ⟨ao, c, rfl, fun k hk => by obtain ⟨b, off, h1, h2, h3⟩ := hlk k hk; exact ⟨b, off, h1, h2, h3.below hB0 h2⟩⟩) belowK_t (belowK_b (by omega)) (Below.refl _ _) (fun _ => rfl)
    (fun pre W => ((Boxed W w.heap.size 3 (.int .i64 fr) ∧ Boxed W (w.heap.size + 1) 3 (.int .i64 to)) ∧ (∃ v, Boxed W (w.heap.size + 1 + 1) 22 v ∧ W.ownsRow w.heap.size 52 4 v (cutS fr to pre).length (cellsR (cutS fr to pre)) ∧ True)) ∧ Below w.heap.size w W)
    (fun _ _ _ => False)
    (OwnFrom.and (OwnFrom.and (OwnFrom.and (Own.from (boxed_own _ _ (fun _ => Value.int .i64 fr)) _) (Own.from (boxed_own _ _ (fun _ => Value.int .i64 to)) _)) (Own.from (holdsRow_own w.heap.size (w.heap.size + 1 + 1) 22 52 4 (fun pre => (cutS fr to pre).length) (fun pre => cellsR (cutS fr to pre)) (fun _ _ => True)) _)) (ownFrom_below (Nat.le_refl _) (by omega)))
    (fun _ _ _ _ _ hs _ _ => hs.elim)
    ⟨⟨⟨bF, bT⟩, _, bO, World.ownsRow_nil _ _ _ _, trivial⟩, hB0⟩
    (fun x a' W => ∃ Bx, w.heap.size + 2 < Bx ∧ (BlockAt W Bx #[.int .i64 x.1.f, .int .i64 x.1.t] 70 ∧ BlockAt W (Bx + 1) #[.int .i64 x.1.m.t, .int .i64 x.1.m.s, .int .i64 x.1.m.f] 50) ∧ a' = { tmps := #[.slice ao rs.length c, .int .i64 fr, .int .i64 to, undef, .pointer (some ⟨w.heap.size, 0, none⟩), .pointer (some ⟨w.heap.size + 1, 0, none⟩), .slice none 0 0, .pointer (some ⟨w.heap.size + 1 + 1, 0, none⟩), .pointer (some ⟨Bx, 0, none⟩), .pointer (some ⟨Bx + 1, 0, none⟩), undef, .slice ao rs.length c, .func (.func 83) #[] #[.pointer (some ⟨w.heap.size + 1 + 1 + 1, 0, none⟩)], .agg #[.int .i64 x.1.f, .int .i64 x.1.t], .agg #[.int .i64 x.1.m.t, .int .i64 x.1.m.s, .int .i64 x.1.m.f], undef, undef, undef, undef, undef, undef, undef, undef, undef, undef, undef, undef, undef, undef, undef, undef, undef, undef], defers := [] })
    (fun x a' _ X Y row hs hg hr => by obtain ⟨Bx, e1, ⟨e2, e4⟩, e3⟩ := hs; exact ⟨Bx, e1, ⟨block_own Bx (fun (_ : Unit) => #[.int .i64 x.1.f, .int .i64 x.1.t]) 70 () X Y row e2 hg (fun r e => (hr r e).2), block_own (Bx + 1) (fun (_ : Unit) => #[.int .i64 x.1.m.t, .int .i64 x.1.m.s, .int .i64 x.1.m.f]) 50 () X Y row e4 hg (fun r e => (hr r e).2)⟩, e3⟩)
    ?assign ?body ?done ?stop
  case assign =>
    rintro l pre x W K ⟨⟨⟨bF1, bT1⟩, v1, bO1, hrow1, _⟩, hB1⟩ hK
    have hsW := hB1.size
    gi_wp2
    exact hK _ _ (((KeepsOthers.alloc _ _).trans (KeepsOthers.alloc _ _)).from _) (((Below.refl _ W).alloc hsW _).alloc (by simp; omega) _) ⟨⟨⟨(bF1.alloc _).alloc _, (bT1.alloc _).alloc _⟩, _, (bO1.alloc _).alloc _, (hrow1.alloc _).alloc _, trivial⟩, (hB1.alloc hsW _).alloc (by simp; omega) _⟩ ⟨W.heap.size, by have := bO1.lt; omega, ⟨(BlockAt.new W _ _).alloc _, by simpa using BlockAt.new (W.alloc (.cells #[.int .i64 x.1.f, .int .i64 x.1.t] 70)) #[.int .i64 x.1.m.t, .int .i64 x.1.m.s, .int .i64 x.1.m.f] 50⟩, rfl⟩
  case body =>
    rintro l pre x a' W hl ⟨r, hr⟩ ⟨⟨⟨bF1, bT1⟩, v1, bO1, hrow1, _⟩, hB1⟩ ⟨Bx, hBx, ⟨e2, e4⟩, rfl⟩ hlt
    have cF := bF1.cell
    have cT := bT1.cell
    have cO := bO1.cell
    have x0 := (e2.cell 0).trans rfl
    have x1 := (e2.cell 1).trans rfl
    have y0 := (e4.cell 0).trans rfl
    have y1 := (e4.cell 1).trans rfl
    have y2 := (e4.cell 2).trans rfl
    obtain ⟨p1, p2, p3, p4⟩ := x.2
    have hcl := cutS_le fr to pre
    clear e2 e4 hr
    rcases (show (x.1.t ≤ to ∧ fr ≤ x.1.f) ∨ (x.1.t ≤ to ∧ x.1.f < fr) ∨ (to < x.1.t ∧ fr ≤ x.1.f) ∨ (to < x.1.t ∧ x.1.f < fr) by omega) with ⟨h1, h2⟩ | ⟨h1, h2⟩ | ⟨h1, h2⟩ | ⟨h1, h2⟩
    · by_cases hc : 0 < x.1.t - x.1.f
      · have HCut := Lib.hid (cutSp_pos (x := x.1) (fr := fr) (to := to) hc (by omega) (by omega))
        gi_wp2_with (gi_at_builtin; refine wpListIn_append_own _ rfl _ _ 22 rfl w.heap.size 52 i0 (.agg #[.int .i64 0, .int .i64 0, .int .i64 0, .int .i64 0]) 4 32 Try.underlying22 hi hz0 hz1 hz2 rfl (by decide) _ _ _ rfl (hrow1.alloc _) ⟨W.heap.size, 0, none⟩ 1 1 (runC ⟨x.1.t - x.1.f, x.1.m⟩) rfl rfl (runC_at W _ _) (runC_one _) (by unfold maxLen; omega) (by omega) (by have := hB1.size; simp; omega) ?_; intro v' w1 hown' hgrow _; obtain ⟨g', cap', rfl⟩ := ownsRow_succ hown'; obtain ⟨hv1, hv2, hr2, hk2, hb2⟩ := bO1.appended (by decide) hrow1 hB1.size (by omega) hown' hgrow; have bF2 := ((bF1.alloc _).kept hgrow (bF1.not_row (by decide) hrow1)).other (B' := w.heap.size + 1 + 1) (by omega) (.slice (some ⟨g', 0, none⟩) ((cutS fr to pre).length + 1) cap'); have bT2 := ((bT1.alloc _).kept hgrow (bT1.not_row (by decide) hrow1)).other (B' := w.heap.size + 1 + 1) (by omega) (.slice (some ⟨g', 0, none⟩) ((cutS fr to pre).length + 1) cap'); have hc1 := hv1.cell; have hf1 := hv1.frozen)
        exact ⟨hk2.from _, hb2, ⟨⟨bF2, bT2⟩, _, hv2, by rw [cutS_snoc, HCut.out]; exact Own.pushed hr2, trivial⟩, hB1.trans hb2⟩
      · have HCut := Lib.hid (cutSp_neg (x := x.1) (fr := fr) (to := to) hc (by omega) (by omega))
        gi_wp2
        first | exact ⟨KeepsFrom.refl _ _, Below.refl _ _, ⟨⟨bF1, bT1⟩, _, bO1, by rw [cutS_snoc, HCut.out, List.append_nil]; exact hrow1, trivial⟩, hB1⟩ | exact ⟨KeepsFrom.refl _ _, Below.refl _ _, ⟨⟨bF1, bT1⟩, _, bO1, by rw [cutS_snoc, HCut.out, List.append_nil]; exact hrow1⟩, hB1⟩
    · by_cases hc : 0 < x.1.t - fr
      · have HCut := Lib.hid (cutSp_pos (x := x.1) (fr := fr) (to := to) hc (by omega) (by omega))
        gi_wp2_with (gi_at_builtin; refine wpListIn_append_own _ rfl _ _ 22 rfl w.heap.size 52 i0 (.agg #[.int .i64 0, .int .i64 0, .int .i64 0, .int .i64 0]) 4 32 Try.underlying22 hi hz0 hz1 hz2 rfl (by decide) _ _ _ rfl (hrow1.alloc _) ⟨W.heap.size, 0, none⟩ 1 1 (runC ⟨x.1.t - fr, x.1.m⟩) rfl rfl (runC_at W _ _) (runC_one _) (by unfold maxLen; omega) (by omega) (by have := hB1.size; simp; omega) ?_; intro v' w1 hown' hgrow _; obtain ⟨g', cap', rfl⟩ := ownsRow_succ hown'; obtain ⟨hv1, hv2, hr2, hk2, hb2⟩ := bO1.appended (by decide) hrow1 hB1.size (by omega) hown' hgrow; have bF2 := ((bF1.alloc _).kept hgrow (bF1.not_row (by decide) hrow1)).other (B' := w.heap.size + 1 + 1) (by omega) (.slice (some ⟨g', 0, none⟩) ((cutS fr to pre).length + 1) cap'); have bT2 := ((bT1.alloc _).kept hgrow (bT1.not_row (by decide) hrow1)).other (B' := w.heap.size + 1 + 1) (by omega) (.slice (some ⟨g', 0, none⟩) ((cutS fr to pre).length + 1) cap'); have hc1 := hv1.cell; have hf1 := hv1.frozen)
        exact ⟨hk2.from _, hb2, ⟨⟨bF2, bT2⟩, _, hv2, by rw [cutS_snoc, HCut.out]; exact Own.pushed hr2, trivial⟩, hB1.trans hb2⟩
      · have HCut := Lib.hid (cutSp_neg (x := x.1) (fr := fr) (to := to) hc (by omega) (by omega))
        gi_wp2
        first | exact ⟨KeepsFrom.refl _ _, Below.refl _ _, ⟨⟨bF1, bT1⟩, _, bO1, by rw [cutS_snoc, HCut.out, List.append_nil]; exact hrow1, trivial⟩, hB1⟩ | exact ⟨KeepsFrom.refl _ _, Below.refl _ _, ⟨⟨bF1, bT1⟩, _, bO1, by rw [cutS_snoc, HCut.out, List.append_nil]; exact hrow1⟩, hB1⟩
    · by_cases hc : 0 < to - x.1.f
      · have HCut := Lib.hid (cutSp_pos (x := x.1) (fr := fr) (to := to) hc (by omega) (by omega))
        gi_wp2_with (gi_at_builtin; refine wpListIn_append_own _ rfl _ _ 22 rfl w.heap.size 52 i0 (.agg #[.int .i64 0, .int .i64 0, .int .i64 0, .int .i64 0]) 4 32 Try.underlying22 hi hz0 hz1 hz2 rfl (by decide) _ _ _ rfl (hrow1.alloc _) ⟨W.heap.size, 0, none⟩ 1 1 (runC ⟨to - x.1.f, x.1.m⟩) rfl rfl (runC_at W _ _) (runC_one _) (by unfold maxLen; omega) (by omega) (by have := hB1.size; simp; omega) ?_; intro v' w1 hown' hgrow _; obtain ⟨g', cap', rfl⟩ := ownsRow_succ hown'; obtain ⟨hv1, hv2, hr2, hk2, hb2⟩ := bO1.appended (by decide) hrow1 hB1.size (by omega) hown' hgrow; have bF2 := ((bF1.alloc _).kept hgrow (bF1.not_row (by decide) hrow1)).other (B' := w.heap.size + 1 + 1) (by omega) (.slice (some ⟨g', 0, none⟩) ((cutS fr to pre).length + 1) cap'); have bT2 := ((bT1.alloc _).kept hgrow (bT1.not_row (by decide) hrow1)).other (B' := w.heap.size + 1 + 1) (by omega) (.slice (some ⟨g', 0, none⟩) ((cutS fr to pre).length + 1) cap'); have hc1 := hv1.cell; have hf1 := hv1.frozen)
        exact ⟨hk2.from _, hb2, ⟨⟨bF2, bT2⟩, _, hv2, by rw [cutS_snoc, HCut.out]; exact Own.pushed hr2, trivial⟩, hB1.trans hb2⟩
      · have HCut := Lib.hid (cutSp_neg (x := x.1) (fr := fr) (to := to) hc (by omega) (by omega))
        gi_wp2
        first | exact ⟨KeepsFrom.refl _ _, Below.refl _ _, ⟨⟨bF1, bT1⟩, _, bO1, by rw [cutS_snoc, HCut.out, List.append_nil]; exact hrow1, trivial⟩, hB1⟩ | exact ⟨KeepsFrom.refl _ _, Below.refl _ _, ⟨⟨bF1, bT1⟩, _, bO1, by rw [cutS_snoc, HCut.out, List.append_nil]; exact hrow1⟩, hB1⟩
    · by_cases hc : 0 < to - fr
      · have HCut := Lib.hid (cutSp_pos (x := x.1) (fr := fr) (to := to) hc (by omega) (by omega))
        gi_wp2_with (gi_at_builtin; refine wpListIn_append_own _ rfl _ _ 22 rfl w.heap.size 52 i0 (.agg #[.int .i64 0, .int .i64 0, .int .i64 0, .int .i64 0]) 4 32 Try.underlying22 hi hz0 hz1 hz2 rfl (by decide) _ _ _ rfl (hrow1.alloc _) ⟨W.heap.size, 0, none⟩ 1 1 (runC ⟨to - fr, x.1.m⟩) rfl rfl (runC_at W _ _) (runC_one _) (by unfold maxLen; omega) (by omega) (by have := hB1.size; simp; omega) ?_; intro v' w1 hown' hgrow _; obtain ⟨g', cap', rfl⟩ := ownsRow_succ hown'; obtain ⟨hv1, hv2, hr2, hk2, hb2⟩ := bO1.appended (by decide) hrow1 hB1.size (by omega) hown' hgrow; have bF2 := ((bF1.alloc _).kept hgrow (bF1.not_row (by decide) hrow1)).other (B' := w.heap.size + 1 + 1) (by omega) (.slice (some ⟨g', 0, none⟩) ((cutS fr to pre).length + 1) cap'); have bT2 := ((bT1.alloc _).kept hgrow (bT1.not_row (by decide) hrow1)).other (B' := w.heap.size + 1 + 1) (by omega) (.slice (some ⟨g', 0, none⟩) ((cutS fr to pre).length + 1) cap'); have hc1 := hv1.cell; have hf1 := hv1.frozen)
        exact ⟨hk2.from _, hb2, ⟨⟨bF2, bT2⟩, _, hv2, by rw [cutS_snoc, HCut.out]; exact Own.pushed hr2, trivial⟩, hB1.trans hb2⟩
      · have HCut := Lib.hid (cutSp_neg (x := x.1) (fr := fr) (to := to) hc (by omega) (by omega))
        gi_wp2
        first | exact ⟨KeepsFrom.refl _ _, Below.refl _ _, ⟨⟨bF1, bT1⟩, _, bO1, by rw [cutS_snoc, HCut.out, List.append_nil]; exact hrow1, trivial⟩, hB1⟩ | exact ⟨KeepsFrom.refl _ _, Below.refl _ _, ⟨⟨bF1, bT1⟩, _, bO1, by rw [cutS_snoc, HCut.out, List.append_nil]; exact hrow1⟩, hB1⟩
  case done =>
    rintro D ys W hD rfl ⟨⟨⟨bF1, bT1⟩, v1, bO1, hrow1, _⟩, hB1⟩ hK
    have cO := bO1.cell
    gi_wp2
    refine ⟨by simp, .inl ⟨_, _, rfl, run_takeDeferred hK, ?_⟩⟩
    exact ⟨v1, by simp [results, Try.results50, go_sem], v1, rfl, ownsRow_putObj hrow1 _ hK rfl, hB1.trans (belowK_b (w := w) (Nat.le_refl _) W D _ _ (by omega) hK rfl rfl)⟩
  case stop =>
    rintro D c pre W _ _ h _
    exact h.elim
end Go.Proofs.Ytbmjjmpdlmbehaa
