/- Places of the program. The spans of the places that meet a query: the program's. The spans of the places that meet a query: the reference's. Where of the program; volumes, of the program and of the reference. Counts of places that meet a query, of the program and of the reference. -/
import Derived.Test.YtilpofmjkcjhdaaRbD
namespace Go.Proofs.Ytilpofmjkcjhdaa
open Go.RowKit Go.Shelf

attribute [local go_sem] Oper.semAt_some

namespace Bd
/-- The places where a normal band changes. -/
def plc (x : List R) : List Int := (List.range (x.length - 1)).map fun i => len (x.take (i + 1))
def plcR (rs : List R) : List Int := if valE rs = 0 then plc (norm rs) else []
end Bd
def plcSp (x : Bd.Sp) : List Int := if 0 < x.f then [x.f] else []
def plcS (pre : List Bd.SpB) : List Int := pre.flatMap fun x => plcSp x.1
theorem plcS_snoc (pre : List Bd.SpB) (x : Bd.SpB) : plcS (pre ++ [x]) = plcS pre ++ plcSp x.1 := by simp [plcS]
theorem plcSp_pos {x : Bd.Sp} (h : 0 < x.f) : plcSp x = [x.f] := if_pos h
theorem plcSp_neg {x : Bd.Sp} (h : ¬ 0 < x.f) : plcSp x = [] := if_neg h
theorem plcS_le : ∀ pre : List Bd.SpB, (plcS pre).length ≤ pre.length
  | [] => by simp [plcS]
  | x :: pre => by
    have h1 := plcS_le pre
    have e : plcS (x :: pre) = plcSp x.1 ++ plcS pre := by simp [plcS]
    have h2 : (plcSp x.1).length ≤ 1 := by unfold plcSp; split <;> simp
    rw [e]; simp; omega
theorem plcS_upto {x : List Bd.R} (hf : Bd.fine x) : ∀ n, n + 1 ≤ x.length → plcS (Bd.upto x (n + 1)) = (List.range n).map fun i => Bd.len (x.take (i + 1))
  | 0, h => by
    have e := Bd.spk_eq hf (k := 0) (by omega)
    rw [Bd.upto_succ, plcS_snoc, e]
    simp [plcS, Bd.upto, plcSp, Bd.len]
  | n + 1, h => by
    have ih := plcS_upto hf n (by omega)
    have e := Bd.spk_eq hf (k := n + 1) (by omega)
    have h3 : 0 < Bd.len (x.take (n + 1)) := by
      rw [Bd.len_take_succ (show n < x.length by omega)]
      have := (Bd.len_take_le hf.2.1 n).1
      have := hf.2.1 x[n] (List.getElem_mem (by omega))
      omega
    rw [Bd.upto_succ, plcS_snoc, ih, e, plcSp_pos h3, List.range_succ, List.map_append]
    rfl
theorem plcS_all {x : List Bd.R} (hf : Bd.fine x) : plcS (Bd.upto x x.length) = Bd.plc x := by
  unfold Bd.plc
  rcases Nat.eq_zero_or_pos x.length with h | h
  · rw [h]; simp [plcS, Bd.upto]
  · obtain ⟨n, hn⟩ : ∃ n, x.length = n + 1 := ⟨x.length - 1, by omega⟩
    rw [hn]
    exact plcS_upto hf n (by omega)
theorem BlockAt.not_row {W : World} {B : Nat} {cs : Array Value} {t e : TypeId} (h : BlockAt W B cs t) (hte : t ≠ e) {base size k : Nat} {v : Value} {xs : List Value} (hr : W.ownsRow base e size v k xs) : some B ≠ v.ownBlock := by
  rcases hr.2 with ⟨rfl, _⟩ | ⟨g, cap, cur, rfl, _, hgb, _⟩
  · simp [Value.ownBlock]
  · intro e'
    obtain rfl : B = g := by simpa [Value.ownBlock] using e'
    have := (show W.heap[B]? = _ from h).symm.trans hgb
    simp at this
    exact hte this.2

end Go.Proofs.Ytilpofmjkcjhdaa
namespace Go.Proofs.Ytilpofmjkcjhdaa
open Go.RowKit Go.Shelf

attribute [local go_sem] Oper.semAt_some

/-- What a run gives to the spans of a query. -/
def whSp (la mo sh fl : Int) (x : Bd.Sp) : List Bd.S := if Bd.holds la mo sh fl x.m = true then [⟨x.f, x.t⟩] else []
def whS (la mo sh fl : Int) (pre : List Bd.SpB) : List Bd.S := pre.flatMap fun x => whSp la mo sh fl x.1
theorem whS_snoc (la mo sh fl : Int) (pre : List Bd.SpB) (x : Bd.SpB) : whS la mo sh fl (pre ++ [x]) = whS la mo sh fl pre ++ whSp la mo sh fl x.1 := by simp [whS]
theorem whSp_pos {la mo sh fl : Int} {x : Bd.Sp} (h : Bd.holds la mo sh fl x.m = true) : whSp la mo sh fl x = [⟨x.f, x.t⟩] := if_pos h
theorem whSp_neg {la mo sh fl : Int} {x : Bd.Sp} (h : Bd.holds la mo sh fl x.m = false) : whSp la mo sh fl x = [] := if_neg (by rw [h]; simp)
theorem whSp_le (la mo sh fl : Int) (x : Bd.Sp) : (whSp la mo sh fl x).length ≤ 1 := by unfold whSp; split <;> simp
theorem whS_le (la mo sh fl : Int) : ∀ pre : List Bd.SpB, (whS la mo sh fl pre).length ≤ pre.length
  | [] => by simp [whS]
  | x :: pre => by
    have h1 := whS_le la mo sh fl pre
    have h2 := whSp_le la mo sh fl x.1
    have e : whS la mo sh fl (x :: pre) = whSp la mo sh fl x.1 ++ whS la mo sh fl pre := by simp [whS]
    rw [e]; simp; omega
/-- The spans that meet a query. -/
def Bd.spa (la mo sh fl : Int) (rs : List Bd.R) : List Bd.S := Bd.normS (whS la mo sh fl (Bd.upto rs rs.length))
theorem Bd.spa_length (la mo sh fl : Int) (rs : List Bd.R) : (Bd.spa la mo sh fl rs).length ≤ rs.length := by
  have h1 := Bd.normS_length (whS la mo sh fl (Bd.upto rs rs.length))
  have h2 := whS_le la mo sh fl (Bd.upto rs rs.length)
  rw [Bd.upto_length] at h2
  unfold Bd.spa; omega
theorem keepsOthers_below {W W1 : World} (h : Below W.heap.size W W1) : KeepsOthers W W1 := ⟨h.size, fun k _o hk _ => (h.block k (Array.getElem?_eq_some_iff.1 hk).1).trans hk⟩

theorem ownsRow_all {base size n : Nat} {e : TypeId} {v : Value} {xs : List Value} {W w1 : World} (h : W.ownsRow base e size v n xs) (hb : Below W.heap.size W w1) : w1.ownsRow base e size v n xs := by
  obtain ⟨h0, h1 | ⟨g, cap, cur, h1, h2, h3, h4⟩⟩ := h
  · exact ⟨h0, .inl h1⟩
  · exact ⟨h0, .inr ⟨g, cap, cur, h1, h2, by rw [hb.block g (Array.getElem?_eq_some_iff.1 h3).1]; exact h3, h4⟩⟩

set_option maxRecDepth 100000 in
set_option maxHeartbeats 8000000 in
theorem spans_any (v : Value) (rs : List Bd.R) (la mo sh fl : Int) (w : World) (hv0 : Runs w v rs) (hf : Bd.fine rs) :
    Calls Try.prog 93 #[v, .agg #[.int .i64 la, .int .i64 mo, .int .i64 sh, .int .i64 fl]] w fun e w' => ∃ u, e = .returned u ∧ OwnS w.heap.size w' u (Bd.spa la mo sh fl rs) ∧ Below w.heap.size w w' := by
  obtain ⟨i0, hi, hz0, hz1, hz2⟩ := info_parts infoSpn
  have hlk := hv0.look
  obtain ⟨ao, c, rfl, hlk⟩ := hlk
  have hlen := hf.1
  refine (callsIn_wide (n := 6)).1 ?_
  refine callsIn_of_wp_marks Try.func93 rfl trivial ?_ rfl
  simp only [Try.ntmps93, List.size_toArray, List.length_cons, List.length_nil, Nat.reduceAdd, Nat.reduceSub, Array.replicate_succ, Array.replicate_zero, List.push_toArray, List.append_toArray, List.nil_append, List.cons_append]
  gi_wp2_with (refine ⟨trivial, ?_⟩; gi_at_call 92; refine (callsIn_wide.2 (marks_any ao rs.length c _)).mono ?_; rintro e w' ⟨rfl, rfl⟩)
  have bQ := ((BlockAt.new w #[.int .i64 la, .int .i64 mo, .int .i64 sh, .int .i64 fl] 84).alloc (.cells #[.slice none 0 0] 53)).alloc (.cells #[.slice ao rs.length c] 22)
  have bO := (Boxed.new (w.alloc (.cells #[.int .i64 la, .int .i64 mo, .int .i64 sh, .int .i64 fl] 84)) 53 (.slice none 0 0)).alloc (.cells #[.slice ao rs.length c] 22)
  have bS := Boxed.new ((w.alloc (.cells #[.int .i64 la, .int .i64 mo, .int .i64 sh, .int .i64 fl] 84)).alloc (.cells #[.slice none 0 0] 53)) 22 (.slice ao rs.length c)
  simp only [World.size_alloc] at bO bS
  have hB0 : Below w.heap.size w (((w.alloc (.cells #[.int .i64 la, .int .i64 mo, .int .i64 sh, .int .i64 fl] 84)).alloc (.cells #[.slice none 0 0] 53)).alloc (.cells #[.slice ao rs.length c] 22)) := by
    repeat' (first | exact Below.refl _ _ | refine Below.alloc ?_ (by simp <;> omega) _)
  have hsz : (((w.alloc (.cells #[.int .i64 la, .int .i64 mo, .int .i64 sh, .int .i64 fl] 84)).alloc (.cells #[.slice none 0 0] 53)).alloc (.cells #[.slice ao rs.length c] 22)).heap.size = w.heap.size + 3 := by simp
  obtain ⟨W0, hW0⟩ : ∃ W0, ((w.alloc (.cells #[.int .i64 la, .int .i64 mo, .int .i64 sh, .int .i64 fl] 84)).alloc (.cells #[.slice none 0 0] 53)).alloc (.cells #[.slice ao rs.length c] 22) = W0 := ⟨_, rfl⟩
  rw [hW0] at bQ bO bS hB0 hsz ⊢
  clear hW0 hv0
  refine wpIn_rangeFunc_ownH rfl (by omega) (gf := 102) (lb := #[.pointer (some ⟨w.heap.size + 1 + 1, 0, none⟩)]) rfl trivial (enters_of Try.func102 (by kernel_rfl) rfl)
    (marks_stops Fence.wide (6 - 1) trivial rfl (by omega) (w.heap.size + 1 + 1) w.heap.size _ rs hf W0 (by omega) (by omega) bS.cell ⟨ao, c, rfl, fun k hk => by obtain ⟨b, off, h1, h2, h3⟩ := hlk k hk; exact ⟨b, off, h1, h2, h3.below hB0 h2⟩⟩) belowK_t (belowK_b (by omega)) (Below.refl _ _) (fun _ => rfl)
    (fun pre W => (BlockAt W w.heap.size #[.int .i64 la, .int .i64 mo, .int .i64 sh, .int .i64 fl] 84 ∧ (∃ v, Boxed W (w.heap.size + 1) 53 v ∧ W.ownsRow w.heap.size 57 2 v (whS la mo sh fl pre).length (cellsS (whS la mo sh fl pre)) ∧ True)) ∧ Below w.heap.size w W)
    (fun _ _ _ => False)
    (OwnFrom.and (OwnFrom.and (Own.from (block_own _ (fun _ => #[.int .i64 la, .int .i64 mo, .int .i64 sh, .int .i64 fl]) 84) _) (Own.from (holdsRow_own w.heap.size (w.heap.size + 1) 53 57 2 (fun pre => (whS la mo sh fl pre).length) (fun pre => cellsS (whS la mo sh fl pre)) (fun _ _ => True)) _)) (ownFrom_below (Nat.le_refl _) (by omega)))
    (fun _ _ _ _ _ hs _ _ => hs.elim)
    ⟨⟨bQ, _, bO, World.ownsRow_nil _ _ _ _, trivial⟩, hB0⟩
    (fun x a' W => ∃ Bx, w.heap.size + 1 < Bx ∧ (BlockAt W Bx #[.int .i64 x.1.f, .int .i64 x.1.t] 57 ∧ BlockAt W (Bx + 1) #[.int .i64 x.1.m.t, .int .i64 x.1.m.s, .int .i64 x.1.m.f] 71) ∧ a' = { tmps := #[.slice ao rs.length c, .agg #[.int .i64 la, .int .i64 mo, .int .i64 sh, .int .i64 fl], undef, .pointer (some ⟨w.heap.size, 0, none⟩), .slice none 0 0, .pointer (some ⟨w.heap.size + 1, 0, none⟩), .pointer (some ⟨Bx, 0, none⟩), .pointer (some ⟨Bx + 1, 0, none⟩), .slice ao rs.length c, .func (.func 102) #[] #[.pointer (some ⟨w.heap.size + 1 + 1, 0, none⟩)], .agg #[.int .i64 x.1.f, .int .i64 x.1.t], .agg #[.int .i64 x.1.m.t, .int .i64 x.1.m.s, .int .i64 x.1.m.f], undef, undef, undef, undef, undef, undef, undef, undef, undef], defers := [] })
    (fun x a' _ X Y row hs hg hr => by obtain ⟨Bx, e1, ⟨e2, e4⟩, e3⟩ := hs; exact ⟨Bx, e1, ⟨block_own Bx (fun (_ : Unit) => #[.int .i64 x.1.f, .int .i64 x.1.t]) 57 () X Y row e2 hg (fun r e => (hr r e).2), block_own (Bx + 1) (fun (_ : Unit) => #[.int .i64 x.1.m.t, .int .i64 x.1.m.s, .int .i64 x.1.m.f]) 71 () X Y row e4 hg (fun r e => (hr r e).2)⟩, e3⟩)
    ?assign ?body ?done ?stop
  case assign =>
    rintro l pre x W K ⟨⟨bQ1, v1, bO1, hrow1, _⟩, hB1⟩ hK
    have hsW := hB1.size
    gi_wp2
    exact hK _ _ (((KeepsOthers.alloc _ _).trans (KeepsOthers.alloc _ _)).from _) (((Below.refl _ W).alloc hsW _).alloc (by simp; omega) _) ⟨⟨(bQ1.alloc _).alloc _, _, (bO1.alloc _).alloc _, (hrow1.alloc _).alloc _, trivial⟩, (hB1.alloc hsW _).alloc (by simp; omega) _⟩ ⟨W.heap.size, by have := bO1.lt; omega, ⟨(BlockAt.new W _ _).alloc _, by simpa using BlockAt.new (W.alloc (.cells #[.int .i64 x.1.f, .int .i64 x.1.t] 57)) #[.int .i64 x.1.m.t, .int .i64 x.1.m.s, .int .i64 x.1.m.f] 71⟩, rfl⟩
  case body =>
    rintro l pre x a' W hl ⟨r, hr⟩ ⟨⟨bQ1, v1, bO1, hrow1, _⟩, hB1⟩ ⟨Bx, hBx, ⟨e2, e4⟩, rfl⟩ hlt
    have q0 := (bQ1.cell 0).trans rfl
    have q1 := (bQ1.cell 1).trans rfl
    have q2 := (bQ1.cell 2).trans rfl
    have q3 := (bQ1.cell 3).trans rfl
    have y0 := (e4.cell 0).trans rfl
    have y1 := (e4.cell 1).trans rfl
    have y2 := (e4.cell 2).trans rfl
    have hcl := whS_le la mo sh fl pre
    obtain ⟨p1, p2, p3, p4⟩ := x.2
    have HC := Lib.hid (num_holds_any la mo sh fl x.1.m W)
    generalize hH : Bd.holds la mo sh fl x.1.m = H at *
    have HH := Lib.hid hH
    clear hH
    gi_wp2_with fail
    refine ⟨trivial, CallsIn.inRound l ((callsIn_wide.2 HC.out).mono ?_)⟩
    rintro e w1 ⟨rfl, hb1⟩
    have hk1 := keepsOthers_below hb1
    have hB2 := below_step hB1 hb1
    have bQ2 := bQ1.below hb1 bQ1.lt
    have bO2 : Boxed w1 (w.heap.size + 1) 53 v1 := BlockAt.below (show BlockAt W _ _ _ from bO1) hb1 bO1.lt
    have hrow2 := ownsRow_all hrow1 hb1
    have e2 := e2.below hb1 e2.lt
    have x0 := (e2.cell 0).trans rfl
    have x1 := (e2.cell 1).trans rfl
    have hbn := hb1.mono hB1.size
    clear hb1 q0 q1 q2 q3 y0 y1 y2 e2 e4 HC
    have cO := bO2.cell
    cases H
    · have HCut := Lib.hid (whSp_neg HH.out)
      clear HH
      gi_wp2
      first | exact ⟨hk1.from _, hbn, ⟨bQ2, _, bO2, by rw [whS_snoc, HCut.out, List.append_nil]; exact hrow2, trivial⟩, hB2⟩ | exact ⟨hk1.from _, hbn, ⟨bQ2, _, bO2, by rw [whS_snoc, HCut.out, List.append_nil]; exact hrow2⟩, hB2⟩
    · have HCut := Lib.hid (whSp_pos HH.out)
      clear HH
      gi_wp2_with (gi_at_builtin; refine wpListIn_append_own _ rfl _ _ 53 rfl w.heap.size 57 i0 (.agg #[.int .i64 0, .int .i64 0]) 2 16 Try.underlying53 hi hz0 hz1 hz2 rfl (by decide) _ _ _ rfl (hrow2.alloc _) ⟨w1.heap.size, 0, none⟩ 1 1 (spnC ⟨x.1.f, x.1.t⟩) rfl rfl (spnC_at w1 ⟨x.1.f, x.1.t⟩ _ rfl) (spnC_one _) (by unfold maxLen; omega) (by omega) (by have := hB2.size; simp; omega) ?_; intro v' w1' hown' hgrow _; obtain ⟨g', cap', rfl⟩ := ownsRow_succ hown'; obtain ⟨hv1, hv2, hr2, hk2, hb2⟩ := bO2.appended (by decide) hrow2 hB2.size (by omega) hown' hgrow; have bQ3 := ((bQ2.alloc _).kept hgrow (bQ2.not_row (by decide) hrow2)).other (B' := w.heap.size + 1) (i := 0) (by omega) (.slice (some ⟨g', 0, none⟩) ((whS la mo sh fl pre).length + 1) cap'); have hc1 := hv1.cell; have hf1 := hv1.frozen)
      exact ⟨(hk1.trans hk2).from _, hbn.trans hb2, ⟨bQ3, _, hv2, by rw [whS_snoc, HCut.out]; exact OwnS.pushed hr2, trivial⟩, hB2.trans hb2⟩
  case done =>
    rintro D ys W hD rfl ⟨⟨bQ1, v1, bO1, hrow1, _⟩, hB1⟩ hK
    have cO := bO1.cell
    have hsp : OwnS w.heap.size W v1 (whS la mo sh fl (Bd.upto rs rs.length)) := hrow1
    have hsp := hsp.spns
    have hl2 := whS_le la mo sh fl (Bd.upto rs rs.length)
    rw [Bd.upto_length] at hl2
    have HJ := Lib.hid (joined_spans_any v1 _ W hsp (by omega))
    gi_wp2_with fail
    refine ⟨trivial, (callsIn_wide.2 HJ.out).mono ?_⟩
    rintro e w1 ⟨u, rfl, hu, hb1⟩
    have hs1 := hB1.size
    have hK1 : w1.heap[D]? = some (.deferred (some [])) := (hb1.block D (Array.getElem?_eq_some_iff.1 hK).1).trans hK
    have hu1 : w1.ownsRow w.heap.size 57 2 u (Bd.spa la mo sh fl rs).length (cellsS (Bd.spa la mo sh fl rs)) := hu.mono hs1
    have hB2 := below_step hB1 hb1
    clear HJ hb1 hsp cO
    gi_wp2
    refine ⟨by simp, .inl ⟨_, _, rfl, run_takeDeferred hK1, ?_⟩⟩
    exact ⟨u, by simp [results, Try.results93, go_sem], u, rfl, ownsRow_putObj hu1 _ hK1 rfl, hB2.trans (belowK_b (w := w) (Nat.le_refl _) w1 D _ _ (by omega) hK1 rfl rfl)⟩
  case stop =>
    rintro D c pre W _ _ h _
    exact h.elim
end Go.Proofs.Ytilpofmjkcjhdaa
namespace Go.Proofs.Ytilpofmjkcjhdaa
open Go.RowKit

theorem cellsS_setT : ∀ (a : List Bd.S) (q : Bd.S) (x : Int), (cellsS (a ++ [q])).set (a.length * 2 + 1) (.int .i64 x) = cellsS (a ++ [⟨q.f, x⟩])
  | [], q, x => rfl
  | r :: a, q, x => by
    have ih := cellsS_setT a q x
    show (spnC r ++ cellsS (a ++ [q])).set ((a.length + 1) * 2 + 1) _ = spnC r ++ cellsS (a ++ [⟨q.f, x⟩])
    rw [← ih, List.set_append_right _ _ (by simp [spnC]; omega)]
    congr 2
    simp [spnC]; omega
theorem OwnS.setT {base : Nat} {w : World} {g cap : Nat} {a : List Bd.S} {q : Bd.S} (h : OwnS base w (.slice (some ⟨g, 0, none⟩) (a.length + 1) cap) (a ++ [q])) (x : Int) :
    OwnS base (w.setCell ⟨g, a.length * 2 + 1, none⟩ (.int .i64 x)) (.slice (some ⟨g, 0, none⟩) (a.length + 1) cap) (a ++ [⟨q.f, x⟩]) := by
  have h1 := (World.ownsRow.stored h.row (a.length * 2 + 1) (.int .i64 x)).1
  rw [cellsS_setT] at h1
  exact OwnS.of_row h1
def Bd.whE (rs : List Bd.R) : Int := Bd.valE rs
def Bd.whR (la mo sh fl : Int) (rs : List Bd.R) : List Bd.S := if Bd.valE rs = 0 then Bd.spa la mo sh fl rs else []
theorem normS_wh {la mo sh fl : Int} {rs : List Bd.R} {k : Nat} {x : Bd.Sp} (hx : (Bd.spk rs k).1 = x) :
    Bd.normS (whS la mo sh fl (Bd.upto rs (k + 1))) = (if Bd.holds la mo sh fl x.m = true then Bd.pushS (Bd.normS (whS la mo sh fl (Bd.upto rs k))) ⟨x.f, x.t⟩ else Bd.normS (whS la mo sh fl (Bd.upto rs k))) := by
  rw [Bd.upto_succ, whS_snoc, hx]
  unfold whSp
  split
  · rw [Bd.normS_snoc]
  · rw [List.append_nil]

theorem keepW {w1 W W2 : World} {Bq b off : Nat} {la mo sh fl : Int} {r : Bd.R} {o : Value} {cs : List Bd.S}
    (h : (W.cell? ⟨Bq, 0, none⟩ = some (.int .i64 la) ∧ W.cell? ⟨Bq, 1, none⟩ = some (.int .i64 mo) ∧ W.cell? ⟨Bq, 2, none⟩ = some (.int .i64 sh) ∧ W.cell? ⟨Bq, 3, none⟩ = some (.int .i64 fl)) ∧ RunAt W b off r ∧ Hid (OwnS w1.heap.size W o cs ∧ Below w1.heap.size w1 W))
    (hb : Below W.heap.size W W2) (h1 : Bq < w1.heap.size) (h2 : b < w1.heap.size) :
    (W2.cell? ⟨Bq, 0, none⟩ = some (.int .i64 la) ∧ W2.cell? ⟨Bq, 1, none⟩ = some (.int .i64 mo) ∧ W2.cell? ⟨Bq, 2, none⟩ = some (.int .i64 sh) ∧ W2.cell? ⟨Bq, 3, none⟩ = some (.int .i64 fl)) ∧ RunAt W2 b off r ∧ Hid (OwnS w1.heap.size W2 o cs ∧ Below w1.heap.size w1 W2) := by
  obtain ⟨⟨a0, a1, a2, a3⟩, hr, hh⟩ := h
  obtain ⟨ho, hw⟩ := hh.out
  have hs := hw.size
  exact ⟨⟨(hb.cell (p := ⟨Bq, 0, none⟩) (by dsimp only; omega)).trans a0, (hb.cell (p := ⟨Bq, 1, none⟩) (by dsimp only; omega)).trans a1, (hb.cell (p := ⟨Bq, 2, none⟩) (by dsimp only; omega)).trans a2, (hb.cell (p := ⟨Bq, 3, none⟩) (by dsimp only; omega)).trans a3⟩,
    hr.below hb (by omega), Lib.hid ⟨ownsRow_all ho hb, below_step hw hb⟩⟩

end Go.Proofs.Ytilpofmjkcjhdaa
namespace Go.Proofs.Ytilpofmjkcjhdaa
open Go.RowKit

namespace Bd
def vol : List R → Int
  | [] => 0
  | r :: b => r.l * r.m.t + vol b
theorem vol_append (a b : List R) : vol (a ++ b) = vol a + vol b := by
  induction a with
  | nil => simp [vol]
  | cons r a ih => simp only [List.cons_append, vol, ih]; omega
theorem vol_take_succ {b : List R} {k : Nat} (h : k < b.length) : vol (b.take (k + 1)) = vol (b.take k) + b[k].l * b[k].m.t := by
  rw [List.take_succ_eq_append_getElem h, vol_append]; simp [vol]
theorem okR_mul {r : R} (h : okR r = true) : 0 ≤ r.l * r.m.t ∧ r.l * r.m.t ≤ 1000000000 := by
  simp only [okR, okM, Bool.and_eq_true, decide_eq_true_eq] at h
  obtain ⟨⟨h1, h2⟩, ⟨⟨h3, h4⟩, _⟩, _⟩ := h
  refine ⟨Int.mul_nonneg (by omega) (by omega), ?_⟩
  have := Int.mul_le_mul h2 h4 (by omega) (by omega)
  simpa using this
theorem vol_bound {b : List R} (h : ∀ r ∈ b, okR r = true) : ∀ k, k ≤ b.length → 0 ≤ vol (b.take k) ∧ vol (b.take k) ≤ k * 1000000000
  | 0, _ => by simp [vol]
  | k + 1, hk => by
    have ih := vol_bound h k (by omega)
    have hm := okR_mul (h b[k] (List.getElem_mem (by omega)))
    rw [vol_take_succ (by omega)]
    omega
def volR (rs : List R) : Int := if valE rs = 0 then vol rs else 0
end Bd

set_option maxRecDepth 20000 in
set_option maxHeartbeats 1000000 in
theorem num_where_any (v : Value) (rs : List Bd.R) (la mo sh fl : Int) (w : World) (hv : Runs w v rs) (hl : rs.length ≤ 1000) :
    Calls Try.prog 75 #[v, .agg #[.int .i64 la, .int .i64 mo, .int .i64 sh, .int .i64 fl]] w fun e w' => ∃ u, e = .returned (.tuple #[u, .int .i64 (Bd.valE rs)]) ∧ OwnS w.heap.size w' u (Bd.whR la mo sh fl rs) ∧ Below w.heap.size w w' := by
  have hb0 := (Below.refl w.heap.size w).alloc (Nat.le_refl _) (.cells #[.int .i64 la, .int .i64 mo, .int .i64 sh, .int .i64 fl] 84)
  have V := Lib.hid (validate_any v rs _ (hv.all hb0) hl)
  have P := Lib.hid (fun W (hW : Below w.heap.size w W) h => spans_any v rs la mo sh fl W (hv.all hW) h)
  obtain ⟨ao, c, rfl⟩ := hv.form
  generalize hE : Bd.valE rs = E
  generalize hPL : Bd.whR la mo sh fl rs = ps
  have HE := Lib.hid (And.intro hE hPL)
  have hbQ := BlockAt.new w #[.int .i64 la, .int .i64 mo, .int .i64 sh, .int .i64 fl] 84
  obtain ⟨Wq, hWq⟩ : ∃ Wq, w.alloc (.cells #[.int .i64 la, .int .i64 mo, .int .i64 sh, .int .i64 fl] 84) = Wq := ⟨_, rfl⟩
  rw [hWq] at hb0 V hbQ
  have HW := Lib.hid hWq
  clear hE hPL hv hWq
  go_enter Try.func75, Try.ntmps75
  go_wp2_with fail
  rw [HW.out]
  refine V.out.mono ?_
  rintro e w1 ⟨rfl, hb1⟩
  have hB1 := below_step hb0 hb1
  have bQ := hbQ.below hb1 hbQ.lt
  have hs1 := hB1.size
  clear hb1 hbQ HW hb0
  by_cases hv0 : Bd.valE rs = 0
  · have hE0 : E = 0 := HE.out.1.symm.trans hv0
    have hPS : ps = Bd.spa la mo sh fl rs := by rw [← HE.out.2]; unfold Bd.whR; rw [if_pos hv0]
    subst hE0 hPS
    rw [hv0]
    have J := Lib.hid (P.out _ hB1 (Bd.fine_of_valid hv0))
    have q0 := (bQ.cell 0).trans rfl
    have q1 := (bQ.cell 1).trans rfl
    have q2 := (bQ.cell 2).trans rfl
    have q3 := (bQ.cell 3).trans rfl
    clear V HE hv0 P bQ
    go_wp2_with fail
    refine J.out.mono ?_
    rintro e w2 ⟨u, rfl, hu, hb2⟩
    obtain ⟨ua, uc, hu', _⟩ := hu.spns
    subst hu'
    clear q0 q1 q2 q3
    go_wp2
    go_ret2
    exact ⟨_, rfl, hu.mono hs1, below_step hB1 hb2⟩
  · have hPS : ps = [] := by rw [← HE.out.2]; unfold Bd.whR; rw [if_neg hv0]
    subst hPS
    have hEE := HE.out.1
    generalize Bd.valE rs = z at *
    have hz : (z == 0) = false := by simp [hv0]
    have HZ := Lib.hid hEE
    clear hEE HE V hv0 P bQ
    go_wp2
    go_ret2
    exact ⟨_, by rw [HZ.out]; rfl, OwnS.nil _ _, hB1⟩

end Go.Proofs.Ytilpofmjkcjhdaa
namespace Go.Proofs.Ytilpofmjkcjhdaa
open Go.RowKit

namespace Bd
def cnt : List S → Int
  | [] => 0
  | s :: b => s.t - s.f + cnt b
theorem cnt_append (a b : List S) : cnt (a ++ b) = cnt a + cnt b := by
  induction a with
  | nil => simp [cnt]
  | cons r a ih => simp only [List.cons_append, cnt, ih]; omega
theorem cnt_take_succ {b : List S} {k : Nat} (h : k < b.length) : cnt (b.take (k + 1)) = cnt (b.take k) + (b[k].t - b[k].f) := by
  rw [List.take_succ_eq_append_getElem h, cnt_append]; simp [cnt]
def okS (s : S) : Prop := 0 ≤ s.f ∧ s.f ≤ 2000000000 ∧ 0 ≤ s.t ∧ s.t ≤ 2000000000
theorem cnt_bound {b : List S} (h : ∀ s ∈ b, okS s) : ∀ k, k ≤ b.length → -(k * 2000000000) ≤ cnt (b.take k) ∧ cnt (b.take k) ≤ k * 2000000000
  | 0, _ => by simp [cnt]
  | k + 1, hk => by
    have ih := cnt_bound h k (by omega)
    have hm := h b[k] (List.getElem_mem (by omega))
    unfold okS at hm
    rw [cnt_take_succ (by omega)]
    omega
theorem pushS_ok {out : List S} {s : S} (h : ∀ x ∈ out, okS x) (hs : okS s) : ∀ x ∈ pushS out s, okS x := by
  rcases snocS_cases out with rfl | ⟨a, q, rfl⟩
  · intro x hx; rw [pushS_nil] at hx; rw [List.mem_singleton.1 hx]; exact hs
  · have hq := h q (by simp)
    rw [pushS_snoc]
    split
    · intro x hx
      rcases List.mem_append.1 hx with hx | hx
      · exact h x (by simp [hx])
      · rw [List.mem_singleton.1 hx]; exact ⟨hq.1, hq.2.1, hs.2.2.1, hs.2.2.2⟩
    · intro x hx
      rcases List.mem_append.1 hx with hx | hx
      · exact h x hx
      · rw [List.mem_singleton.1 hx]; exact hs
theorem foldS_ok : ∀ (l out : List S), (∀ x ∈ out, okS x) → (∀ x ∈ l, okS x) → ∀ x ∈ l.foldl pushS out, okS x
  | [], out, h, _ => h
  | s :: l, out, h, hl => foldS_ok l (pushS out s) (pushS_ok h (hl s (by simp))) (fun x hx => hl x (by simp [hx]))
theorem spa_ok (la mo sh fl : Int) (rs : List R) : ∀ x ∈ spa la mo sh fl rs, okS x := by
  refine foldS_ok _ _ (fun x hx => by cases hx) ?_
  intro s hs
  obtain ⟨x, _, hx⟩ := List.mem_flatMap.1 hs
  unfold whSp at hx
  split at hx
  · rw [List.mem_singleton.1 hx]; exact x.2
  · cases hx
theorem whR_ok (la mo sh fl : Int) (rs : List R) : ∀ x ∈ whR la mo sh fl rs, okS x := by
  unfold whR; split
  · exact spa_ok _ _ _ _ _
  · intro x hx; cases hx
theorem whR_length (la mo sh fl : Int) (rs : List R) : (whR la mo sh fl rs).length ≤ rs.length := by
  unfold whR; split
  · exact spa_length _ _ _ _ _
  · simp
end Bd

end Go.Proofs.Ytilpofmjkcjhdaa
