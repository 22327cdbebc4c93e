/- The spans of the places that meet a query: the program's. -/
import Derived.Test.YtbmjjmpdlmbehaaBand42
import Derived.Test.YtbmjjmpdlmbehaaBand34
namespace Go.Proofs.Ytbmjjmpdlmbehaa
open Go.RowKit Go.Shelf

attribute [local go_sem] Oper.semAt_some

/-- What a run gives to the spans of a query. -/
def whSp (la mo sh fl : Int) (x : Bd.Sp) : List Bd.S := if Bd.holds la mo sh fl x.m = true then [⟨x.f, x.t⟩] else []
def whS (la mo sh fl : Int) (pre : List Bd.SpB) : List Bd.S := pre.flatMap fun x => whSp la mo sh fl x.1
theorem whS_snoc (la mo sh fl : Int) (pre : List Bd.SpB) (x : Bd.SpB) : whS la mo sh fl (pre ++ [x]) = whS la mo sh fl pre ++ whSp la mo sh fl x.1 := by simp [whS]
theorem whSp_pos {la mo sh fl : Int} {x : Bd.Sp} (h : Bd.holds la mo sh fl x.m = true) : whSp la mo sh fl x = [⟨x.f, x.t⟩] := if_pos h
theorem whSp_neg {la mo sh fl : Int} {x : Bd.Sp} (h : Bd.holds la mo sh fl x.m = false) : whSp la mo sh fl x = [] := if_neg (by rw [h]; simp)
theorem whSp_le (la mo sh fl : Int) (x : Bd.Sp) : (whSp la mo sh fl x).length ≤ 1 := by unfold whSp; split <;> simp
theorem whS_le (la mo sh fl : Int) : ∀ pre : List Bd.SpB, (whS la mo sh fl pre).length ≤ pre.length
  | [] => by simp [whS]
  | x :: pre => by
    have h1 := whS_le la mo sh fl pre
    have h2 := whSp_le la mo sh fl x.1
    have e : whS la mo sh fl (x :: pre) = whSp la mo sh fl x.1 ++ whS la mo sh fl pre := by simp [whS]
    rw [e]; simp; omega
/-- The spans that meet a query. -/
def Bd.spa (la mo sh fl : Int) (rs : List Bd.R) : List Bd.S := Bd.normS (whS la mo sh fl (Bd.upto rs rs.length))
theorem Bd.spa_length (la mo sh fl : Int) (rs : List Bd.R) : (Bd.spa la mo sh fl rs).length ≤ rs.length := by
  have h1 := Bd.normS_length (whS la mo sh fl (Bd.upto rs rs.length))
  have h2 := whS_le la mo sh fl (Bd.upto rs rs.length)
  rw [Bd.upto_length] at h2
  unfold Bd.spa; omega
theorem keepsOthers_below {W W1 : World} (h : Below W.heap.size W W1) : KeepsOthers W W1 := ⟨h.size, fun k o hk _ => (h.block k (Array.getElem?_eq_some_iff.1 hk).1).trans hk⟩

theorem ownsRow_all {base size n : Nat} {e : TypeId} {v : Value} {xs : List Value} {W w1 : World} (h : W.ownsRow base e size v n xs) (hb : Below W.heap.size W w1) : w1.ownsRow base e size v n xs := by
  obtain ⟨h0, h1 | ⟨g, cap, cur, h1, h2, h3, h4⟩⟩ := h
  · exact ⟨h0, .inl h1⟩
  · exact ⟨h0, .inr ⟨g, cap, cur, h1, h2, by rw [hb.block g (Array.getElem?_eq_some_iff.1 h3).1]; exact h3, h4⟩⟩

set_option maxRecDepth 100000 in
set_option maxHeartbeats 8000000 in
theorem spans_any (v : Value) (rs : List Bd.R) (la mo sh fl : Int) (w : World) (hv0 : Runs w v rs) (hf : Bd.fine rs) :
    Calls Try.prog 73 #[v, .agg #[.int .i64 la, .int .i64 mo, .int .i64 sh, .int .i64 fl]] w fun e w' => ∃ u, e = .returned u ∧ OwnS w.heap.size w' u (Bd.spa la mo sh fl rs) ∧ Below w.heap.size w w' := by
  obtain ⟨i0, hi, hz0, hz1, hz2⟩ := info_parts infoSpn
  have hlk := hv0.look
  obtain ⟨ao, c, rfl, hlk⟩ := hlk
  have hlen := hf.1
  refine (callsIn_wide (n := 6)).1 ?_
  refine callsIn_of_wp_marks Try.func73 rfl trivial ?_ rfl
  simp only [Try.ntmps73, List.size_toArray, List.length_cons, List.length_nil, Nat.reduceAdd, Nat.reduceSub, Array.replicate_succ, Array.replicate_zero, List.push_toArray, List.append_toArray, List.nil_append, List.cons_append]
  gi_wp2_with (refine ⟨trivial, ?_⟩; gi_at_call 72; refine (callsIn_wide.2 (marks_any ao rs.length c _)).mono ?_; rintro e w' ⟨rfl, rfl⟩)
  have bQ := ((BlockAt.new w #[.int .i64 la, .int .i64 mo, .int .i64 sh, .int .i64 fl] 76).alloc (.cells #[.slice none 0 0] 66)).alloc (.cells #[.slice ao rs.length c] 22)
  have bO := (Boxed.new (w.alloc (.cells #[.int .i64 la, .int .i64 mo, .int .i64 sh, .int .i64 fl] 76)) 66 (.slice none 0 0)).alloc (.cells #[.slice ao rs.length c] 22)
  have bS := Boxed.new ((w.alloc (.cells #[.int .i64 la, .int .i64 mo, .int .i64 sh, .int .i64 fl] 76)).alloc (.cells #[.slice none 0 0] 66)) 22 (.slice ao rs.length c)
  simp only [World.size_alloc] at bO bS
  have hB0 : Below w.heap.size w (((w.alloc (.cells #[.int .i64 la, .int .i64 mo, .int .i64 sh, .int .i64 fl] 76)).alloc (.cells #[.slice none 0 0] 66)).alloc (.cells #[.slice ao rs.length c] 22)) := by
    repeat' (first | exact Below.refl _ _ | refine Below.alloc ?_ (by simp <;> omega) _)
  have hsz : (((w.alloc (.cells #[.int .i64 la, .int .i64 mo, .int .i64 sh, .int .i64 fl] 76)).alloc (.cells #[.slice none 0 0] 66)).alloc (.cells #[.slice ao rs.length c] 22)).heap.size = w.heap.size + 3 := by simp
  obtain ⟨W0, hW0⟩ : ∃ W0, ((w.alloc (.cells #[.int .i64 la, .int .i64 mo, .int .i64 sh, .int .i64 fl] 76)).alloc (.cells #[.slice none 0 0] 66)).alloc (.cells #[.slice ao rs.length c] 22) = W0 := ⟨_, rfl⟩
  rw [hW0] at bQ bO bS hB0 hsz ⊢
  clear hW0 hv0
  refine wpIn_rangeFunc_ownH rfl (by omega) (gf := 83) (lb := #[.pointer (some ⟨w.heap.size + 1 + 1, 0, none⟩)]) rfl trivial (enters_of Try.func83 (by kernel_rfl) rfl)
    (marks_stops Fence.wide (6 - 1) trivial rfl (by omega) (w.heap.size + 1 + 1) w.heap.size _ rs hf W0 (by omega) (by omega) bS.cell ⟨ao, c, rfl, fun k hk => by obtain ⟨b, off, h1, h2, h3⟩ := hlk k hk; exact ⟨b, off, h1, h2, h3.below hB0 h2⟩⟩) belowK_t (belowK_b (by omega)) (Below.refl _ _) (fun _ => rfl)
    (fun pre W => (BlockAt W w.heap.size #[.int .i64 la, .int .i64 mo, .int .i64 sh, .int .i64 fl] 76 ∧ (∃ v, Boxed W (w.heap.size + 1) 66 v ∧ W.ownsRow w.heap.size 70 2 v (whS la mo sh fl pre).length (cellsS (whS la mo sh fl pre)) ∧ True)) ∧ Below w.heap.size w W)
    (fun _ _ _ => False)
    (OwnFrom.and (OwnFrom.and (Own.from (block_own _ (fun _ => #[.int .i64 la, .int .i64 mo, .int .i64 sh, .int .i64 fl]) 76) _) (Own.from (holdsRow_own w.heap.size (w.heap.size + 1) 66 70 2 (fun pre => (whS la mo sh fl pre).length) (fun pre => cellsS (whS la mo sh fl pre)) (fun _ _ => True)) _)) (ownFrom_below (Nat.le_refl _) (by omega)))
    (fun _ _ _ _ _ hs _ _ => hs.elim)
    ⟨⟨bQ, _, bO, World.ownsRow_nil _ _ _ _, trivial⟩, hB0⟩
    (fun x a' W => ∃ Bx, w.heap.size + 1 < Bx ∧ (BlockAt W Bx #[.int .i64 x.1.f, .int .i64 x.1.t] 70 ∧ BlockAt W (Bx + 1) #[.int .i64 x.1.m.t, .int .i64 x.1.m.s, .int .i64 x.1.m.f] 50) ∧ a' = { tmps := #[.slice ao rs.length c, .agg #[.int .i64 la, .int .i64 mo, .int .i64 sh, .int .i64 fl], undef, .pointer (some ⟨w.heap.size, 0, none⟩), .slice none 0 0, .pointer (some ⟨w.heap.size + 1, 0, none⟩), .pointer (some ⟨Bx, 0, none⟩), .pointer (some ⟨Bx + 1, 0, none⟩), .slice ao rs.length c, .func (.func 83) #[] #[.pointer (some ⟨w.heap.size + 1 + 1, 0, none⟩)], .agg #[.int .i64 x.1.f, .int .i64 x.1.t], .agg #[.int .i64 x.1.m.t, .int .i64 x.1.m.s, .int .i64 x.1.m.f], undef, undef, undef, undef, undef, undef, undef, undef, undef], defers := [] })
    (fun x a' _ X Y row hs hg hr => by obtain ⟨Bx, e1, ⟨e2, e4⟩, e3⟩ := hs; exact ⟨Bx, e1, ⟨block_own Bx (fun (_ : Unit) => #[.int .i64 x.1.f, .int .i64 x.1.t]) 70 () X Y row e2 hg (fun r e => (hr r e).2), block_own (Bx + 1) (fun (_ : Unit) => #[.int .i64 x.1.m.t, .int .i64 x.1.m.s, .int .i64 x.1.m.f]) 50 () X Y row e4 hg (fun r e => (hr r e).2)⟩, e3⟩)
    ?assign ?body ?done ?stop
  case assign =>
    rintro l pre x W K ⟨⟨bQ1, v1, bO1, hrow1, _⟩, hB1⟩ hK
    have hsW := hB1.size
    gi_wp2
    exact hK _ _ (((KeepsOthers.alloc _ _).trans (KeepsOthers.alloc _ _)).from _) (((Below.refl _ W).alloc hsW _).alloc (by simp; omega) _) ⟨⟨(bQ1.alloc _).alloc _, _, (bO1.alloc _).alloc _, (hrow1.alloc _).alloc _, trivial⟩, (hB1.alloc hsW _).alloc (by simp; omega) _⟩ ⟨W.heap.size, by have := bO1.lt; omega, ⟨(BlockAt.new W _ _).alloc _, by simpa using BlockAt.new (W.alloc (.cells #[.int .i64 x.1.f, .int .i64 x.1.t] 70)) #[.int .i64 x.1.m.t, .int .i64 x.1.m.s, .int .i64 x.1.m.f] 50⟩, rfl⟩
  case body =>
    rintro l pre x a' W hl ⟨r, hr⟩ ⟨⟨bQ1, v1, bO1, hrow1, _⟩, hB1⟩ ⟨Bx, hBx, ⟨e2, e4⟩, rfl⟩ hlt
    have q0 := (bQ1.cell 0).trans rfl
    have q1 := (bQ1.cell 1).trans rfl
    have q2 := (bQ1.cell 2).trans rfl
    have q3 := (bQ1.cell 3).trans rfl
    have y0 := (e4.cell 0).trans rfl
    have y1 := (e4.cell 1).trans rfl
    have y2 := (e4.cell 2).trans rfl
    have hcl := whS_le la mo sh fl pre
    obtain ⟨p1, p2, p3, p4⟩ := x.2
    have HC := Lib.hid (num_holds_any la mo sh fl x.1.m W)
    generalize hH : Bd.holds la mo sh fl x.1.m = H at *
    have HH := Lib.hid hH
    clear hH
    gi_wp2_with fail
    refine ⟨trivial, CallsIn.inRound l ((callsIn_wide.2 HC.out).mono ?_)⟩
    rintro e w1 ⟨rfl, hb1⟩
    have hk1 := keepsOthers_below hb1
    have hB2 := below_step hB1 hb1
    have bQ2 := bQ1.below hb1 bQ1.lt
    have bO2 : Boxed w1 (w.heap.size + 1) 66 v1 := BlockAt.below (show BlockAt W _ _ _ from bO1) hb1 bO1.lt
    have hrow2 := ownsRow_all hrow1 hb1
    have e2 := e2.below hb1 e2.lt
    have x0 := (e2.cell 0).trans rfl
    have x1 := (e2.cell 1).trans rfl
    have hbn := hb1.mono hB1.size
    clear hb1 q0 q1 q2 q3 y0 y1 y2 e2 e4 HC
    have cO := bO2.cell
    cases H
    · have HCut := Lib.hid (whSp_neg HH.out)
      clear HH
      gi_wp2
      first | exact ⟨hk1.from _, hbn, ⟨bQ2, _, bO2, by rw [whS_snoc, HCut.out, List.append_nil]; exact hrow2, trivial⟩, hB2⟩ | exact ⟨hk1.from _, hbn, ⟨bQ2, _, bO2, by rw [whS_snoc, HCut.out, List.append_nil]; exact hrow2⟩, hB2⟩
    · have HCut := Lib.hid (whSp_pos HH.out)
      clear HH
      gi_wp2_with (gi_at_builtin; refine wpListIn_append_own _ rfl _ _ 66 rfl w.heap.size 70 i0 (.agg #[.int .i64 0, .int .i64 0]) 2 16 Try.underlying66 hi hz0 hz1 hz2 rfl (by decide) _ _ _ rfl (hrow2.alloc _) ⟨w1.heap.size, 0, none⟩ 1 1 (spnC ⟨x.1.f, x.1.t⟩) rfl rfl (spnC_at w1 ⟨x.1.f, x.1.t⟩ _ rfl) (spnC_one _) (by unfold maxLen; omega) (by omega) (by have := hB2.size; simp; omega) ?_; intro v' w1' hown' hgrow _; obtain ⟨g', cap', rfl⟩ := ownsRow_succ hown'; obtain ⟨hv1, hv2, hr2, hk2, hb2⟩ := bO2.appended (by decide) hrow2 hB2.size (by omega) hown' hgrow; have bQ3 := ((bQ2.alloc _).kept hgrow (bQ2.not_row (by decide) hrow2)).other (B' := w.heap.size + 1) (i := 0) (by omega) (.slice (some ⟨g', 0, none⟩) ((whS la mo sh fl pre).length + 1) cap'); have hc1 := hv1.cell; have hf1 := hv1.frozen)
      exact ⟨(hk1.trans hk2).from _, hbn.trans hb2, ⟨bQ3, _, hv2, by rw [whS_snoc, HCut.out]; exact OwnS.pushed hr2, trivial⟩, hB2.trans hb2⟩
  case done =>
    rintro D ys W hD rfl ⟨⟨bQ1, v1, bO1, hrow1, _⟩, hB1⟩ hK
    have cO := bO1.cell
    have hsp : OwnS w.heap.size W v1 (whS la mo sh fl (Bd.upto rs rs.length)) := hrow1
    have hsp := hsp.spns
    have hl2 := whS_le la mo sh fl (Bd.upto rs rs.length)
    rw [Bd.upto_length] at hl2
    have HJ := Lib.hid (joined_spans_any v1 _ W hsp (by omega))
    gi_wp2_with fail
    refine ⟨trivial, (callsIn_wide.2 HJ.out).mono ?_⟩
    rintro e w1 ⟨u, rfl, hu, hb1⟩
    have hs1 := hB1.size
    have hK1 : w1.heap[D]? = some (.deferred (some [])) := (hb1.block D (Array.getElem?_eq_some_iff.1 hK).1).trans hK
    have hu1 : w1.ownsRow w.heap.size 70 2 u (Bd.spa la mo sh fl rs).length (cellsS (Bd.spa la mo sh fl rs)) := hu.mono hs1
    have hB2 := below_step hB1 hb1
    clear HJ hb1 hsp cO
    gi_wp2
    refine ⟨by simp, .inl ⟨_, _, rfl, run_takeDeferred hK1, ?_⟩⟩
    exact ⟨u, by simp [results, Try.results73, go_sem], u, rfl, ownsRow_putObj hu1 _ hK1 rfl, hB2.trans (belowK_b (w := w) (Nat.le_refl _) w1 D _ _ (by omega) hK1 rfl rfl)⟩
  case stop =>
    rintro D c pre W _ _ h _
    exact h.elim
end Go.Proofs.Ytbmjjmpdlmbehaa
