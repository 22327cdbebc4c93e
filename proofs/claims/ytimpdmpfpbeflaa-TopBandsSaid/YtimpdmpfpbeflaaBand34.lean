/- Places of the program. -/
import Derived.Test.YtimpdmpfpbeflaaBand33
namespace Go.Proofs.Ytimpdmpfpbeflaa
open Go.RowKit Go.Shelf

attribute [local go_sem] Oper.semAt_some

namespace Bd
/-- The places where a normal band changes. -/
def plc (x : List R) : List Int := (List.range (x.length - 1)).map fun i => len (x.take (i + 1))
def plcR (rs : List R) : List Int := if valE rs = 0 then plc (norm rs) else []
end Bd
def plcSp (x : Bd.Sp) : List Int := if 0 < x.f then [x.f] else []
def plcS (pre : List Bd.SpB) : List Int := pre.flatMap fun x => plcSp x.1
theorem plcS_snoc (pre : List Bd.SpB) (x : Bd.SpB) : plcS (pre ++ [x]) = plcS pre ++ plcSp x.1 := by simp [plcS]
theorem plcSp_pos {x : Bd.Sp} (h : 0 < x.f) : plcSp x = [x.f] := if_pos h
theorem plcSp_neg {x : Bd.Sp} (h : ¬ 0 < x.f) : plcSp x = [] := if_neg h
theorem plcS_le : ∀ pre : List Bd.SpB, (plcS pre).length ≤ pre.length
  | [] => by simp [plcS]
  | x :: pre => by
    have h1 := plcS_le pre
    have e : plcS (x :: pre) = plcSp x.1 ++ plcS pre := by simp [plcS]
    have h2 : (plcSp x.1).length ≤ 1 := by unfold plcSp; split <;> simp
    rw [e]; simp; omega
theorem plcS_upto {x : List Bd.R} (hf : Bd.fine x) : ∀ n, n + 1 ≤ x.length → plcS (Bd.upto x (n + 1)) = (List.range n).map fun i => Bd.len (x.take (i + 1))
  | 0, h => by
    have e := Bd.spk_eq hf (k := 0) (by omega)
    rw [Bd.upto_succ, plcS_snoc, e]
    simp [plcS, Bd.upto, plcSp, Bd.len]
  | n + 1, h => by
    have ih := plcS_upto hf n (by omega)
    have e := Bd.spk_eq hf (k := n + 1) (by omega)
    have h3 : 0 < Bd.len (x.take (n + 1)) := by
      rw [Bd.len_take_succ (show n < x.length by omega)]
      have := (Bd.len_take_le hf.2.1 n).1
      have := hf.2.1 x[n] (List.getElem_mem (by omega))
      omega
    rw [Bd.upto_succ, plcS_snoc, ih, e, plcSp_pos h3, List.range_succ, List.map_append]
    rfl
theorem plcS_all {x : List Bd.R} (hf : Bd.fine x) : plcS (Bd.upto x x.length) = Bd.plc x := by
  unfold Bd.plc
  rcases Nat.eq_zero_or_pos x.length with h | h
  · rw [h]; simp [plcS, Bd.upto]
  · obtain ⟨n, hn⟩ : ∃ n, x.length = n + 1 := ⟨x.length - 1, by omega⟩
    rw [hn]
    exact plcS_upto hf n (by omega)
theorem BlockAt.not_row {W : World} {B : Nat} {cs : Array Value} {t e : TypeId} (h : BlockAt W B cs t) (hte : t ≠ e) {base size k : Nat} {v : Value} {xs : List Value} (hr : W.ownsRow base e size v k xs) : some B ≠ v.ownBlock := by
  rcases hr.2 with ⟨rfl, _⟩ | ⟨g, cap, cur, rfl, _, hgb, _⟩
  · simp [Value.ownBlock]
  · intro e'
    obtain rfl : B = g := by simpa [Value.ownBlock] using e'
    have := (show W.heap[B]? = _ from h).symm.trans hgb
    simp at this
    exact hte this.2

set_option maxRecDepth 100000 in
set_option maxHeartbeats 8000000 in
theorem num_places_any (v : Value) (rs : List Bd.R) (w : World) (hv : Runs w v rs) (hl : rs.length ≤ 1000) :
    Calls Try.prog 29 #[v] w fun e w' => ∃ u, e = .returned (.tuple #[u, .int .i64 (Bd.valE rs)]) ∧ OwnI w.heap.size w' u (Bd.plcR rs) ∧ Below w.heap.size w w' := by
  obtain ⟨i0, hi, hz0, hz1, hz2⟩ := info_parts infoInt
  have V := Lib.hid (validate_any v rs w hv hl)
  have NR := Lib.hid (fun W (hW : Below w.heap.size w W) h => normal_any v rs W (hv.all hW) h)
  obtain ⟨ao, c, rfl⟩ := hv.form
  generalize hE : Bd.valE rs = E
  generalize hPL : Bd.plcR rs = ps
  have HE := Lib.hid (And.intro hE hPL)
  clear hE hPL hv
  refine (callsIn_wide (n := 6)).1 ?_
  refine callsIn_of_wp_marks Try.func29 rfl trivial ?_ rfl
  simp only [Try.ntmps29, List.size_toArray, List.length_cons, List.length_nil, Nat.reduceAdd, Nat.reduceSub, Array.replicate_succ, Array.replicate_zero, List.push_toArray, List.append_toArray, List.nil_append, List.cons_append]
  gi_wp2_with fail
  refine ⟨trivial, (callsIn_wide.2 V.out).mono ?_⟩
  rintro e w1 ⟨rfl, hB1⟩
  have hs1 := hB1.size
  by_cases hv0 : Bd.valE rs = 0
  · have hE0 : E = 0 := HE.out.1.symm.trans hv0
    have hPS : ps = Bd.plc (Bd.norm rs) := by rw [← HE.out.2]; unfold Bd.plcR; rw [if_pos hv0]
    subst hE0 hPS
    rw [hv0]
    have hf := Bd.fine_of_valid hv0
    have hnf : Bd.fine (Bd.norm rs) := Bd.fine_norm hf
    have hB2 := hB1.alloc hs1 (.cells #[.slice none 0 0] 38)
    have bO := Boxed.new w1 38 (.slice none 0 0)
    have C := Lib.hid (NR.out _ hB2 hf)
    have hs2 : (w1.alloc (.cells #[.slice none 0 0] 38)).heap.size = w1.heap.size + 1 := by simp
    obtain ⟨w2, hw2⟩ : ∃ w2, w1.alloc (.cells #[.slice none 0 0] 38) = w2 := ⟨_, rfl⟩
    rw [hw2] at hB2 bO C hs2
    have HW := Lib.hid hw2
    clear hw2 V NR HE hf hv0
    gi_wp2_with fail
    rw [HW.out]
    refine ⟨trivial, (callsIn_wide.2 C.out).mono ?_⟩
    rintro e w3 ⟨u, rfl, hu, hb3⟩
    have bO := BlockAt.below (show BlockAt w2 w1.heap.size #[.slice none 0 0] 38 from bO) hb3 (by omega)
    have hB3 := below_step hB2 hb3
    have hs3 := hb3.size
    clear hb3 C HW hB2
    obtain ⟨uo, uc, rfl⟩ := hu.runs.form
    generalize hX : Bd.norm rs = xs at *
    have HX := Lib.hid hX
    clear hX
    gi_wp2_with (refine ⟨trivial, ?_⟩; gi_at_call 65; refine (callsIn_wide.2 (marks_any uo xs.length uc _)).mono ?_; rintro e w' ⟨rfl, rfl⟩)
    have bS := Boxed.new w3 22 (.slice uo xs.length uc)
    have hu := hu.alloc (.cells #[.slice uo xs.length uc] 22)
    have bO := bO.alloc (.cells #[.slice uo xs.length uc] 22)
    have hB4 := hB3.alloc (by omega) (.cells #[.slice uo xs.length uc] 22)
    have hs4 : (w3.alloc (.cells #[.slice uo xs.length uc] 22)).heap.size = w3.heap.size + 1 := by simp
    obtain ⟨W0, hW0⟩ : ∃ W0, w3.alloc (.cells #[.slice uo xs.length uc] 22) = W0 := ⟨_, rfl⟩
    rw [hW0] at bS hu bO hB4 hs4 ⊢
    clear hW0 hB3
    obtain ⟨b0, cs, t0, hb0, hK, ht0, ao', c', e', hrd⟩ := hu.block w3.heap.size _ 22 hs3 bS
    have htI : t0 ≠ 3 := by rcases ht0 with rfl | rfl <;> decide
    clear ht0
    have hlen := hnf.1
    generalize hBs : w3.heap.size = Bs at *
    generalize hBo : w1.heap.size = Bo at *
    refine wpIn_rangeFunc_ownH rfl (by omega) (gf := 88) (lb := #[.pointer (some ⟨Bs, 0, none⟩)]) rfl trivial (enters_of Try.func88 (by kernel_rfl) rfl)
      (marks_stays Fence.wide (6 - 1) trivial rfl (by omega) Bs b0 cs t0 _ xs hnf W0 (by omega) hK bS.cell ⟨ao', c', e', hrd⟩) kpB_t kpB_b (Below.refl _ _) (fun _ => rfl)
      (fun pre W => (BlockAt W b0 cs t0 ∧ (∃ v, Boxed W Bo 38 v ∧ W.ownsRow w.heap.size 3 1 v (plcS pre).length (cellsI (plcS pre)) ∧ True)) ∧ Below w.heap.size w W)
      (fun _ _ _ => False)
      (OwnFrom.and (OwnFrom.and (Own.from (block_own _ (fun _ => cs) t0) _) (Own.from (holdsRow_own w.heap.size Bo 38 3 1 (fun pre => (plcS pre).length) (fun pre => cellsI (plcS pre)) (fun _ _ => True)) _)) (ownFrom_below (Nat.le_refl _) (by omega)))
      (fun _ _ _ _ _ hs _ _ => hs.elim)
      ⟨⟨hK, _, bO, World.ownsRow_nil _ _ _ _, trivial⟩, hB4⟩
      (fun x a' W => ∃ Bx, Bo < Bx ∧ BlockAt W Bx #[.int .i64 x.1.f, .int .i64 x.1.t] 62 ∧ a' = { tmps := #[.slice ao rs.length c, undef, .slice none 0 0, .int .i64 0, .int .i64 0, .pointer (some ⟨Bo, 0, none⟩), .pointer (some ⟨Bx, 0, none⟩), .slice ao rs.length c, .int .i64 0, .int .i64 0, .bool false, undef, .slice ao rs.length c, .slice uo xs.length uc, .func (.func 88) #[] #[.pointer (some ⟨Bs, 0, none⟩)], .agg #[.int .i64 x.1.f, .int .i64 x.1.t], .agg #[.int .i64 x.1.m.t, .int .i64 x.1.m.s, .int .i64 x.1.m.f], undef, undef, undef, undef, undef, undef, undef, undef, undef], defers := [] })
      (fun x a' _ X Y row hs hg hr => by obtain ⟨Bx, e1, e2, e3⟩ := hs; exact ⟨Bx, e1, block_own Bx (fun (_ : Unit) => #[.int .i64 x.1.f, .int .i64 x.1.t]) 62 () X Y row e2 hg (fun r e => (hr r e).2), e3⟩)
      ?assign ?body ?done ?stop
    case assign =>
      rintro l pre x W K ⟨⟨bK, v1, bO1, hrow1, _⟩, hB1⟩ hK'
      have hsW := hB1.size
      gi_wp2
      exact hK' _ _ ((KeepsOthers.alloc _ _).from _) (fun h => h.alloc _) ⟨⟨bK.alloc _, _, bO1.alloc _, hrow1.alloc _, trivial⟩, hB1.alloc hsW _⟩ ⟨W.heap.size, by have := bO1.lt; omega, BlockAt.new W _ _, rfl⟩
    case body =>
      rintro l pre x a' W hl' ⟨r, hr⟩ ⟨⟨bK, v1, bO1, hrow1, _⟩, hB1⟩ ⟨Bx, hBx, e2, rfl⟩ hlt
      have cO := bO1.cell
      have x0 := (e2.cell 0).trans rfl
      have x1 := (e2.cell 1).trans rfl
      obtain ⟨p1, p2, p3, p4⟩ := x.2
      have hcl := plcS_le pre
      clear e2 hr
      by_cases hc : 0 < x.1.f
      · have HCut := Lib.hid (plcSp_pos hc)
        gi_wp2_with (gi_at_builtin; refine wpListIn_append_own _ rfl _ _ 38 rfl w.heap.size 3 i0 (.int .i64 0) 1 8 Try.underlying38 hi hz0 hz1 hz2 rfl (by decide) _ _ _ rfl (hrow1.alloc _) ⟨W.heap.size, 0, none⟩ 1 1 (intC x.1.f) rfl rfl (intC_at W _ _) (intC_one _) (by unfold maxLen; omega) (by omega) (by have := hB1.size; simp; omega) ?_; intro v' w1' hown' hgrow _; obtain ⟨g', cap', rfl⟩ := ownsRow_succ hown'; obtain ⟨hv1, hv2, hr2, hk2, hb2⟩ := bO1.appended (by decide) hrow1 hB1.size (by omega) hown' hgrow; have bK2 := ((bK.alloc _).kept hgrow (bK.not_row htI hrow1)).other (B' := Bo) (i := 0) (by omega) (.slice (some ⟨g', 0, none⟩) ((plcS pre).length + 1) cap'); have hc1 := hv1.cell; have hf1 := hv1.frozen)
        exact ⟨hk2.from _, fun _ => bK2, ⟨bK2, _, hv2, by rw [plcS_snoc, HCut.out]; exact OwnI.pushed hr2, trivial⟩, hB1.trans hb2⟩
      · have HCut := Lib.hid (plcSp_neg hc)
        gi_wp2
        first | exact ⟨KeepsFrom.refl _ _, fun h => h, ⟨bK, _, bO1, by rw [plcS_snoc, HCut.out, List.append_nil]; exact hrow1, trivial⟩, hB1⟩ | exact ⟨KeepsFrom.refl _ _, fun h => h, ⟨bK, _, bO1, by rw [plcS_snoc, HCut.out, List.append_nil]; exact hrow1⟩, hB1⟩
    case done =>
      rintro D ys W hD rfl ⟨⟨bK, v1, bO1, hrow1, _⟩, hB1⟩ hK'
      have cO := bO1.cell
      gi_wp2
      refine ⟨by simp, .inl ⟨_, _, rfl, run_takeDeferred hK', ?_⟩⟩
      exact ⟨.tuple #[v1, .int .i64 0], by simp [results, Try.results29, go_sem], v1, rfl, by rw [HX.out, ← plcS_all hnf]; exact ownsRow_putObj hrow1 _ hK' rfl, hB1.trans (belowK_b (w := w) (Nat.le_refl _) W D _ _ (by omega) hK' rfl rfl)⟩
    case stop =>
      rintro D c pre W _ _ h _
      exact h.elim
  · have hPS : ps = [] := by rw [← HE.out.2]; unfold Bd.plcR; rw [if_neg hv0]
    subst hPS
    have hEE := HE.out.1
    generalize Bd.valE rs = z at *
    have hz : (z == 0) = false := by simp [hv0]
    have HZ := Lib.hid hEE
    clear hEE HE V NR hv0
    gi_wp2
    exact ⟨.tuple #[.slice none 0 0, .int .i64 z], by simp [results, Try.results29, go_sem], _, by rw [HZ.out], OwnI.nil _ _, hB1⟩
end Go.Proofs.Ytimpdmpfpbeflaa
