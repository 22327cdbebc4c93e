/- Copies of lots and of genealogies. -/
import Derived.Test.YtccjbefmcifaeaaLotsOwn
namespace Go.Proofs.Ytccjbefmcifaeaa
open Go.RowKit

set_option maxRecDepth 20000 in
set_option maxHeartbeats 1000000 in
theorem cloneParts_any (v : Value) (ps : List Lt.P) (w : World) (hv : Parts w v ps) (hl : ps.length ≤ 1000) :
    Calls Try.prog 60 #[v] w fun e w' => ∃ u, e = .returned u ∧ w'.ownsRow w.heap.size 35 2 u ps.length (partsC ps) ∧ Below w.heap.size w w' := by
  obtain ⟨i0, hi, hz0, hz1, hz2⟩ := info_of infoPart
  have hown := World.ownsRow_made (base := w.heap.size) (e := 35) (size := 2) w #[] 0 (Nat.le_refl _) (by unfold maxLen; omega) rfl
  have hw0 := (Below.refl w.heap.size w).alloc (Nat.le_refl _) (.cells #[] 35)
  have heq := fun (W : World) a n c => Lib.run_eql_slice_nil (P := Try.prog) W 23 35 a n c 0 0 ul_parts
  rcases hv with ⟨a, c, rfl, rfl, hnc⟩ | ⟨b, off, cap, rfl, hc, hb, h4⟩
  · cases a with
    | none =>
      obtain rfl := hnc rfl
      clear hown hw0
      go_enter Try.func60, Try.ntmps60
      go_wp2
      go_ret
      exact ⟨_, rfl, World.ownsRow_nil _ _ _ _, Below.refl _ _⟩
    | some ad =>
      go_enter Try.func60, Try.ntmps60
      go_wp2_with (at_builtin; refine wpList_append_own _ rfl _ _ 23 rfl w.heap.size 35 i0 zPart 2 16 ul_parts hi hz0 hz1 hz2 rfl (by decide) _ _ _ rfl hown ad 0 c [] rfl rfl (by intro j u h; simp at h) (by intro u h; simp at h) (by unfold maxLen; omega) (by omega) (by simp) ?_)
      intro v' w1 hown1 hgrow _
      have hw1 := hw0.grown hgrow (by simp) (fun j e => (World.ownsRow.lt hown j e).1)
      have hx : w1.ownsRow w.heap.size 35 2 v' 0 [] := by simpa using hown1
      clear hown hgrow hown1 hw0
      go_wp2
      go_ret
      exact ⟨_, rfl, hx, hw1⟩
  · have hca : ∀ (j : Nat) (u : Value), (partsC ps)[j]? = some u → (w.alloc (.cells #[] 35)).cell? ((⟨b, off, none⟩ : Addr).add j) = some u :=
      Parts.news fun k hk => ⟨(hw0.cell (p := ⟨b, off + k * 2, none⟩) hb).trans (h4 k hk).1, (hw0.cell (p := ⟨b, off + k * 2 + 1, none⟩) hb).trans (h4 k hk).2⟩
    clear h4
    go_enter Try.func60, Try.ntmps60
    go_wp2_with (at_builtin; refine wpList_append_own _ rfl _ _ 23 rfl w.heap.size 35 i0 zPart 2 16 ul_parts hi hz0 hz1 hz2 rfl (by decide) _ _ _ rfl hown ⟨b, off, none⟩ ps.length cap (partsC ps) rfl (partsC_len ps) hca (partsC_one ps) (by unfold maxLen; omega) (by omega) (by simp) ?_)
    intro v' w1 hown1 hgrow _
    have hw1 := hw0.grown hgrow (by simp) (fun j e => (World.ownsRow.lt hown j e).1)
    have hx : w1.ownsRow w.heap.size 35 2 v' ps.length (partsC ps) := by simpa using hown1
    clear hown hgrow hown1 hca hw0
    go_wp2
    go_ret
    exact ⟨_, rfl, hx, hw1⟩

/-- A store into a lot changes no parts. -/
theorem PartsT.setLot {w : World} {v : Value} {ps : List Lt.P} (h : PartsT w v ps) {B : Nat} {cs : Array Value} (hB : BlockAt w B cs 25) (x y z : Value) : PartsT (((w.setCell ⟨B, 0, none⟩ x).setCell ⟨B, 1, none⟩ y).setCell ⟨B, 2, none⟩ z) v ps := by
  have one : ∀ {W : World} {cs : Array Value} (i : Nat) (x : Value), BlockAt W B cs 25 → PartsT W v ps → PartsT (W.setCell ⟨B, i, none⟩ x) v ps := fun i x hB h => h.keep (by simp [World.setCell]) fun b cs' fz e => Below.heap_setCell _ _ _ _ (by
    intro eb; subst eb
    have := e.symm.trans hB
    simp at this)
  exact one _ _ ((hB.set 0 _).set 1 _) (one _ _ (hB.set 0 _) (one _ _ hB h))
/-- An append beside other operations of its region. -/
theorem oper_append {P : Program} {o : Oper} {a : Act} {w w' : World} {K : Act → World → Prop} {Q : Exit → Act → World → Prop} {s x : Operand} {t : TypeId} {v z v' : Value}
    (ho : o.op = .call { callee := .builtin .append, args := #[s, x], argTypes := #[t, t] }) (hs : a.eval s = v) (hx : a.eval x = z)
    (hr : (Builtin.append_ #[t, t] o.type #[v, z]).run P w = .ok v' w') (h : K (a.put o.dst v') w') : Oper.wp P o a w K Q := by
  unfold Oper.wp execOp
  simp only [ho, resolve, invoke, builtin, Sem.run_bind, Sem.run_pure, Result.andThen_ok, List.map_toArray, List.map_cons, List.map_nil, hs, hx, hr]
  exact h
theorem row_mono {base B : Nat} {w : World} {t : TypeId} {size n : Nat} {v : Value} {xs : List Value} (h : w.ownsRow base t size v n xs) (hB : B ≤ base) : w.ownsRow B t size v n xs := by
  obtain ⟨h0, h | ⟨g, cap, cur, h1, h2, h3⟩⟩ := h
  · exact ⟨h0, .inl h⟩
  · exact ⟨h0, .inr ⟨g, cap, cur, h1, Nat.le_trans hB h2, h3⟩⟩
theorem cloned {w w1 : World} {v' : Value} {ps : List Lt.P} (h : w1.ownsRow w.heap.size 35 2 v' (0 + ps.length) ([] ++ partsC ps)) : w1.ownsRow w.heap.size 35 2 v' ps.length (partsC ps) := by simpa using h

set_option maxRecDepth 20000 in
set_option maxHeartbeats 1000000 in
theorem copyLot_any (x : Lt.L) (v : Value) (w : World) (hv : Parts w v x.ps) (hl : x.ps.length ≤ 1000) :
    Calls Try.prog 58 #[lotV x v] w fun e w' => ∃ u, e = .returned (lotV x u) ∧ PartsT w' u x.ps ∧ Below w.heap.size w w' ∧ w'.ownsRow w.heap.size 35 2 u x.ps.length (partsC x.ps) := by
  obtain ⟨xk, xm, ps⟩ := x
  dsimp only at hv hl ⊢
  obtain ⟨i0, hi, hz0, hz1, hz2⟩ := info_of infoPart
  obtain ⟨a, c, rfl⟩ := hv.form
  have bX := (BlockAt.new w #[.int .i64 xk, .int .i64 xm, .slice a ps.length c] 25).alloc (.cells #[.int .i64 0, .int .i64 0, .slice none 0 0] 25)
  have bR := BlockAt.new (w.alloc (.cells #[.int .i64 xk, .int .i64 xm, .slice a ps.length c] 25)) #[.int .i64 0, .int .i64 0, .slice none 0 0] 25
  have hw0 := below_alloc (below_alloc (Below.refl w.heap.size w) (.cells #[.int .i64 xk, .int .i64 xm, .slice a ps.length c] 25)) (.cells #[.int .i64 0, .int .i64 0, .slice none 0 0] 25)
  simp only [World.size_alloc] at bR
  -- the append, in any later world
  have AP : Hid (∀ W : World, Below w.heap.size w W → ∃ (v' : Value) (W' : World), (Builtin.append_ #[23, 23] 23 #[.slice (some ⟨W.heap.size, 0, none⟩) 0 0, .slice a ps.length c]).run Try.prog (W.alloc (.cells #[] 35)) = .ok v' W' ∧ W'.ownsRow W.heap.size 35 2 v' ps.length (partsC ps) ∧ Below W.heap.size W W') := by
    refine Lib.hid fun W hW => ?_
    have hown := World.ownsRow_made (base := W.heap.size) (e := 35) (size := 2) W #[] 0 (Nat.le_refl _) (by unfold maxLen; omega) rfl
    have hw1 := (Below.refl W.heap.size W).alloc (Nat.le_refl _) (.cells #[] 35)
    have key : ∃ (ad : Addr), True := ⟨⟨0, 0, none⟩, trivial⟩
    rcases hv.all hW with ⟨a', c', e, rfl, hnc⟩ | ⟨b, off, cap, e, hc, hb, h4⟩
    · simp only [Value.slice.injEq] at e
      obtain ⟨rfl, _, rfl⟩ := e
      cases a with
      | none =>
        obtain rfl := hnc rfl
        have hrun := run_append_owned_none (P := Try.prog) (w := W.alloc (.cells #[] 35)) W.heap.size 23 23 35 i0 2 ul_parts hi _ 0 [] hown
        exact ⟨_, _, hrun, hown, hw1⟩
      | some ad =>
        obtain ⟨v', W', h1, h2, h3, _⟩ := run_append_own (P := Try.prog) (w := W.alloc (.cells #[] 35)) W.heap.size 23 23 35 i0 zPart 2 16 ul_parts hi hz0 hz1 hz2 rfl (by decide) _ 0 [] hown ad 0 c [] rfl (by intro j u h; simp at h) (by intro u h; simp at h) (by unfold maxLen; omega) (by omega) (by simp)
        have h2' : W'.ownsRow W.heap.size 35 2 v' 0 [] := by simpa using h2
        exact ⟨v', W', h1, h2', hw1.grown h3 (by simp) (fun j e => (World.ownsRow.lt hown j e).1)⟩
    · simp only [Value.slice.injEq] at e
      obtain ⟨rfl, _, rfl⟩ := e
      have hca : ∀ (j : Nat) (u : Value), (partsC ps)[j]? = some u → (W.alloc (.cells #[] 35)).cell? ((⟨b, off, none⟩ : Addr).add j) = some u :=
        Parts.news fun k hk => ⟨(hw1.cell (p := ⟨b, off + k * 2, none⟩) hb).trans (h4 k hk).1, (hw1.cell (p := ⟨b, off + k * 2 + 1, none⟩) hb).trans (h4 k hk).2⟩
      obtain ⟨v', W', h1, h2, h3, _⟩ := run_append_own (P := Try.prog) (w := W.alloc (.cells #[] 35)) W.heap.size 23 23 35 i0 zPart 2 16 ul_parts hi hz0 hz1 hz2 rfl (by decide) _ 0 [] hown ⟨b, off, none⟩ ps.length c (partsC ps) (partsC_len ps) hca (partsC_one ps) (by unfold maxLen; omega) (by omega) (by simp)
      exact ⟨v', W', h1, cloned h2, hw1.grown h3 (by simp) (fun j e => (World.ownsRow.lt hown j e).1)⟩
  have HB := Lib.hid (And.intro bX (And.intro bR hw0))
  have hS0 := And.intro (bX.drew.cell 0) (And.intro (bX.drew.cell 1) (bX.drew.cell 2))
  clear bX bR hw0 hv
  go_enter Try.func58, Try.ntmps58
  go_wp2_with fail
  refine wp_region_seq [(0, true), (1, true), (2, true), (3, true), (5, true), (6, true), (4, false), (7, false), (8, true), (9, false)] (fun W => W.cell? ⟨w.heap.size, 0, none⟩ = some (.int .i64 xk) ∧ W.cell? ⟨w.heap.size, 1, none⟩ = some (.int .i64 xm) ∧ W.cell? ⟨w.heap.size, 2, none⟩ = some (.slice a ps.length c))
    (by kernel_rfl) (by kernel_rfl) (by kernel_rfl) (by kernel_rfl) (fun d _ _ _ _ h => by cases d <;> exact h) hS0 (fun hS => ?_)
  clear hS0
  obtain ⟨X0, hX0⟩ : ∃ X, ((w.alloc (.cells #[.int .i64 xk, .int .i64 xm, .slice a ps.length c] 25)).alloc (.cells #[.int .i64 0, .int .i64 0, .slice none 0 0] 25)).drew = X := ⟨_, rfl⟩
  have HX : Hid (BlockAt X0 w.heap.size #[.int .i64 xk, .int .i64 xm, .slice a ps.length c] 25 ∧ BlockAt X0 (w.heap.size + 1) #[.int .i64 0, .int .i64 0, .slice none 0 0] 25 ∧ Below w.heap.size w X0 ∧ X0.heap.size = w.heap.size + 1 + 1) := Lib.hid (by rw [← hX0]; exact ⟨HB.out.1.drew, HB.out.2.1.drew, HB.out.2.2.drew, by simp [World.drew]⟩)
  rw [hX0] at hS ⊢
  repeat (refine SeqH.take (v := ?_) rfl (by rfl) ?_ ?_; rotate_left; (· intro w hSw; (try dsimp only at hSw); obtain ⟨q0, q1, q2⟩ := hSw; go_simp; (try with_reducible rfl)); simp only [Act.put, List.setIfInBounds_toArray, List.set_cons_zero, List.set_cons_succ])
  refine SeqH.step rfl (by rfl) (fun K hK => ?_)
  go_simp
  obtain ⟨v', X1, hrun, hrr, hb1⟩ := AP.out X0 HX.out.2.2.1
  have hpt := PartsT.row hrr
  obtain ⟨va, vc, rfl⟩ := hpt.1.form
  have HP := Lib.hid (And.intro hpt hb1)
  have HRR := Lib.hid hrr
  clear hX0 HB AP hpt hb1 hrr
  have hS1 : (X0.alloc (.cells #[] 35)).cell? ⟨w.heap.size, 0, none⟩ = some (.int .i64 xk) ∧ (X0.alloc (.cells #[] 35)).cell? ⟨w.heap.size, 1, none⟩ = some (.int .i64 xm) ∧ (X0.alloc (.cells #[] 35)).cell? ⟨w.heap.size, 2, none⟩ = some (.slice a ps.length c) := ⟨(HX.out.1.alloc _).cell 0, (HX.out.1.alloc _).cell 1, (HX.out.1.alloc _).cell 2⟩
  try dsimp only
  refine hK.out _ _ hS1 (fun _ => ?_)
  clear hK K hS hS1
  try simp only [Act.put, List.setIfInBounds_toArray, List.set_cons_zero, List.set_cons_succ]
  refine SeqH.step rfl (by rfl) (fun K hK => ?_)
  refine oper_append rfl rfl rfl hrun ?_
  have bR1 := HX.out.2.1.below HP.out.2 HX.out.2.1.lt
  have bX1 := HX.out.1.below HP.out.2 HX.out.1.lt
  have hS2 : X1.cell? ⟨w.heap.size, 0, none⟩ = some (.int .i64 xk) ∧ X1.cell? ⟨w.heap.size, 1, none⟩ = some (.int .i64 xm) ∧ X1.cell? ⟨w.heap.size, 2, none⟩ = some (.slice a ps.length c) := ⟨bX1.cell 0, bX1.cell 1, bX1.cell 2⟩
  have HN := Lib.hid (And.intro bR1 (And.intro bX1 (below_step HX.out.2.2.1 HP.out.2)))
  clear bR1 bX1
  try dsimp only
  refine hK.out _ _ hS2 (fun _ => ?_)
  clear hK K hS2 hrun
  try simp only [Act.put, List.setIfInBounds_toArray, List.set_cons_zero, List.set_cons_succ]
  repeat (refine SeqH.take (v := ?_) rfl (by rfl) ?_ ?_; rotate_left; (· intro w hSw; (try dsimp only at hSw); go_simp; (try with_reducible rfl)); simp only [Act.put, List.setIfInBounds_toArray, List.set_cons_zero, List.set_cons_succ])
  have d0 := HN.out.1.cell 0
  have d1 := HN.out.1.cell 1
  have d2 := HN.out.1.cell 2
  have e0 := HN.out.1.frozen 0
  have e1 := HN.out.1.frozen 1
  have e2 := HN.out.1.frozen 2
  have hsz := HN.out.1.lt
  refine SeqH.step rfl (by rfl) (fun K hK => ?_)
  go_simp
  obtain ⟨X2, hX2⟩ : ∃ X, ((X1.setCell ⟨w.heap.size + 1, 0, none⟩ (.int .i64 xk)).setCell ⟨w.heap.size + 1, 1, none⟩ (.int .i64 xm)).setCell ⟨w.heap.size + 1, 2, none⟩ (.slice va ps.length vc) = X := ⟨_, rfl⟩
  have b2 : BlockAt X2 (w.heap.size + 1) #[.int .i64 xk, .int .i64 xm, .slice va ps.length vc] 25 := by rw [← hX2]; exact ((HN.out.1.set 0 _).set 1 _).set 2 _
  have bx : BlockAt X2 w.heap.size #[.int .i64 xk, .int .i64 xm, .slice a ps.length c] 25 := by rw [← hX2]; exact ((HN.out.2.1.other (by omega) _).other (by omega) _).other (by omega) _
  have hw2 : Below w.heap.size w X2 := by rw [← hX2]; exact ((HN.out.2.2.setCell (by simp) _).setCell (by simp) _).setCell (by simp) _
  have hp2 : PartsT X2 (.slice va ps.length vc) ps := by
    rw [← hX2]
    exact HP.out.1.setLot HN.out.1 _ _ _
  rw [hX2]
  have hS3 : X2.cell? ⟨w.heap.size, 0, none⟩ = some (.int .i64 xk) ∧ X2.cell? ⟨w.heap.size, 1, none⟩ = some (.int .i64 xm) ∧ X2.cell? ⟨w.heap.size, 2, none⟩ = some (.slice a ps.length c) := ⟨bx.cell 0, bx.cell 1, bx.cell 2⟩
  have hr2 : X2.ownsRow w.heap.size 35 2 (.slice va ps.length vc) ps.length (partsC ps) := by
    rw [← hX2]
    exact row_mono (RowKit.ownsRow_setCell_below (RowKit.ownsRow_setCell_below (RowKit.ownsRow_setCell_below HRR.out (by simp [HX.out.2.2.2]) _) (by simp [HX.out.2.2.2]) _) (by simp [HX.out.2.2.2]) _) (by rw [HX.out.2.2.2]; omega)
  have HR := Lib.hid (And.intro hp2 (And.intro hw2 hr2))
  clear bx hw2 hp2 hr2 hX2 d0 d1 d2 e0 e1 e2 hsz
  have d0 := b2.cell 0
  have d1 := b2.cell 1
  have d2 := b2.cell 2
  have hsz := b2.lt
  clear b2
  try dsimp only
  refine hK.out _ _ hS3 (fun _ => ?_)
  clear hK K hS3
  try simp only [Act.put, List.setIfInBounds_toArray, List.set_cons_zero, List.set_cons_succ]
  refine SeqH.done ?_
  go_wp2
  exact bodyPost_ret (v := lotV ⟨xk, xm, ps⟩ (.slice va ps.length vc)) (by simp [results, Try.results58, go_sem, d0, d1, d2, hsz]) rfl ⟨_, rfl, HR.out⟩
end Go.Proofs.Ytccjbefmcifaeaa
