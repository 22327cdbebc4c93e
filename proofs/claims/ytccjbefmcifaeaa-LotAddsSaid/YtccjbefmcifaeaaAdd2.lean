/- A genealogy with one more lot: the program's. -/
import Derived.Test.YtccjbefmcifaeaaAdd1
namespace Go.Proofs.Ytccjbefmcifaeaa
open Go.RowKit

def addE (ls : List Lt.L) (x : Lt.L) : Int := if Lt.valE ls = 0 then Lt.valE (ls ++ [x]) else Lt.valE ls
def addR (ls : List Lt.L) (x : Lt.L) : List Lt.L := if addE ls x = 0 then ls ++ [x] else []
/-- A list of lots that the call made, with lists of parts that it made too. -/
def OwnLO (base : Nat) (w : World) (v : Value) (ls : List Lt.L) (us : List Value) : Prop :=
  us.length = ls.length ∧ w.ownsRow base 25 3 v ls.length (lotsC ls us) ∧ ∀ k, k < ls.length → ∃ u, us[k]? = some u ∧ w.ownsRow base 35 2 u (ls.getD k default).ps.length (partsC (ls.getD k default).ps)
theorem row_all {base size n : Nat} {w w2 : World} {t : TypeId} {v : Value} {xs : List Value} (h : w.ownsRow base t size v n xs) (hb : Below w.heap.size w w2) : w2.ownsRow base t size v n xs := by
  obtain ⟨h0, h1 | ⟨g, cap, cur, h1, h2, h3, h4⟩⟩ := h
  · exact ⟨h0, .inl h1⟩
  · exact ⟨h0, .inr ⟨g, cap, cur, h1, h2, by rw [hb.block g (Array.getElem?_eq_some_iff.1 h3).1]; exact h3, h4⟩⟩
theorem rows_ne {b1 b2 s1 s2 n1 n2 : Nat} {w : World} {t1 t2 : TypeId} {v1 v2 : Value} {x1 x2 : List Value} (h1 : w.ownsRow b1 t1 s1 v1 n1 x1) (h2 : w.ownsRow b2 t2 s2 v2 n2 x2) (ht : t1 ≠ t2) : v1.ownBlock = none ∨ v1.ownBlock ≠ v2.ownBlock := by
  obtain ⟨_, ⟨e1, _⟩ | ⟨g, cap, cur, e1, _, e3, _⟩⟩ := h1
  · exact .inl (by rw [e1]; rfl)
  · refine .inr ?_
    rw [e1]
    exact row_ne h2 e3 (Ne.symm ht)
theorem OwnLO.own {base : Nat} {w : World} {v : Value} {ls : List Lt.L} {us : List Value} (h : OwnLO base w v ls us) : OwnL base w v ls us :=
  ⟨h.1, h.2.1, fun k hk => let ⟨u, h1, h2⟩ := h.2.2 k hk; ⟨u, h1, PartsT.row h2⟩⟩
theorem OwnLO.nil (base : Nat) (w : World) : OwnLO base w (.slice none 0 0) [] [] := ⟨rfl, World.ownsRow_nil _ _ _ _, fun k hk => absurd hk (Nat.not_lt_zero _)⟩
theorem OwnLO.all {base : Nat} {w w2 : World} {v : Value} {ls : List Lt.L} {us : List Value} (h : OwnLO base w v ls us) (hb : Below w.heap.size w w2) : OwnLO base w2 v ls us :=
  ⟨h.1, row_all h.2.1 hb, fun k hk => let ⟨u, h1, h2⟩ := h.2.2 k hk; ⟨u, h1, row_all h2 hb⟩⟩
theorem OwnLO.mono {base B : Nat} {w : World} {v : Value} {ls : List Lt.L} {us : List Value} (h : OwnLO base w v ls us) (hB : B ≤ base) : OwnLO B w v ls us :=
  ⟨h.1, row_mono h.2.1 hB, fun k hk => let ⟨u, h1, h2⟩ := h.2.2 k hk; ⟨u, h1, row_mono h2 hB⟩⟩
theorem row_lots {base : Nat} {w X : World} {v : Value} {ls : List Lt.L} {us : List Value} (hr : w.ownsRow base 25 3 v ls.length (lotsC ls us)) (hp : PartsOf X ls us) (hb : Below X.heap.size X w) : Lots w v ls := by
  obtain ⟨hl, hp⟩ := hp
  obtain ⟨h0, ⟨h1, h2⟩ | ⟨g, cap, cur, h1, h2, h3, h4⟩⟩ := id hr
  · exact .inl ⟨none, 0, by rw [h1], List.length_eq_zero_iff.1 h2, fun _ => rfl⟩
  · subst h1
    refine .inr ⟨g, 0, cap, rfl, by omega, (Array.getElem?_eq_some_iff.1 h3).1, fun k hk => ?_⟩
    obtain ⟨u, hu, hpt⟩ := hp k hk
    obtain ⟨e1, e2, e3⟩ := lotsC_get hl k hk
    have := lotsC_len hl
    refine ⟨u, ?_⟩
    rw [Nat.zero_add]
    exact ⟨(World.ownsRow.cellAt hr (k * 3) (by omega)).trans e1, (World.ownsRow.cellAt hr (k * 3 + 1) (by omega)).trans e2, (World.ownsRow.cellAt hr (k * 3 + 2) (by omega)).trans (e3.trans hu), hpt.all hb⟩
theorem PartsOf.push {w : World} {ls : List Lt.L} {us : List Value} {x : Lt.L} {u : Value} (h : PartsOf w ls us) (hu : Parts w u x.ps) : PartsOf w (ls ++ [x]) (us ++ [u]) := by
  refine ⟨by simp [h.1], fun k hk => ?_⟩
  rw [List.length_append, List.length_singleton] at hk
  have hlen := h.1
  by_cases e : k < ls.length
  · obtain ⟨z, h1, h2⟩ := h.2 k e
    refine ⟨z, by rw [List.getElem?_append_left (by omega)]; exact h1, ?_⟩
    rw [show (ls ++ [x]).getD k default = ls.getD k default by simp [List.getD, List.getElem?_append_left e]]
    exact h2
  · have e : k = ls.length := by omega
    subst e
    refine ⟨u, by rw [List.getElem?_append_right (by omega), hlen]; simp, ?_⟩
    rw [show (ls ++ [x]).getD ls.length default = x by simp]
    exact hu
theorem lotsC_set : ∀ {xs : List Lt.L} {us : List Value}, us.length = xs.length → ∀ k (u : Value), k < xs.length → (lotsC xs us).set (k * 3 + 2) u = lotsC xs (us.set k u)
  | y :: xs, v :: us, h, 0, u, _ => rfl
  | y :: xs, v :: us, h, k + 1, u, hk => by
    have := lotsC_set (xs := xs) (us := us) (by simpa using h) k u (by simpa using hk)
    rw [show (k + 1) * 3 + 2 = k * 3 + 2 + 1 + 1 + 1 by omega]
    simp only [lotsC, lotC, List.cons_append, List.nil_append, List.set_cons_succ]
    rw [this]
  | y :: xs, [], h, _, _, _ => by simp at h
  | [], _, _, k, _, hk => by simp at hk
/-- An append of a lot that lies in a block. -/
theorem run_append_lot {base c : Nat} (W : World) (v1 vx : Value) (ls : List Lt.L) (us : List Value) (x : Lt.L) (hone : vx.oneCell' = true) (hrow : W.ownsRow base 25 3 v1 ls.length (lotsC ls us))
    (hB : BlockAt W c #[.int .i64 x.k, .int .i64 x.m, vx] 25) (hbase : base ≤ W.heap.size) (hl : ls.length ≤ 1000) :
    ∃ v' W', (Builtin.append_ #[22, 22] 22 #[v1, .slice (some ⟨c, 0, none⟩) 1 1]).run Try.prog W = .ok v' W' ∧ W'.ownsRow base 25 3 v' (ls.length + 1) (lotsC ls us ++ lotC x vx) ∧ W.grownBy W' v1.ownBlock := by
  obtain ⟨i0, hi, hz0, hz1, hz2⟩ := info_of infoLot
  obtain ⟨v', W', h1, h2, h3, _⟩ := run_append_own (P := Try.prog) (w := W) base 22 22 25 i0 zLot 3 40 ul_lots hi hz0 hz1 hz2 rfl (by decide) v1 ls.length (lotsC ls us) hrow ⟨c, 0, none⟩ 1 1 (lotC x vx) rfl (by
    intro j u h
    have := hB.cell j
    rw [show ((⟨c, 0, none⟩ : Addr).add j) = ⟨c, j, none⟩ by cases j <;> simp [Addr.add], this, ← h]
    simp [lotC]) (by
    intro u hu
    simp only [lotC, List.mem_cons, List.not_mem_nil, or_false] at hu
    rcases hu with rfl | rfl | rfl
    · rfl
    · rfl
    · exact hone) (by unfold maxLen; omega) (by omega) hbase
  exact ⟨v', W', h1, h2, h3⟩

set_option maxRecDepth 20000 in
set_option maxHeartbeats 2000000 in
theorem lotAdd_any (v vx : Value) (ls : List Lt.L) (x : Lt.L) (w : World) (hv : Lots w v ls) (hp : Parts w vx x.ps) (hsh : short ls) (hl : ls.length ≤ 999) (hx : x.ps.length ≤ 20) :
    Calls Try.prog 19 #[v, lotV x vx] w fun e w' => ∃ y us, e = .returned (.tuple #[y, .int .i64 (addE ls x)]) ∧ OwnLO w.heap.size w' y (addR ls x) us ∧ Below w.heap.size w w' := by
  have hshx : short (ls ++ [x]) := ⟨by simp; omega, fun j hj => by
    rw [List.length_append, List.length_singleton] at hj
    by_cases e : j < ls.length
    · rw [show (ls ++ [x]).getD j default = ls.getD j default by simp [List.getD, List.getElem?_append_left e]]
      exact hsh.2 j e
    · have e : j = ls.length := by omega
      subst e
      rw [show (ls ++ [x]).getD ls.length default = x by simp]; exact hx⟩
  obtain ⟨va, vc, rfl⟩ := hp.form
  obtain ⟨la, lc, rfl⟩ := hv.form
  obtain ⟨xk, xm, ps⟩ := x
  dsimp only at hp hx ⊢
  have hw0 := below_alloc (Below.refl w.heap.size w) (.cells #[.int .i64 xk, .int .i64 xm, .slice va ps.length vc] 25)
  have bX := BlockAt.new w #[.int .i64 xk, .int .i64 xm, .slice va ps.length vc] 25
  have V := Lib.hid (validate_any _ ls _ (hv.all hw0) hsh)
  have H0 := Lib.hid (And.intro hw0 bX)
  by_cases h0 : Lt.valE ls = 0
  · have HE := Lib.hid (show addE ls ⟨xk, xm, ps⟩ = Lt.valE (ls ++ [⟨xk, xm, ps⟩]) by unfold addE; rw [if_pos h0])
    have HR := Lib.hid (show addR ls ⟨xk, xm, ps⟩ = if addE ls ⟨xk, xm, ps⟩ = 0 then ls ++ [⟨xk, xm, ps⟩] else [] from rfl)
    have CL := Lib.hid (fun W (hW : Below w.heap.size w W) => cloneLots_any _ ls W (hv.all hW) hsh.1)
    have V2 := Lib.hid (fun u W (hu : Lots W u (ls ++ [⟨xk, xm, ps⟩])) => validate_any u _ W hu hshx)
    have HP := Lib.hid hp
    have HSX := Lib.hid hshx
    rw [h0] at V
    generalize addR ls ⟨xk, xm, ps⟩ = R at *
    generalize addE ls ⟨xk, xm, ps⟩ = E at *
    clear h0 hv hp hsh hw0 bX hshx
    go_enter Try.func19, Try.ntmps19
    go_wp2_with fail
    refine V.out.mono ?_
    rintro e w1 ⟨rfl, hb1⟩
    have H1 := Lib.hid (And.intro (below_step H0.out.1 hb1) (H0.out.2.below hb1 H0.out.2.lt))
    clear hb1 H0 V
    go_wp2_with fail
    refine wp_region_meet (β := Value × Nat × Value) (.take 0 (.take 2 (.two 1 (.one 3 (.one 4 (.take 5 .done))) 3 (.one 1 (.one 4 (.take 5 .done))))))
      (fun W => W.cell? ⟨w.heap.size, 0, none⟩ = some (.int .i64 xk) ∧ W.cell? ⟨w.heap.size, 1, none⟩ = some (.int .i64 xm) ∧ W.cell? ⟨w.heap.size, 2, none⟩ = some (.slice va ps.length vc))
      (fun x => [(15, .slice la ls.length lc), (17, .agg #[.int .i64 xk, .int .i64 xm, .slice va ps.length vc]), (16, x.1), (18, .slice (some ⟨x.2.1, 0, none⟩) 1 1), (19, x.2.2), (7, x.2.2)])
      (fun x Y => ∃ (X : World) (us : List Value), Below w.heap.size w X ∧ PartsOf X (ls ++ [⟨xk, xm, ps⟩]) (us ++ [.slice va ps.length vc]) ∧ Y.ownsRow X.heap.size 25 3 x.2.2 (ls.length + 1) (lotsC (ls ++ [⟨xk, xm, ps⟩]) (us ++ [.slice va ps.length vc])) ∧ Below X.heap.size X Y)
      (by kernel_rfl) (by kernel_rfl) (by kernel_rfl) (by kernel_rfl) ⟨H1.out.2.drew.cell 0, H1.out.2.drew.cell 1, H1.out.2.drew.cell 2⟩ (fun hS => ?_) ?_
    · have H1 := Lib.hid (And.intro H1.out.1.drew H1.out.2.drew)
      generalize w1.drew = X0 at *
      clear hS
      repeat (refine SeqT.ld (v := ?_) rfl (by rfl) ?_ ?_; rotate_left; (· intro w hSw; (try dsimp only at hSw); (try (obtain ⟨f0, f1, f2⟩ := hSw)); go_simp; (try with_reducible rfl)); simp only [Act.put, List.setIfInBounds_toArray, List.set_cons_zero, List.set_cons_succ])
      refine ⟨wpOp_stepS rfl (by rfl) (fun K hK => ?_), wpOp_stepS rfl (by rfl) (fun K hK => ?_)⟩
      · go_simp
        refine (CL.out _ H1.out.1).mono ?_
        rintro e X1 ⟨uc, us, rfl, hus, hrow, hbY⟩
        have bX1 := H1.out.2.below hbY H1.out.2.lt
        have HC := Lib.hid (And.intro (hus.push (x := ⟨xk, xm, ps⟩) (HP.out.all H1.out.1)) (And.intro hrow hbY))
        have hl1 := hus.1
        clear hus hrow hbY
        try dsimp only
        refine hK.out _ _ ⟨bX1.cell 0, bX1.cell 1, bX1.cell 2⟩ (fun _ => ?_)
        clear hK K
        try simp only [Act.put, List.setIfInBounds_toArray, List.set_cons_zero, List.set_cons_succ]
        refine wpOp_stepS rfl (by rfl) (fun K hK => ?_)
        go_simp
        have hrowA := World.ownsRow.alloc HC.out.2.1 (.cells #[.int .i64 xk, .int .i64 xm, .slice va ps.length vc] 25)
        have hbN := BlockAt.new X1 #[.int .i64 xk, .int .i64 xm, .slice va ps.length vc] 25
        have hbA := below_alloc HC.out.2.2 (.cells #[.int .i64 xk, .int .i64 xm, .slice va ps.length vc] 25)
        have bX2 := bX1.alloc (.cells #[.int .i64 xk, .int .i64 xm, .slice va ps.length vc] 25)
        obtain ⟨vr, Z, hrun, hrz, hgz⟩ := run_append_lot _ uc (.slice va ps.length vc) ls us ⟨xk, xm, ps⟩ rfl hrowA hbN hbA.size (by omega)
        generalize X1.alloc (.cells #[.int .i64 xk, .int .i64 xm, .slice va ps.length vc] 25) = X2 at *
        generalize X1.heap.size = cx at *
        have hbZ : Below X0.heap.size X0 Z := hbA.grown hgz hbA.size (fun j e => (World.ownsRow.lt hrowA j e).1)
        have bXZ := bX2.grown hrowA hgz
        try dsimp only
        refine hK.out _ _ ⟨bX2.cell 0, bX2.cell 1, bX2.cell 2⟩ (fun _ => ?_)
        clear hK K
        try simp only [Act.put, List.setIfInBounds_toArray, List.set_cons_zero, List.set_cons_succ]
        refine wpOp_stepS rfl (by rfl) (fun K hK => ?_)
        refine oper_append rfl rfl rfl hrun ?_
        have bXF := H1.out.2.below hbZ H1.out.2.lt
        try dsimp only
        refine hK.out _ _ ⟨bXF.cell 0, bXF.cell 1, bXF.cell 2⟩ (fun _ => ?_)
        clear hK K
        try simp only [Act.put, List.setIfInBounds_toArray, List.set_cons_zero, List.set_cons_succ]
        repeat (refine SeqT.ld (v := ?_) rfl (by rfl) ?_ ?_; rotate_left; (· intro w hSw; (try dsimp only at hSw); (try (obtain ⟨f0, f1, f2⟩ := hSw)); go_simp; (try with_reducible rfl)); simp only [Act.put, List.setIfInBounds_toArray, List.set_cons_zero, List.set_cons_succ])
        exact SeqT.fin ⟨rfl, (uc, cx, vr), by simp only [putAll, Act.put, List.setIfInBounds_toArray, List.set_cons_zero, List.set_cons_succ], X0, us, H1.out.1, HC.out.1, by rw [lotsC_push hl1]; exact hrz, hbZ⟩
      · go_simp
        have hbN := BlockAt.new X0 #[.int .i64 xk, .int .i64 xm, .slice va ps.length vc] 25
        have hbA := below_alloc H1.out.1 (.cells #[.int .i64 xk, .int .i64 xm, .slice va ps.length vc] 25)
        have bX1 := H1.out.2.alloc (.cells #[.int .i64 xk, .int .i64 xm, .slice va ps.length vc] 25)
        have hbA0 := below_alloc (Below.refl X0.heap.size X0) (.cells #[.int .i64 xk, .int .i64 xm, .slice va ps.length vc] 25)
        generalize X0.alloc (.cells #[.int .i64 xk, .int .i64 xm, .slice va ps.length vc] 25) = X1 at *
        generalize X0.heap.size = cx at *
        try dsimp only
        refine hK.out _ _ ⟨bX1.cell 0, bX1.cell 1, bX1.cell 2⟩ (fun _ => ?_)
        clear hK K
        try simp only [Act.put, List.setIfInBounds_toArray, List.set_cons_zero, List.set_cons_succ]
        refine wpOp_stepS rfl (by rfl) (fun K hK => ?_)
        go_simp
        refine (CL.out _ hbA).mono ?_
        rintro e X2 ⟨uc, us, rfl, hus, hrow, hbY⟩
        have bX2 := bX1.below hbY bX1.lt
        have hbN2 := hbN.below hbY hbN.lt
        have HC := Lib.hid (And.intro (hus.push (x := ⟨xk, xm, ps⟩) (HP.out.all hbA)) (And.intro hrow hbY))
        have hl1 := hus.1
        clear hus hrow hbY
        try dsimp only
        refine hK.out _ _ ⟨bX2.cell 0, bX2.cell 1, bX2.cell 2⟩ (fun _ => ?_)
        clear hK K
        try simp only [Act.put, List.setIfInBounds_toArray, List.set_cons_zero, List.set_cons_succ]
        obtain ⟨vr, Z, hrun, hrz, hgz⟩ := run_append_lot _ uc (.slice va ps.length vc) ls us ⟨xk, xm, ps⟩ rfl HC.out.2.1 hbN2 HC.out.2.2.size (by omega)
        have hbZ : Below X1.heap.size X1 Z := HC.out.2.2.grown hgz HC.out.2.2.size (fun j e => (World.ownsRow.lt HC.out.2.1 j e).1)
        refine wpOp_stepS rfl (by rfl) (fun K hK => ?_)
        refine oper_append rfl rfl rfl hrun ?_
        have bXF := bX1.below hbZ bX1.lt
        try dsimp only
        refine hK.out _ _ ⟨bXF.cell 0, bXF.cell 1, bXF.cell 2⟩ (fun _ => ?_)
        clear hK K
        try simp only [Act.put, List.setIfInBounds_toArray, List.set_cons_zero, List.set_cons_succ]
        repeat (refine SeqT.ld (v := ?_) rfl (by rfl) ?_ ?_; rotate_left; (· intro w hSw; (try dsimp only at hSw); (try (obtain ⟨f0, f1, f2⟩ := hSw)); go_simp; (try with_reducible rfl)); simp only [Act.put, List.setIfInBounds_toArray, List.set_cons_zero, List.set_cons_succ])
        exact SeqT.fin ⟨rfl, (uc, cx, vr), by simp only [putAll, Act.put, List.setIfInBounds_toArray, List.set_cons_zero, List.set_cons_succ], X1, us, hbA, HC.out.1, by rw [lotsC_push hl1]; exact hrz, hbZ⟩
    · rintro ⟨uc, cx, vr⟩ Y hF
      obtain ⟨X, us, hXw, hpo, hrow, hXY⟩ := hF
      generalize hLL : ls ++ [(⟨xk, xm, ps⟩ : Lt.L)] = LL at *
      have hlen : LL.length = ls.length + 1 := by rw [← hLL]; simp
      generalize us ++ [Value.slice va ps.length vc] = vs at *
      rw [← hlen] at hrow
      dsimp only at hrow
      have C2 := Lib.hid (V2.out vr Y (row_lots hrow hpo hXY))
      obtain ⟨ra, rc, rfl⟩ := (row_lots hrow hpo hXY).form
      have HF := Lib.hid (And.intro hXw (And.intro hpo (And.intro hrow hXY)))
      have hll : LL.length ≤ 1000 := by omega
      clear hlen
      clear hXw hpo hrow hXY hLL V2 CL HP H1
      simp only [putAll, Act.put, List.setIfInBounds_toArray, List.set_cons_zero, List.set_cons_succ]
      try dsimp only
      go_wp2_with fail
      refine C2.out.mono ?_
      rintro e w2 ⟨rfl, hb2⟩
      have HF := Lib.hid (And.intro HF.out.1 (And.intro HF.out.2.1 (And.intro (row_all HF.out.2.2.1 hb2) (below_step HF.out.2.2.2 hb2))))
      clear hb2 C2
      by_cases h2 : Lt.valE LL = 0
      · rw [h2] at HE
        rw [HE.out, if_pos rfl] at HR
        have H0 := Lib.hid (show ∃ us : List Value, us.length = LL.length ∧ w2.ownsRow X.heap.size 25 3 (.slice ra LL.length rc) LL.length (lotsC LL us) ∧ (∀ k, k < LL.length → ∃ u, us[k]? = some u ∧ (k < 0 → w2.ownsRow X.heap.size 35 2 u (LL.getD k default).ps.length (partsC (LL.getD k default).ps)) ∧ (0 ≤ k → Parts X u (LL.getD k default).ps)) ∧ Below X.heap.size X w2 from ⟨vs, HF.out.2.1.1, HF.out.2.2.1, fun k hk => let ⟨u, h1, h3⟩ := HF.out.2.1.2 k hk; ⟨u, h1, fun h => absurd h (Nat.not_lt_zero _), fun _ => h3⟩, HF.out.2.2.2⟩)
        have HXW := Lib.hid HF.out.1
        rw [h2]
        clear HF h2
        go_wp2
        go_loopw [27] (fun t wr => ∃ i : Nat, i ≤ LL.length ∧ t = .int .i64 i ∧ Hid (∃ us : List Value, us.length = LL.length ∧ wr.ownsRow X.heap.size 25 3 (.slice ra LL.length rc) LL.length (lotsC LL us) ∧ (∀ k, k < LL.length → ∃ u, us[k]? = some u ∧ (k < i → wr.ownsRow X.heap.size 35 2 u (LL.getD k default).ps.length (partsC (LL.getD k default).ps)) ∧ (i ≤ k → Parts X u (LL.getD k default).ps)) ∧ Below X.heap.size X wr)) (fun t _ => LL.length - (intOf t).toNat)
        case atStart => exact ⟨0, Nat.zero_le _, rfl, H0⟩
        case round =>
          obtain ⟨i, hil, rfl, hg⟩ := hrel
          clear H0
          obtain ⟨us, hul, hrow, hparts, hw⟩ := hg.out
          by_cases hlt : i < LL.length
          · obtain ⟨g2, rfl⟩ : ∃ g2, ra = some ⟨g2, 0, none⟩ := by
              rcases hrow.2 with ⟨_, h0⟩ | ⟨g2, cap, cur, h1, _⟩
              · omega
              · simp only [Value.slice.injEq] at h1
                exact ⟨g2, h1.1⟩
            obtain ⟨u, hu1, _, hu3⟩ := hparts i hlt
            have hpu := (hu3 (Nat.le_refl _)).all hw
            obtain ⟨pa, pc, rfl⟩ := hpu.form
            have c2 := (World.ownsRow.cellAt hrow (i * 3 + 2) (by omega)).trans ((lotsC_get hul i hlt).2.2.trans hu1)
            have hps : (LL.getD i default).ps.length ≤ 1000 := by have := HSX.out.2 i hlt; omega
            have CP := Lib.hid (cloneParts_any (.slice pa (LL.getD i default).ps.length pc) (LL.getD i default).ps wr hpu hps)
            have HG := Lib.hid hg.out
            generalize hx9 : LL.getD i default = x at *
            have HX9 := Lib.hid hx9
            clear hx9 hg hul hrow hparts hw hu1 hu3 hpu
            go_wp2_with fail
            refine CP.out.mono ?_
            rintro e w3 ⟨u', rfl, hn3, hb3⟩
            obtain ⟨ya, yc, rfl⟩ := (PartsT.row hn3).1.form
            obtain ⟨us, hul, hrow, hparts, hw⟩ := HG.out
            have hrow3 := row_all hrow hb3
            have f2 := World.ownsRow.frozenAt hrow3 (i * 3 + 2)
            have c3 : w3.cell? ⟨g2, i * 3 + 2, none⟩ = some (.slice pa x.ps.length pc) := by
              rw [hb3.cell (p := ⟨g2, i * 3 + 2, none⟩) (World.ownsRow.lt hrow g2 rfl).2]; exact c2
            have hg2 := World.ownsRow.lt hrow3 g2 rfl
            obtain ⟨hx2, hgrow⟩ := World.ownsRow.stored hrow3 (i * 3 + 2) (.slice ya x.ps.length yc)
            rw [lotsC_set hul i (.slice ya x.ps.length yc) hlt] at hx2
            have hw3 := below_step hw hb3
            have hw2 := hw3.grown hgrow (by have := hw3.size; omega) (fun j e => by simp at e; subst e; omega)
            have hX := Nat.le_trans hw.size (Nat.le_refl _)
            have hkeep : ∀ {b1 n1 : Nat} {z : Value} {xs : List Value}, w3.ownsRow b1 35 2 z n1 xs → (w3.setCell ⟨g2, i * 3 + 2, none⟩ (.slice ya x.ps.length yc)).ownsRow b1 35 2 z n1 xs := fun h => World.ownsRow.kept h hgrow (rows_ne h hrow3 (by decide))
            have HN := Lib.hid (show ∃ us : List Value, us.length = LL.length ∧ (w3.setCell ⟨g2, i * 3 + 2, none⟩ (.slice ya x.ps.length yc)).ownsRow X.heap.size 25 3 (.slice (some ⟨g2, 0, none⟩) LL.length rc) LL.length (lotsC LL us) ∧ (∀ k, k < LL.length → ∃ u, us[k]? = some u ∧ (k < i + 1 → (w3.setCell ⟨g2, i * 3 + 2, none⟩ (.slice ya x.ps.length yc)).ownsRow X.heap.size 35 2 u (LL.getD k default).ps.length (partsC (LL.getD k default).ps)) ∧ (i + 1 ≤ k → Parts X u (LL.getD k default).ps)) ∧ Below X.heap.size X (w3.setCell ⟨g2, i * 3 + 2, none⟩ (.slice ya x.ps.length yc)) from by
              refine ⟨us.set i (.slice ya x.ps.length yc), by rw [List.length_set]; exact hul, hx2, fun k hk => ?_, hw2⟩
              by_cases e : k = i
              · subst e
                refine ⟨.slice ya x.ps.length yc, by rw [List.getElem?_set_self (by omega)], fun _ => ?_, fun h => by omega⟩
                rw [HX9.out]
                exact hkeep (row_mono hn3 hX)
              · obtain ⟨z, z1, z2, z3⟩ := hparts k hk
                exact ⟨z, by rw [List.getElem?_set_ne (Ne.symm e)]; exact z1, fun h => hkeep (row_all (z2 (by omega)) hb3), fun h => z3 (by omega)⟩)
            clear hul hrow hparts hw hrow3 hx2 hgrow hw3 hw2 hX hkeep hn3 hb3 CP HG c2
            go_wp2
            go_roundw
            case rel => exact ⟨i + 1, by omega, by go_num, HN⟩
            case measure => simp [intOf]; omega
          · obtain rfl : i = LL.length := by omega
            have hO : OwnLO X.heap.size wr (.slice ra LL.length rc) LL us := ⟨hul, hrow, fun k hk => let ⟨u, h1, h3, _⟩ := hparts k hk; ⟨u, h1, h3 hk⟩⟩
            have hO := hO.mono HXW.out.size
            have hW := below_step HXW.out hw
            clear hg hul hrow hparts hw
            go_wp2
            exact bodyPost_ret (v := .tuple #[.slice ra LL.length rc, .int .i64 0]) (by simp [results, Try.results19, go_sem]) rfl ⟨_, us, by rw [HE.out], by rw [HR.out]; exact hO, hW⟩
      · have hne : (Lt.valE LL != 0) = true := by simpa using h2
        rw [if_neg (by rw [HE.out]; exact h2)] at HR
        have hW := below_step HF.out.1 HF.out.2.2.2
        generalize Lt.valE LL = q at *
        clear HF h2
        go_wp2
        exact bodyPost_ret (v := .tuple #[.slice none 0 0, .int .i64 q]) (by simp [results, Try.results19, go_sem]) rfl ⟨_, [], by rw [HE.out], by rw [HR.out]; exact OwnLO.nil _ _, hW⟩
  · have hE : addE ls ⟨xk, xm, ps⟩ = Lt.valE ls := by unfold addE; rw [if_neg h0]
    have hR : addR ls ⟨xk, xm, ps⟩ = [] := by unfold addR; rw [hE, if_neg h0]
    rw [hE, hR]
    have hne : (Lt.valE ls != 0) = true := by simpa using h0
    generalize Lt.valE ls = q at *
    clear h0 hv hp hsh bX hshx hE hR
    go_enter Try.func19, Try.ntmps19
    go_wp2_with fail
    refine V.out.mono ?_
    rintro e w1 ⟨rfl, hb1⟩
    have hw1 := below_step H0.out.1 hb1
    clear hb1 V hw0 H0
    go_wp2
    exact bodyPost_ret (v := .tuple #[.slice none 0 0, .int .i64 q]) (by simp [results, Try.results19, go_sem]) rfl ⟨_, [], rfl, OwnLO.nil _ _, hw1⟩
end Go.Proofs.Ytccjbefmcifaeaa
