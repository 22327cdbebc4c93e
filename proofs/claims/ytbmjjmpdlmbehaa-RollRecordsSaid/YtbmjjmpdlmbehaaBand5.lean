/- The program's normal forms: runs joined by a generic function with a function value. -/
import Derived.Test.YtbmjjmpdlmbehaaBand4
namespace Go.Proofs.Ytbmjjmpdlmbehaa
open Go.RowKit

theorem runC_at2 (w : World) (r : Bd.R) (t : TypeId) {B : Nat} (hB : B = w.heap.size) : ∀ (j : Nat) (u : Value), (runC r)[j]? = some u → (w.alloc (.cells #[.int .i64 r.l, .int .i64 r.m.t, .int .i64 r.m.s, .int .i64 r.m.f] t)).cell? ((⟨B, 0, none⟩ : Addr).add j) = some u := by
  subst hB; exact runC_at w r t
abbrev runObj (r : Bd.R) : Obj := .cells #[.int .i64 r.l, .int .i64 r.m.t, .int .i64 r.m.s, .int .i64 r.m.f] 52
theorem Own.allB {base B : Nat} {w w2 : World} {g n cap : Nat} {rs : List Bd.R} (h : Own base w (.slice (some ⟨g, 0, none⟩) n cap) rs) (hb : Below B w w2) (hg : g < B) : Own base w2 (.slice (some ⟨g, 0, none⟩) n cap) rs := by
  obtain ⟨h0, ⟨h1, _⟩ | ⟨g', cap', cur, h1, h2, h3, h4⟩⟩ := h
  · simp at h1
  · obtain ⟨rfl, _, rfl⟩ : g = g' ∧ n = rs.length ∧ cap = cap' := by simpa using h1
    exact ⟨h0, .inr ⟨g, cap, cur, h1, h2, by rw [hb.block g hg]; exact h3, h4⟩⟩
theorem cellsR_setR : ∀ (a : List Bd.R) (q x : Bd.R), (((((cellsR (a ++ [q])).set (a.length * 4) (.int .i64 x.l)).set (a.length * 4 + 1) (.int .i64 x.m.t)).set (a.length * 4 + 2) (.int .i64 x.m.s)).set (a.length * 4 + 3) (.int .i64 x.m.f)) = cellsR (a ++ [x])
  | [], q, x => rfl
  | r :: a, q, x => by
    have ih := cellsR_setR a q x
    have e : ∀ (l : List Value) (j : Nat) (u : Value), (runC r ++ l).set ((a.length + 1) * 4 + j) u = runC r ++ l.set (a.length * 4 + j) u := by
      intro l j u
      rw [List.set_append_right _ _ (by simp [runC]; omega)]
      congr 2
      simp [runC]; omega
    have e0 := fun l u => e l 0 u
    simp only [Nat.add_zero] at e0
    show ((((runC r ++ cellsR (a ++ [q])).set ((a.length + 1) * 4) _).set ((a.length + 1) * 4 + 1) _).set ((a.length + 1) * 4 + 2) _).set ((a.length + 1) * 4 + 3) _ = runC r ++ cellsR (a ++ [x])
    rw [e0, e, e, e, ih]
theorem Own.row {base : Nat} {w : World} {g cap : Nat} {a : List Bd.R} {q : Bd.R} (h : Own base w (.slice (some ⟨g, 0, none⟩) (a.length + 1) cap) (a ++ [q])) :
    w.ownsRow base 52 4 (.slice (some ⟨g, 0, none⟩) (a.length + 1) cap) (a.length + 1) (cellsR (a ++ [q])) := by
  have hl : (a ++ [q]).length = a.length + 1 := by simp
  unfold Own at h; rw [hl] at h; exact h
theorem Own.of_row {base : Nat} {w : World} {v : Value} {a : List Bd.R} {q : Bd.R} (h : w.ownsRow base 52 4 v (a.length + 1) (cellsR (a ++ [q]))) : Own base w v (a ++ [q]) := by
  have hl : (a ++ [q]).length = a.length + 1 := by simp
  unfold Own; rw [hl]; exact h
/-- The last run of an own list is written. -/
theorem Own.setR {base : Nat} {w : World} {g cap : Nat} {a : List Bd.R} {q : Bd.R} (h : Own base w (.slice (some ⟨g, 0, none⟩) (a.length + 1) cap) (a ++ [q])) (x : Bd.R) :
    Own base ((((w.setCell ⟨g, a.length * 4, none⟩ (.int .i64 x.l)).setCell ⟨g, a.length * 4 + 1, none⟩ (.int .i64 x.m.t)).setCell ⟨g, a.length * 4 + 2, none⟩ (.int .i64 x.m.s)).setCell ⟨g, a.length * 4 + 3, none⟩ (.int .i64 x.m.f))
      (.slice (some ⟨g, 0, none⟩) (a.length + 1) cap) (a ++ [x]) := by
  have h1 := (World.ownsRow.stored (World.ownsRow.stored (World.ownsRow.stored (World.ownsRow.stored h.row (a.length * 4) (.int .i64 x.l)).1 (a.length * 4 + 1) (.int .i64 x.m.t)).1 (a.length * 4 + 2) (.int .i64 x.m.s)).1 (a.length * 4 + 3) (.int .i64 x.m.f)).1
  rw [cellsR_setR] at h1
  exact Own.of_row h1
/-- What a region keeps while it calls: the list, its last run, the next run, and that nothing old has turned. -/
theorem keep_join {w0 W W2 : World} {base g B7 m cap B : Nat} {a : List Bd.R} {q r : Bd.R}
    (h : Own base W (.slice (some ⟨g, 0, none⟩) m cap) (a ++ [q]) ∧ Below base w0 W ∧ W.cell? ⟨g, a.length * 4, none⟩ = some (.int .i64 q.l) ∧ W.cell? ⟨g, a.length * 4 + 1, none⟩ = some (.int .i64 q.m.t) ∧ W.cell? ⟨g, a.length * 4 + 2, none⟩ = some (.int .i64 q.m.s) ∧ W.cell? ⟨g, a.length * 4 + 3, none⟩ = some (.int .i64 q.m.f) ∧
      W.cell? ⟨B7, 0, none⟩ = some (.int .i64 r.l) ∧ W.cell? ⟨B7, 1, none⟩ = some (.int .i64 r.m.t) ∧ W.cell? ⟨B7, 2, none⟩ = some (.int .i64 r.m.s) ∧ W.cell? ⟨B7, 3, none⟩ = some (.int .i64 r.m.f) ∧ B7 < W.heap.size ∧ g < W.heap.size ∧ base ≤ W.heap.size) (hb : Below B W W2) (hB : B7 < B ∧ g < B ∧ base ≤ B) :
    Own base W2 (.slice (some ⟨g, 0, none⟩) m cap) (a ++ [q]) ∧ Below base w0 W2 ∧ W2.cell? ⟨g, a.length * 4, none⟩ = some (.int .i64 q.l) ∧ W2.cell? ⟨g, a.length * 4 + 1, none⟩ = some (.int .i64 q.m.t) ∧ W2.cell? ⟨g, a.length * 4 + 2, none⟩ = some (.int .i64 q.m.s) ∧ W2.cell? ⟨g, a.length * 4 + 3, none⟩ = some (.int .i64 q.m.f) ∧
      W2.cell? ⟨B7, 0, none⟩ = some (.int .i64 r.l) ∧ W2.cell? ⟨B7, 1, none⟩ = some (.int .i64 r.m.t) ∧ W2.cell? ⟨B7, 2, none⟩ = some (.int .i64 r.m.s) ∧ W2.cell? ⟨B7, 3, none⟩ = some (.int .i64 r.m.f) ∧ B7 < W2.heap.size ∧ g < W2.heap.size ∧ base ≤ W2.heap.size := by
  obtain ⟨h1, h2, h3, h4, h5, h6, h7, h8, h9, h10, s1, s2, s3⟩ := h
  have hs := hb.size
  obtain ⟨b1, b2, b3⟩ := hB
  exact ⟨h1.allB hb b2, h2.trans (hb.mono b3), (hb.cell (p := ⟨g, _, none⟩) b2).trans h3, (hb.cell (p := ⟨g, _, none⟩) b2).trans h4, (hb.cell (p := ⟨g, _, none⟩) b2).trans h5, (hb.cell (p := ⟨g, _, none⟩) b2).trans h6,
    (hb.cell (p := ⟨B7, _, none⟩) b1).trans h7, (hb.cell (p := ⟨B7, _, none⟩) b1).trans h8, (hb.cell (p := ⟨B7, _, none⟩) b1).trans h9, (hb.cell (p := ⟨B7, _, none⟩) b1).trans h10, by omega, by omega, by omega⟩

set_option maxRecDepth 20000 in
set_option maxHeartbeats 1000000 in
theorem joined_any (v : Value) (rs : List Bd.R) (w : World) (hv : Runs w v rs) (hf : Bd.fine rs) :
    Calls Try.prog 70 #[v, .func (.func 71) #[] #[]] w fun e w' => ∃ u, e = .returned u ∧ Own w.heap.size w' u (Bd.norm rs) ∧ Below w.heap.size w w' := by
  obtain ⟨hlen, hp, hm⟩ := hf
  rcases hv with ⟨a0, c0, rfl, rfl, hn0⟩ | ⟨b, off, cap, rfl, hcap, hb, hc⟩
  · go_enter Try.func70, Try.ntmps70
    go_wp2
    go_loop [5, 13] (fun s t => s = .slice none 0 0 ∧ t = .int .i64 0) (fun _ t => (0 - intOf t).toNat)
    case atStart => exact ⟨rfl, rfl⟩
    case round =>
      obtain ⟨rfl, rfl⟩ := hrel
      go_wp2
      go_ret
      exact ⟨_, rfl, Own.nil _ _, Below.refl _ _⟩
  · obtain ⟨i0, hi, hz0, hz1, hz2⟩ := info_parts infoRun
    have hP := Lib.hid hp
    clear hp
    go_enter Try.func70, Try.ntmps70
    go_wp2
    have hw0 := Below.refl w.heap.size w
    go_loopw [5, 13] (fun s t wr => ∃ k : Nat, k ≤ rs.length ∧ t = .int .i64 k ∧ Own w.heap.size wr s (Bd.norm (rs.take k)) ∧ Below w.heap.size w wr) (fun _ t _ => rs.length - (intOf t).toNat)
    case atStart => exact ⟨0, Nat.zero_le _, rfl, Own.nil _ _, hw0⟩
    case round =>
      obtain ⟨k, hk, rfl, hown, hw⟩ := hrel
      clear hw0
      by_cases hlt : k < rs.length
      · have hck := hc k hlt
        rw [getD_run hlt] at hck
        clear hc
        obtain ⟨c0, c1, c2, c3⟩ := hck.below hw hb
        clear hck
        have hns := Bd.norm_take_succ hlt
        rcases Bd.snoc_cases (Bd.norm (rs.take k)) with he | ⟨a, q, he⟩
        · rw [he] at hown hns
          rw [Bd.push_nil] at hns
          have HN := Lib.hid hns
          clear hns he
          generalize rs[k] = r at *
          obtain ⟨ga, gc, rfl⟩ := hown.empty
          go_wp2_with (at_builtin; refine wpList_append_own _ rfl _ _ 22 rfl w.heap.size 52 i0 (.agg #[.int .i64 0, .int .i64 0, .int .i64 0, .int .i64 0]) 4 32 Try.underlying22 hi hz0 hz1 hz2 rfl (by decide) _ _ _ rfl ((hown.alloc _).alloc _) ⟨wr.heap.size + 1, 0, none⟩ 1 1 (runC r) rfl rfl ?c1 (runC_one r) ?c3 ?c4 ?c5 ?_)
          case c1 => exact runC_at2 (wr.alloc (runObj r)) r _ (by simp)
          case c3 => unfold maxLen; simp
          case c4 => simp
          case c5 => have := hw.size; simp; omega
          intro v' w1 hown1 hgrow _
          have hw1 := ((hw.alloc hw.size (runObj r)).alloc (by have := hw.size; simp; omega) (runObj r)).grown hgrow (by have := hw.size; simp; omega) (fun j e => (World.ownsRow.lt hown j e).1)
          have hown2 := Own.pushed (a := []) hown1
          clear hown1 hgrow hown hw c0 c1 c2 c3
          go_wp2
          go_roundw
          case rel => exact ⟨k + 1, by omega, by go_num, by rw [HN.out]; exact hown2, hw1⟩
          case measure => simp [intOf]; omega
        · obtain ⟨h1, h2, h3, h4⟩ := Bd.norm_last hP.out hlt he
          rw [he] at hown hns
          rw [Bd.push_snoc] at hns
          obtain ⟨g, cp, rfl, hg1, hg2, hg3, hg4, d0, d1, d2, d3⟩ := hown.snoc
          have HN := Lib.hid hns
          clear hns he
          generalize rs[k] = r at *
          go_wp2_with fail
          have HB := Lib.hid hw.size
          refine wp_region_seq2 (.take 0 (.take 1 (.take 2 (.take 3 (.take 4 (.take 5 (.two 6 (.take 7 (.take 8 (.take 9 (.one 10 (.one 11 (.take 12 .done)))))) 10 (.one 6 (.take 7 (.take 8 (.take 9 (.one 11 (.take 12 .done)))))))))))))
            (fun W => Own w.heap.size W (.slice (some ⟨g, 0, none⟩) (a.length + 1) cp) (a ++ [q]) ∧ Below w.heap.size w W ∧ W.cell? ⟨g, a.length * 4, none⟩ = some (.int .i64 q.l) ∧ W.cell? ⟨g, a.length * 4 + 1, none⟩ = some (.int .i64 q.m.t) ∧ W.cell? ⟨g, a.length * 4 + 2, none⟩ = some (.int .i64 q.m.s) ∧ W.cell? ⟨g, a.length * 4 + 3, none⟩ = some (.int .i64 q.m.f) ∧
              W.cell? ⟨wr.heap.size, 0, none⟩ = some (.int .i64 r.l) ∧ W.cell? ⟨wr.heap.size, 1, none⟩ = some (.int .i64 r.m.t) ∧ W.cell? ⟨wr.heap.size, 2, none⟩ = some (.int .i64 r.m.s) ∧ W.cell? ⟨wr.heap.size, 3, none⟩ = some (.int .i64 r.m.f) ∧ wr.heap.size < W.heap.size ∧ g < W.heap.size ∧ w.heap.size ≤ W.heap.size)
            (by kernel_rfl) (by kernel_rfl) (by kernel_rfl) (by kernel_rfl) (fun d _ _ _ _ h => by cases d <;> exact h)
            (by exact keep_join ⟨hown.alloc (runObj r), hw.alloc hw.size (runObj r), (World.cell?_alloc_past _ _ _ hg2).trans d0, (World.cell?_alloc_past _ _ _ hg2).trans d1, (World.cell?_alloc_past _ _ _ hg2).trans d2, (World.cell?_alloc_past _ _ _ hg2).trans d3, by simp, by simp, by simp, by simp, by simp, by simp; omega, by have := hw.size; simp; omega⟩ (B := wr.heap.size + 1) ((Below.refl _ _).drew) ⟨by omega, by omega, by have := hw.size; omega⟩) (fun hS => ?_)
          clear hown hw c0 c1 c2 c3 d0 d1 d2 d3
          have hlti : (a.length : Int) < (a.length : Int) + 1 := by omega
          repeat (first
            | (refine SeqO.ld (v := ?_) rfl (by rfl) ?_ ?_; rotate_left; (· intro w hSw; (try dsimp only at hSw); go_simp; (try with_reducible rfl)); simp only [Act.put, List.setIfInBounds_toArray, List.set_cons_zero, List.set_cons_succ]))
          refine ⟨wpOp_stepS rfl (by rfl) (fun K hK => ?_), wpOp_stepS rfl (by rfl) (fun K hK => ?_)⟩
          · go_simp
            go_at_call 71
            refine (join_runs_any q r _ (by omega) (by omega) (by omega) (by omega)).mono ?_
            rintro e w1 ⟨rfl, hb1⟩
            try dsimp only
            refine hK.out _ _ (keep_join hS hb1 (by (try dsimp only at hS); omega)) (fun hS1 => ?_)
            clear hK K hb1 hS
            try simp only [Act.put, List.setIfInBounds_toArray, List.set_cons_zero, List.set_cons_succ]
            repeat (refine SeqO.ld (v := ?_) rfl (by rfl) ?_ ?_; rotate_left; (· intro w hSw; (try dsimp only at hSw); go_simp; (try with_reducible rfl)); (try simp only [Act.put, List.setIfInBounds_toArray, List.set_cons_zero, List.set_cons_succ]))
            refine SeqO.step rfl (by rfl) (fun K hK => ?_)
            go_simp
            dsimp only [runV]
            refine hK.out _ _ (keep_join hS1 ((Below.refl _ _).alloc (Nat.le_refl _) _) (by omega)) (fun hSn => ?_)
            clear hK K hSn
            try simp only [Act.put, List.setIfInBounds_toArray, List.set_cons_zero, List.set_cons_succ]
            refine SeqO.step rfl (by rfl) (fun K hK => ?_)
            go_simp
            refine hK.out _ _ (keep_join hS1 ((Below.refl _ _).alloc (Nat.le_refl _) _) (by omega)) (fun hS => ?_)
            clear hK K hS1
            try simp only [Act.put, List.setIfInBounds_toArray, List.set_cons_zero, List.set_cons_succ]
            repeat (refine SeqO.ld (v := ?_) rfl (by rfl) ?_ ?_; rotate_left; (· intro w hSw; (try dsimp only at hSw); go_simp; (try with_reducible rfl)); (try simp only [Act.put, List.setIfInBounds_toArray, List.set_cons_zero, List.set_cons_succ]))
            refine SeqO.fin ?_
            obtain ⟨W, hWW⟩ : ∃ W : World, W = w1.alloc (runObj ⟨q.l + r.l, q.m⟩) := ⟨_, rfl⟩
            have j0 : W.cell? ⟨w1.heap.size, 0, none⟩ = some (.int .i64 (q.l + r.l)) := by rw [hWW]; simp
            have j1 : W.cell? ⟨w1.heap.size, 1, none⟩ = some (.int .i64 q.m.t) := by rw [hWW]; simp
            have j2 : W.cell? ⟨w1.heap.size, 2, none⟩ = some (.int .i64 q.m.s) := by rw [hWW]; simp
            have j3 : W.cell? ⟨w1.heap.size, 3, none⟩ = some (.int .i64 q.m.f) := by rw [hWW]; simp
            rw [← hWW] at hS ⊢
            clear hWW
            obtain ⟨hown, hw, d0, d1, d2, d3, c0, c1, c2, c3, s1, s2, s3⟩ := hS
            have hfz := hown.snoc
            obtain ⟨_, _, e0, _, _, _, hfz, _⟩ := hfz
            obtain ⟨rfl, rfl⟩ : g = _ ∧ cp = _ := by simpa using e0
            clear e0
            have f0 := hfz (a.length * 4)
            have f1 := hfz (a.length * 4 + 1)
            have f2 := hfz (a.length * 4 + 2)
            have f3 := hfz (a.length * 4 + 3)
            clear hfz
            by_cases hmk : q.m = r.m
            · have HN' := Lib.hid (HN.out.trans (if_pos hmk))
              have hd : decide (q.m = r.m) = true := by simp [hmk]
              rw [hd]
              clear hmk HN hd
              have hs := hown.setR ⟨q.l + r.l, q.m⟩
              have hsw := (((hw.setCell (p := ⟨g, a.length * 4, none⟩) hg1 (.int .i64 (q.l + r.l))).setCell (p := ⟨g, a.length * 4 + 1, none⟩) hg1 (.int .i64 q.m.t)).setCell (p := ⟨g, a.length * 4 + 2, none⟩) hg1 (.int .i64 q.m.s)).setCell (p := ⟨g, a.length * 4 + 3, none⟩) hg1 (.int .i64 q.m.f)
              have HS := Lib.hid (And.intro hs hsw)
              clear hs hsw hown hw
              go_wp2
              go_roundw
              case rel => exact ⟨k + 1, by omega, by go_num, by rw [HN'.out]; exact HS.out.1, HS.out.2⟩
              case measure => simp [intOf]; omega
            · have HN' := Lib.hid (HN.out.trans (if_neg hmk))
              have hd : decide (q.m = r.m) = false := by simp [hmk]
              rw [hd]
              clear hmk HN hd
              have hr := hown.row
              go_wp2_with (at_builtin; refine wpList_append_own _ rfl _ _ 22 rfl w.heap.size 52 i0 (.agg #[.int .i64 0, .int .i64 0, .int .i64 0, .int .i64 0]) 4 32 Try.underlying22 hi hz0 hz1 hz2 rfl (by decide) _ _ _ rfl (hr.alloc _) ⟨W.heap.size, 0, none⟩ 1 1 (runC r) rfl rfl (runC_at W r _) (runC_one r) (by unfold maxLen; omega) (by omega) (by simp; omega) ?_)
              intro v' w3 hown1 hgrow _
              have hw1 := (hw.alloc s3 (runObj r)).grown hgrow (by simp; omega) (fun j e => (World.ownsRow.lt hown j e).1)
              have hown2 : Own w.heap.size w3 v' (a ++ [q] ++ [r]) := Own.pushed (a := a ++ [q]) (by rw [show (a ++ [q]).length = a.length + 1 by simp]; exact hown1)
              clear hown1 hgrow hown hw hr c0 c1 c2 c3 d0 d1 d2 d3 f0 f1 f2 f3 j0 j1 j2 j3
              go_wp2
              go_roundw
              case rel => exact ⟨k + 1, by omega, by go_num, by rw [HN'.out]; exact hown2, hw1⟩
              case measure => simp [intOf]; omega
          · go_simp
            refine hK.out _ _ (keep_join hS ((Below.refl _ _).alloc (Nat.le_refl _) _) (by (try dsimp only at hS); omega)) (fun hS1 => ?_)
            clear hK K hS
            try simp only [Act.put, List.setIfInBounds_toArray, List.set_cons_zero, List.set_cons_succ]
            refine SeqO.step rfl (by rfl) (fun K hK => ?_)
            go_simp
            go_at_call 71
            refine (join_runs_any q r _ (by omega) (by omega) (by omega) (by omega)).mono ?_
            rintro e w1 ⟨rfl, hb1⟩
            try dsimp only
            have z0 : w1.cell? ⟨wr.heap.size + 1, 0, none⟩ = some (.int .i64 0) := (hb1.cell (p := ⟨wr.heap.size + 1, 0, none⟩) (by simp)).trans (by simp)
            have z1 : w1.cell? ⟨wr.heap.size + 1, 1, none⟩ = some (.int .i64 0) := (hb1.cell (p := ⟨wr.heap.size + 1, 1, none⟩) (by simp)).trans (by simp)
            have z2 : w1.cell? ⟨wr.heap.size + 1, 2, none⟩ = some (.int .i64 0) := (hb1.cell (p := ⟨wr.heap.size + 1, 2, none⟩) (by simp)).trans (by simp)
            have z3 : w1.cell? ⟨wr.heap.size + 1, 3, none⟩ = some (.int .i64 0) := (hb1.cell (p := ⟨wr.heap.size + 1, 3, none⟩) (by simp)).trans (by simp)
            have y0 : w1.frozen? ⟨wr.heap.size + 1, 0, none⟩ = false := (hb1.frozen (p := ⟨wr.heap.size + 1, 0, none⟩) (by simp)).trans (by simp [go_sem])
            have y1 : w1.frozen? ⟨wr.heap.size + 1, 1, none⟩ = false := (hb1.frozen (p := ⟨wr.heap.size + 1, 1, none⟩) (by simp)).trans (by simp [go_sem])
            have y2 : w1.frozen? ⟨wr.heap.size + 1, 2, none⟩ = false := (hb1.frozen (p := ⟨wr.heap.size + 1, 2, none⟩) (by simp)).trans (by simp [go_sem])
            have y3 : w1.frozen? ⟨wr.heap.size + 1, 3, none⟩ = false := (hb1.frozen (p := ⟨wr.heap.size + 1, 3, none⟩) (by simp)).trans (by simp [go_sem])
            have hz9 : wr.heap.size + 1 < w1.heap.size := Nat.lt_of_lt_of_le (by simp) hb1.size
            refine hK.out _ _ (keep_join hS1 hb1 (by (try dsimp only at hS1); omega)) (fun hS2 => ?_)
            clear hK K hb1 hS1
            try simp only [Act.put, List.setIfInBounds_toArray, List.set_cons_zero, List.set_cons_succ]
            dsimp only [runV]
            repeat (refine SeqO.ld (v := ?_) rfl (by rfl) ?_ ?_; rotate_left; (· intro w hSw; (try dsimp only at hSw); go_simp; (try with_reducible rfl)); (try simp only [Act.put, List.setIfInBounds_toArray, List.set_cons_zero, List.set_cons_succ]))
            refine SeqO.step rfl (by rfl) (fun K hK => ?_)
            go_simp
            refine hK.out _ _ (keep_join (B := wr.heap.size + 1) hS2 (by repeat' (first | exact Below.refl _ _ | refine Below.setCell ?_ (by simp) _)) (by omega)) (fun hS => ?_)
            clear hK K hS2
            try simp only [Act.put, List.setIfInBounds_toArray, List.set_cons_zero, List.set_cons_succ]
            repeat (refine SeqO.ld (v := ?_) rfl (by rfl) ?_ ?_; rotate_left; (· intro w hSw; (try dsimp only at hSw); go_simp; (try with_reducible rfl)); (try simp only [Act.put, List.setIfInBounds_toArray, List.set_cons_zero, List.set_cons_succ]))
            refine SeqO.fin ?_
            obtain ⟨W, hWW⟩ : ∃ W : World, W = (((w1.setCell ⟨wr.heap.size + 1, 0, none⟩ (.int .i64 (q.l + r.l))).setCell ⟨wr.heap.size + 1, 1, none⟩ (.int .i64 q.m.t)).setCell ⟨wr.heap.size + 1, 2, none⟩ (.int .i64 q.m.s)).setCell ⟨wr.heap.size + 1, 3, none⟩ (.int .i64 q.m.f) := ⟨_, rfl⟩
            have j0 : W.cell? ⟨wr.heap.size + 1, 0, none⟩ = some (.int .i64 (q.l + r.l)) := by rw [hWW]; simp [go_sem, z0, z1, z2, z3]
            have j1 : W.cell? ⟨wr.heap.size + 1, 1, none⟩ = some (.int .i64 q.m.t) := by rw [hWW]; simp [go_sem, z0, z1, z2, z3]
            have j2 : W.cell? ⟨wr.heap.size + 1, 2, none⟩ = some (.int .i64 q.m.s) := by rw [hWW]; simp [go_sem, z0, z1, z2, z3]
            have j3 : W.cell? ⟨wr.heap.size + 1, 3, none⟩ = some (.int .i64 q.m.f) := by rw [hWW]; simp [go_sem, z0, z1, z2, z3]
            rw [← hWW] at hS ⊢
            clear hWW
            obtain ⟨hown, hw, d0, d1, d2, d3, c0, c1, c2, c3, s1, s2, s3⟩ := hS
            have hfz := hown.snoc
            obtain ⟨_, _, e0, _, _, _, hfz, _⟩ := hfz
            obtain ⟨rfl, rfl⟩ : g = _ ∧ cp = _ := by simpa using e0
            clear e0
            have f0 := hfz (a.length * 4)
            have f1 := hfz (a.length * 4 + 1)
            have f2 := hfz (a.length * 4 + 2)
            have f3 := hfz (a.length * 4 + 3)
            clear hfz
            by_cases hmk : q.m = r.m
            · have HN' := Lib.hid (HN.out.trans (if_pos hmk))
              have hd : decide (q.m = r.m) = true := by simp [hmk]
              rw [hd]
              clear hmk HN hd
              have hs := hown.setR ⟨q.l + r.l, q.m⟩
              have hsw := (((hw.setCell (p := ⟨g, a.length * 4, none⟩) hg1 (.int .i64 (q.l + r.l))).setCell (p := ⟨g, a.length * 4 + 1, none⟩) hg1 (.int .i64 q.m.t)).setCell (p := ⟨g, a.length * 4 + 2, none⟩) hg1 (.int .i64 q.m.s)).setCell (p := ⟨g, a.length * 4 + 3, none⟩) hg1 (.int .i64 q.m.f)
              have HS := Lib.hid (And.intro hs hsw)
              clear hs hsw hown hw
              go_wp2
              go_roundw
              case rel => exact ⟨k + 1, by omega, by go_num, by rw [HN'.out]; exact HS.out.1, HS.out.2⟩
              case measure => simp [intOf]; omega
            · have HN' := Lib.hid (HN.out.trans (if_neg hmk))
              have hd : decide (q.m = r.m) = false := by simp [hmk]
              rw [hd]
              clear hmk HN hd
              have hr := hown.row
              go_wp2_with (at_builtin; refine wpList_append_own _ rfl _ _ 22 rfl w.heap.size 52 i0 (.agg #[.int .i64 0, .int .i64 0, .int .i64 0, .int .i64 0]) 4 32 Try.underlying22 hi hz0 hz1 hz2 rfl (by decide) _ _ _ rfl (hr.alloc _) ⟨W.heap.size, 0, none⟩ 1 1 (runC r) rfl rfl (runC_at W r _) (runC_one r) (by unfold maxLen; omega) (by omega) (by simp; omega) ?_)
              intro v' w3 hown1 hgrow _
              have hw1 := (hw.alloc s3 (runObj r)).grown hgrow (by simp; omega) (fun j e => (World.ownsRow.lt hown j e).1)
              have hown2 : Own w.heap.size w3 v' (a ++ [q] ++ [r]) := Own.pushed (a := a ++ [q]) (by rw [show (a ++ [q]).length = a.length + 1 by simp]; exact hown1)
              clear hown1 hgrow hown hw hr c0 c1 c2 c3 d0 d1 d2 d3 f0 f1 f2 f3 j0 j1 j2 j3
              go_wp2
              go_roundw
              case rel => exact ⟨k + 1, by omega, by go_num, by rw [HN'.out]; exact hown2, hw1⟩
              case measure => simp [intOf]; omega
      · obtain rfl : k = rs.length := by omega
        clear hc
        rw [List.take_length] at hown
        rcases hown.form with ⟨rfl, _⟩ | ⟨g, cp, rfl, hg1, hg2, hg3, hg4, _⟩
        all_goals
          go_wp2
          go_ret
          exact ⟨_, rfl, hown, hw⟩
end Go.Proofs.Ytbmjjmpdlmbehaa
