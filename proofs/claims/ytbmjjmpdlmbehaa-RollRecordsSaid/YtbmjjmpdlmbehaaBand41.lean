/- Spans joined by the program's generic function with a function value. -/
import Derived.Test.YtbmjjmpdlmbehaaBand40
import Derived.Test.YtbmjjmpdlmbehaaBand4
namespace Go.Proofs.Ytbmjjmpdlmbehaa
open Go.RowKit

/-- What a region keeps while it calls: the list, its last span, the next span, and that nothing old has turned. -/
theorem keepS {w0 W W2 : World} {base g B7 m cap B : Nat} {a : List Bd.S} {q r : Bd.S}
    (h : OwnS base W (.slice (some ⟨g, 0, none⟩) m cap) (a ++ [q]) ∧ Below base w0 W ∧ W.cell? ⟨g, a.length * 2, none⟩ = some (.int .i64 q.f) ∧ W.cell? ⟨g, a.length * 2 + 1, none⟩ = some (.int .i64 q.t) ∧
      W.cell? ⟨B7, 0, none⟩ = some (.int .i64 r.f) ∧ W.cell? ⟨B7, 1, none⟩ = some (.int .i64 r.t) ∧ B7 < W.heap.size ∧ g < W.heap.size ∧ base ≤ W.heap.size) (hb : Below B W W2) (hB : B7 < B ∧ g < B ∧ base ≤ B) :
    OwnS base W2 (.slice (some ⟨g, 0, none⟩) m cap) (a ++ [q]) ∧ Below base w0 W2 ∧ W2.cell? ⟨g, a.length * 2, none⟩ = some (.int .i64 q.f) ∧ W2.cell? ⟨g, a.length * 2 + 1, none⟩ = some (.int .i64 q.t) ∧
      W2.cell? ⟨B7, 0, none⟩ = some (.int .i64 r.f) ∧ W2.cell? ⟨B7, 1, none⟩ = some (.int .i64 r.t) ∧ B7 < W2.heap.size ∧ g < W2.heap.size ∧ base ≤ W2.heap.size := by
  obtain ⟨h1, h2, h3, h4, h7, h8, s1, s2, s3⟩ := h
  have hs := hb.size
  obtain ⟨b1, b2, b3⟩ := hB
  exact ⟨h1.allB hb b2, h2.trans (hb.mono b3), (hb.cell (p := ⟨g, _, none⟩) b2).trans h3, (hb.cell (p := ⟨g, _, none⟩) b2).trans h4,
    (hb.cell (p := ⟨B7, _, none⟩) b1).trans h7, (hb.cell (p := ⟨B7, _, none⟩) b1).trans h8, by omega, by omega, by omega⟩

set_option maxRecDepth 20000 in
set_option maxHeartbeats 2000000 in
theorem joined_spans_any (v : Value) (rs : List Bd.S) (w : World) (hv : Spns w v rs) (hlen : rs.length ≤ 1000) :
    Calls Try.prog 85 #[v, .func (.func 86) #[] #[]] w fun e w' => ∃ u, e = .returned u ∧ OwnS w.heap.size w' u (Bd.normS rs) ∧ Below w.heap.size w w' := by
  obtain ⟨ao, c, rfl, hlk⟩ := hv
  obtain ⟨i0, hi, hz0, hz1, hz2⟩ := info_parts infoSpn
  have HK := Lib.hid hlk
  clear hlk
  go_enter Try.func85, Try.ntmps85
  go_wp2
  have hw0 := Below.refl w.heap.size w
  go_loopw [5, 13] (fun s t wr => ∃ k : Nat, k ≤ rs.length ∧ t = .int .i64 k ∧ OwnS w.heap.size wr s (Bd.normS (rs.take k)) ∧ Below w.heap.size w wr) (fun _ t _ => rs.length - (intOf t).toNat)
  case atStart => exact ⟨0, Nat.zero_le _, rfl, OwnS.nil _ _, hw0⟩
  case round =>
    obtain ⟨k, hk, rfl, hown, hw⟩ := hrel
    clear hw0
    by_cases hlt : k < rs.length
    · obtain ⟨b, off, rfl, hb, hck⟩ := HK.out k hlt
      obtain ⟨c0, c1⟩ := hck.below hw hb
      clear hck HK
      have hns := Bd.normS_take_succ hlt
      have hbd := Bd.normS_bound hk
      rcases Bd.snocS_cases (Bd.normS (rs.take k)) with he | ⟨a, q, he⟩
      · rw [he] at hown hns
        rw [Bd.pushS_nil] at hns
        have HN := Lib.hid hns
        clear hns he hbd
        generalize rs[k] = r at *
        obtain ⟨ga, gc, rfl⟩ := hown.empty
        go_wp2_with (at_builtin; refine wpList_append_own _ rfl _ _ 66 rfl w.heap.size 70 i0 (.agg #[.int .i64 0, .int .i64 0]) 2 16 Try.underlying66 hi hz0 hz1 hz2 rfl (by decide) _ _ _ rfl ((hown.alloc _).alloc _) ⟨wr.heap.size + 1, 0, none⟩ 1 1 (spnC r) rfl rfl ?c1 (spnC_one r) ?c3 ?c4 ?c5 ?_)
        case c1 => exact spnC_at (wr.alloc (spnObj r)) r _ (by simp)
        case c3 => unfold maxLen; simp
        case c4 => simp
        case c5 => have := hw.size; simp; omega
        intro v' w1 hown1 hgrow _
        have hw1 := ((hw.alloc hw.size (spnObj r)).alloc (by have := hw.size; simp; omega) (spnObj r)).grown hgrow (by have := hw.size; simp; omega) (fun j e => (World.ownsRow.lt hown j e).1)
        have hown2 := OwnS.pushed (a := []) hown1
        clear hown1 hgrow hown hw c0 c1
        go_wp2
        go_roundw
        case rel => exact ⟨k + 1, by omega, by go_num, by rw [HN.out]; exact hown2, hw1⟩
        case measure => simp [intOf]; omega
      · rw [he] at hown hns hbd
        simp only [List.length_append, List.length_singleton] at hbd
        rw [Bd.pushS_snoc] at hns
        obtain ⟨g, cp, rfl, hg1, hg2, hg3, hg4, d0, d1⟩ := hown.snoc
        have HN := Lib.hid hns
        clear hns he
        generalize rs[k] = r at *
        go_wp2_with fail
        have HB := Lib.hid hw.size
        refine wp_region_seq2 (.take 0 (.take 1 (.take 2 (.take 3 (.take 4 (.take 5 (.two 6 (.take 7 (.take 8 (.take 9 (.one 10 (.one 11 (.take 12 .done)))))) 10 (.one 6 (.take 7 (.take 8 (.take 9 (.one 11 (.take 12 .done)))))))))))))
          (fun W => OwnS w.heap.size W (.slice (some ⟨g, 0, none⟩) (a.length + 1) cp) (a ++ [q]) ∧ Below w.heap.size w W ∧ W.cell? ⟨g, a.length * 2, none⟩ = some (.int .i64 q.f) ∧ W.cell? ⟨g, a.length * 2 + 1, none⟩ = some (.int .i64 q.t) ∧
            W.cell? ⟨wr.heap.size, 0, none⟩ = some (.int .i64 r.f) ∧ W.cell? ⟨wr.heap.size, 1, none⟩ = some (.int .i64 r.t) ∧ wr.heap.size < W.heap.size ∧ g < W.heap.size ∧ w.heap.size ≤ W.heap.size)
          (by kernel_rfl) (by kernel_rfl) (by kernel_rfl) (by kernel_rfl) (fun d _ _ _ _ h => by cases d <;> exact h)
          (by exact keepS ⟨hown.alloc (spnObj r), hw.alloc hw.size (spnObj r), (World.cell?_alloc_past _ _ _ hg2).trans d0, (World.cell?_alloc_past _ _ _ hg2).trans d1, by simp, by simp, by simp, by simp; omega, by have := hw.size; simp; omega⟩ (B := wr.heap.size + 1) ((Below.refl _ _).drew) ⟨by omega, by omega, by have := hw.size; omega⟩) (fun hS => ?_)
        clear hown hw c0 c1 d0 d1
        have hlti : (a.length : Int) < (a.length : Int) + 1 := by omega
        repeat (first
          | (refine SeqO.ld (v := ?_) rfl (by rfl) ?_ ?_; rotate_left; (· intro w hSw; (try dsimp only at hSw); go_simp; (try with_reducible rfl)); simp only [Act.put, List.setIfInBounds_toArray, List.set_cons_zero, List.set_cons_succ]))
        refine ⟨wpOp_stepS rfl (by rfl) (fun K hK => ?_), wpOp_stepS rfl (by rfl) (fun K hK => ?_)⟩
        · go_simp
          go_at_call 86
          refine (join_spans_any q r _).mono ?_
          rintro e w1 ⟨rfl, hb1⟩
          try dsimp only
          refine hK.out _ _ (keepS hS hb1 (by (try dsimp only at hS); omega)) (fun hS1 => ?_)
          clear hK K hb1 hS
          try simp only [Act.put, List.setIfInBounds_toArray, List.set_cons_zero, List.set_cons_succ]
          repeat (refine SeqO.ld (v := ?_) rfl (by rfl) ?_ ?_; rotate_left; (· intro w hSw; (try dsimp only at hSw); go_simp; (try with_reducible rfl)); (try simp only [Act.put, List.setIfInBounds_toArray, List.set_cons_zero, List.set_cons_succ]))
          refine SeqO.step rfl (by rfl) (fun K hK => ?_)
          go_simp
          dsimp only [spnV]
          refine hK.out _ _ (keepS hS1 ((Below.refl _ _).alloc (Nat.le_refl _) _) (by omega)) (fun hSn => ?_)
          clear hK K hSn
          try simp only [Act.put, List.setIfInBounds_toArray, List.set_cons_zero, List.set_cons_succ]
          refine SeqO.step rfl (by rfl) (fun K hK => ?_)
          go_simp
          refine hK.out _ _ (keepS hS1 ((Below.refl _ _).alloc (Nat.le_refl _) _) (by omega)) (fun hS => ?_)
          clear hK K hS1
          try simp only [Act.put, List.setIfInBounds_toArray, List.set_cons_zero, List.set_cons_succ]
          repeat (refine SeqO.ld (v := ?_) rfl (by rfl) ?_ ?_; rotate_left; (· intro w hSw; (try dsimp only at hSw); go_simp; (try with_reducible rfl)); (try simp only [Act.put, List.setIfInBounds_toArray, List.set_cons_zero, List.set_cons_succ]))
          refine SeqO.fin ?_
          obtain ⟨W, hWW⟩ : ∃ W : World, W = w1.alloc (spnObj ⟨q.f, r.t⟩) := ⟨_, rfl⟩
          have j0 : W.cell? ⟨w1.heap.size, 0, none⟩ = some (.int .i64 q.f) := by rw [hWW]; simp
          have j1 : W.cell? ⟨w1.heap.size, 1, none⟩ = some (.int .i64 r.t) := by rw [hWW]; simp
          rw [← hWW] at hS ⊢
          clear hWW
          obtain ⟨hown, hw, d0, d1, c0, c1, s1, s2, s3⟩ := hS
          have hfz := hown.snoc
          obtain ⟨_, _, e0, _, _, _, hfz, _⟩ := hfz
          obtain ⟨rfl, rfl⟩ : g = _ ∧ cp = _ := by simpa using e0
          clear e0
          have f0 := hfz (a.length * 2)
          have f1 := hfz (a.length * 2 + 1)
          clear hfz
          by_cases hmk : q.t = r.f
          · have HN' := Lib.hid (HN.out.trans (if_pos hmk))
            have hd : decide (q.t = r.f) = true := by simp [hmk]
            rw [hd]
            clear hmk HN hd
            have hs := hown.setS ⟨q.f, r.t⟩
            have hsw := (hw.setCell (p := ⟨g, a.length * 2, none⟩) hg1 (.int .i64 q.f)).setCell (p := ⟨g, a.length * 2 + 1, none⟩) hg1 (.int .i64 r.t)
            have HS := Lib.hid (And.intro hs hsw)
            clear hs hsw hown hw
            go_wp2
            go_roundw
            case rel => exact ⟨k + 1, by omega, by go_num, by rw [HN'.out]; exact HS.out.1, HS.out.2⟩
            case measure => simp [intOf]; omega
          · have HN' := Lib.hid (HN.out.trans (if_neg hmk))
            have hd : decide (q.t = r.f) = false := by simp [hmk]
            rw [hd]
            clear hmk HN hd
            have hr := hown.row
            go_wp2_with (at_builtin; refine wpList_append_own _ rfl _ _ 66 rfl w.heap.size 70 i0 (.agg #[.int .i64 0, .int .i64 0]) 2 16 Try.underlying66 hi hz0 hz1 hz2 rfl (by decide) _ _ _ rfl (hr.alloc _) ⟨W.heap.size, 0, none⟩ 1 1 (spnC r) rfl rfl (spnC_at W r _ rfl) (spnC_one r) (by unfold maxLen; omega) (by omega) (by simp; omega) ?_)
            intro v' w3 hown1 hgrow _
            have hw1 := (hw.alloc s3 (spnObj r)).grown hgrow (by simp; omega) (fun j e => (World.ownsRow.lt hown j e).1)
            have hown2 : OwnS w.heap.size w3 v' (a ++ [q] ++ [r]) := OwnS.pushed (a := a ++ [q]) (by rw [show (a ++ [q]).length = a.length + 1 by simp]; exact hown1)
            clear hown1 hgrow hown hw hr c0 c1 d0 d1 f0 f1 j0 j1
            go_wp2
            go_roundw
            case rel => exact ⟨k + 1, by omega, by go_num, by rw [HN'.out]; exact hown2, hw1⟩
            case measure => simp [intOf]; omega
        · go_simp
          refine hK.out _ _ (keepS hS ((Below.refl _ _).alloc (Nat.le_refl _) _) (by (try dsimp only at hS); omega)) (fun hS1 => ?_)
          clear hK K hS
          try simp only [Act.put, List.setIfInBounds_toArray, List.set_cons_zero, List.set_cons_succ]
          refine SeqO.step rfl (by rfl) (fun K hK => ?_)
          go_simp
          go_at_call 86
          refine (join_spans_any q r _).mono ?_
          rintro e w1 ⟨rfl, hb1⟩
          try dsimp only
          have z0 : w1.cell? ⟨wr.heap.size + 1, 0, none⟩ = some (.int .i64 0) := (hb1.cell (p := ⟨wr.heap.size + 1, 0, none⟩) (by simp)).trans (by simp)
          have z1 : w1.cell? ⟨wr.heap.size + 1, 1, none⟩ = some (.int .i64 0) := (hb1.cell (p := ⟨wr.heap.size + 1, 1, none⟩) (by simp)).trans (by simp)
          have y0 : w1.frozen? ⟨wr.heap.size + 1, 0, none⟩ = false := (hb1.frozen (p := ⟨wr.heap.size + 1, 0, none⟩) (by simp)).trans (by simp [go_sem])
          have y1 : w1.frozen? ⟨wr.heap.size + 1, 1, none⟩ = false := (hb1.frozen (p := ⟨wr.heap.size + 1, 1, none⟩) (by simp)).trans (by simp [go_sem])
          have hz9 : wr.heap.size + 1 < w1.heap.size := Nat.lt_of_lt_of_le (by simp) hb1.size
          refine hK.out _ _ (keepS hS1 hb1 (by (try dsimp only at hS1); omega)) (fun hS2 => ?_)
          clear hK K hb1 hS1
          try simp only [Act.put, List.setIfInBounds_toArray, List.set_cons_zero, List.set_cons_succ]
          dsimp only [spnV]
          repeat (refine SeqO.ld (v := ?_) rfl (by rfl) ?_ ?_; rotate_left; (· intro w hSw; (try dsimp only at hSw); go_simp; (try with_reducible rfl)); (try simp only [Act.put, List.setIfInBounds_toArray, List.set_cons_zero, List.set_cons_succ]))
          refine SeqO.step rfl (by rfl) (fun K hK => ?_)
          go_simp
          refine hK.out _ _ (keepS (B := wr.heap.size + 1) hS2 (by repeat' (first | exact Below.refl _ _ | refine Below.setCell ?_ (by simp) _)) (by omega)) (fun hS => ?_)
          clear hK K hS2
          try simp only [Act.put, List.setIfInBounds_toArray, List.set_cons_zero, List.set_cons_succ]
          repeat (refine SeqO.ld (v := ?_) rfl (by rfl) ?_ ?_; rotate_left; (· intro w hSw; (try dsimp only at hSw); go_simp; (try with_reducible rfl)); (try simp only [Act.put, List.setIfInBounds_toArray, List.set_cons_zero, List.set_cons_succ]))
          refine SeqO.fin ?_
          obtain ⟨W, hWW⟩ : ∃ W : World, W = (w1.setCell ⟨wr.heap.size + 1, 0, none⟩ (.int .i64 q.f)).setCell ⟨wr.heap.size + 1, 1, none⟩ (.int .i64 r.t) := ⟨_, rfl⟩
          have j0 : W.cell? ⟨wr.heap.size + 1, 0, none⟩ = some (.int .i64 q.f) := by rw [hWW]; simp [go_sem, z0, z1]
          have j1 : W.cell? ⟨wr.heap.size + 1, 1, none⟩ = some (.int .i64 r.t) := by rw [hWW]; simp [go_sem, z0, z1]
          rw [← hWW] at hS ⊢
          clear hWW
          obtain ⟨hown, hw, d0, d1, c0, c1, s1, s2, s3⟩ := hS
          have hfz := hown.snoc
          obtain ⟨_, _, e0, _, _, _, hfz, _⟩ := hfz
          obtain ⟨rfl, rfl⟩ : g = _ ∧ cp = _ := by simpa using e0
          clear e0
          have f0 := hfz (a.length * 2)
          have f1 := hfz (a.length * 2 + 1)
          clear hfz
          by_cases hmk : q.t = r.f
          · have HN' := Lib.hid (HN.out.trans (if_pos hmk))
            have hd : decide (q.t = r.f) = true := by simp [hmk]
            rw [hd]
            clear hmk HN hd
            have hs := hown.setS ⟨q.f, r.t⟩
            have hsw := (hw.setCell (p := ⟨g, a.length * 2, none⟩) hg1 (.int .i64 q.f)).setCell (p := ⟨g, a.length * 2 + 1, none⟩) hg1 (.int .i64 r.t)
            have HS := Lib.hid (And.intro hs hsw)
            clear hs hsw hown hw
            go_wp2
            go_roundw
            case rel => exact ⟨k + 1, by omega, by go_num, by rw [HN'.out]; exact HS.out.1, HS.out.2⟩
            case measure => simp [intOf]; omega
          · have HN' := Lib.hid (HN.out.trans (if_neg hmk))
            have hd : decide (q.t = r.f) = false := by simp [hmk]
            rw [hd]
            clear hmk HN hd
            have hr := hown.row
            go_wp2_with (at_builtin; refine wpList_append_own _ rfl _ _ 66 rfl w.heap.size 70 i0 (.agg #[.int .i64 0, .int .i64 0]) 2 16 Try.underlying66 hi hz0 hz1 hz2 rfl (by decide) _ _ _ rfl (hr.alloc _) ⟨W.heap.size, 0, none⟩ 1 1 (spnC r) rfl rfl (spnC_at W r _ rfl) (spnC_one r) (by unfold maxLen; omega) (by omega) (by simp; omega) ?_)
            intro v' w3 hown1 hgrow _
            have hw1 := (hw.alloc s3 (spnObj r)).grown hgrow (by simp; omega) (fun j e => (World.ownsRow.lt hown j e).1)
            have hown2 : OwnS w.heap.size w3 v' (a ++ [q] ++ [r]) := OwnS.pushed (a := a ++ [q]) (by rw [show (a ++ [q]).length = a.length + 1 by simp]; exact hown1)
            clear hown1 hgrow hown hw hr c0 c1 d0 d1 f0 f1 j0 j1
            go_wp2
            go_roundw
            case rel => exact ⟨k + 1, by omega, by go_num, by rw [HN'.out]; exact hown2, hw1⟩
            case measure => simp [intOf]; omega
    · obtain rfl : k = rs.length := by omega
      clear HK
      rw [List.take_length] at hown
      rcases hown.form with ⟨rfl, _⟩ | ⟨g, cp, rfl, hg1, hg2, hg3, hg4, _⟩
      all_goals
        go_wp2
        go_ret
        exact ⟨_, rfl, hown, hw⟩
end Go.Proofs.Ytbmjjmpdlmbehaa
