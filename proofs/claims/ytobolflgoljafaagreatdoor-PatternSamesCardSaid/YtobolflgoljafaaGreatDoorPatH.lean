/- Turned and mirrored planes are found and painted. The program's Turn and Mirror. -/
import Derived.Test.YtobolflgoljafaaGreatDoorPatG
namespace Go.Proofs.YtobolflgoljafaaGreatDoor
open Go.RowKit

set_option maxRecDepth 20000 in
set_option maxHeartbeats 2000000 in
theorem find_seen (bp bf : Nat) (most : Int) (l0 : Pt.Lat) (G : Int → Int → Prop) (gB : Int → Int → Bool) (w : World) (hG : Pt.Grp G) (h0 : Pt.IsB G l0) (hgB : ∀ x y, gB x y = true ↔ G x y) (hm1 : 1 ≤ most) (hm2 : most ≤ 30000) (hA2 : l0.a ≤ 30000) (hC2 : l0.c ≤ 30000)
    (HF : ∀ (dx dy : Int) W, 0 ≤ dx → dx ≤ 30000 → 0 ≤ dy → dy ≤ 30000 → Below w.heap.size w W → Calls Tryz.prog 95 #[.int .i64 dx, .int .i64 dy, .pointer (some ⟨bp, 0, none⟩), .pointer (some ⟨bf, 0, none⟩)] W fun e w' => e = .returned (.bool (gB dx dy)) ∧ Below W.heap.size W w') :
    Calls Tryz.prog 90 #[.int .i64 most, .func (.func 95) #[] #[.pointer (some ⟨bp, 0, none⟩), .pointer (some ⟨bf, 0, none⟩)]] w (FindSays most l0 w) := by
  obtain ⟨f1, f2, f3, f4, f5⟩ := find_facts hG h0 hgB
  obtain ⟨a1, b1, b2, c1⟩ := h0.ok
  obtain ⟨A, B, C⟩ := l0
  dsimp only at *
  have F1 := Lib.hid f1
  have F2 := Lib.hid f2
  have F3 := Lib.hid f3
  have F4 := Lib.hid f4
  have F5 := Lib.hid f5
  have HH := Lib.hid HF
  have Z0 := LatW.fresh w ⟨0, 0, 0⟩ 63
  have B0 := (Below.refl w.heap.size w).alloc (Nat.le_refl _) (.cells #[.int .i64 0, .int .i64 0, .int .i64 0] 63)
  have H0 := Lib.hid (And.intro Z0 B0)
  clear f1 f2 f3 f4 f5 HF hG h0 hgB Z0 B0
  have HNO : Hid (¬ A * C ≤ most → ∀ (W : World), Below w.heap.size w W → FindSays most ⟨A, B, C⟩ w (.returned (.tuple #[latV ⟨0, 0, 0⟩, .bool false])) W) := Lib.hid fun h W hW => ⟨fun h2 => absurd h2 h, fun _ => rfl, hW⟩
  have HYES : Hid (A * C ≤ most → ∀ (W : World), Below w.heap.size w W → FindSays most ⟨A, B, C⟩ w (.returned (.tuple #[latV ⟨A, B, C⟩, .bool true])) W) := Lib.hid fun h W hW => ⟨fun _ => rfl, fun h2 => absurd h h2, hW⟩
  go_enter Tryz.func90, Tryz.ntmps90
  go_wp2
  go_loopw [6] (fun t wr => ∃ a : Int, 1 ≤ a ∧ a ≤ A ∧ a ≤ most ∧ t = .int .i64 a ∧ Hid (LatW wr w.heap.size ⟨0, 0, 0⟩ ∧ Below w.heap.size w wr)) (fun t _ => (A - intOf t).toNat)
  case atStart => exact ⟨1, by omega, by omega, by omega, rfl, H0⟩
  case round =>
    obtain ⟨a, ha1, haA, ham, rfl, hg⟩ := hrel
    clear H0
    have CA := Lib.hid (HH.out a 0 _ (by omega) (by omega) (by omega) (by omega) hg.out.2)
    by_cases hlt : a < A
    · rw [F1.out a ha1 hlt] at CA
      go_wp2_with fail
      refine CA.out.mono ?_
      rintro e w1 ⟨rfl, hb1⟩
      have hL := hg.out.1.all hb1
      have HW := Lib.hid (And.intro hL (below_step hg.out.2 hb1))
      obtain ⟨⟨c0, c1', c2⟩, ⟨z0, z1, z2⟩, _⟩ := hL
      clear hb1 CA
      by_cases hmo : a + 1 ≤ most
      · have hd : decide (most < a + 1) = false := decide_eq_false (by omega)
        clear c0 c1' c2 z0 z1 z2
        go_wp2
        go_roundw
        case rel => exact ⟨a + 1, by omega, by omega, hmo, rfl, HW⟩
        case measure => simp [intOf]; omega
      · have hd : decide (most < a + 1) = true := decide_eq_true (by omega)
        have hbig : ¬ A * C ≤ most := by
          intro h
          have : A * 1 ≤ A * C := Int.mul_le_mul_of_nonneg_left c1 (by omega)
          omega
        have HE := Lib.hid (HNO.out (by omega))
        clear hbig
        dsimp only at c0 c1' c2
        go_wp2
        exact bodyPost_ret (v := .tuple #[.agg #[.int .i64 0, .int .i64 0, .int .i64 0], .bool false]) (by simp [results, Tryz.results90, go_sem, c0, c1', c2]) rfl (HE.out _ (((HW.out.2.setCell (Nat.le_refl _) _).setCell (Nat.le_refl _) _).setCell (Nat.le_refl _) _))
    · obtain rfl : a = A := by omega
      rw [F2.out] at CA
      go_wp2_with fail
      refine CA.out.mono ?_
      rintro e w1 ⟨rfl, hb1⟩
      have HW := Lib.hid (And.intro (hg.out.1.all hb1) (below_step hg.out.2 hb1))
      clear hb1 CA hg hlt
      go_wp2
      go_loopw [7] (fun t wr => ∃ c : Int, 1 ≤ c ∧ c ≤ C ∧ t = .int .i64 c ∧ Hid (LatW wr w.heap.size ⟨0, 0, 0⟩ ∧ Below w.heap.size w wr)) (fun t _ => (C + 1 - intOf t).toNat)
      case atStart => exact ⟨1, by omega, by omega, rfl, HW⟩
      case round =>
        obtain ⟨c, hc1, hcC, rfl, hg⟩ := hrel
        clear HW
        have hp0 : 0 ≤ a * c := Int.mul_nonneg (by omega) (by omega)
        have hp1 : a * c ≤ a * C := Int.mul_le_mul_of_nonneg_left hcC (by omega)
        have hcc : c ≤ a * c := by have := Int.mul_le_mul_of_nonneg_right ha1 (show 0 ≤ c by omega); omega
        have hp2 : a * c ≤ 900000000 := by
          have := Int.mul_le_mul_of_nonneg_right hA2 (show 0 ≤ c by omega)
          omega
        have g1 : IntKind.i64.wrap (a * c) = a * c := IntWalk.i64_in _ ⟨by omega, by omega⟩
        by_cases hle : a * c ≤ most
        · have hd : decide (a * c ≤ most) = true := decide_eq_true hle
          go_wp2
          go_loopw [27] (fun t wx => ∃ b : Int, 0 ≤ b ∧ b ≤ a ∧ t = .int .i64 b ∧ Hid ((c = C → b ≤ B) ∧ LatW wx w.heap.size ⟨0, 0, 0⟩ ∧ Below w.heap.size w wx)) (fun t _ => (a - intOf t).toNat)
          case atStart => exact ⟨0, by omega, by omega, rfl, Lib.hid ⟨fun _ => b1, hg.out⟩⟩
          case round =>
            obtain ⟨b, hb0, hba, rfl, hgb⟩ := hrel
            clear hg
            by_cases hbl : b < a
            · have CB := Lib.hid (HH.out b c _ (by omega) (by omega) (by omega) (by omega) hgb.out.2.2)
              have hcB := hgb.out.1
              by_cases hhit : c = C ∧ b = B
              · obtain ⟨rfl, rfl⟩ := hhit
                rw [F5.out] at CB
                have HE := Lib.hid (HYES.out hle)
                clear hcB
                go_wp2_with fail
                refine CB.out.mono ?_
                rintro e w2 ⟨rfl, hb2⟩
                have hL := hgb.out.2.1.all hb2
                have HW := Lib.hid (below_step hgb.out.2.2 hb2)
                obtain ⟨⟨c0, c1', c2⟩, ⟨z0, z1, z2⟩, _⟩ := hL
                clear hb2 CB hgb
                dsimp only at c0 c1' c2
                go_wp2
                exact bodyPost_ret (v := .tuple #[.agg #[.int .i64 a, .int .i64 b, .int .i64 c], .bool true]) (by simp [results, Tryz.results90, go_sem, c0, c1', c2]) rfl (HE.out _ (((HW.out.setCell (Nat.le_refl _) _).setCell (Nat.le_refl _) _).setCell (Nat.le_refl _) _))
              · have hno : gB b c = false := by
                  by_cases hcC2 : c < C
                  · exact F3.out b c hc1 hcC2 hb0 hbl
                  · have e : c = C := by omega
                    have := hcB e
                    rw [e]
                    exact F4.out b hb0 (by omega)
                rw [hno] at CB
                have HCB : Hid (c = C → b + 1 ≤ B) := Lib.hid fun e => by have := hcB e; omega
                clear hno hcB hhit
                go_wp2_with fail
                refine CB.out.mono ?_
                rintro e w2 ⟨rfl, hb2⟩
                have HW := Lib.hid (And.intro HCB.out (And.intro (hgb.out.2.1.all hb2) (below_step hgb.out.2.2 hb2)))
                clear hb2 CB hgb HCB
                go_wp2
                go_roundw
                case rel => exact ⟨b + 1, by omega, by omega, rfl, HW⟩
                case measure => simp [intOf]; omega
            · obtain rfl : b = a := by omega
              have hcC3 : c < C := by
                by_cases e : c = C
                · have := hgb.out.1 e; omega
                · omega
              have HW := Lib.hid hgb.out.2
              clear hgb
              go_wp2
              go_roundw
              case rel => exact ⟨c + 1, by omega, by omega, rfl, HW⟩
              case measure => simp [intOf]; omega
        · have hd : decide (a * c ≤ most) = false := decide_eq_false hle
          have HE := Lib.hid (HNO.out (by omega))
          obtain ⟨hL, hw⟩ := hg.out
          obtain ⟨⟨c0, c1', c2⟩, ⟨z0, z1, z2⟩, _⟩ := hL
          have HW := Lib.hid hw
          clear hg hw
          dsimp only at c0 c1' c2
          go_wp2
          exact bodyPost_ret (v := .tuple #[.agg #[.int .i64 0, .int .i64 0, .int .i64 0], .bool false]) (by simp [results, Tryz.results90, go_sem, c0, c1', c2]) rfl (HE.out _ (((HW.out.setCell (Nat.le_refl _) _).setCell (Nat.le_refl _) _).setCell (Nat.le_refl _) _))

set_option maxRecDepth 20000 in
set_option maxHeartbeats 4000000 in
theorem paint_seen (bp bf : Nat) (l : Pt.Lat) (f : Int → Int → Int) (w : World) (hs : small l)
    (HF : ∀ (x y : Int) W, 0 ≤ x → x ≤ 30000 → 0 ≤ y → y ≤ 30000 → Below w.heap.size w W → Calls Tryz.prog 96 #[.int .i64 x, .int .i64 y, .pointer (some ⟨bp, 0, none⟩), .pointer (some ⟨bf, 0, none⟩)] W fun e w' => e = .returned (.int .i64 (f x y)) ∧ Below W.heap.size W w') :
    Calls Tryz.prog 91 #[latV l, .func (.func 96) #[] #[.pointer (some ⟨bp, 0, none⟩), .pointer (some ⟨bf, 0, none⟩)]] w fun e w' => ∃ v, e = .returned (patV l v) ∧ OwnF w.heap.size w' v (l.a * l.c).toNat (Pt.cellF l f) ∧ Below w.heap.size w w' := by
  obtain ⟨i0, hi, hz0, hz1, hz2⟩ := info_parts infoInt
  obtain ⟨⟨a1, a2, a3, a4⟩, a5, a6⟩ := hs
  have C := Lib.hid HF
  have H0 := Lib.hid (PSt.start w l (Pt.cellF l f))
  have FA := Lib.hid (fun (x y : Int) h1 h2 h3 => Pt.cellF_at (l := l) f (x := x) (y := y) h1 h2 h3)
  obtain ⟨A, hA⟩ : ∃ A : Nat, l.a = A := ⟨l.a.toNat, by omega⟩
  obtain ⟨D, hD⟩ : ∃ D : Nat, l.c = D := ⟨l.c.toNat, by omega⟩
  have HTOT : Hid ((l.a * l.c).toNat = D * A) := Lib.hid (by rw [hA, hD, ← Int.natCast_mul, Int.toNat_natCast, Nat.mul_comm])
  have HA := Lib.hid hA
  have HD := Lib.hid hD
  have hA1 : 1 ≤ A := by omega
  have hA3 : l.a ≤ (A : Int) := by omega
  have hA4 : (A : Int) ≤ l.a := by omega
  have hD3 : l.c ≤ (D : Int) := by omega
  have hD4 : (D : Int) ≤ l.c := by omega
  have hA2 : A ≤ 30000 := by omega
  have hD2 : D ≤ 30000 := by omega
  clear hA hD HF
  generalize hF : Pt.cellF l f = F at *
  clear hF
  go_enter Tryz.func91, Tryz.ntmps91
  go_wp2
  go_loopw [17] (fun t wr => ∃ y : Nat, y ≤ D ∧ t = .int .i64 (y : Int) ∧ Hid (∃ v, PSt w wr l F (y * A) v)) (fun t _ => D - (intOf t).toNat)
  case atStart => exact ⟨0, Nat.zero_le _, rfl, Lib.hid ⟨_, by rw [Nat.zero_mul]; exact H0.out⟩⟩
  case round =>
    obtain ⟨y, hyD, rfl, hg⟩ := hrel
    clear H0
    obtain ⟨v0, hg⟩ := hg.out
    have HG := Lib.hid hg
    by_cases hlt : y < D
    · have c0 : World.cell? _ _ = some (.int .i64 l.a) := hg.1.cell 0
      have hdy : decide ((y : Int) < l.c) = true := decide_eq_true (by omega)
      clear hg
      go_wp2
      clear c0
      go_loopw [22] (fun t wx => ∃ x : Nat, x ≤ A ∧ t = .int .i64 (x : Int) ∧ Hid (∃ v, PSt w wx l F (y * A + x) v)) (fun t _ => A - (intOf t).toNat)
      case atStart => exact ⟨0, Nat.zero_le _, rfl, Lib.hid ⟨_, HG.out⟩⟩
      case round =>
        obtain ⟨x, hxA, rfl, hgx⟩ := hrel
        clear HG
        by_cases hxlt : x < A
        · obtain ⟨v, hx⟩ := hgx.out
          have hform : ∃ a c, v = .slice a (y * A + x) c := by
            rcases hx.2.2.2.1 with ⟨_, ⟨h1, h2⟩ | ⟨g, cap, cur, h1, _⟩⟩
            · exact ⟨none, 0, by rw [h1, h2]⟩
            · exact ⟨_, _, h1⟩
          obtain ⟨sa, sc, rfl⟩ := hform
          have HP := Lib.hid hx.drew
          have CC := Lib.hid (fun W => C.out (x : Int) (y : Int) W (by omega) (by omega) (by omega) (by omega))
          have hfn := FA.out (x : Int) (y : Int) (by omega) (by rw [HA.out]; omega) (by omega)
          rw [HA.out, ← Int.natCast_mul, ← Int.natCast_add, Int.toNat_natCast] at hfn
          have hyA : y * A ≤ 900000000 := by
            have := Nat.mul_le_mul (show y ≤ 30000 by omega) hA2
            omega
          have HFN := Lib.hid hfn
          have c3 : World.cell? _ _ = some (.slice sa (y * A + x) sc) := hx.drew.2.2.1.cell 3
          have hdx : decide ((x : Int) < l.a) = true := decide_eq_true (by omega)
          generalize f (x : Int) (y : Int) = col at *
          obtain ⟨n, hn⟩ : ∃ n, n = y * A + x := ⟨_, rfl⟩
          rw [← hn] at HP HFN c3
          have HNN := Lib.hid hn
          have hnb : n ≤ 900030000 := by omega
          clear hfn hx hg hgx hyA hn
          go_upto_region 8 with fail
          refine wp_region_seq2 (.take 0 (.take 2 (.take 3 (.take 4 (.two 1 (.one 5 (.one 6 (.one 7 (.take 8 (.one 9 .done))))) 5 (.two 1 (.one 6 (.one 7 (.take 8 (.one 9 .done)))) 6 (.one 1 (.one 7 (.take 8 (.one 9 .done)))))))))) (fun _ => True)
            (by kernel_rfl) (by kernel_rfl) (by kernel_rfl) (by kernel_rfl) (fun d _ _ _ _ h => by cases d <;> exact h) trivial (fun _ => ?_)
          repeat (first
            | (refine SeqO.ld (v := ?_) rfl (by rfl) ?_ ?_; rotate_left; (· intro w _; go_simp; (try with_reducible rfl)); simp only [Act.put, List.setIfInBounds_toArray, List.set_cons_zero, List.set_cons_succ]))
          refine ⟨wpOp_stepS rfl (by rfl) (fun K hK => ?_), wpOp_stepS rfl (by rfl) (fun K hK => ?_)⟩
          · go_simp
            refine hK.out _ _ trivial (fun _ => ?_)
            clear hK K
            try simp only [Act.put, List.setIfInBounds_toArray, List.set_cons_zero, List.set_cons_succ]
            refine SeqO.step rfl (by rfl) (fun K hK => ?_)
            go_simp
            go_at_call 96
            refine (CC.out _ HP.out.2.2.2.2).mono ?_
            rintro e w1 ⟨rfl, hb1⟩
            try dsimp only
            have HP1 := Lib.hid (HP.out.below hb1)
            have c3 : World.cell? _ _ = some (.slice sa n sc) := HP1.out.2.2.1.cell 3
            clear HP hb1
            have HP := HP1
            clear HP1
            refine hK.out _ _ trivial (fun _ => ?_)
            clear hK K
            try simp only [Act.put, List.setIfInBounds_toArray, List.set_cons_zero, List.set_cons_succ]
            refine SeqO.step rfl (by rfl) (fun K hK => ?_)
            go_simp
            have HP1 := Lib.hid (HP.out.alloc (.cells #[.int .i64 col] 3))
            have c3 : World.cell? _ _ = some (.slice sa n sc) := HP1.out.2.2.1.cell 3
            clear HP
            have HP := HP1
            clear HP1
            refine hK.out _ _ trivial (fun _ => ?_)
            clear hK K
            try simp only [Act.put, List.setIfInBounds_toArray, List.set_cons_zero, List.set_cons_succ]
            clear c3
            refine SeqO.step rfl (by rfl) (fun K hK => ?_)
            refine wp_append_own _ _ _ 22 rfl (w.heap.size + 3) 3 i0 (.int .i64 0) 1 8 Tryz.underlying22 hi hz0 hz1 hz2 rfl (by decide) _ n _ rfl HP.out.2.2.2.1 ⟨_, 0, none⟩ 1 1 (intL col) rfl rfl (intL_at _ _ _) (intL_one _) (by unfold maxLen; omega) (by omega) (by have := HP.out.2.2.1.lt; omega) ?_
            intro v' w2 hown2 hgrow _
            have hp2 := OwnF.pushed hown2 HFN.out
            obtain ⟨g, cp, rfl, hg1, hg2⟩ := hp2.form (by omega)
            have HN := Lib.hid (HP.out.next hgrow hp2)
            have hB2 := HP.out.2.2.1.grown hgrow (fun e => by have := (World.ownsRow.lt HP.out.2.2.2.1 _ e.symm).1; omega)
            have c3 : World.cell? _ _ = some (.slice sa n sc) := hB2.cell 3
            have f3 := hB2.frozen 3
            clear HP hown2 hgrow hp2 hB2 hg1 hg2
            refine hK.out _ _ trivial (fun _ => ?_)
            clear hK K
            try simp only [Act.put, List.setIfInBounds_toArray, List.set_cons_zero, List.set_cons_succ]
            repeat (first
              | (refine SeqO.ld (v := ?_) rfl (by rfl) ?_ ?_; rotate_left; (· intro w _; go_simp; (try with_reducible rfl)); simp only [Act.put, List.setIfInBounds_toArray, List.set_cons_zero, List.set_cons_succ]))
            refine SeqO.step rfl (by rfl) (fun K hK => ?_)
            go_simp
            refine hK.out _ _ trivial (fun _ => ?_)
            clear hK K c3 f3
            try simp only [Act.put, List.setIfInBounds_toArray, List.set_cons_zero, List.set_cons_succ]
            refine SeqO.fin ?_
            go_wp2
            go_roundw
            case rel => exact ⟨x + 1, by omega, by go_num, Lib.hid ⟨_, by rw [show y * A + (x + 1) = n + 1 by rw [HNN.out]; omega]; exact HN.out⟩⟩
            case measure => simp [intOf]; omega
          · go_simp
            go_at_call 96
            refine (CC.out _ HP.out.2.2.2.2).mono ?_
            rintro e w1 ⟨rfl, hb1⟩
            try dsimp only
            have HP1 := Lib.hid (HP.out.below hb1)
            have c3 : World.cell? _ _ = some (.slice sa n sc) := HP1.out.2.2.1.cell 3
            clear HP hb1
            have HP := HP1
            clear HP1
            refine hK.out _ _ trivial (fun _ => ?_)
            clear hK K
            try simp only [Act.put, List.setIfInBounds_toArray, List.set_cons_zero, List.set_cons_succ]
            refine ⟨wpOp_stepS rfl (by rfl) (fun K hK => ?_), wpOp_stepS rfl (by rfl) (fun K hK => ?_)⟩
            · go_simp
              refine hK.out _ _ trivial (fun _ => ?_)
              clear hK K
              try simp only [Act.put, List.setIfInBounds_toArray, List.set_cons_zero, List.set_cons_succ]
              refine SeqO.step rfl (by rfl) (fun K hK => ?_)
              go_simp
              have HP1 := Lib.hid (HP.out.alloc (.cells #[.int .i64 col] 3))
              have c3 : World.cell? _ _ = some (.slice sa n sc) := HP1.out.2.2.1.cell 3
              clear HP
              have HP := HP1
              clear HP1
              refine hK.out _ _ trivial (fun _ => ?_)
              clear hK K
              try simp only [Act.put, List.setIfInBounds_toArray, List.set_cons_zero, List.set_cons_succ]
              clear c3
              refine SeqO.step rfl (by rfl) (fun K hK => ?_)
              refine wp_append_own _ _ _ 22 rfl (w.heap.size + 3) 3 i0 (.int .i64 0) 1 8 Tryz.underlying22 hi hz0 hz1 hz2 rfl (by decide) _ n _ rfl HP.out.2.2.2.1 ⟨_, 0, none⟩ 1 1 (intL col) rfl rfl (intL_at _ _ _) (intL_one _) (by unfold maxLen; omega) (by omega) (by have := HP.out.2.2.1.lt; omega) ?_
              intro v' w2 hown2 hgrow _
              have hp2 := OwnF.pushed hown2 HFN.out
              obtain ⟨g, cp, rfl, hg1, hg2⟩ := hp2.form (by omega)
              have HN := Lib.hid (HP.out.next hgrow hp2)
              have hB2 := HP.out.2.2.1.grown hgrow (fun e => by have := (World.ownsRow.lt HP.out.2.2.2.1 _ e.symm).1; omega)
              have c3 : World.cell? _ _ = some (.slice sa n sc) := hB2.cell 3
              have f3 := hB2.frozen 3
              clear HP hown2 hgrow hp2 hB2 hg1 hg2
              refine hK.out _ _ trivial (fun _ => ?_)
              clear hK K
              try simp only [Act.put, List.setIfInBounds_toArray, List.set_cons_zero, List.set_cons_succ]
              repeat (first
                | (refine SeqO.ld (v := ?_) rfl (by rfl) ?_ ?_; rotate_left; (· intro w _; go_simp; (try with_reducible rfl)); simp only [Act.put, List.setIfInBounds_toArray, List.set_cons_zero, List.set_cons_succ]))
              refine SeqO.step rfl (by rfl) (fun K hK => ?_)
              go_simp
              refine hK.out _ _ trivial (fun _ => ?_)
              clear hK K c3 f3
              try simp only [Act.put, List.setIfInBounds_toArray, List.set_cons_zero, List.set_cons_succ]
              refine SeqO.fin ?_
              go_wp2
              go_roundw
              case rel => exact ⟨x + 1, by omega, by go_num, Lib.hid ⟨_, by rw [show y * A + (x + 1) = n + 1 by rw [HNN.out]; omega]; exact HN.out⟩⟩
              case measure => simp [intOf]; omega
            · go_simp
              have HP1 := Lib.hid (HP.out.alloc (.cells #[.int .i64 col] 3))
              have c3 : World.cell? _ _ = some (.slice sa n sc) := HP1.out.2.2.1.cell 3
              clear HP
              have HP := HP1
              clear HP1
              refine hK.out _ _ trivial (fun _ => ?_)
              clear hK K
              try simp only [Act.put, List.setIfInBounds_toArray, List.set_cons_zero, List.set_cons_succ]
              refine SeqO.step rfl (by rfl) (fun K hK => ?_)
              go_simp
              refine hK.out _ _ trivial (fun _ => ?_)
              clear hK K
              try simp only [Act.put, List.setIfInBounds_toArray, List.set_cons_zero, List.set_cons_succ]
              clear c3
              refine SeqO.step rfl (by rfl) (fun K hK => ?_)
              refine wp_append_own _ _ _ 22 rfl (w.heap.size + 3) 3 i0 (.int .i64 0) 1 8 Tryz.underlying22 hi hz0 hz1 hz2 rfl (by decide) _ n _ rfl HP.out.2.2.2.1 ⟨_, 0, none⟩ 1 1 (intL col) rfl rfl (intL_at _ _ _) (intL_one _) (by unfold maxLen; omega) (by omega) (by have := HP.out.2.2.1.lt; omega) ?_
              intro v' w2 hown2 hgrow _
              have hp2 := OwnF.pushed hown2 HFN.out
              obtain ⟨g, cp, rfl, hg1, hg2⟩ := hp2.form (by omega)
              have HN := Lib.hid (HP.out.next hgrow hp2)
              have hB2 := HP.out.2.2.1.grown hgrow (fun e => by have := (World.ownsRow.lt HP.out.2.2.2.1 _ e.symm).1; omega)
              have c3 : World.cell? _ _ = some (.slice sa n sc) := hB2.cell 3
              have f3 := hB2.frozen 3
              clear HP hown2 hgrow hp2 hB2 hg1 hg2
              refine hK.out _ _ trivial (fun _ => ?_)
              clear hK K
              try simp only [Act.put, List.setIfInBounds_toArray, List.set_cons_zero, List.set_cons_succ]
              repeat (first
                | (refine SeqO.ld (v := ?_) rfl (by rfl) ?_ ?_; rotate_left; (· intro w _; go_simp; (try with_reducible rfl)); simp only [Act.put, List.setIfInBounds_toArray, List.set_cons_zero, List.set_cons_succ]))
              refine SeqO.step rfl (by rfl) (fun K hK => ?_)
              go_simp
              refine hK.out _ _ trivial (fun _ => ?_)
              clear hK K c3 f3
              try simp only [Act.put, List.setIfInBounds_toArray, List.set_cons_zero, List.set_cons_succ]
              refine SeqO.fin ?_
              go_wp2
              go_roundw
              case rel => exact ⟨x + 1, by omega, by go_num, Lib.hid ⟨_, by rw [show y * A + (x + 1) = n + 1 by rw [HNN.out]; omega]; exact HN.out⟩⟩
              case measure => simp [intOf]; omega
        · obtain rfl : x = A := by omega
          have hdx : decide ((x : Int) < l.a) = false := decide_eq_false (by omega)
          have HN := Lib.hid hgx.out
          clear hgx
          go_wp2
          go_roundw
          case rel => exact ⟨y + 1, by omega, by go_num, Lib.hid (by obtain ⟨v, h⟩ := HN.out; exact ⟨v, by rw [Nat.add_mul, Nat.one_mul]; exact h⟩)⟩
          case measure => simp [intOf]; omega
    · obtain rfl : y = D := by omega
      have hdy : decide ((y : Int) < l.c) = false := decide_eq_false (by omega)
      obtain ⟨k0, k1, k2, hown, hw⟩ := hg
      have hform : ∃ a c, v0 = .slice a (y * A) c := by
        rcases hown with ⟨_, ⟨h1, h2⟩ | ⟨g, cap, cur, h1, _⟩⟩
        · exact ⟨none, 0, by rw [h1, h2]⟩
        · exact ⟨_, _, h1⟩
      obtain ⟨sa, sc, rfl⟩ := hform
      have c0 : World.cell? _ _ = some (.int .i64 l.a) := k2.cell 0
      have c1 : World.cell? _ _ = some (.int .i64 l.b) := k2.cell 1
      have c2 : World.cell? _ _ = some (.int .i64 l.c) := k2.cell 2
      have c3 : World.cell? _ _ = some (.slice sa (y * A) sc) := k2.cell 3
      have d0 : World.cell? _ _ = some (.int .i64 0) := k1.cell 0
      have d1 : World.cell? _ _ = some (.int .i64 0) := k1.cell 1
      have d2 : World.cell? _ _ = some (.int .i64 0) := k1.cell 2
      have d3 : World.cell? _ _ = some (.slice none 0 0) := k1.cell 3
      have f0 := k1.frozen 0
      have f1 := k1.frozen 1
      have f2 := k1.frozen 2
      have f3 := k1.frozen 3
      have HN := Lib.hid (And.intro hown hw)
      clear k0 k1 k2 hown hw HG
      go_wp2
      refine bodyPost_ret (v := .agg #[.int .i64 l.a, .int .i64 l.b, .int .i64 l.c, .slice sa (y * A) sc]) (by simp [results, Tryz.results91, go_sem, d0, d1, d2, d3]) rfl ⟨_, rfl, ?_, ?_⟩
      · rw [HTOT.out]
        exact ((((HN.out.1.setOld (by simp) _).setOld (by simp) _).setOld (by simp) _).setOld (by simp) _).mono (by omega)
      · exact (((HN.out.2.setCell (by simp) _).setCell (by simp) _).setCell (by simp) _).setCell (by simp) _

set_option maxRecDepth 20000 in
set_option maxHeartbeats 4000000 in
theorem draw_seen (bp bf : Nat) (n : Int) (k l0 : Pt.Lat) (G : Int → Int → Prop) (gB : Int → Int → Bool) (f : Int → Int → Int) (w : World) (hG : Pt.Grp G) (hk : Pt.IsB G k) (hgB : ∀ x y, gB x y = true ↔ G x y) (hkn : k.a * k.c ≤ n) (hn1 : 1 ≤ n) (hn2 : n ≤ 30000) (hka : k.a ≤ 30000) (hkc : k.c ≤ 30000)
    (hper : ∀ x y, G x y → Pt.Per f x y) (hf : ∀ x y, 0 ≤ f x y ∧ f x y ≤ 1000) (h0 : Pt.IsB (Pt.Per f) l0) (hA : l0.a ≤ 30000) (hC : l0.c ≤ 30000)
    (HH : ∀ (dx dy : Int) W, 0 ≤ dx → dx ≤ 30000 → 0 ≤ dy → dy ≤ 30000 → Below w.heap.size w W → Calls Tryz.prog 95 #[.int .i64 dx, .int .i64 dy, .pointer (some ⟨bp, 0, none⟩), .pointer (some ⟨bf, 0, none⟩)] W fun e w' => e = .returned (.bool (gB dx dy)) ∧ Below W.heap.size W w')
    (HF : ∀ (x y : Int) W, 0 ≤ x → x ≤ 30000 → 0 ≤ y → y ≤ 30000 → Below w.heap.size w W → Calls Tryz.prog 96 #[.int .i64 x, .int .i64 y, .pointer (some ⟨bp, 0, none⟩), .pointer (some ⟨bf, 0, none⟩)] W fun e w' => e = .returned (.int .i64 (f x y)) ∧ Below W.heap.size W w') :
    Calls Tryz.prog 53 #[.agg #[.int .i64 n, .func (.func 95) #[] #[.pointer (some ⟨bp, 0, none⟩), .pointer (some ⟨bf, 0, none⟩)], .func (.func 96) #[] #[.pointer (some ⟨bp, 0, none⟩), .pointer (some ⟨bf, 0, none⟩)]]] w (DrawSays l0 f w) := by
  have F1 := Lib.hid (fun W (hW : Below w.heap.size w W) => find_seen bp bf n k G gB W hG hk hgB hn1 hn2 hka hkc (fun dx dy X h1 h2 h3 h4 hX => HH dx dy X h1 h2 h3 h4 (below_step hW hX)))
  have hsk : small k := ⟨hk.ok, hka, hkc⟩
  have hs0 : small l0 := ⟨h0.ok, hA, hC⟩
  have P1 := Lib.hid (fun W (hW : Below w.heap.size w W) => paint_seen bp bf k f W hsk (fun x y X h1 h2 h3 h4 hX => HF x y X h1 h2 h3 h4 (below_step hW hX)))
  have P2 := Lib.hid (fun W (hW : Below w.heap.size w W) => paint_seen bp bf l0 f W hs0 (fun x y X h1 h2 h3 h4 hX => HF x y X h1 h2 h3 h4 (below_step hW hX)))
  have hperk : ∀ x y, Pt.inL k x y → Pt.Per f x y := fun x y h => hper x y ((hk.iff hG x y).2 h)
  have D1 := Lib.hid (fun W (v : Value) (cs : List Int) (bp : Nat) (hp : PatIn W k v cs) (hc : Pt.col k (csF cs) = f) (hb : PatAt W bp k v) => find_draw1 bp 144 l0 (Pt.Per f) (movedB k f f) W (Pt.per_grp f) h0 (fun x y => moved_per hk.ok hperk x y) (by omega) (by omega) hA hC (fun dx dy X h1 h2 h3 h4 hX => by
    have := draw1_any k v cs bp dx dy X (hp.all hX) (hb.all hX) (by omega) (by omega) (by omega) (by omega)
    rw [hc] at this
    exact this))
  have OP := Lib.hid (fun (base : Nat) (W : World) (v : Value) (h : OwnF base W v (k.a * k.c).toNat (Pt.cellF k f)) => own_patIn h hsk hf)
  have HPK := Lib.hid hperk
  have hpos : 0 < (k.a * k.c).toNat := by
    have := Int.mul_le_mul_of_nonneg_left hk.ok.2.2.2 (show 0 ≤ k.a by have := hk.ok.1; omega)
    have := hk.ok.1
    omega
  have hkk := Lib.hid hkn
  have hpos0 : 0 < (l0.a * l0.c).toNat := by
    have := Int.mul_le_mul_of_nonneg_left h0.ok.2.2.2 (show 0 ≤ l0.a by have := h0.ok.1; omega)
    have := h0.ok.1
    omega
  clear HH HF hG hk hgB hper hf h0 hperk hsk hs0 hkn
  have b0 := (BlockAt.new w #[.int .i64 n, .func (.func 95) #[] #[.pointer (some ⟨bp, 0, none⟩), .pointer (some ⟨bf, 0, none⟩)], .func (.func 96) #[] #[.pointer (some ⟨bp, 0, none⟩), .pointer (some ⟨bf, 0, none⟩)]] 73).alloc (.cells #[.int .i64 0, .int .i64 0, .int .i64 0, .slice none 0 0] 24)
  have b1 := BlockAt.new (w.alloc (.cells #[.int .i64 n, .func (.func 95) #[] #[.pointer (some ⟨bp, 0, none⟩), .pointer (some ⟨bf, 0, none⟩)], .func (.func 96) #[] #[.pointer (some ⟨bp, 0, none⟩), .pointer (some ⟨bf, 0, none⟩)]] 73)) #[.int .i64 0, .int .i64 0, .int .i64 0, .slice none 0 0] 24
  simp only [World.size_alloc] at b1
  have hw := below_alloc (below_alloc (Below.refl w.heap.size w) (.cells #[.int .i64 n, .func (.func 95) #[] #[.pointer (some ⟨bp, 0, none⟩), .pointer (some ⟨bf, 0, none⟩)], .func (.func 96) #[] #[.pointer (some ⟨bp, 0, none⟩), .pointer (some ⟨bf, 0, none⟩)]] 73)) (.cells #[.int .i64 0, .int .i64 0, .int .i64 0, .slice none 0 0] 24)
  go_enter Tryz.func53, Tryz.ntmps53
  go_wp2_with fail
  refine (F1.out _ hw).mono ?_
  rintro e w1 ⟨hyes, hno, hb1⟩
  obtain rfl := hyes hkk.out
  clear hyes hno hkk F1
  have B0 := Lib.hid (b0.below hb1 b0.lt)
  have B1 := Lib.hid (b1.below hb1 b1.lt)
  have HW := Lib.hid (below_step hw hb1)
  clear b0 b1 hw hb1
  have c2 : World.cell? _ _ = some (.func (.func 96) #[] #[.pointer (some ⟨bp, 0, none⟩), .pointer (some ⟨bf, 0, none⟩)]) := B0.out.cell 2
  have hlt0 := B0.out.lt
  have c2' : World.cell? (w1.alloc (.cells #[.int .i64 k.a, .int .i64 k.b, .int .i64 k.c] 63)) _ = some (.func (.func 96) #[] #[.pointer (some ⟨bp, 0, none⟩), .pointer (some ⟨bf, 0, none⟩)]) := (B0.out.alloc _).cell 2
  go_wp2_with fail
  refine (P1.out _ (below_alloc HW.out _)).mono ?_
  rintro e w2 ⟨v, rfl, hown, hb2⟩
  obtain ⟨g, cp, rfl, _, _⟩ := hown.form hpos
  obtain ⟨cs, hpat, hcol⟩ := OP.out _ _ _ hown
  have hcol := hcol HPK.out
  have B0' := Lib.hid ((B0.out.alloc _).below hb2 (B0.out.alloc _).lt)
  have B1' := Lib.hid ((B1.out.alloc _).below hb2 (B1.out.alloc _).lt)
  have HW2 := Lib.hid (below_step (below_alloc HW.out _) hb2)
  have D := Lib.hid (D1.out (w2.alloc (.cells #[.int .i64 k.a, .int .i64 k.b, .int .i64 k.c, .slice (some ⟨g, 0, none⟩) (k.a * k.c).toNat cp] 24)) _ cs w2.heap.size (hpat.all ((Below.refl _ _).alloc (Nat.le_refl _) _)) hcol (PatAt.fresh _ _ _ _))
  clear hown hb2 hpat hcol c2 c2' hlt0 B0 B1 HW OP HPK D1 P1
  go_wp2_with fail
  refine D.out.mono ?_
  rintro e w4 ⟨hyes, hno, hb4⟩
  have B0 := Lib.hid ((B0'.out.alloc _).below hb4 (B0'.out.alloc _).lt)
  have B1 := Lib.hid ((B1'.out.alloc _).below hb4 (B1'.out.alloc _).lt)
  have HW := Lib.hid (below_step (below_alloc HW2.out _) hb4)
  clear B0' B1' HW2 hb4 D
  by_cases hsz : l0.a * l0.c ≤ 144
  · obtain rfl := hyes hsz
    have HSZ := Lib.hid hsz
    have c2 : World.cell? _ _ = some (.func (.func 96) #[] #[.pointer (some ⟨bp, 0, none⟩), .pointer (some ⟨bf, 0, none⟩)]) := B0.out.cell 2
    have hlt0 := B0.out.lt
    have c2' : World.cell? (w4.alloc (.cells #[.int .i64 l0.a, .int .i64 l0.b, .int .i64 l0.c] 63)) _ = some (.func (.func 96) #[] #[.pointer (some ⟨bp, 0, none⟩), .pointer (some ⟨bf, 0, none⟩)]) := (B0.out.alloc _).cell 2
    clear hyes hno hsz
    go_wp2_with fail
    refine (P2.out _ (below_alloc HW.out _)).mono ?_
    rintro e w5 ⟨u, rfl, hown, hb5⟩
    obtain ⟨g2, cp2, rfl, _, _⟩ := hown.form hpos0
    have B1' := Lib.hid ((B1.out.alloc _).below hb5 (B1.out.alloc _).lt)
    have HW2 := Lib.hid (below_step (below_alloc HW.out _) hb5)
    have hsz4 : w.heap.size + 2 ≤ w4.heap.size := by have := B1.out.lt; omega
    have HO := Lib.hid hown
    clear hown hb5 c2 c2' hlt0 B0 P2
    have c0 : World.cell? _ _ = some (.int .i64 0) := B1'.out.cell 0
    have c1 : World.cell? _ _ = some (.int .i64 0) := B1'.out.cell 1
    have c2 : World.cell? _ _ = some (.int .i64 0) := B1'.out.cell 2
    have c3 : World.cell? _ _ = some (.slice none 0 0) := B1'.out.cell 3
    have f0 := B1'.out.frozen 0
    have f1 := B1'.out.frozen 1
    have f2 := B1'.out.frozen 2
    have f3 := B1'.out.frozen 3
    go_wp2
    refine bodyPost_ret (v := .tuple #[.agg #[.int .i64 l0.a, .int .i64 l0.b, .int .i64 l0.c, .slice (some ⟨g2, 0, none⟩) (l0.a * l0.c).toNat cp2], .int .i64 0]) (by simp [results, Tryz.results53, go_sem, c0, c1, c2, c3]) rfl ⟨fun _ => ⟨_, rfl, ?_⟩, fun h => absurd HSZ.out h, ?_⟩
    · exact ((((HO.out.setOld (by simp; omega) _).setOld (by simp; omega) _).setOld (by simp; omega) _).setOld (by simp; omega) _).mono (by simp; omega)
    · exact (((HW2.out.setCell (by simp) _).setCell (by simp) _).setCell (by simp) _).setCell (by simp) _
  · obtain rfl := hno hsz
    have HSZ := Lib.hid hsz
    clear hyes hno hsz P2
    have c0 : World.cell? _ _ = some (.int .i64 0) := B1.out.cell 0
    have c1 : World.cell? _ _ = some (.int .i64 0) := B1.out.cell 1
    have c2 : World.cell? _ _ = some (.int .i64 0) := B1.out.cell 2
    have c3 : World.cell? _ _ = some (.slice none 0 0) := B1.out.cell 3
    have f0 := B1.out.frozen 0
    have f1 := B1.out.frozen 1
    have f2 := B1.out.frozen 2
    have f3 := B1.out.frozen 3
    have hlt := B1.out.lt
    go_wp2
    refine bodyPost_ret (v := .tuple #[.agg #[.int .i64 0, .int .i64 0, .int .i64 0, .slice none 0 0], .int .i64 4]) (by simp [results, Tryz.results53, go_sem, c0, c1, c2, c3, hlt]) rfl ⟨fun h => by have := HSZ.out; omega, fun _ => rfl, ?_⟩
    exact below_alloc ((((HW.out.setCell (by simp) _).setCell (by simp) _).setCell (by simp) _).setCell (by simp) _) _
end Go.Proofs.YtobolflgoljafaaGreatDoor
namespace Go.Proofs.YtobolflgoljafaaGreatDoor
open Go.RowKit

theorem turn1_any (x y : Int) (w : World) (hx : -1000000 ≤ x) (hx2 : x ≤ 1000000) (_hy : -1000000 ≤ y) (_hy2 : y ≤ 1000000) :
    Calls Tryz.prog 56 #[.int .i64 x, .int .i64 y] w fun e w' => e = .returned (.tuple #[.int .i64 y, .int .i64 (-x)]) ∧ w = w' := by
  have g1 : IntKind.i64.wrap (-x) = -x := IntWalk.i64_in _ ⟨by omega, by omega⟩
  go_enter Tryz.func56, Tryz.ntmps56
  go_wp2
  go_ret2
  exact ⟨rfl, rfl⟩

set_option maxRecDepth 20000 in
set_option maxHeartbeats 1000000 in
theorem turn_has (l : Pt.Lat) (bp bf : Nat) (x y : Int) (w : World) (hs : small l) (hc : w.cell? ⟨bp, 1, none⟩ = some (.func (.func 93) #[latV l] #[])) (hf : w.cell? ⟨bf, 0, none⟩ = some (.func (.func 56) #[] #[])) (hbp : bp < w.heap.size) (hbf : bf < w.heap.size) (hx : -1000000 ≤ x) (hx2 : x ≤ 1000000) (hy : -1000000 ≤ y) (hy2 : y ≤ 1000000) :
    Calls Tryz.prog 95 #[.int .i64 x, .int .i64 y, .pointer (some ⟨bp, 0, none⟩), .pointer (some ⟨bf, 0, none⟩)] w fun e w' => e = .returned (.bool (hasB l y (-x))) ∧ Below w.heap.size w w' := by
  have TU := Lib.hid (fun W => turn1_any x y W hx hx2 hy hy2)
  have CO := Lib.hid (fun W (hW : Below w.heap.size w W) => has_any l y (-x) W hs (by omega) (by omega) (by omega) (by omega))
  have hS0 : (w.drew).cell? ⟨bp, 1, none⟩ = some (.func (.func 93) #[latV l] #[]) ∧ (w.drew).cell? ⟨bf, 0, none⟩ = some (.func (.func 56) #[] #[]) ∧ Hid (Below w.heap.size w w.drew) := ⟨hc, hf, Lib.hid (Below.refl _ _).drew⟩
  clear hs
  generalize hasB l y (-x) = r at *
  go_enter Tryz.func95, Tryz.ntmps95
  go_upto_region 1 with fail
  refine wp_region_seq [(0, true), (1, true), (2, true), (3, true), (4, true), (5, false), (6, true), (7, true), (8, false), (9, true)] (fun W => W.cell? ⟨bp, 1, none⟩ = some (.func (.func 93) #[latV l] #[]) ∧ W.cell? ⟨bf, 0, none⟩ = some (.func (.func 56) #[] #[]) ∧ Hid (Below w.heap.size w W))
    (by kernel_rfl) (by kernel_rfl) (by kernel_rfl) (by kernel_rfl) (fun d _ _ _ _ h => by cases d <;> exact h) hS0 (fun hS => ?_)
  clear hS0 hc hf
  repeat (refine SeqH.take (v := ?_) rfl (by rfl) ?_ ?_; rotate_left; (· intro w hSw; (try dsimp only at hSw); obtain ⟨c0, c1, _⟩ := hSw; go_simp; (try with_reducible rfl)); simp only [Act.put, List.setIfInBounds_toArray, List.set_cons_zero, List.set_cons_succ])
  refine SeqH.step rfl (by rfl) (fun K hK => ?_)
  go_simp
  go_at_call 56
  refine (TU.out _).mono ?_
  rintro e w1 ⟨rfl, rfl⟩
  try dsimp only
  refine hK.out _ _ hS (fun _ => ?_)
  clear hK K
  try simp only [Act.put, List.setIfInBounds_toArray, List.set_cons_zero, List.set_cons_succ]
  repeat (refine SeqH.take (v := ?_) rfl (by rfl) ?_ ?_; rotate_left; (· intro w hSw; (try dsimp only at hSw); obtain ⟨c0, c1, _⟩ := hSw; go_simp; (try with_reducible rfl)); simp only [Act.put, List.setIfInBounds_toArray, List.set_cons_zero, List.set_cons_succ])
  refine SeqH.step rfl (by rfl) (fun K hK => ?_)
  go_simp
  go_at_call 93
  refine (CO.out _ hS.2.2.out).mono ?_
  rintro e w2 ⟨rfl, hb1⟩
  try dsimp only
  have hw2 := below_step hS.2.2.out hb1
  refine hK.out _ _ ⟨(hb1.cell (p := ⟨bp, 1, none⟩) (Nat.lt_of_lt_of_le hbp hS.2.2.out.size)).trans hS.1, (hb1.cell (p := ⟨bf, 0, none⟩) (Nat.lt_of_lt_of_le hbf hS.2.2.out.size)).trans hS.2.1, Lib.hid hw2⟩ (fun _ => ?_)
  clear hK K
  try simp only [Act.put, List.setIfInBounds_toArray, List.set_cons_zero, List.set_cons_succ]
  repeat (refine SeqH.take (v := ?_) rfl (by rfl) ?_ ?_; rotate_left; (· intro w hSw; (try dsimp only at hSw); obtain ⟨c0, c1, _⟩ := hSw; go_simp; (try with_reducible rfl)); simp only [Act.put, List.setIfInBounds_toArray, List.set_cons_zero, List.set_cons_succ])
  refine SeqH.done ?_
  go_wp2
  go_ret
  exact ⟨rfl, hw2⟩

set_option maxRecDepth 20000 in
set_option maxHeartbeats 1000000 in
theorem turn_col (l : Pt.Lat) (v : Value) (cs : List Int) (B bp bf : Nat) (x y : Int) (w : World) (hp : PatIn w l v cs) (hB : PatAt w B l v) (hc : w.cell? ⟨bp, 2, none⟩ = some (.func (.func 94) #[] #[.pointer (some ⟨B, 0, none⟩)])) (hf : w.cell? ⟨bf, 0, none⟩ = some (.func (.func 56) #[] #[])) (hbp : bp < w.heap.size) (hbf : bf < w.heap.size) (hx : -1000000 ≤ x) (hx2 : x ≤ 1000000) (hy : -1000000 ≤ y) (hy2 : y ≤ 1000000) :
    Calls Tryz.prog 96 #[.int .i64 x, .int .i64 y, .pointer (some ⟨bp, 0, none⟩), .pointer (some ⟨bf, 0, none⟩)] w fun e w' => e = .returned (.int .i64 (Pt.col l (csF cs) y (-x))) ∧ Below w.heap.size w w' := by
  have TU := Lib.hid (fun W => turn1_any x y W hx hx2 hy hy2)
  have CO := Lib.hid (fun W (hW : Below w.heap.size w W) => planeOf1_any l v cs B y (-x) W (hp.all hW) (hB.all hW) (by omega) (by omega) (by omega) (by omega))
  have hS0 : (w.drew).cell? ⟨bp, 2, none⟩ = some (.func (.func 94) #[] #[.pointer (some ⟨B, 0, none⟩)]) ∧ (w.drew).cell? ⟨bf, 0, none⟩ = some (.func (.func 56) #[] #[]) ∧ Hid (Below w.heap.size w w.drew) := ⟨hc, hf, Lib.hid (Below.refl _ _).drew⟩
  clear hp hB
  generalize Pt.col l (csF cs) y (-x) = r at *
  go_enter Tryz.func96, Tryz.ntmps96
  go_upto_region 1 with fail
  refine wp_region_seq [(0, true), (1, true), (2, true), (3, true), (4, true), (5, false), (6, true), (7, true), (8, false), (9, true)] (fun W => W.cell? ⟨bp, 2, none⟩ = some (.func (.func 94) #[] #[.pointer (some ⟨B, 0, none⟩)]) ∧ W.cell? ⟨bf, 0, none⟩ = some (.func (.func 56) #[] #[]) ∧ Hid (Below w.heap.size w W))
    (by kernel_rfl) (by kernel_rfl) (by kernel_rfl) (by kernel_rfl) (fun d _ _ _ _ h => by cases d <;> exact h) hS0 (fun hS => ?_)
  clear hS0 hc hf
  repeat (refine SeqH.take (v := ?_) rfl (by rfl) ?_ ?_; rotate_left; (· intro w hSw; (try dsimp only at hSw); obtain ⟨c0, c1, _⟩ := hSw; go_simp; (try with_reducible rfl)); simp only [Act.put, List.setIfInBounds_toArray, List.set_cons_zero, List.set_cons_succ])
  refine SeqH.step rfl (by rfl) (fun K hK => ?_)
  go_simp
  go_at_call 56
  refine (TU.out _).mono ?_
  rintro e w1 ⟨rfl, rfl⟩
  try dsimp only
  refine hK.out _ _ hS (fun _ => ?_)
  clear hK K
  try simp only [Act.put, List.setIfInBounds_toArray, List.set_cons_zero, List.set_cons_succ]
  repeat (refine SeqH.take (v := ?_) rfl (by rfl) ?_ ?_; rotate_left; (· intro w hSw; (try dsimp only at hSw); obtain ⟨c0, c1, _⟩ := hSw; go_simp; (try with_reducible rfl)); simp only [Act.put, List.setIfInBounds_toArray, List.set_cons_zero, List.set_cons_succ])
  refine SeqH.step rfl (by rfl) (fun K hK => ?_)
  go_simp
  go_at_call 94
  refine (CO.out _ hS.2.2.out).mono ?_
  rintro e w2 ⟨rfl, hb1⟩
  try dsimp only
  have hw2 := below_step hS.2.2.out hb1
  refine hK.out _ _ ⟨(hb1.cell (p := ⟨bp, 2, none⟩) (Nat.lt_of_lt_of_le hbp hS.2.2.out.size)).trans hS.1, (hb1.cell (p := ⟨bf, 0, none⟩) (Nat.lt_of_lt_of_le hbf hS.2.2.out.size)).trans hS.2.1, Lib.hid hw2⟩ (fun _ => ?_)
  clear hK K
  try simp only [Act.put, List.setIfInBounds_toArray, List.set_cons_zero, List.set_cons_succ]
  repeat (refine SeqH.take (v := ?_) rfl (by rfl) ?_ ?_; rotate_left; (· intro w hSw; (try dsimp only at hSw); obtain ⟨c0, c1, _⟩ := hSw; go_simp; (try with_reducible rfl)); simp only [Act.put, List.setIfInBounds_toArray, List.set_cons_zero, List.set_cons_succ])
  refine SeqH.done ?_
  go_wp2
  go_ret
  exact ⟨rfl, hw2⟩

theorem mirror1_any (x y : Int) (w : World) (hx : -1000000 ≤ x) (hx2 : x ≤ 1000000) (_hy : -1000000 ≤ y) (_hy2 : y ≤ 1000000) :
    Calls Tryz.prog 60 #[.int .i64 x, .int .i64 y] w fun e w' => e = .returned (.tuple #[.int .i64 (-x), .int .i64 y]) ∧ w = w' := by
  have g1 : IntKind.i64.wrap (-x) = -x := IntWalk.i64_in _ ⟨by omega, by omega⟩
  go_enter Tryz.func60, Tryz.ntmps60
  go_wp2
  go_ret2
  exact ⟨rfl, rfl⟩

set_option maxRecDepth 20000 in
set_option maxHeartbeats 1000000 in
theorem mirror_has (l : Pt.Lat) (bp bf : Nat) (x y : Int) (w : World) (hs : small l) (hc : w.cell? ⟨bp, 1, none⟩ = some (.func (.func 93) #[latV l] #[])) (hf : w.cell? ⟨bf, 0, none⟩ = some (.func (.func 60) #[] #[])) (hbp : bp < w.heap.size) (hbf : bf < w.heap.size) (hx : -1000000 ≤ x) (hx2 : x ≤ 1000000) (hy : -1000000 ≤ y) (hy2 : y ≤ 1000000) :
    Calls Tryz.prog 95 #[.int .i64 x, .int .i64 y, .pointer (some ⟨bp, 0, none⟩), .pointer (some ⟨bf, 0, none⟩)] w fun e w' => e = .returned (.bool (hasB l (-x) y)) ∧ Below w.heap.size w w' := by
  have TU := Lib.hid (fun W => mirror1_any x y W hx hx2 hy hy2)
  have CO := Lib.hid (fun W (hW : Below w.heap.size w W) => has_any l (-x) y W hs (by omega) (by omega) (by omega) (by omega))
  have hS0 : (w.drew).cell? ⟨bp, 1, none⟩ = some (.func (.func 93) #[latV l] #[]) ∧ (w.drew).cell? ⟨bf, 0, none⟩ = some (.func (.func 60) #[] #[]) ∧ Hid (Below w.heap.size w w.drew) := ⟨hc, hf, Lib.hid (Below.refl _ _).drew⟩
  clear hs
  generalize hasB l (-x) y = r at *
  go_enter Tryz.func95, Tryz.ntmps95
  go_upto_region 1 with fail
  refine wp_region_seq [(0, true), (1, true), (2, true), (3, true), (4, true), (5, false), (6, true), (7, true), (8, false), (9, true)] (fun W => W.cell? ⟨bp, 1, none⟩ = some (.func (.func 93) #[latV l] #[]) ∧ W.cell? ⟨bf, 0, none⟩ = some (.func (.func 60) #[] #[]) ∧ Hid (Below w.heap.size w W))
    (by kernel_rfl) (by kernel_rfl) (by kernel_rfl) (by kernel_rfl) (fun d _ _ _ _ h => by cases d <;> exact h) hS0 (fun hS => ?_)
  clear hS0 hc hf
  repeat (refine SeqH.take (v := ?_) rfl (by rfl) ?_ ?_; rotate_left; (· intro w hSw; (try dsimp only at hSw); obtain ⟨c0, c1, _⟩ := hSw; go_simp; (try with_reducible rfl)); simp only [Act.put, List.setIfInBounds_toArray, List.set_cons_zero, List.set_cons_succ])
  refine SeqH.step rfl (by rfl) (fun K hK => ?_)
  go_simp
  go_at_call 60
  refine (TU.out _).mono ?_
  rintro e w1 ⟨rfl, rfl⟩
  try dsimp only
  refine hK.out _ _ hS (fun _ => ?_)
  clear hK K
  try simp only [Act.put, List.setIfInBounds_toArray, List.set_cons_zero, List.set_cons_succ]
  repeat (refine SeqH.take (v := ?_) rfl (by rfl) ?_ ?_; rotate_left; (· intro w hSw; (try dsimp only at hSw); obtain ⟨c0, c1, _⟩ := hSw; go_simp; (try with_reducible rfl)); simp only [Act.put, List.setIfInBounds_toArray, List.set_cons_zero, List.set_cons_succ])
  refine SeqH.step rfl (by rfl) (fun K hK => ?_)
  go_simp
  go_at_call 93
  refine (CO.out _ hS.2.2.out).mono ?_
  rintro e w2 ⟨rfl, hb1⟩
  try dsimp only
  have hw2 := below_step hS.2.2.out hb1
  refine hK.out _ _ ⟨(hb1.cell (p := ⟨bp, 1, none⟩) (Nat.lt_of_lt_of_le hbp hS.2.2.out.size)).trans hS.1, (hb1.cell (p := ⟨bf, 0, none⟩) (Nat.lt_of_lt_of_le hbf hS.2.2.out.size)).trans hS.2.1, Lib.hid hw2⟩ (fun _ => ?_)
  clear hK K
  try simp only [Act.put, List.setIfInBounds_toArray, List.set_cons_zero, List.set_cons_succ]
  repeat (refine SeqH.take (v := ?_) rfl (by rfl) ?_ ?_; rotate_left; (· intro w hSw; (try dsimp only at hSw); obtain ⟨c0, c1, _⟩ := hSw; go_simp; (try with_reducible rfl)); simp only [Act.put, List.setIfInBounds_toArray, List.set_cons_zero, List.set_cons_succ])
  refine SeqH.done ?_
  go_wp2
  go_ret
  exact ⟨rfl, hw2⟩

set_option maxRecDepth 20000 in
set_option maxHeartbeats 1000000 in
theorem mirror_col (l : Pt.Lat) (v : Value) (cs : List Int) (B bp bf : Nat) (x y : Int) (w : World) (hp : PatIn w l v cs) (hB : PatAt w B l v) (hc : w.cell? ⟨bp, 2, none⟩ = some (.func (.func 94) #[] #[.pointer (some ⟨B, 0, none⟩)])) (hf : w.cell? ⟨bf, 0, none⟩ = some (.func (.func 60) #[] #[])) (hbp : bp < w.heap.size) (hbf : bf < w.heap.size) (hx : -1000000 ≤ x) (hx2 : x ≤ 1000000) (hy : -1000000 ≤ y) (hy2 : y ≤ 1000000) :
    Calls Tryz.prog 96 #[.int .i64 x, .int .i64 y, .pointer (some ⟨bp, 0, none⟩), .pointer (some ⟨bf, 0, none⟩)] w fun e w' => e = .returned (.int .i64 (Pt.col l (csF cs) (-x) y)) ∧ Below w.heap.size w w' := by
  have TU := Lib.hid (fun W => mirror1_any x y W hx hx2 hy hy2)
  have CO := Lib.hid (fun W (hW : Below w.heap.size w W) => planeOf1_any l v cs B (-x) y W (hp.all hW) (hB.all hW) (by omega) (by omega) (by omega) (by omega))
  have hS0 : (w.drew).cell? ⟨bp, 2, none⟩ = some (.func (.func 94) #[] #[.pointer (some ⟨B, 0, none⟩)]) ∧ (w.drew).cell? ⟨bf, 0, none⟩ = some (.func (.func 60) #[] #[]) ∧ Hid (Below w.heap.size w w.drew) := ⟨hc, hf, Lib.hid (Below.refl _ _).drew⟩
  clear hp hB
  generalize Pt.col l (csF cs) (-x) y = r at *
  go_enter Tryz.func96, Tryz.ntmps96
  go_upto_region 1 with fail
  refine wp_region_seq [(0, true), (1, true), (2, true), (3, true), (4, true), (5, false), (6, true), (7, true), (8, false), (9, true)] (fun W => W.cell? ⟨bp, 2, none⟩ = some (.func (.func 94) #[] #[.pointer (some ⟨B, 0, none⟩)]) ∧ W.cell? ⟨bf, 0, none⟩ = some (.func (.func 60) #[] #[]) ∧ Hid (Below w.heap.size w W))
    (by kernel_rfl) (by kernel_rfl) (by kernel_rfl) (by kernel_rfl) (fun d _ _ _ _ h => by cases d <;> exact h) hS0 (fun hS => ?_)
  clear hS0 hc hf
  repeat (refine SeqH.take (v := ?_) rfl (by rfl) ?_ ?_; rotate_left; (· intro w hSw; (try dsimp only at hSw); obtain ⟨c0, c1, _⟩ := hSw; go_simp; (try with_reducible rfl)); simp only [Act.put, List.setIfInBounds_toArray, List.set_cons_zero, List.set_cons_succ])
  refine SeqH.step rfl (by rfl) (fun K hK => ?_)
  go_simp
  go_at_call 60
  refine (TU.out _).mono ?_
  rintro e w1 ⟨rfl, rfl⟩
  try dsimp only
  refine hK.out _ _ hS (fun _ => ?_)
  clear hK K
  try simp only [Act.put, List.setIfInBounds_toArray, List.set_cons_zero, List.set_cons_succ]
  repeat (refine SeqH.take (v := ?_) rfl (by rfl) ?_ ?_; rotate_left; (· intro w hSw; (try dsimp only at hSw); obtain ⟨c0, c1, _⟩ := hSw; go_simp; (try with_reducible rfl)); simp only [Act.put, List.setIfInBounds_toArray, List.set_cons_zero, List.set_cons_succ])
  refine SeqH.step rfl (by rfl) (fun K hK => ?_)
  go_simp
  go_at_call 94
  refine (CO.out _ hS.2.2.out).mono ?_
  rintro e w2 ⟨rfl, hb1⟩
  try dsimp only
  have hw2 := below_step hS.2.2.out hb1
  refine hK.out _ _ ⟨(hb1.cell (p := ⟨bp, 2, none⟩) (Nat.lt_of_lt_of_le hbp hS.2.2.out.size)).trans hS.1, (hb1.cell (p := ⟨bf, 0, none⟩) (Nat.lt_of_lt_of_le hbf hS.2.2.out.size)).trans hS.2.1, Lib.hid hw2⟩ (fun _ => ?_)
  clear hK K
  try simp only [Act.put, List.setIfInBounds_toArray, List.set_cons_zero, List.set_cons_succ]
  repeat (refine SeqH.take (v := ?_) rfl (by rfl) ?_ ?_; rotate_left; (· intro w hSw; (try dsimp only at hSw); obtain ⟨c0, c1, _⟩ := hSw; go_simp; (try with_reducible rfl)); simp only [Act.put, List.setIfInBounds_toArray, List.set_cons_zero, List.set_cons_succ])
  refine SeqH.done ?_
  go_wp2
  go_ret
  exact ⟨rfl, hw2⟩
end Go.Proofs.YtobolflgoljafaaGreatDoor
