/- Shifted and recolored planes are painted. The program's Shift. -/
import Derived.Test.YtobolflgoljafaaGreatDoorPatG
import Derived.Test.YtobolflgoljafaaGreatDoorPatJ
import Derived.Laws.EntriesVeiled
namespace Go.Proofs.YtobolflgoljafaaGreatDoor
open Go.RowKit

set_option maxRecDepth 20000 in
set_option maxHeartbeats 4000000 in
theorem paint_shift (bp bx by' : Nat) (l : Pt.Lat) (f : Int → Int → Int) (w : World) (hs : small l)
    (HF : ∀ (x y : Int) W, 0 ≤ x → x ≤ 30000 → 0 ≤ y → y ≤ 30000 → Below w.heap.size w W → Calls Tryz.prog 78 #[.int .i64 x, .int .i64 y, .pointer (some ⟨bp, 0, none⟩), .pointer (some ⟨bx, 0, none⟩), .pointer (some ⟨by', 0, none⟩)] W fun e w' => e = .returned (.int .i64 (f x y)) ∧ Below W.heap.size W w') :
    Calls Tryz.prog 91 #[latV l, .func (.func 78) #[] #[.pointer (some ⟨bp, 0, none⟩), .pointer (some ⟨bx, 0, none⟩), .pointer (some ⟨by', 0, none⟩)]] w fun e w' => ∃ v, e = .returned (patV l v) ∧ OwnF w.heap.size w' v (l.a * l.c).toNat (Pt.cellF l f) ∧ Below w.heap.size w w' := by
  obtain ⟨i0, hi, hz0, hz1, hz2⟩ := info_parts infoInt
  obtain ⟨⟨a1, a2, a3, a4⟩, a5, a6⟩ := hs
  have C := Lib.hid HF
  have H0 := Lib.hid (PSt.start w l (Pt.cellF l f))
  have FA := Lib.hid (fun (x y : Int) h1 h2 h3 => Pt.cellF_at (l := l) f (x := x) (y := y) h1 h2 h3)
  obtain ⟨A, hA⟩ : ∃ A : Nat, l.a = A := ⟨l.a.toNat, by omega⟩
  obtain ⟨D, hD⟩ : ∃ D : Nat, l.c = D := ⟨l.c.toNat, by omega⟩
  have HTOT : Hid ((l.a * l.c).toNat = D * A) := Lib.hid (by rw [hA, hD, ← Int.natCast_mul, Int.toNat_natCast, Nat.mul_comm])
  have HA := Lib.hid hA
  have HD := Lib.hid hD
  have hA1 : 1 ≤ A := by omega
  have hA3 : l.a ≤ (A : Int) := by omega
  have hA4 : (A : Int) ≤ l.a := by omega
  have hD3 : l.c ≤ (D : Int) := by omega
  have hD4 : (D : Int) ≤ l.c := by omega
  have hA2 : A ≤ 30000 := by omega
  have hD2 : D ≤ 30000 := by omega
  clear hA hD HF
  generalize hF : Pt.cellF l f = F at *
  clear hF
  go_enter Tryz.func91, Tryz.ntmps91
  go_wp2
  go_loopw [17] (fun t wr => ∃ y : Nat, y ≤ D ∧ t = .int .i64 (y : Int) ∧ Hid (∃ v, PSt w wr l F (y * A) v)) (fun t _ => D - (intOf t).toNat)
  case atStart => exact ⟨0, Nat.zero_le _, rfl, Lib.hid ⟨_, by rw [Nat.zero_mul]; exact H0.out⟩⟩
  case round =>
    obtain ⟨y, hyD, rfl, hg⟩ := hrel
    clear H0
    obtain ⟨v0, hg⟩ := hg.out
    have HG := Lib.hid hg
    by_cases hlt : y < D
    · have c0 : World.cell? _ _ = some (.int .i64 l.a) := hg.1.cell 0
      have hdy : decide ((y : Int) < l.c) = true := decide_eq_true (by omega)
      clear hg
      go_wp2
      clear c0
      go_loopw [22] (fun t wx => ∃ x : Nat, x ≤ A ∧ t = .int .i64 (x : Int) ∧ Hid (∃ v, PSt w wx l F (y * A + x) v)) (fun t _ => A - (intOf t).toNat)
      case atStart => exact ⟨0, Nat.zero_le _, rfl, Lib.hid ⟨_, HG.out⟩⟩
      case round =>
        obtain ⟨x, hxA, rfl, hgx⟩ := hrel
        clear HG
        by_cases hxlt : x < A
        · obtain ⟨v, hx⟩ := hgx.out
          have hform : ∃ a c, v = .slice a (y * A + x) c := by
            rcases hx.2.2.2.1 with ⟨_, ⟨h1, h2⟩ | ⟨g, cap, cur, h1, _⟩⟩
            · exact ⟨none, 0, by rw [h1, h2]⟩
            · exact ⟨_, _, h1⟩
          obtain ⟨sa, sc, rfl⟩ := hform
          have HP := Lib.hid hx.drew
          have CC := Lib.hid (fun W => C.out (x : Int) (y : Int) W (by omega) (by omega) (by omega) (by omega))
          have hfn := FA.out (x : Int) (y : Int) (by omega) (by rw [HA.out]; omega) (by omega)
          rw [HA.out, ← Int.natCast_mul, ← Int.natCast_add, Int.toNat_natCast] at hfn
          have hyA : y * A ≤ 900000000 := by
            have := Nat.mul_le_mul (show y ≤ 30000 by omega) hA2
            omega
          have HFN := Lib.hid hfn
          have c3 : World.cell? _ _ = some (.slice sa (y * A + x) sc) := hx.drew.2.2.1.cell 3
          have hdx : decide ((x : Int) < l.a) = true := decide_eq_true (by omega)
          generalize f (x : Int) (y : Int) = col at *
          obtain ⟨n, hn⟩ : ∃ n, n = y * A + x := ⟨_, rfl⟩
          rw [← hn] at HP HFN c3
          have HNN := Lib.hid hn
          have hnb : n ≤ 900030000 := by omega
          clear hfn hx hg hgx hyA hn
          go_upto_region 8 with fail
          refine wp_region_seq2 (.take 0 (.take 2 (.take 3 (.take 4 (.two 1 (.one 5 (.one 6 (.one 7 (.take 8 (.one 9 .done))))) 5 (.two 1 (.one 6 (.one 7 (.take 8 (.one 9 .done)))) 6 (.one 1 (.one 7 (.take 8 (.one 9 .done)))))))))) (fun _ => True)
            (by kernel_rfl) (by kernel_rfl) (by kernel_rfl) (by kernel_rfl) (fun d _ _ _ _ h => by cases d <;> exact h) trivial (fun _ => ?_)
          repeat (first
            | (refine SeqO.ld (v := ?_) rfl (by rfl) ?_ ?_; rotate_left; (· intro w _; go_simp; (try with_reducible rfl)); simp only [Act.put, List.setIfInBounds_toArray, List.set_cons_zero, List.set_cons_succ]))
          refine ⟨wpOp_stepS rfl (by rfl) (fun K hK => ?_), wpOp_stepS rfl (by rfl) (fun K hK => ?_)⟩
          · go_simp
            refine hK.out _ _ trivial (fun _ => ?_)
            clear hK K
            try simp only [Act.put, List.setIfInBounds_toArray, List.set_cons_zero, List.set_cons_succ]
            refine SeqO.step rfl (by rfl) (fun K hK => ?_)
            go_simp
            go_at_call 78
            refine (CC.out _ HP.out.2.2.2.2).mono ?_
            rintro e w1 ⟨rfl, hb1⟩
            try dsimp only
            have HP1 := Lib.hid (HP.out.below hb1)
            have c3 : World.cell? _ _ = some (.slice sa n sc) := HP1.out.2.2.1.cell 3
            clear HP hb1
            have HP := HP1
            clear HP1
            refine hK.out _ _ trivial (fun _ => ?_)
            clear hK K
            try simp only [Act.put, List.setIfInBounds_toArray, List.set_cons_zero, List.set_cons_succ]
            refine SeqO.step rfl (by rfl) (fun K hK => ?_)
            go_simp
            have HP1 := Lib.hid (HP.out.alloc (.cells #[.int .i64 col] 3))
            have c3 : World.cell? _ _ = some (.slice sa n sc) := HP1.out.2.2.1.cell 3
            clear HP
            have HP := HP1
            clear HP1
            refine hK.out _ _ trivial (fun _ => ?_)
            clear hK K
            try simp only [Act.put, List.setIfInBounds_toArray, List.set_cons_zero, List.set_cons_succ]
            clear c3
            refine SeqO.step rfl (by rfl) (fun K hK => ?_)
            refine wp_append_own _ _ _ 22 rfl (w.heap.size + 3) 3 i0 (.int .i64 0) 1 8 Tryz.underlying22 hi hz0 hz1 hz2 rfl (by decide) _ n _ rfl HP.out.2.2.2.1 ⟨_, 0, none⟩ 1 1 (intL col) rfl rfl (intL_at _ _ _) (intL_one _) (by unfold maxLen; omega) (by omega) (by have := HP.out.2.2.1.lt; omega) ?_
            intro v' w2 hown2 hgrow _
            have hp2 := OwnF.pushed hown2 HFN.out
            obtain ⟨g, cp, rfl, hg1, hg2⟩ := hp2.form (by omega)
            have HN := Lib.hid (HP.out.next hgrow hp2)
            have hB2 := HP.out.2.2.1.grown hgrow (fun e => by have := (World.ownsRow.lt HP.out.2.2.2.1 _ e.symm).1; omega)
            have c3 : World.cell? _ _ = some (.slice sa n sc) := hB2.cell 3
            have f3 := hB2.frozen 3
            clear HP hown2 hgrow hp2 hB2 hg1 hg2
            refine hK.out _ _ trivial (fun _ => ?_)
            clear hK K
            try simp only [Act.put, List.setIfInBounds_toArray, List.set_cons_zero, List.set_cons_succ]
            repeat (first
              | (refine SeqO.ld (v := ?_) rfl (by rfl) ?_ ?_; rotate_left; (· intro w _; go_simp; (try with_reducible rfl)); simp only [Act.put, List.setIfInBounds_toArray, List.set_cons_zero, List.set_cons_succ]))
            refine SeqO.step rfl (by rfl) (fun K hK => ?_)
            go_simp
            refine hK.out _ _ trivial (fun _ => ?_)
            clear hK K c3 f3
            try simp only [Act.put, List.setIfInBounds_toArray, List.set_cons_zero, List.set_cons_succ]
            refine SeqO.fin ?_
            go_wp2
            go_roundw
            case rel => exact ⟨x + 1, by omega, by go_num, Lib.hid ⟨_, by rw [show y * A + (x + 1) = n + 1 by rw [HNN.out]; omega]; exact HN.out⟩⟩
            case measure => simp [intOf]; omega
          · go_simp
            go_at_call 78
            refine (CC.out _ HP.out.2.2.2.2).mono ?_
            rintro e w1 ⟨rfl, hb1⟩
            try dsimp only
            have HP1 := Lib.hid (HP.out.below hb1)
            have c3 : World.cell? _ _ = some (.slice sa n sc) := HP1.out.2.2.1.cell 3
            clear HP hb1
            have HP := HP1
            clear HP1
            refine hK.out _ _ trivial (fun _ => ?_)
            clear hK K
            try simp only [Act.put, List.setIfInBounds_toArray, List.set_cons_zero, List.set_cons_succ]
            refine ⟨wpOp_stepS rfl (by rfl) (fun K hK => ?_), wpOp_stepS rfl (by rfl) (fun K hK => ?_)⟩
            · go_simp
              refine hK.out _ _ trivial (fun _ => ?_)
              clear hK K
              try simp only [Act.put, List.setIfInBounds_toArray, List.set_cons_zero, List.set_cons_succ]
              refine SeqO.step rfl (by rfl) (fun K hK => ?_)
              go_simp
              have HP1 := Lib.hid (HP.out.alloc (.cells #[.int .i64 col] 3))
              have c3 : World.cell? _ _ = some (.slice sa n sc) := HP1.out.2.2.1.cell 3
              clear HP
              have HP := HP1
              clear HP1
              refine hK.out _ _ trivial (fun _ => ?_)
              clear hK K
              try simp only [Act.put, List.setIfInBounds_toArray, List.set_cons_zero, List.set_cons_succ]
              clear c3
              refine SeqO.step rfl (by rfl) (fun K hK => ?_)
              refine wp_append_own _ _ _ 22 rfl (w.heap.size + 3) 3 i0 (.int .i64 0) 1 8 Tryz.underlying22 hi hz0 hz1 hz2 rfl (by decide) _ n _ rfl HP.out.2.2.2.1 ⟨_, 0, none⟩ 1 1 (intL col) rfl rfl (intL_at _ _ _) (intL_one _) (by unfold maxLen; omega) (by omega) (by have := HP.out.2.2.1.lt; omega) ?_
              intro v' w2 hown2 hgrow _
              have hp2 := OwnF.pushed hown2 HFN.out
              obtain ⟨g, cp, rfl, hg1, hg2⟩ := hp2.form (by omega)
              have HN := Lib.hid (HP.out.next hgrow hp2)
              have hB2 := HP.out.2.2.1.grown hgrow (fun e => by have := (World.ownsRow.lt HP.out.2.2.2.1 _ e.symm).1; omega)
              have c3 : World.cell? _ _ = some (.slice sa n sc) := hB2.cell 3
              have f3 := hB2.frozen 3
              clear HP hown2 hgrow hp2 hB2 hg1 hg2
              refine hK.out _ _ trivial (fun _ => ?_)
              clear hK K
              try simp only [Act.put, List.setIfInBounds_toArray, List.set_cons_zero, List.set_cons_succ]
              repeat (first
                | (refine SeqO.ld (v := ?_) rfl (by rfl) ?_ ?_; rotate_left; (· intro w _; go_simp; (try with_reducible rfl)); simp only [Act.put, List.setIfInBounds_toArray, List.set_cons_zero, List.set_cons_succ]))
              refine SeqO.step rfl (by rfl) (fun K hK => ?_)
              go_simp
              refine hK.out _ _ trivial (fun _ => ?_)
              clear hK K c3 f3
              try simp only [Act.put, List.setIfInBounds_toArray, List.set_cons_zero, List.set_cons_succ]
              refine SeqO.fin ?_
              go_wp2
              go_roundw
              case rel => exact ⟨x + 1, by omega, by go_num, Lib.hid ⟨_, by rw [show y * A + (x + 1) = n + 1 by rw [HNN.out]; omega]; exact HN.out⟩⟩
              case measure => simp [intOf]; omega
            · go_simp
              have HP1 := Lib.hid (HP.out.alloc (.cells #[.int .i64 col] 3))
              have c3 : World.cell? _ _ = some (.slice sa n sc) := HP1.out.2.2.1.cell 3
              clear HP
              have HP := HP1
              clear HP1
              refine hK.out _ _ trivial (fun _ => ?_)
              clear hK K
              try simp only [Act.put, List.setIfInBounds_toArray, List.set_cons_zero, List.set_cons_succ]
              refine SeqO.step rfl (by rfl) (fun K hK => ?_)
              go_simp
              refine hK.out _ _ trivial (fun _ => ?_)
              clear hK K
              try simp only [Act.put, List.setIfInBounds_toArray, List.set_cons_zero, List.set_cons_succ]
              clear c3
              refine SeqO.step rfl (by rfl) (fun K hK => ?_)
              refine wp_append_own _ _ _ 22 rfl (w.heap.size + 3) 3 i0 (.int .i64 0) 1 8 Tryz.underlying22 hi hz0 hz1 hz2 rfl (by decide) _ n _ rfl HP.out.2.2.2.1 ⟨_, 0, none⟩ 1 1 (intL col) rfl rfl (intL_at _ _ _) (intL_one _) (by unfold maxLen; omega) (by omega) (by have := HP.out.2.2.1.lt; omega) ?_
              intro v' w2 hown2 hgrow _
              have hp2 := OwnF.pushed hown2 HFN.out
              obtain ⟨g, cp, rfl, hg1, hg2⟩ := hp2.form (by omega)
              have HN := Lib.hid (HP.out.next hgrow hp2)
              have hB2 := HP.out.2.2.1.grown hgrow (fun e => by have := (World.ownsRow.lt HP.out.2.2.2.1 _ e.symm).1; omega)
              have c3 : World.cell? _ _ = some (.slice sa n sc) := hB2.cell 3
              have f3 := hB2.frozen 3
              clear HP hown2 hgrow hp2 hB2 hg1 hg2
              refine hK.out _ _ trivial (fun _ => ?_)
              clear hK K
              try simp only [Act.put, List.setIfInBounds_toArray, List.set_cons_zero, List.set_cons_succ]
              repeat (first
                | (refine SeqO.ld (v := ?_) rfl (by rfl) ?_ ?_; rotate_left; (· intro w _; go_simp; (try with_reducible rfl)); simp only [Act.put, List.setIfInBounds_toArray, List.set_cons_zero, List.set_cons_succ]))
              refine SeqO.step rfl (by rfl) (fun K hK => ?_)
              go_simp
              refine hK.out _ _ trivial (fun _ => ?_)
              clear hK K c3 f3
              try simp only [Act.put, List.setIfInBounds_toArray, List.set_cons_zero, List.set_cons_succ]
              refine SeqO.fin ?_
              go_wp2
              go_roundw
              case rel => exact ⟨x + 1, by omega, by go_num, Lib.hid ⟨_, by rw [show y * A + (x + 1) = n + 1 by rw [HNN.out]; omega]; exact HN.out⟩⟩
              case measure => simp [intOf]; omega
        · obtain rfl : x = A := by omega
          have hdx : decide ((x : Int) < l.a) = false := decide_eq_false (by omega)
          have HN := Lib.hid hgx.out
          clear hgx
          go_wp2
          go_roundw
          case rel => exact ⟨y + 1, by omega, by go_num, Lib.hid (by obtain ⟨v, h⟩ := HN.out; exact ⟨v, by rw [Nat.add_mul, Nat.one_mul]; exact h⟩)⟩
          case measure => simp [intOf]; omega
    · obtain rfl : y = D := by omega
      have hdy : decide ((y : Int) < l.c) = false := decide_eq_false (by omega)
      obtain ⟨k0, k1, k2, hown, hw⟩ := hg
      have hform : ∃ a c, v0 = .slice a (y * A) c := by
        rcases hown with ⟨_, ⟨h1, h2⟩ | ⟨g, cap, cur, h1, _⟩⟩
        · exact ⟨none, 0, by rw [h1, h2]⟩
        · exact ⟨_, _, h1⟩
      obtain ⟨sa, sc, rfl⟩ := hform
      have c0 : World.cell? _ _ = some (.int .i64 l.a) := k2.cell 0
      have c1 : World.cell? _ _ = some (.int .i64 l.b) := k2.cell 1
      have c2 : World.cell? _ _ = some (.int .i64 l.c) := k2.cell 2
      have c3 : World.cell? _ _ = some (.slice sa (y * A) sc) := k2.cell 3
      have d0 : World.cell? _ _ = some (.int .i64 0) := k1.cell 0
      have d1 : World.cell? _ _ = some (.int .i64 0) := k1.cell 1
      have d2 : World.cell? _ _ = some (.int .i64 0) := k1.cell 2
      have d3 : World.cell? _ _ = some (.slice none 0 0) := k1.cell 3
      have f0 := k1.frozen 0
      have f1 := k1.frozen 1
      have f2 := k1.frozen 2
      have f3 := k1.frozen 3
      have HN := Lib.hid (And.intro hown hw)
      clear k0 k1 k2 hown hw HG
      go_wp2
      refine bodyPost_ret (v := .agg #[.int .i64 l.a, .int .i64 l.b, .int .i64 l.c, .slice sa (y * A) sc]) (by simp [results, Tryz.results91, go_sem, d0, d1, d2, d3]) rfl ⟨_, rfl, ?_, ?_⟩
      · rw [HTOT.out]
        exact ((((HN.out.1.setOld (by simp) _).setOld (by simp) _).setOld (by simp) _).setOld (by simp) _).mono (by omega)
      · exact (((HN.out.2.setCell (by simp) _).setCell (by simp) _).setCell (by simp) _).setCell (by simp) _

set_option maxRecDepth 20000 in
set_option maxHeartbeats 4000000 in
theorem draw_shift (kk : Pt.Lat) (bp bx by' : Nat) (n : Int) (k l0 : Pt.Lat) (G : Int → Int → Prop) (gB : Int → Int → Bool) (f : Int → Int → Int) (w : World) (hG : Pt.Grp G) (hk : Pt.IsB G k) (hgB : ∀ x y, gB x y = true ↔ G x y) (hkn : k.a * k.c ≤ n) (hn1 : 1 ≤ n) (hn2 : n ≤ 30000) (hka : k.a ≤ 30000) (hkc : k.c ≤ 30000)
    (hper : ∀ x y, G x y → Pt.Per f x y) (hf : ∀ x y, 0 ≤ f x y ∧ f x y ≤ 1000) (h0 : Pt.IsB (Pt.Per f) l0) (hA : l0.a ≤ 30000) (hC : l0.c ≤ 30000)
    (HH : ∀ (dx dy : Int) W, 0 ≤ dx → dx ≤ 30000 → 0 ≤ dy → dy ≤ 30000 → Below w.heap.size w W → Calls Tryz.prog 93 #[latV kk, .int .i64 dx, .int .i64 dy] W fun e w' => e = .returned (.bool (gB dx dy)) ∧ Below W.heap.size W w')
    (HF : ∀ (x y : Int) W, 0 ≤ x → x ≤ 30000 → 0 ≤ y → y ≤ 30000 → Below w.heap.size w W → Calls Tryz.prog 78 #[.int .i64 x, .int .i64 y, .pointer (some ⟨bp, 0, none⟩), .pointer (some ⟨bx, 0, none⟩), .pointer (some ⟨by', 0, none⟩)] W fun e w' => e = .returned (.int .i64 (f x y)) ∧ Below W.heap.size W w') :
    Calls Tryz.prog 53 #[.agg #[.int .i64 n, .func (.func 93) #[latV kk] #[], .func (.func 78) #[] #[.pointer (some ⟨bp, 0, none⟩), .pointer (some ⟨bx, 0, none⟩), .pointer (some ⟨by', 0, none⟩)]]] w (DrawSays l0 f w) := by
  have F1 := Lib.hid (fun W (hW : Below w.heap.size w W) => find_has kk n k G gB W hG hk hgB hn1 hn2 hka hkc (fun dx dy X h1 h2 h3 h4 hX => HH dx dy X h1 h2 h3 h4 (below_step hW hX)))
  have hsk : small k := ⟨hk.ok, hka, hkc⟩
  have hs0 : small l0 := ⟨h0.ok, hA, hC⟩
  have P1 := Lib.hid (fun W (hW : Below w.heap.size w W) => paint_shift bp bx by' k f W hsk (fun x y X h1 h2 h3 h4 hX => HF x y X h1 h2 h3 h4 (below_step hW hX)))
  have P2 := Lib.hid (fun W (hW : Below w.heap.size w W) => paint_shift bp bx by' l0 f W hs0 (fun x y X h1 h2 h3 h4 hX => HF x y X h1 h2 h3 h4 (below_step hW hX)))
  have hperk : ∀ x y, Pt.inL k x y → Pt.Per f x y := fun x y h => hper x y ((hk.iff hG x y).2 h)
  have D1 := Lib.hid (fun W (v : Value) (cs : List Int) (bp : Nat) (hp : PatIn W k v cs) (hc : Pt.col k (csF cs) = f) (hb : PatAt W bp k v) => find_draw1 bp 144 l0 (Pt.Per f) (movedB k f f) W (Pt.per_grp f) h0 (fun x y => moved_per hk.ok hperk x y) (by omega) (by omega) hA hC (fun dx dy X h1 h2 h3 h4 hX => by
    have := draw1_any k v cs bp dx dy X (hp.all hX) (hb.all hX) (by omega) (by omega) (by omega) (by omega)
    rw [hc] at this
    exact this))
  have OP := Lib.hid (fun (base : Nat) (W : World) (v : Value) (h : OwnF base W v (k.a * k.c).toNat (Pt.cellF k f)) => own_patIn h hsk hf)
  have HPK := Lib.hid hperk
  have hpos : 0 < (k.a * k.c).toNat := by
    have := Int.mul_le_mul_of_nonneg_left hk.ok.2.2.2 (show 0 ≤ k.a by have := hk.ok.1; omega)
    have := hk.ok.1
    omega
  have hkk := Lib.hid hkn
  have hpos0 : 0 < (l0.a * l0.c).toNat := by
    have := Int.mul_le_mul_of_nonneg_left h0.ok.2.2.2 (show 0 ≤ l0.a by have := h0.ok.1; omega)
    have := h0.ok.1
    omega
  clear HH HF hG hk hgB hper hf h0 hperk hsk hs0 hkn
  have b0 := (BlockAt.new w #[.int .i64 n, .func (.func 93) #[latV kk] #[], .func (.func 78) #[] #[.pointer (some ⟨bp, 0, none⟩), .pointer (some ⟨bx, 0, none⟩), .pointer (some ⟨by', 0, none⟩)]] 73).alloc (.cells #[.int .i64 0, .int .i64 0, .int .i64 0, .slice none 0 0] 24)
  have b1 := BlockAt.new (w.alloc (.cells #[.int .i64 n, .func (.func 93) #[latV kk] #[], .func (.func 78) #[] #[.pointer (some ⟨bp, 0, none⟩), .pointer (some ⟨bx, 0, none⟩), .pointer (some ⟨by', 0, none⟩)]] 73)) #[.int .i64 0, .int .i64 0, .int .i64 0, .slice none 0 0] 24
  simp only [World.size_alloc] at b1
  have hw := below_alloc (below_alloc (Below.refl w.heap.size w) (.cells #[.int .i64 n, .func (.func 93) #[latV kk] #[], .func (.func 78) #[] #[.pointer (some ⟨bp, 0, none⟩), .pointer (some ⟨bx, 0, none⟩), .pointer (some ⟨by', 0, none⟩)]] 73)) (.cells #[.int .i64 0, .int .i64 0, .int .i64 0, .slice none 0 0] 24)
  go_enter Tryz.func53, Tryz.ntmps53
  go_wp2_with fail
  refine (F1.out _ hw).mono ?_
  rintro e w1 ⟨hyes, hno, hb1⟩
  obtain rfl := hyes hkk.out
  clear hyes hno hkk F1
  have B0 := Lib.hid (b0.below hb1 b0.lt)
  have B1 := Lib.hid (b1.below hb1 b1.lt)
  have HW := Lib.hid (below_step hw hb1)
  clear b0 b1 hw hb1
  have c2 : World.cell? _ _ = some (.func (.func 78) #[] #[.pointer (some ⟨bp, 0, none⟩), .pointer (some ⟨bx, 0, none⟩), .pointer (some ⟨by', 0, none⟩)]) := B0.out.cell 2
  have hlt0 := B0.out.lt
  have c2' : World.cell? (w1.alloc (.cells #[.int .i64 k.a, .int .i64 k.b, .int .i64 k.c] 63)) _ = some (.func (.func 78) #[] #[.pointer (some ⟨bp, 0, none⟩), .pointer (some ⟨bx, 0, none⟩), .pointer (some ⟨by', 0, none⟩)]) := (B0.out.alloc _).cell 2
  go_wp2_with fail
  refine (P1.out _ (below_alloc HW.out _)).mono ?_
  rintro e w2 ⟨v, rfl, hown, hb2⟩
  obtain ⟨g, cp, rfl, _, _⟩ := hown.form hpos
  obtain ⟨cs, hpat, hcol⟩ := OP.out _ _ _ hown
  have hcol := hcol HPK.out
  have B0' := Lib.hid ((B0.out.alloc _).below hb2 (B0.out.alloc _).lt)
  have B1' := Lib.hid ((B1.out.alloc _).below hb2 (B1.out.alloc _).lt)
  have HW2 := Lib.hid (below_step (below_alloc HW.out _) hb2)
  have D := Lib.hid (D1.out (w2.alloc (.cells #[.int .i64 k.a, .int .i64 k.b, .int .i64 k.c, .slice (some ⟨g, 0, none⟩) (k.a * k.c).toNat cp] 24)) _ cs w2.heap.size (hpat.all ((Below.refl _ _).alloc (Nat.le_refl _) _)) hcol (PatAt.fresh _ _ _ _))
  clear hown hb2 hpat hcol c2 c2' hlt0 B0 B1 HW OP HPK D1 P1
  go_wp2_with fail
  refine D.out.mono ?_
  rintro e w4 ⟨hyes, hno, hb4⟩
  have B0 := Lib.hid ((B0'.out.alloc _).below hb4 (B0'.out.alloc _).lt)
  have B1 := Lib.hid ((B1'.out.alloc _).below hb4 (B1'.out.alloc _).lt)
  have HW := Lib.hid (below_step (below_alloc HW2.out _) hb4)
  clear B0' B1' HW2 hb4 D
  by_cases hsz : l0.a * l0.c ≤ 144
  · obtain rfl := hyes hsz
    have HSZ := Lib.hid hsz
    have c2 : World.cell? _ _ = some (.func (.func 78) #[] #[.pointer (some ⟨bp, 0, none⟩), .pointer (some ⟨bx, 0, none⟩), .pointer (some ⟨by', 0, none⟩)]) := B0.out.cell 2
    have hlt0 := B0.out.lt
    have c2' : World.cell? (w4.alloc (.cells #[.int .i64 l0.a, .int .i64 l0.b, .int .i64 l0.c] 63)) _ = some (.func (.func 78) #[] #[.pointer (some ⟨bp, 0, none⟩), .pointer (some ⟨bx, 0, none⟩), .pointer (some ⟨by', 0, none⟩)]) := (B0.out.alloc _).cell 2
    clear hyes hno hsz
    go_wp2_with fail
    refine (P2.out _ (below_alloc HW.out _)).mono ?_
    rintro e w5 ⟨u, rfl, hown, hb5⟩
    obtain ⟨g2, cp2, rfl, _, _⟩ := hown.form hpos0
    have B1' := Lib.hid ((B1.out.alloc _).below hb5 (B1.out.alloc _).lt)
    have HW2 := Lib.hid (below_step (below_alloc HW.out _) hb5)
    have hsz4 : w.heap.size + 2 ≤ w4.heap.size := by have := B1.out.lt; omega
    have HO := Lib.hid hown
    clear hown hb5 c2 c2' hlt0 B0 P2
    have c0 : World.cell? _ _ = some (.int .i64 0) := B1'.out.cell 0
    have c1 : World.cell? _ _ = some (.int .i64 0) := B1'.out.cell 1
    have c2 : World.cell? _ _ = some (.int .i64 0) := B1'.out.cell 2
    have c3 : World.cell? _ _ = some (.slice none 0 0) := B1'.out.cell 3
    have f0 := B1'.out.frozen 0
    have f1 := B1'.out.frozen 1
    have f2 := B1'.out.frozen 2
    have f3 := B1'.out.frozen 3
    go_wp2
    refine bodyPost_ret (v := .tuple #[.agg #[.int .i64 l0.a, .int .i64 l0.b, .int .i64 l0.c, .slice (some ⟨g2, 0, none⟩) (l0.a * l0.c).toNat cp2], .int .i64 0]) (by simp [results, Tryz.results53, go_sem, c0, c1, c2, c3]) rfl ⟨fun _ => ⟨_, rfl, ?_⟩, fun h => absurd HSZ.out h, ?_⟩
    · exact ((((HO.out.setOld (by simp; omega) _).setOld (by simp; omega) _).setOld (by simp; omega) _).setOld (by simp; omega) _).mono (by simp; omega)
    · exact (((HW2.out.setCell (by simp) _).setCell (by simp) _).setCell (by simp) _).setCell (by simp) _
  · obtain rfl := hno hsz
    have HSZ := Lib.hid hsz
    clear hyes hno hsz P2
    have c0 : World.cell? _ _ = some (.int .i64 0) := B1.out.cell 0
    have c1 : World.cell? _ _ = some (.int .i64 0) := B1.out.cell 1
    have c2 : World.cell? _ _ = some (.int .i64 0) := B1.out.cell 2
    have c3 : World.cell? _ _ = some (.slice none 0 0) := B1.out.cell 3
    have f0 := B1.out.frozen 0
    have f1 := B1.out.frozen 1
    have f2 := B1.out.frozen 2
    have f3 := B1.out.frozen 3
    have hlt := B1.out.lt
    go_wp2
    refine bodyPost_ret (v := .tuple #[.agg #[.int .i64 0, .int .i64 0, .int .i64 0, .slice none 0 0], .int .i64 4]) (by simp [results, Tryz.results53, go_sem, c0, c1, c2, c3, hlt]) rfl ⟨fun h => by have := HSZ.out; omega, fun _ => rfl, ?_⟩
    exact below_alloc ((((HW.out.setCell (by simp) _).setCell (by simp) _).setCell (by simp) _).setCell (by simp) _) _

set_option maxRecDepth 20000 in
set_option maxHeartbeats 4000000 in
theorem paint_rec (bc bp : Nat) (l : Pt.Lat) (f : Int → Int → Int) (w : World) (hs : small l)
    (HF : ∀ (x y : Int) W, 0 ≤ x → x ≤ 30000 → 0 ≤ y → y ≤ 30000 → Below w.heap.size w W → Calls Tryz.prog 63 #[.int .i64 x, .int .i64 y, .pointer (some ⟨bc, 0, none⟩), .pointer (some ⟨bp, 0, none⟩)] W fun e w' => e = .returned (.int .i64 (f x y)) ∧ Below W.heap.size W w') :
    Calls Tryz.prog 91 #[latV l, .func (.func 63) #[] #[.pointer (some ⟨bc, 0, none⟩), .pointer (some ⟨bp, 0, none⟩)]] w fun e w' => ∃ v, e = .returned (patV l v) ∧ OwnF w.heap.size w' v (l.a * l.c).toNat (Pt.cellF l f) ∧ Below w.heap.size w w' := by
  obtain ⟨i0, hi, hz0, hz1, hz2⟩ := info_parts infoInt
  obtain ⟨⟨a1, a2, a3, a4⟩, a5, a6⟩ := hs
  have C := Lib.hid HF
  have H0 := Lib.hid (PSt.start w l (Pt.cellF l f))
  have FA := Lib.hid (fun (x y : Int) h1 h2 h3 => Pt.cellF_at (l := l) f (x := x) (y := y) h1 h2 h3)
  obtain ⟨A, hA⟩ : ∃ A : Nat, l.a = A := ⟨l.a.toNat, by omega⟩
  obtain ⟨D, hD⟩ : ∃ D : Nat, l.c = D := ⟨l.c.toNat, by omega⟩
  have HTOT : Hid ((l.a * l.c).toNat = D * A) := Lib.hid (by rw [hA, hD, ← Int.natCast_mul, Int.toNat_natCast, Nat.mul_comm])
  have HA := Lib.hid hA
  have HD := Lib.hid hD
  have hA1 : 1 ≤ A := by omega
  have hA3 : l.a ≤ (A : Int) := by omega
  have hA4 : (A : Int) ≤ l.a := by omega
  have hD3 : l.c ≤ (D : Int) := by omega
  have hD4 : (D : Int) ≤ l.c := by omega
  have hA2 : A ≤ 30000 := by omega
  have hD2 : D ≤ 30000 := by omega
  clear hA hD HF
  generalize hF : Pt.cellF l f = F at *
  clear hF
  go_enter Tryz.func91, Tryz.ntmps91
  go_wp2
  go_loopw [17] (fun t wr => ∃ y : Nat, y ≤ D ∧ t = .int .i64 (y : Int) ∧ Hid (∃ v, PSt w wr l F (y * A) v)) (fun t _ => D - (intOf t).toNat)
  case atStart => exact ⟨0, Nat.zero_le _, rfl, Lib.hid ⟨_, by rw [Nat.zero_mul]; exact H0.out⟩⟩
  case round =>
    obtain ⟨y, hyD, rfl, hg⟩ := hrel
    clear H0
    obtain ⟨v0, hg⟩ := hg.out
    have HG := Lib.hid hg
    by_cases hlt : y < D
    · have c0 : World.cell? _ _ = some (.int .i64 l.a) := hg.1.cell 0
      have hdy : decide ((y : Int) < l.c) = true := decide_eq_true (by omega)
      clear hg
      go_wp2
      clear c0
      go_loopw [22] (fun t wx => ∃ x : Nat, x ≤ A ∧ t = .int .i64 (x : Int) ∧ Hid (∃ v, PSt w wx l F (y * A + x) v)) (fun t _ => A - (intOf t).toNat)
      case atStart => exact ⟨0, Nat.zero_le _, rfl, Lib.hid ⟨_, HG.out⟩⟩
      case round =>
        obtain ⟨x, hxA, rfl, hgx⟩ := hrel
        clear HG
        by_cases hxlt : x < A
        · obtain ⟨v, hx⟩ := hgx.out
          have hform : ∃ a c, v = .slice a (y * A + x) c := by
            rcases hx.2.2.2.1 with ⟨_, ⟨h1, h2⟩ | ⟨g, cap, cur, h1, _⟩⟩
            · exact ⟨none, 0, by rw [h1, h2]⟩
            · exact ⟨_, _, h1⟩
          obtain ⟨sa, sc, rfl⟩ := hform
          have HP := Lib.hid hx.drew
          have CC := Lib.hid (fun W => C.out (x : Int) (y : Int) W (by omega) (by omega) (by omega) (by omega))
          have hfn := FA.out (x : Int) (y : Int) (by omega) (by rw [HA.out]; omega) (by omega)
          rw [HA.out, ← Int.natCast_mul, ← Int.natCast_add, Int.toNat_natCast] at hfn
          have hyA : y * A ≤ 900000000 := by
            have := Nat.mul_le_mul (show y ≤ 30000 by omega) hA2
            omega
          have HFN := Lib.hid hfn
          have c3 : World.cell? _ _ = some (.slice sa (y * A + x) sc) := hx.drew.2.2.1.cell 3
          have hdx : decide ((x : Int) < l.a) = true := decide_eq_true (by omega)
          generalize f (x : Int) (y : Int) = col at *
          obtain ⟨n, hn⟩ : ∃ n, n = y * A + x := ⟨_, rfl⟩
          rw [← hn] at HP HFN c3
          have HNN := Lib.hid hn
          have hnb : n ≤ 900030000 := by omega
          clear hfn hx hg hgx hyA hn
          go_upto_region 8 with fail
          refine wp_region_seq2 (.take 0 (.take 2 (.take 3 (.take 4 (.two 1 (.one 5 (.one 6 (.one 7 (.take 8 (.one 9 .done))))) 5 (.two 1 (.one 6 (.one 7 (.take 8 (.one 9 .done)))) 6 (.one 1 (.one 7 (.take 8 (.one 9 .done)))))))))) (fun _ => True)
            (by kernel_rfl) (by kernel_rfl) (by kernel_rfl) (by kernel_rfl) (fun d _ _ _ _ h => by cases d <;> exact h) trivial (fun _ => ?_)
          repeat (first
            | (refine SeqO.ld (v := ?_) rfl (by rfl) ?_ ?_; rotate_left; (· intro w _; go_simp; (try with_reducible rfl)); simp only [Act.put, List.setIfInBounds_toArray, List.set_cons_zero, List.set_cons_succ]))
          refine ⟨wpOp_stepS rfl (by rfl) (fun K hK => ?_), wpOp_stepS rfl (by rfl) (fun K hK => ?_)⟩
          · go_simp
            refine hK.out _ _ trivial (fun _ => ?_)
            clear hK K
            try simp only [Act.put, List.setIfInBounds_toArray, List.set_cons_zero, List.set_cons_succ]
            refine SeqO.step rfl (by rfl) (fun K hK => ?_)
            go_simp
            go_at_call 63
            refine (CC.out _ HP.out.2.2.2.2).mono ?_
            rintro e w1 ⟨rfl, hb1⟩
            try dsimp only
            have HP1 := Lib.hid (HP.out.below hb1)
            have c3 : World.cell? _ _ = some (.slice sa n sc) := HP1.out.2.2.1.cell 3
            clear HP hb1
            have HP := HP1
            clear HP1
            refine hK.out _ _ trivial (fun _ => ?_)
            clear hK K
            try simp only [Act.put, List.setIfInBounds_toArray, List.set_cons_zero, List.set_cons_succ]
            refine SeqO.step rfl (by rfl) (fun K hK => ?_)
            go_simp
            have HP1 := Lib.hid (HP.out.alloc (.cells #[.int .i64 col] 3))
            have c3 : World.cell? _ _ = some (.slice sa n sc) := HP1.out.2.2.1.cell 3
            clear HP
            have HP := HP1
            clear HP1
            refine hK.out _ _ trivial (fun _ => ?_)
            clear hK K
            try simp only [Act.put, List.setIfInBounds_toArray, List.set_cons_zero, List.set_cons_succ]
            clear c3
            refine SeqO.step rfl (by rfl) (fun K hK => ?_)
            refine wp_append_own _ _ _ 22 rfl (w.heap.size + 3) 3 i0 (.int .i64 0) 1 8 Tryz.underlying22 hi hz0 hz1 hz2 rfl (by decide) _ n _ rfl HP.out.2.2.2.1 ⟨_, 0, none⟩ 1 1 (intL col) rfl rfl (intL_at _ _ _) (intL_one _) (by unfold maxLen; omega) (by omega) (by have := HP.out.2.2.1.lt; omega) ?_
            intro v' w2 hown2 hgrow _
            have hp2 := OwnF.pushed hown2 HFN.out
            obtain ⟨g, cp, rfl, hg1, hg2⟩ := hp2.form (by omega)
            have HN := Lib.hid (HP.out.next hgrow hp2)
            have hB2 := HP.out.2.2.1.grown hgrow (fun e => by have := (World.ownsRow.lt HP.out.2.2.2.1 _ e.symm).1; omega)
            have c3 : World.cell? _ _ = some (.slice sa n sc) := hB2.cell 3
            have f3 := hB2.frozen 3
            clear HP hown2 hgrow hp2 hB2 hg1 hg2
            refine hK.out _ _ trivial (fun _ => ?_)
            clear hK K
            try simp only [Act.put, List.setIfInBounds_toArray, List.set_cons_zero, List.set_cons_succ]
            repeat (first
              | (refine SeqO.ld (v := ?_) rfl (by rfl) ?_ ?_; rotate_left; (· intro w _; go_simp; (try with_reducible rfl)); simp only [Act.put, List.setIfInBounds_toArray, List.set_cons_zero, List.set_cons_succ]))
            refine SeqO.step rfl (by rfl) (fun K hK => ?_)
            go_simp
            refine hK.out _ _ trivial (fun _ => ?_)
            clear hK K c3 f3
            try simp only [Act.put, List.setIfInBounds_toArray, List.set_cons_zero, List.set_cons_succ]
            refine SeqO.fin ?_
            go_wp2
            go_roundw
            case rel => exact ⟨x + 1, by omega, by go_num, Lib.hid ⟨_, by rw [show y * A + (x + 1) = n + 1 by rw [HNN.out]; omega]; exact HN.out⟩⟩
            case measure => simp [intOf]; omega
          · go_simp
            go_at_call 63
            refine (CC.out _ HP.out.2.2.2.2).mono ?_
            rintro e w1 ⟨rfl, hb1⟩
            try dsimp only
            have HP1 := Lib.hid (HP.out.below hb1)
            have c3 : World.cell? _ _ = some (.slice sa n sc) := HP1.out.2.2.1.cell 3
            clear HP hb1
            have HP := HP1
            clear HP1
            refine hK.out _ _ trivial (fun _ => ?_)
            clear hK K
            try simp only [Act.put, List.setIfInBounds_toArray, List.set_cons_zero, List.set_cons_succ]
            refine ⟨wpOp_stepS rfl (by rfl) (fun K hK => ?_), wpOp_stepS rfl (by rfl) (fun K hK => ?_)⟩
            · go_simp
              refine hK.out _ _ trivial (fun _ => ?_)
              clear hK K
              try simp only [Act.put, List.setIfInBounds_toArray, List.set_cons_zero, List.set_cons_succ]
              refine SeqO.step rfl (by rfl) (fun K hK => ?_)
              go_simp
              have HP1 := Lib.hid (HP.out.alloc (.cells #[.int .i64 col] 3))
              have c3 : World.cell? _ _ = some (.slice sa n sc) := HP1.out.2.2.1.cell 3
              clear HP
              have HP := HP1
              clear HP1
              refine hK.out _ _ trivial (fun _ => ?_)
              clear hK K
              try simp only [Act.put, List.setIfInBounds_toArray, List.set_cons_zero, List.set_cons_succ]
              clear c3
              refine SeqO.step rfl (by rfl) (fun K hK => ?_)
              refine wp_append_own _ _ _ 22 rfl (w.heap.size + 3) 3 i0 (.int .i64 0) 1 8 Tryz.underlying22 hi hz0 hz1 hz2 rfl (by decide) _ n _ rfl HP.out.2.2.2.1 ⟨_, 0, none⟩ 1 1 (intL col) rfl rfl (intL_at _ _ _) (intL_one _) (by unfold maxLen; omega) (by omega) (by have := HP.out.2.2.1.lt; omega) ?_
              intro v' w2 hown2 hgrow _
              have hp2 := OwnF.pushed hown2 HFN.out
              obtain ⟨g, cp, rfl, hg1, hg2⟩ := hp2.form (by omega)
              have HN := Lib.hid (HP.out.next hgrow hp2)
              have hB2 := HP.out.2.2.1.grown hgrow (fun e => by have := (World.ownsRow.lt HP.out.2.2.2.1 _ e.symm).1; omega)
              have c3 : World.cell? _ _ = some (.slice sa n sc) := hB2.cell 3
              have f3 := hB2.frozen 3
              clear HP hown2 hgrow hp2 hB2 hg1 hg2
              refine hK.out _ _ trivial (fun _ => ?_)
              clear hK K
              try simp only [Act.put, List.setIfInBounds_toArray, List.set_cons_zero, List.set_cons_succ]
              repeat (first
                | (refine SeqO.ld (v := ?_) rfl (by rfl) ?_ ?_; rotate_left; (· intro w _; go_simp; (try with_reducible rfl)); simp only [Act.put, List.setIfInBounds_toArray, List.set_cons_zero, List.set_cons_succ]))
              refine SeqO.step rfl (by rfl) (fun K hK => ?_)
              go_simp
              refine hK.out _ _ trivial (fun _ => ?_)
              clear hK K c3 f3
              try simp only [Act.put, List.setIfInBounds_toArray, List.set_cons_zero, List.set_cons_succ]
              refine SeqO.fin ?_
              go_wp2
              go_roundw
              case rel => exact ⟨x + 1, by omega, by go_num, Lib.hid ⟨_, by rw [show y * A + (x + 1) = n + 1 by rw [HNN.out]; omega]; exact HN.out⟩⟩
              case measure => simp [intOf]; omega
            · go_simp
              have HP1 := Lib.hid (HP.out.alloc (.cells #[.int .i64 col] 3))
              have c3 : World.cell? _ _ = some (.slice sa n sc) := HP1.out.2.2.1.cell 3
              clear HP
              have HP := HP1
              clear HP1
              refine hK.out _ _ trivial (fun _ => ?_)
              clear hK K
              try simp only [Act.put, List.setIfInBounds_toArray, List.set_cons_zero, List.set_cons_succ]
              refine SeqO.step rfl (by rfl) (fun K hK => ?_)
              go_simp
              refine hK.out _ _ trivial (fun _ => ?_)
              clear hK K
              try simp only [Act.put, List.setIfInBounds_toArray, List.set_cons_zero, List.set_cons_succ]
              clear c3
              refine SeqO.step rfl (by rfl) (fun K hK => ?_)
              refine wp_append_own _ _ _ 22 rfl (w.heap.size + 3) 3 i0 (.int .i64 0) 1 8 Tryz.underlying22 hi hz0 hz1 hz2 rfl (by decide) _ n _ rfl HP.out.2.2.2.1 ⟨_, 0, none⟩ 1 1 (intL col) rfl rfl (intL_at _ _ _) (intL_one _) (by unfold maxLen; omega) (by omega) (by have := HP.out.2.2.1.lt; omega) ?_
              intro v' w2 hown2 hgrow _
              have hp2 := OwnF.pushed hown2 HFN.out
              obtain ⟨g, cp, rfl, hg1, hg2⟩ := hp2.form (by omega)
              have HN := Lib.hid (HP.out.next hgrow hp2)
              have hB2 := HP.out.2.2.1.grown hgrow (fun e => by have := (World.ownsRow.lt HP.out.2.2.2.1 _ e.symm).1; omega)
              have c3 : World.cell? _ _ = some (.slice sa n sc) := hB2.cell 3
              have f3 := hB2.frozen 3
              clear HP hown2 hgrow hp2 hB2 hg1 hg2
              refine hK.out _ _ trivial (fun _ => ?_)
              clear hK K
              try simp only [Act.put, List.setIfInBounds_toArray, List.set_cons_zero, List.set_cons_succ]
              repeat (first
                | (refine SeqO.ld (v := ?_) rfl (by rfl) ?_ ?_; rotate_left; (· intro w _; go_simp; (try with_reducible rfl)); simp only [Act.put, List.setIfInBounds_toArray, List.set_cons_zero, List.set_cons_succ]))
              refine SeqO.step rfl (by rfl) (fun K hK => ?_)
              go_simp
              refine hK.out _ _ trivial (fun _ => ?_)
              clear hK K c3 f3
              try simp only [Act.put, List.setIfInBounds_toArray, List.set_cons_zero, List.set_cons_succ]
              refine SeqO.fin ?_
              go_wp2
              go_roundw
              case rel => exact ⟨x + 1, by omega, by go_num, Lib.hid ⟨_, by rw [show y * A + (x + 1) = n + 1 by rw [HNN.out]; omega]; exact HN.out⟩⟩
              case measure => simp [intOf]; omega
        · obtain rfl : x = A := by omega
          have hdx : decide ((x : Int) < l.a) = false := decide_eq_false (by omega)
          have HN := Lib.hid hgx.out
          clear hgx
          go_wp2
          go_roundw
          case rel => exact ⟨y + 1, by omega, by go_num, Lib.hid (by obtain ⟨v, h⟩ := HN.out; exact ⟨v, by rw [Nat.add_mul, Nat.one_mul]; exact h⟩)⟩
          case measure => simp [intOf]; omega
    · obtain rfl : y = D := by omega
      have hdy : decide ((y : Int) < l.c) = false := decide_eq_false (by omega)
      obtain ⟨k0, k1, k2, hown, hw⟩ := hg
      have hform : ∃ a c, v0 = .slice a (y * A) c := by
        rcases hown with ⟨_, ⟨h1, h2⟩ | ⟨g, cap, cur, h1, _⟩⟩
        · exact ⟨none, 0, by rw [h1, h2]⟩
        · exact ⟨_, _, h1⟩
      obtain ⟨sa, sc, rfl⟩ := hform
      have c0 : World.cell? _ _ = some (.int .i64 l.a) := k2.cell 0
      have c1 : World.cell? _ _ = some (.int .i64 l.b) := k2.cell 1
      have c2 : World.cell? _ _ = some (.int .i64 l.c) := k2.cell 2
      have c3 : World.cell? _ _ = some (.slice sa (y * A) sc) := k2.cell 3
      have d0 : World.cell? _ _ = some (.int .i64 0) := k1.cell 0
      have d1 : World.cell? _ _ = some (.int .i64 0) := k1.cell 1
      have d2 : World.cell? _ _ = some (.int .i64 0) := k1.cell 2
      have d3 : World.cell? _ _ = some (.slice none 0 0) := k1.cell 3
      have f0 := k1.frozen 0
      have f1 := k1.frozen 1
      have f2 := k1.frozen 2
      have f3 := k1.frozen 3
      have HN := Lib.hid (And.intro hown hw)
      clear k0 k1 k2 hown hw HG
      go_wp2
      refine bodyPost_ret (v := .agg #[.int .i64 l.a, .int .i64 l.b, .int .i64 l.c, .slice sa (y * A) sc]) (by simp [results, Tryz.results91, go_sem, d0, d1, d2, d3]) rfl ⟨_, rfl, ?_, ?_⟩
      · rw [HTOT.out]
        exact ((((HN.out.1.setOld (by simp) _).setOld (by simp) _).setOld (by simp) _).setOld (by simp) _).mono (by omega)
      · exact (((HN.out.2.setCell (by simp) _).setCell (by simp) _).setCell (by simp) _).setCell (by simp) _

set_option maxRecDepth 20000 in
set_option maxHeartbeats 4000000 in
theorem draw_rec (kk : Pt.Lat) (bc bp : Nat) (n : Int) (k l0 : Pt.Lat) (G : Int → Int → Prop) (gB : Int → Int → Bool) (f : Int → Int → Int) (w : World) (hG : Pt.Grp G) (hk : Pt.IsB G k) (hgB : ∀ x y, gB x y = true ↔ G x y) (hkn : k.a * k.c ≤ n) (hn1 : 1 ≤ n) (hn2 : n ≤ 30000) (hka : k.a ≤ 30000) (hkc : k.c ≤ 30000)
    (hper : ∀ x y, G x y → Pt.Per f x y) (hf : ∀ x y, 0 ≤ f x y ∧ f x y ≤ 1000) (h0 : Pt.IsB (Pt.Per f) l0) (hA : l0.a ≤ 30000) (hC : l0.c ≤ 30000)
    (HH : ∀ (dx dy : Int) W, 0 ≤ dx → dx ≤ 30000 → 0 ≤ dy → dy ≤ 30000 → Below w.heap.size w W → Calls Tryz.prog 93 #[latV kk, .int .i64 dx, .int .i64 dy] W fun e w' => e = .returned (.bool (gB dx dy)) ∧ Below W.heap.size W w')
    (HF : ∀ (x y : Int) W, 0 ≤ x → x ≤ 30000 → 0 ≤ y → y ≤ 30000 → Below w.heap.size w W → Calls Tryz.prog 63 #[.int .i64 x, .int .i64 y, .pointer (some ⟨bc, 0, none⟩), .pointer (some ⟨bp, 0, none⟩)] W fun e w' => e = .returned (.int .i64 (f x y)) ∧ Below W.heap.size W w') :
    Calls Tryz.prog 53 #[.agg #[.int .i64 n, .func (.func 93) #[latV kk] #[], .func (.func 63) #[] #[.pointer (some ⟨bc, 0, none⟩), .pointer (some ⟨bp, 0, none⟩)]]] w (DrawSays l0 f w) := by
  have F1 := Lib.hid (fun W (hW : Below w.heap.size w W) => find_has kk n k G gB W hG hk hgB hn1 hn2 hka hkc (fun dx dy X h1 h2 h3 h4 hX => HH dx dy X h1 h2 h3 h4 (below_step hW hX)))
  have hsk : small k := ⟨hk.ok, hka, hkc⟩
  have hs0 : small l0 := ⟨h0.ok, hA, hC⟩
  have P1 := Lib.hid (fun W (hW : Below w.heap.size w W) => paint_rec bc bp k f W hsk (fun x y X h1 h2 h3 h4 hX => HF x y X h1 h2 h3 h4 (below_step hW hX)))
  have P2 := Lib.hid (fun W (hW : Below w.heap.size w W) => paint_rec bc bp l0 f W hs0 (fun x y X h1 h2 h3 h4 hX => HF x y X h1 h2 h3 h4 (below_step hW hX)))
  have hperk : ∀ x y, Pt.inL k x y → Pt.Per f x y := fun x y h => hper x y ((hk.iff hG x y).2 h)
  have D1 := Lib.hid (fun W (v : Value) (cs : List Int) (bp : Nat) (hp : PatIn W k v cs) (hc : Pt.col k (csF cs) = f) (hb : PatAt W bp k v) => find_draw1 bp 144 l0 (Pt.Per f) (movedB k f f) W (Pt.per_grp f) h0 (fun x y => moved_per hk.ok hperk x y) (by omega) (by omega) hA hC (fun dx dy X h1 h2 h3 h4 hX => by
    have := draw1_any k v cs bp dx dy X (hp.all hX) (hb.all hX) (by omega) (by omega) (by omega) (by omega)
    rw [hc] at this
    exact this))
  have OP := Lib.hid (fun (base : Nat) (W : World) (v : Value) (h : OwnF base W v (k.a * k.c).toNat (Pt.cellF k f)) => own_patIn h hsk hf)
  have HPK := Lib.hid hperk
  have hpos : 0 < (k.a * k.c).toNat := by
    have := Int.mul_le_mul_of_nonneg_left hk.ok.2.2.2 (show 0 ≤ k.a by have := hk.ok.1; omega)
    have := hk.ok.1
    omega
  have hkk := Lib.hid hkn
  have hpos0 : 0 < (l0.a * l0.c).toNat := by
    have := Int.mul_le_mul_of_nonneg_left h0.ok.2.2.2 (show 0 ≤ l0.a by have := h0.ok.1; omega)
    have := h0.ok.1
    omega
  clear HH HF hG hk hgB hper hf h0 hperk hsk hs0 hkn
  have b0 := (BlockAt.new w #[.int .i64 n, .func (.func 93) #[latV kk] #[], .func (.func 63) #[] #[.pointer (some ⟨bc, 0, none⟩), .pointer (some ⟨bp, 0, none⟩)]] 73).alloc (.cells #[.int .i64 0, .int .i64 0, .int .i64 0, .slice none 0 0] 24)
  have b1 := BlockAt.new (w.alloc (.cells #[.int .i64 n, .func (.func 93) #[latV kk] #[], .func (.func 63) #[] #[.pointer (some ⟨bc, 0, none⟩), .pointer (some ⟨bp, 0, none⟩)]] 73)) #[.int .i64 0, .int .i64 0, .int .i64 0, .slice none 0 0] 24
  simp only [World.size_alloc] at b1
  have hw := below_alloc (below_alloc (Below.refl w.heap.size w) (.cells #[.int .i64 n, .func (.func 93) #[latV kk] #[], .func (.func 63) #[] #[.pointer (some ⟨bc, 0, none⟩), .pointer (some ⟨bp, 0, none⟩)]] 73)) (.cells #[.int .i64 0, .int .i64 0, .int .i64 0, .slice none 0 0] 24)
  go_enter Tryz.func53, Tryz.ntmps53
  go_wp2_with fail
  refine (F1.out _ hw).mono ?_
  rintro e w1 ⟨hyes, hno, hb1⟩
  obtain rfl := hyes hkk.out
  clear hyes hno hkk F1
  have B0 := Lib.hid (b0.below hb1 b0.lt)
  have B1 := Lib.hid (b1.below hb1 b1.lt)
  have HW := Lib.hid (below_step hw hb1)
  clear b0 b1 hw hb1
  have c2 : World.cell? _ _ = some (.func (.func 63) #[] #[.pointer (some ⟨bc, 0, none⟩), .pointer (some ⟨bp, 0, none⟩)]) := B0.out.cell 2
  have hlt0 := B0.out.lt
  have c2' : World.cell? (w1.alloc (.cells #[.int .i64 k.a, .int .i64 k.b, .int .i64 k.c] 63)) _ = some (.func (.func 63) #[] #[.pointer (some ⟨bc, 0, none⟩), .pointer (some ⟨bp, 0, none⟩)]) := (B0.out.alloc _).cell 2
  go_wp2_with fail
  refine (P1.out _ (below_alloc HW.out _)).mono ?_
  rintro e w2 ⟨v, rfl, hown, hb2⟩
  obtain ⟨g, cp, rfl, _, _⟩ := hown.form hpos
  obtain ⟨cs, hpat, hcol⟩ := OP.out _ _ _ hown
  have hcol := hcol HPK.out
  have B0' := Lib.hid ((B0.out.alloc _).below hb2 (B0.out.alloc _).lt)
  have B1' := Lib.hid ((B1.out.alloc _).below hb2 (B1.out.alloc _).lt)
  have HW2 := Lib.hid (below_step (below_alloc HW.out _) hb2)
  have D := Lib.hid (D1.out (w2.alloc (.cells #[.int .i64 k.a, .int .i64 k.b, .int .i64 k.c, .slice (some ⟨g, 0, none⟩) (k.a * k.c).toNat cp] 24)) _ cs w2.heap.size (hpat.all ((Below.refl _ _).alloc (Nat.le_refl _) _)) hcol (PatAt.fresh _ _ _ _))
  clear hown hb2 hpat hcol c2 c2' hlt0 B0 B1 HW OP HPK D1 P1
  go_wp2_with fail
  refine D.out.mono ?_
  rintro e w4 ⟨hyes, hno, hb4⟩
  have B0 := Lib.hid ((B0'.out.alloc _).below hb4 (B0'.out.alloc _).lt)
  have B1 := Lib.hid ((B1'.out.alloc _).below hb4 (B1'.out.alloc _).lt)
  have HW := Lib.hid (below_step (below_alloc HW2.out _) hb4)
  clear B0' B1' HW2 hb4 D
  by_cases hsz : l0.a * l0.c ≤ 144
  · obtain rfl := hyes hsz
    have HSZ := Lib.hid hsz
    have c2 : World.cell? _ _ = some (.func (.func 63) #[] #[.pointer (some ⟨bc, 0, none⟩), .pointer (some ⟨bp, 0, none⟩)]) := B0.out.cell 2
    have hlt0 := B0.out.lt
    have c2' : World.cell? (w4.alloc (.cells #[.int .i64 l0.a, .int .i64 l0.b, .int .i64 l0.c] 63)) _ = some (.func (.func 63) #[] #[.pointer (some ⟨bc, 0, none⟩), .pointer (some ⟨bp, 0, none⟩)]) := (B0.out.alloc _).cell 2
    clear hyes hno hsz
    go_wp2_with fail
    refine (P2.out _ (below_alloc HW.out _)).mono ?_
    rintro e w5 ⟨u, rfl, hown, hb5⟩
    obtain ⟨g2, cp2, rfl, _, _⟩ := hown.form hpos0
    have B1' := Lib.hid ((B1.out.alloc _).below hb5 (B1.out.alloc _).lt)
    have HW2 := Lib.hid (below_step (below_alloc HW.out _) hb5)
    have hsz4 : w.heap.size + 2 ≤ w4.heap.size := by have := B1.out.lt; omega
    have HO := Lib.hid hown
    clear hown hb5 c2 c2' hlt0 B0 P2
    have c0 : World.cell? _ _ = some (.int .i64 0) := B1'.out.cell 0
    have c1 : World.cell? _ _ = some (.int .i64 0) := B1'.out.cell 1
    have c2 : World.cell? _ _ = some (.int .i64 0) := B1'.out.cell 2
    have c3 : World.cell? _ _ = some (.slice none 0 0) := B1'.out.cell 3
    have f0 := B1'.out.frozen 0
    have f1 := B1'.out.frozen 1
    have f2 := B1'.out.frozen 2
    have f3 := B1'.out.frozen 3
    go_wp2
    refine bodyPost_ret (v := .tuple #[.agg #[.int .i64 l0.a, .int .i64 l0.b, .int .i64 l0.c, .slice (some ⟨g2, 0, none⟩) (l0.a * l0.c).toNat cp2], .int .i64 0]) (by simp [results, Tryz.results53, go_sem, c0, c1, c2, c3]) rfl ⟨fun _ => ⟨_, rfl, ?_⟩, fun h => absurd HSZ.out h, ?_⟩
    · exact ((((HO.out.setOld (by simp; omega) _).setOld (by simp; omega) _).setOld (by simp; omega) _).setOld (by simp; omega) _).mono (by simp; omega)
    · exact (((HW2.out.setCell (by simp) _).setCell (by simp) _).setCell (by simp) _).setCell (by simp) _
  · obtain rfl := hno hsz
    have HSZ := Lib.hid hsz
    clear hyes hno hsz P2
    have c0 : World.cell? _ _ = some (.int .i64 0) := B1.out.cell 0
    have c1 : World.cell? _ _ = some (.int .i64 0) := B1.out.cell 1
    have c2 : World.cell? _ _ = some (.int .i64 0) := B1.out.cell 2
    have c3 : World.cell? _ _ = some (.slice none 0 0) := B1.out.cell 3
    have f0 := B1.out.frozen 0
    have f1 := B1.out.frozen 1
    have f2 := B1.out.frozen 2
    have f3 := B1.out.frozen 3
    have hlt := B1.out.lt
    go_wp2
    refine bodyPost_ret (v := .tuple #[.agg #[.int .i64 0, .int .i64 0, .int .i64 0, .slice none 0 0], .int .i64 4]) (by simp [results, Tryz.results53, go_sem, c0, c1, c2, c3, hlt]) rfl ⟨fun h => by have := HSZ.out; omega, fun _ => rfl, ?_⟩
    exact below_alloc ((((HW.out.setCell (by simp) _).setCell (by simp) _).setCell (by simp) _).setCell (by simp) _) _
end Go.Proofs.YtobolflgoljafaaGreatDoor
namespace Go.Proofs.YtobolflgoljafaaGreatDoor
open Go.RowKit

set_option maxRecDepth 20000 in
set_option maxHeartbeats 1000000 in
theorem shift1_any (l : Pt.Lat) (v : Value) (cs : List Int) (bp bx by' : Nat) (x y dx dy : Int) (w : World) (hp : PatIn w l v cs) (hB : PatAt w bp l v) (h1 : w.cell? ⟨bx, 0, none⟩ = some (.int .i64 dx)) (h2 : w.cell? ⟨by', 0, none⟩ = some (.int .i64 dy))
    (hx : -500000 ≤ x) (hx2 : x ≤ 500000) (hy : -500000 ≤ y) (hy2 : y ≤ 500000) (kx : -500000 ≤ dx) (kx2 : dx ≤ 500000) (ky : -500000 ≤ dy) (ky2 : dy ≤ 500000) :
    Calls Tryz.prog 78 #[.int .i64 x, .int .i64 y, .pointer (some ⟨bp, 0, none⟩), .pointer (some ⟨bx, 0, none⟩), .pointer (some ⟨by', 0, none⟩)] w fun e w' => e = .returned (.int .i64 (Pt.col l (csF cs) (x - dx) (y - dy))) ∧ Below w.heap.size w w' := by
  have M := Lib.hid (fun W hW => colorAt_any l v cs (x - dx) (y - dy) W (hp.all hW) (by omega) (by omega) (by omega) (by omega))
  generalize Pt.col l (csF cs) (x - dx) (y - dy) = r at *
  obtain ⟨c0, c1, c2, c3, _⟩ := hB
  obtain ⟨_, _, _, _, rfl, _⟩ := hp.at_ 0 0
  have g1 : IntKind.i64.wrap (x - dx) = x - dx := IntWalk.i64_in _ ⟨by omega, by omega⟩
  have g2 : IntKind.i64.wrap (y - dy) = y - dy := IntWalk.i64_in _ ⟨by omega, by omega⟩
  clear hp
  go_enter Tryz.func78, Tryz.ntmps78
  go_wp2_with fail
  refine (M.out _ (by repeat' (first | exact Below.refl _ _ | apply below_drewN))).mono ?_
  rintro e w1 ⟨rfl, hb1⟩
  go_wp2
  go_ret
  exact ⟨rfl, by first | exact hb1 | exact (Below.refl _ _).trans hb1⟩

theorem shift_draw {A B C : Int} {cs : List Int} (h : validE A B C cs = 0) (v : Value) (bp bx by' : Nat) (dx dy : Int) (X : World) (hv : Ints X v cs) (hB : PatAt X bp ⟨A, B, C⟩ v)
    (h1 : X.cell? ⟨bx, 0, none⟩ = some (.int .i64 dx)) (h2 : X.cell? ⟨by', 0, none⟩ = some (.int .i64 dy)) (hbx : bx < X.heap.size) (hby : by' < X.heap.size) (kx : -100000 ≤ dx) (kx2 : dx ≤ 100000) (ky : -100000 ≤ dy) (ky2 : dy ≤ 100000) :
    Calls Tryz.prog 53 #[.agg #[.int .i64 (cs.length : Int), .func (.func 93) #[latV ⟨A, B, C⟩] #[], .func (.func 78) #[] #[.pointer (some ⟨bp, 0, none⟩), .pointer (some ⟨bx, 0, none⟩), .pointer (some ⟨by', 0, none⟩)]]] X (PatRes 0 (latF (Pt.shiF dx dy (Pt.col ⟨A, B, C⟩ (csF cs)))) (Pt.shiF dx dy (Pt.col ⟨A, B, C⟩ (csF cs))) X) := by
  obtain ⟨ok, sm, hm, hp1, hlen, hcol, pl⟩ := plane_of h
  have hp := (valid_in h hv).1
  have pr := pl.shi dx dy
  have hs2 := pr.sizeP
  obtain ⟨z1, z2, z3⟩ := lat_small pr.isP.ok (n := 144) (by omega)
  obtain ⟨k1, k2, k3⟩ := lat_small ok (n := 144) hm
  dsimp only at k1 k2
  refine (draw_shift ⟨A, B, C⟩ bp bx by' cs.length ⟨A, B, C⟩ _ (Pt.inL ⟨A, B, C⟩) (hasB ⟨A, B, C⟩) _ X pr.grp (Pt.ofLat_isB ok) (fun x y => hasB_iff ok _ _) (by dsimp only; omega) (by omega) (by omega) (by dsimp only; omega) (by dsimp only; omega) pr.per (fun x y => hcol _ _) pr.isP (by omega) (by omega)
    (fun dx dy W e1 e2 e3 e4 hW => ?_) (fun x y W e1 e2 e3 e4 hW => ?_)).mono ?_
  · exact has_any ⟨A, B, C⟩ dx dy W sm (by omega) (by omega) (by omega) (by omega)
  · exact shift1_any ⟨A, B, C⟩ v cs bp bx by' x y dx dy W (hp.all hW) (hB.all hW) ((hW.cell (p := ⟨bx, 0, none⟩) hbx).trans h1) ((hW.cell (p := ⟨by', 0, none⟩) hby).trans h2) (by omega) (by omega) (by omega) (by omega) (by omega) (by omega) (by omega) (by omega)
  · rintro e w' ⟨hy, _, hb⟩
    exact patRes_of (fun _ => hy (by omega)) (fun h => absurd rfl h) hb

set_option maxRecDepth 20000 in
set_option maxHeartbeats 2000000 in
theorem shift_any (A B C : Int) (v : Value) (cs : List Int) (dx dy : Int) (w : World) (hv : Ints w v cs) (hkl : cs.length ≤ 1000000000) (hA1 : -9223372036854775808 ≤ A) (hA2 : A ≤ 9223372036854775807) :
    Calls Tryz.prog 37 #[.agg #[.int .i64 A, .int .i64 B, .int .i64 C, v], .int .i64 dx, .int .i64 dy] w (PatRes (placeE A B C cs dx dy) (latF (Pt.shiF dx dy (Pt.col ⟨A, B, C⟩ (csF cs)))) (Pt.shiF dx dy (Pt.col ⟨A, B, C⟩ (csF cs))) w) := by
  have hmf : ∀ (fn : Fn) (first cap : Array Value) (w : World), (Instr.makeFunc fn first cap).run Tryz.prog w = .ok (.func fn first cap) w := fun _ _ _ _ => rfl
  have VA := Lib.hid (fun W (hW : Below w.heap.size w W) => validatePlace_any A B C v cs dx dy W (hv.all hW) hkl hA1 hA2)
  obtain ⟨va, vc, rfl, _⟩ := hv.look'
  have DR := Lib.hid (fun (h : placeE A B C cs dx dy = 0) (bp bx by' : Nat) (X : World) (hX : Below w.heap.size w X) hB h1 h2 h3 h4 => shift_draw (place_ok h).1 _ bp bx by' dx dy X (hv.all hX) hB h1 h2 h3 h4 (place_ok h).2.1.1 (place_ok h).2.1.2 (place_ok h).2.2.1 (place_ok h).2.2.2)
  have HSM : Hid (placeE A B C cs dx dy = 0 → cs.length ≤ 1000000) := Lib.hid fun h => by have := (plane_of (place_ok h).1).2.2.1; have := (plane_of (place_ok h).1).2.2.2.2.1; omega
  have b0 := (((BlockAt.new w #[.int .i64 A, .int .i64 B, .int .i64 C, .slice va cs.length vc] 24).alloc (.cells #[.int .i64 dx] 3)).alloc (.cells #[.int .i64 dy] 3)).alloc (.cells #[.int .i64 0, .int .i64 0, .int .i64 0, .slice none 0 0] 24)
  have b1 := ((BlockAt.new (w.alloc (.cells #[.int .i64 A, .int .i64 B, .int .i64 C, .slice va cs.length vc] 24)) #[.int .i64 dx] 3).alloc (.cells #[.int .i64 dy] 3)).alloc (.cells #[.int .i64 0, .int .i64 0, .int .i64 0, .slice none 0 0] 24)
  have b2 := (BlockAt.new ((w.alloc (.cells #[.int .i64 A, .int .i64 B, .int .i64 C, .slice va cs.length vc] 24)).alloc (.cells #[.int .i64 dx] 3)) #[.int .i64 dy] 3).alloc (.cells #[.int .i64 0, .int .i64 0, .int .i64 0, .slice none 0 0] 24)
  have b3 := BlockAt.new (((w.alloc (.cells #[.int .i64 A, .int .i64 B, .int .i64 C, .slice va cs.length vc] 24)).alloc (.cells #[.int .i64 dx] 3)).alloc (.cells #[.int .i64 dy] 3)) #[.int .i64 0, .int .i64 0, .int .i64 0, .slice none 0 0] 24
  simp only [World.size_alloc] at b1 b2 b3
  have hw := below_alloc (below_alloc (below_alloc (below_alloc (Below.refl w.heap.size w) (.cells #[.int .i64 A, .int .i64 B, .int .i64 C, .slice va cs.length vc] 24)) (.cells #[.int .i64 dx] 3)) (.cells #[.int .i64 dy] 3)) (.cells #[.int .i64 0, .int .i64 0, .int .i64 0, .slice none 0 0] 24)
  have HB := Lib.hid (And.intro b0 (And.intro b1 (And.intro b2 (And.intro b3 hw))))
  clear b0 b1 b2 b3 hw hv
  unfold PatRes at DR ⊢
  generalize Pt.shiF dx dy (Pt.col ⟨A, B, C⟩ (csF cs)) = F at *
  generalize latF F = L at *
  by_cases hz : placeE A B C cs dx dy = 0
  · have D := Lib.hid (DR.out hz)
    have hlen := HSM.out hz
    have PO := Lib.hid (fun W => planeOf_any ⟨A, B, C⟩ cs.length va vc W hlen)
    rw [hz] at VA ⊢
    generalize ansC 0 L F = K at *
    generalize ansL 0 L = LL at *
    clear DR HSM hz hlen
    go_enter Tryz.func37, Tryz.ntmps37
    have c0 : World.cell? _ _ = some (.int .i64 A) := HB.out.1.cell 0
    have c1 : World.cell? _ _ = some (.int .i64 B) := HB.out.1.cell 1
    have c2 : World.cell? _ _ = some (.int .i64 C) := HB.out.1.cell 2
    have c3 : World.cell? _ _ = some (.slice va cs.length vc) := HB.out.1.cell 3
    have c4 : World.cell? _ _ = some (.int .i64 dx) := HB.out.2.1.cell 0
    have c5 : World.cell? _ _ = some (.int .i64 dy) := HB.out.2.2.1.cell 0
    go_wp2_with fail
    refine (VA.out _ HB.out.2.2.2.2).mono ?_
    rintro e w1 ⟨rfl, hb1⟩
    have H1 := Lib.hid (And.intro (HB.out.1.below hb1 HB.out.1.lt) (And.intro (HB.out.2.1.below hb1 HB.out.2.1.lt) (And.intro (HB.out.2.2.1.below hb1 HB.out.2.2.1.lt) (And.intro (HB.out.2.2.2.1.below hb1 HB.out.2.2.2.1.lt) (below_step HB.out.2.2.2.2 hb1)))))
    clear hb1 HB VA c0 c1 c2 c3 c4 c5
    have c0 : World.cell? _ _ = some (.int .i64 A) := H1.out.1.cell 0
    have c1 : World.cell? _ _ = some (.int .i64 B) := H1.out.1.cell 1
    have c2 : World.cell? _ _ = some (.int .i64 C) := H1.out.1.cell 2
    have c3 : World.cell? _ _ = some (.slice va cs.length vc) := H1.out.1.cell 3
    go_wp2_with fail
    refine (PO.out _).mono ?_
    rintro e w2 ⟨rfl, hpa, hlt2, hb2⟩
    obtain ⟨X, hX⟩ : ∃ X, (w2.alloc (.cells #[.int .i64 (cs.length : Int), .func (.func 93) #[latV ⟨A, B, C⟩] #[], .func (.func 94) #[] #[.pointer (some ⟨w1.heap.size, 0, none⟩)]] 73)) = X := ⟨_, rfl⟩
    have H2 : Hid (BlockAt X w2.heap.size #[.int .i64 (cs.length : Int), .func (.func 93) #[latV ⟨A, B, C⟩] #[], .func (.func 94) #[] #[.pointer (some ⟨w1.heap.size, 0, none⟩)]] 73 ∧ BlockAt X w.heap.size #[.int .i64 A, .int .i64 B, .int .i64 C, .slice va cs.length vc] 24 ∧ BlockAt X (w.heap.size + 1) #[.int .i64 dx] 3 ∧ BlockAt X (w.heap.size + 1 + 1) #[.int .i64 dy] 3 ∧ BlockAt X (w.heap.size + 1 + 1 + 1) #[.int .i64 0, .int .i64 0, .int .i64 0, .slice none 0 0] 24 ∧ Below w.heap.size w X) := Lib.hid (by
      rw [← hX]
      exact ⟨BlockAt.new _ _ _, (H1.out.1.below hb2 H1.out.1.lt).alloc _, (H1.out.2.1.below hb2 H1.out.2.1.lt).alloc _, (H1.out.2.2.1.below hb2 H1.out.2.2.1.lt).alloc _, (H1.out.2.2.2.1.below hb2 H1.out.2.2.2.1.lt).alloc _, below_alloc (below_step H1.out.2.2.2.2 hb2) _⟩)
    have hltr : w.heap.size + 1 + 1 + 1 < w1.heap.size := H1.out.2.2.2.1.lt
    clear hpa hb2 H1 PO c0 c1 c2 c3
    have hW2 : w1.heap.size < w2.heap.size := hlt2
    have d0 : World.cell? _ _ = some (.int .i64 (cs.length : Int)) := H2.out.1.cell 0
    have d1 : World.cell? _ _ = some (.func (.func 93) #[latV ⟨A, B, C⟩] #[]) := H2.out.1.cell 1
    have d2 : World.cell? _ _ = some (.func (.func 94) #[] #[.pointer (some ⟨w1.heap.size, 0, none⟩)]) := H2.out.1.cell 2
    have f2 := H2.out.1.frozen 2
    obtain ⟨Y, hY⟩ : ∃ Y, X.setCell ⟨w2.heap.size, 2, none⟩ (.func (.func 78) #[] #[.pointer (some ⟨w.heap.size, 0, none⟩), .pointer (some ⟨w.heap.size + 1, 0, none⟩), .pointer (some ⟨w.heap.size + 1 + 1, 0, none⟩)]) = Y := ⟨_, rfl⟩
    have H3 : Hid (BlockAt Y w.heap.size #[.int .i64 A, .int .i64 B, .int .i64 C, .slice va cs.length vc] 24 ∧ BlockAt Y (w.heap.size + 1) #[.int .i64 dx] 3 ∧ BlockAt Y (w.heap.size + 1 + 1) #[.int .i64 dy] 3 ∧ BlockAt Y (w.heap.size + 1 + 1 + 1) #[.int .i64 0, .int .i64 0, .int .i64 0, .slice none 0 0] 24 ∧ Below w.heap.size w Y ∧ BlockAt Y w2.heap.size #[.int .i64 (cs.length : Int), .func (.func 93) #[latV ⟨A, B, C⟩] #[], .func (.func 78) #[] #[.pointer (some ⟨w.heap.size, 0, none⟩), .pointer (some ⟨w.heap.size + 1, 0, none⟩), .pointer (some ⟨w.heap.size + 1 + 1, 0, none⟩)]] 73) := Lib.hid (by
      rw [← hY]
      exact ⟨H2.out.2.1.other (by omega) _, H2.out.2.2.1.other (by omega) _, H2.out.2.2.2.1.other (by omega) _, H2.out.2.2.2.2.1.other (by omega) _, H2.out.2.2.2.2.2.setCell (by dsimp only; omega) _, H2.out.1.set 2 _⟩)
    have DD := Lib.hid (D.out w.heap.size (w.heap.size + 1) (w.heap.size + 1 + 1) Y H3.out.2.2.2.2.1 (BlockAt.pat (l := ⟨A, B, C⟩) H3.out.1) (H3.out.2.1.cell 0) (H3.out.2.2.1.cell 0) H3.out.2.1.lt H3.out.2.2.1.lt)
    have y0 : World.cell? _ _ = some (.int .i64 (cs.length : Int)) := H3.out.2.2.2.2.2.cell 0
    have y1 : World.cell? _ _ = some (.func (.func 93) #[latV ⟨A, B, C⟩] #[]) := H3.out.2.2.2.2.2.cell 1
    have y2 : World.cell? _ _ = some (.func (.func 78) #[] #[.pointer (some ⟨w.heap.size, 0, none⟩), .pointer (some ⟨w.heap.size + 1, 0, none⟩), .pointer (some ⟨w.heap.size + 1 + 1, 0, none⟩)]) := H3.out.2.2.2.2.2.cell 2
    clear D H2
    go_wp2_with (rw [hX])
    go_wp2_with (rw [hY])
    go_wp2_with fail
    refine DD.out.mono ?_
    rintro e w3 ⟨u, rfl, hown, hb3⟩
    obtain ⟨ua, uc, rfl⟩ := hown.form
    have hB3 := H3.out.2.2.2.1.below hb3 H3.out.2.2.2.1.lt
    have e0 : World.cell? _ _ = some (.int .i64 0) := hB3.cell 0
    have e1 : World.cell? _ _ = some (.int .i64 0) := hB3.cell 1
    have e2 : World.cell? _ _ = some (.int .i64 0) := hB3.cell 2
    have e3 : World.cell? _ _ = some (.slice none 0 0) := hB3.cell 3
    have r0 := hB3.frozen 0
    have r1 := hB3.frozen 1
    have r2 := hB3.frozen 2
    have r3 := hB3.frozen 3
    have hlt := hB3.lt
    have hlt3 := H3.out.2.2.2.1.lt
    have HZ := Lib.hid (And.intro hown (below_step H3.out.2.2.2.2.1 hb3))
    clear hown hb3 hB3 H3 DD d0 d1 d2 f2 y0 y1 y2 hX hY
    go_wp2
    refine bodyPost_ret (v := .tuple #[patV LL (.slice ua K.length uc), .int .i64 0]) (by simp [results, Tryz.results37, go_sem, e0, e1, e2, e3]) rfl ⟨_, rfl, ?_, ?_⟩
    · refine OwnI.mono (base := Y.heap.size) ?_ (by omega)
      iterate 4 (refine OwnI.setOld ?_ (by dsimp only; omega) _)
      exact HZ.out.1
    · iterate 4 (refine Below.setCell ?_ (by dsimp only; omega) _)
      exact HZ.out.2
  · have e1 : ansC (placeE A B C cs dx dy) L F = [] := if_neg hz
    have e2 : ansL (placeE A B C cs dx dy) L = ⟨0, 0, 0⟩ := if_neg hz
    rw [e1, e2]
    generalize placeE A B C cs dx dy = q at *
    have hd : (q == 0) = false := beq_eq_false_iff_ne.2 hz
    have hd2 : (q != 0) = true := by rw [bne, hd]; rfl
    clear hz DR HSM e1 e2
    go_enter Tryz.func37, Tryz.ntmps37
    have c0 : World.cell? _ _ = some (.int .i64 A) := HB.out.1.cell 0
    have c1 : World.cell? _ _ = some (.int .i64 B) := HB.out.1.cell 1
    have c2 : World.cell? _ _ = some (.int .i64 C) := HB.out.1.cell 2
    have c3 : World.cell? _ _ = some (.slice va cs.length vc) := HB.out.1.cell 3
    have c4 : World.cell? _ _ = some (.int .i64 dx) := HB.out.2.1.cell 0
    have c5 : World.cell? _ _ = some (.int .i64 dy) := HB.out.2.2.1.cell 0
    go_wp2_with fail
    refine (VA.out _ HB.out.2.2.2.2).mono ?_
    rintro e w1 ⟨rfl, hb1⟩
    have hB1 := HB.out.2.2.2.1.below hb1 HB.out.2.2.2.1.lt
    have hw1 := below_step HB.out.2.2.2.2 hb1
    have e0 : World.cell? _ _ = some (.int .i64 0) := hB1.cell 0
    have e1 : World.cell? _ _ = some (.int .i64 0) := hB1.cell 1
    have e2 : World.cell? _ _ = some (.int .i64 0) := hB1.cell 2
    have e3 : World.cell? _ _ = some (.slice none 0 0) := hB1.cell 3
    have r0 := hB1.frozen 0
    have r1 := hB1.frozen 1
    have r2 := hB1.frozen 2
    have r3 := hB1.frozen 3
    have hlt := hB1.lt
    have HW := Lib.hid hw1
    clear hb1 hB1 hw1 VA HB c0 c1 c2 c3 c4 c5
    go_wp2
    refine bodyPost_ret (v := .tuple #[.agg #[.int .i64 0, .int .i64 0, .int .i64 0, .slice none 0 0], .int .i64 q]) (by simp [results, Tryz.results37, go_sem, e0, e1, e2, e3]) rfl ⟨_, rfl, OwnI.nil _ _, ?_⟩
    iterate 4 (refine Below.setCell ?_ (by dsimp only; omega) _)
    exact HW.out
end Go.Proofs.YtobolflgoljafaaGreatDoor
