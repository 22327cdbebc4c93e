/- A pattern is painted: pattern.paint. -/
import Derived.Test.YtigigmjdockdeaaGreatDoorPat6
namespace Go.Proofs.YtigigmjdockdeaaGreatDoor
open Go.RowKit

theorem OwnF.mono {base B : Nat} {w : World} {v : Value} {n : Nat} {f : Nat → Int} (h : OwnF base w v n f) (hB : B ≤ base) : OwnF B w v n f := by
  obtain ⟨h0, h⟩ := h
  rcases h with h | ⟨g, cap, cur, h1, h2, h3⟩
  · exact ⟨h0, .inl h⟩
  · exact ⟨h0, .inr ⟨g, cap, cur, h1, Nat.le_trans hB h2, h3⟩⟩
theorem OwnF.setOld {base : Nat} {w : World} {v : Value} {n : Nat} {f : Nat → Int} (h : OwnF base w v n f) {a : Addr} (ha : a.block < base) (u : Value) : OwnF base (w.setCell a u) v n f := RowKit.ownsRow_setCell_below h ha u
theorem BlockAt.grown {W w2 : World} {B : Nat} {cs : Array Value} {t : TypeId} {row : Option Nat} (h : BlockAt W B cs t) (hg : W.grownBy w2 row) (hne : some B ≠ row) : BlockAt w2 B cs t := (hg.block B h.lt hne).trans h
/-- What paint holds: the lattice, the answer's place, the pattern with n cells. -/
def PSt (w W : World) (l : Pt.Lat) (F : Nat → Int) (n : Nat) (v : Value) : Prop :=
  BlockAt W w.heap.size #[.int .i64 l.a, .int .i64 l.b, .int .i64 l.c] 70 ∧ BlockAt W (w.heap.size + 1) #[.int .i64 0, .int .i64 0, .int .i64 0, .slice none 0 0] 24 ∧
    BlockAt W (w.heap.size + 2) #[.int .i64 l.a, .int .i64 l.b, .int .i64 l.c, v] 24 ∧ OwnF (w.heap.size + 3) W v n F ∧ Below w.heap.size w W
theorem PSt.below {w W W2 : World} {l : Pt.Lat} {F : Nat → Int} {n : Nat} {v : Value} (h : PSt w W l F n v) (hb : Below W.heap.size W W2) : PSt w W2 l F n v :=
  ⟨h.1.below hb h.1.lt, h.2.1.below hb h.2.1.lt, h.2.2.1.below hb h.2.2.1.lt, h.2.2.2.1.below hb, below_step h.2.2.2.2 hb⟩
theorem PSt.drew {w W : World} {l : Pt.Lat} {F : Nat → Int} {n : Nat} {v : Value} (h : PSt w W l F n v) : PSt w W.drew l F n v := ⟨h.1.drew, h.2.1.drew, h.2.2.1.drew, h.2.2.2.1.drew, h.2.2.2.2.drew⟩
theorem PSt.alloc {w W : World} {l : Pt.Lat} {F : Nat → Int} {n : Nat} {v : Value} (h : PSt w W l F n v) (o : Obj) : PSt w (W.alloc o) l F n v := h.below ((Below.refl _ _).alloc (Nat.le_refl _) o)
theorem PSt.start (w : World) (l : Pt.Lat) (F : Nat → Int) : PSt w (((w.alloc (.cells #[.int .i64 l.a, .int .i64 l.b, .int .i64 l.c] 70)).alloc (.cells #[.int .i64 0, .int .i64 0, .int .i64 0, .slice none 0 0] 24)).alloc (.cells #[.int .i64 l.a, .int .i64 l.b, .int .i64 l.c, .slice none 0 0] 24)) l F 0 (.slice none 0 0) := by
  have h1 := BlockAt.new w #[.int .i64 l.a, .int .i64 l.b, .int .i64 l.c] 70
  have h2 := BlockAt.new (w.alloc (.cells #[.int .i64 l.a, .int .i64 l.b, .int .i64 l.c] 70)) #[.int .i64 0, .int .i64 0, .int .i64 0, .slice none 0 0] 24
  have h3 := BlockAt.new ((w.alloc (.cells #[.int .i64 l.a, .int .i64 l.b, .int .i64 l.c] 70)).alloc (.cells #[.int .i64 0, .int .i64 0, .int .i64 0, .slice none 0 0] 24)) #[.int .i64 l.a, .int .i64 l.b, .int .i64 l.c, .slice none 0 0] 24
  simp only [World.size_alloc] at h2 h3
  exact ⟨(h1.alloc _).alloc _, h2.alloc _, h3, OwnF.nil _ _ _, below_alloc (below_alloc (below_alloc (Below.refl _ _) _) _) _⟩
theorem PSt.next {w W w2 : World} {l : Pt.Lat} {F : Nat → Int} {n : Nat} {v u : Value} (h : PSt w W l F n v) (hg : W.grownBy w2 v.ownBlock) (hp : OwnF (w.heap.size + 3) w2 u (n + 1) F) : PSt w (w2.setCell ⟨w.heap.size + 2, 3, none⟩ u) l F (n + 1) u := by
  obtain ⟨h0, h1, h2, hown, hw⟩ := h
  have hne : ∀ B, B < w.heap.size + 3 → some B ≠ v.ownBlock := fun B hB e => by have := (World.ownsRow.lt hown B e.symm).1; omega
  refine ⟨(h0.grown hg (hne _ (by omega))).other (by omega) _, (h1.grown hg (hne _ (by omega))).other (by omega) _, (h2.grown hg (hne _ (by omega))).set 3 _, hp.setOld (by simp) _, ?_⟩
  exact (hw.grown hg hw.size (fun k e => by have := (World.ownsRow.lt hown k e).1; omega)).setCell (by simp) _

set_option maxRecDepth 20000 in
set_option maxHeartbeats 4000000 in
theorem paint_plane (bp : Nat) (l : Pt.Lat) (f : Int → Int → Int) (w : World) (hs : small l)
    (HF : ∀ (x y : Int) W, 0 ≤ x → x ≤ 30000 → 0 ≤ y → y ≤ 30000 → Below w.heap.size w W → Calls Tryz.prog 110 #[.int .i64 x, .int .i64 y, .pointer (some ⟨bp, 0, none⟩)] W fun e w' => e = .returned (.int .i64 (f x y)) ∧ Below W.heap.size W w') :
    Calls Tryz.prog 107 #[latV l, .func (.func 110) #[] #[.pointer (some ⟨bp, 0, none⟩)]] w fun e w' => ∃ v, e = .returned (patV l v) ∧ OwnF w.heap.size w' v (l.a * l.c).toNat (Pt.cellF l f) ∧ Below w.heap.size w w' := by
  obtain ⟨i0, hi, hz0, hz1, hz2⟩ := info_parts infoInt
  obtain ⟨⟨a1, a2, a3, a4⟩, a5, a6⟩ := hs
  have C := Lib.hid HF
  have H0 := Lib.hid (PSt.start w l (Pt.cellF l f))
  have FA := Lib.hid (fun (x y : Int) h1 h2 h3 => Pt.cellF_at (l := l) f (x := x) (y := y) h1 h2 h3)
  obtain ⟨A, hA⟩ : ∃ A : Nat, l.a = A := ⟨l.a.toNat, by omega⟩
  obtain ⟨D, hD⟩ : ∃ D : Nat, l.c = D := ⟨l.c.toNat, by omega⟩
  have HTOT : Hid ((l.a * l.c).toNat = D * A) := Lib.hid (by rw [hA, hD, ← Int.natCast_mul, Int.toNat_natCast, Nat.mul_comm])
  have HA := Lib.hid hA
  have HD := Lib.hid hD
  have hA1 : 1 ≤ A := by omega
  have hA3 : l.a ≤ (A : Int) := by omega
  have hA4 : (A : Int) ≤ l.a := by omega
  have hD3 : l.c ≤ (D : Int) := by omega
  have hD4 : (D : Int) ≤ l.c := by omega
  have hA2 : A ≤ 30000 := by omega
  have hD2 : D ≤ 30000 := by omega
  clear hA hD HF
  generalize hF : Pt.cellF l f = F at *
  clear hF
  go_enter Tryz.func107, Tryz.ntmps107
  go_wp2
  go_loopw [17] (fun t wr => ∃ y : Nat, y ≤ D ∧ t = .int .i64 (y : Int) ∧ Hid (∃ v, PSt w wr l F (y * A) v)) (fun t _ => D - (intOf t).toNat)
  case atStart => exact ⟨0, Nat.zero_le _, rfl, Lib.hid ⟨_, by rw [Nat.zero_mul]; exact H0.out⟩⟩
  case round =>
    obtain ⟨y, hyD, rfl, hg⟩ := hrel
    clear H0
    obtain ⟨v0, hg⟩ := hg.out
    have HG := Lib.hid hg
    by_cases hlt : y < D
    · have c0 : World.cell? _ _ = some (.int .i64 l.a) := hg.1.cell 0
      have hdy : decide ((y : Int) < l.c) = true := decide_eq_true (by omega)
      clear hg
      go_wp2
      clear c0
      go_loopw [22] (fun t wx => ∃ x : Nat, x ≤ A ∧ t = .int .i64 (x : Int) ∧ Hid (∃ v, PSt w wx l F (y * A + x) v)) (fun t _ => A - (intOf t).toNat)
      case atStart => exact ⟨0, Nat.zero_le _, rfl, Lib.hid ⟨_, HG.out⟩⟩
      case round =>
        obtain ⟨x, hxA, rfl, hgx⟩ := hrel
        clear HG
        by_cases hxlt : x < A
        · obtain ⟨v, hx⟩ := hgx.out
          have hform : ∃ a c, v = .slice a (y * A + x) c := by
            rcases hx.2.2.2.1 with ⟨_, ⟨h1, h2⟩ | ⟨g, cap, cur, h1, _⟩⟩
            · exact ⟨none, 0, by rw [h1, h2]⟩
            · exact ⟨_, _, h1⟩
          obtain ⟨sa, sc, rfl⟩ := hform
          have HP := Lib.hid hx.drew
          have CC := Lib.hid (fun W => C.out (x : Int) (y : Int) W (by omega) (by omega) (by omega) (by omega))
          have hfn := FA.out (x : Int) (y : Int) (by omega) (by rw [HA.out]; omega) (by omega)
          rw [HA.out, ← Int.natCast_mul, ← Int.natCast_add, Int.toNat_natCast] at hfn
          have hyA : y * A ≤ 900000000 := by
            have := Nat.mul_le_mul (show y ≤ 30000 by omega) hA2
            omega
          have HFN := Lib.hid hfn
          have c3 : World.cell? _ _ = some (.slice sa (y * A + x) sc) := hx.drew.2.2.1.cell 3
          have hdx : decide ((x : Int) < l.a) = true := decide_eq_true (by omega)
          generalize f (x : Int) (y : Int) = col at *
          obtain ⟨n, hn⟩ : ∃ n, n = y * A + x := ⟨_, rfl⟩
          rw [← hn] at HP HFN c3
          have HNN := Lib.hid hn
          have hnb : n ≤ 900030000 := by omega
          clear hfn hx hg hgx hyA hn
          go_upto_region 8 with fail
          refine wp_region_seq2 (.take 0 (.take 2 (.take 3 (.take 4 (.two 1 (.one 5 (.one 6 (.one 7 (.take 8 (.one 9 .done))))) 5 (.two 1 (.one 6 (.one 7 (.take 8 (.one 9 .done)))) 6 (.one 1 (.one 7 (.take 8 (.one 9 .done)))))))))) (fun _ => True)
            (by kernel_rfl) (by kernel_rfl) (by kernel_rfl) (by kernel_rfl) (fun d _ _ _ _ h => by cases d <;> exact h) trivial (fun _ => ?_)
          repeat (first
            | (refine SeqO.ld (v := ?_) rfl (by rfl) ?_ ?_; rotate_left; (· intro w _; go_simp; (try with_reducible rfl)); simp only [Act.put, List.setIfInBounds_toArray, List.set_cons_zero, List.set_cons_succ]))
          refine ⟨wpOp_stepS rfl (by rfl) (fun K hK => ?_), wpOp_stepS rfl (by rfl) (fun K hK => ?_)⟩
          · go_simp
            refine hK.out _ _ trivial (fun _ => ?_)
            clear hK K
            try simp only [Act.put, List.setIfInBounds_toArray, List.set_cons_zero, List.set_cons_succ]
            refine SeqO.step rfl (by rfl) (fun K hK => ?_)
            go_simp
            go_at_call 110
            refine (CC.out _ HP.out.2.2.2.2).mono ?_
            rintro e w1 ⟨rfl, hb1⟩
            try dsimp only
            have HP1 := Lib.hid (HP.out.below hb1)
            have c3 : World.cell? _ _ = some (.slice sa n sc) := HP1.out.2.2.1.cell 3
            clear HP hb1
            have HP := HP1
            clear HP1
            refine hK.out _ _ trivial (fun _ => ?_)
            clear hK K
            try simp only [Act.put, List.setIfInBounds_toArray, List.set_cons_zero, List.set_cons_succ]
            refine SeqO.step rfl (by rfl) (fun K hK => ?_)
            go_simp
            have HP1 := Lib.hid (HP.out.alloc (.cells #[.int .i64 col] 3))
            have c3 : World.cell? _ _ = some (.slice sa n sc) := HP1.out.2.2.1.cell 3
            clear HP
            have HP := HP1
            clear HP1
            refine hK.out _ _ trivial (fun _ => ?_)
            clear hK K
            try simp only [Act.put, List.setIfInBounds_toArray, List.set_cons_zero, List.set_cons_succ]
            clear c3
            refine SeqO.step rfl (by rfl) (fun K hK => ?_)
            refine wp_append_own _ _ _ 22 rfl (w.heap.size + 3) 3 i0 (.int .i64 0) 1 8 Tryz.underlying22 hi hz0 hz1 hz2 rfl (by decide) _ n _ rfl HP.out.2.2.2.1 ⟨_, 0, none⟩ 1 1 (intL col) rfl rfl (intL_at _ _ _) (intL_one _) (by unfold maxLen; omega) (by omega) (by have := HP.out.2.2.1.lt; omega) ?_
            intro v' w2 hown2 hgrow _
            have hp2 := OwnF.pushed hown2 HFN.out
            obtain ⟨g, cp, rfl, hg1, hg2⟩ := hp2.form (by omega)
            have HN := Lib.hid (HP.out.next hgrow hp2)
            have hB2 := HP.out.2.2.1.grown hgrow (fun e => by have := (World.ownsRow.lt HP.out.2.2.2.1 _ e.symm).1; omega)
            have c3 : World.cell? _ _ = some (.slice sa n sc) := hB2.cell 3
            have f3 := hB2.frozen 3
            clear HP hown2 hgrow hp2 hB2 hg1 hg2
            refine hK.out _ _ trivial (fun _ => ?_)
            clear hK K
            try simp only [Act.put, List.setIfInBounds_toArray, List.set_cons_zero, List.set_cons_succ]
            repeat (first
              | (refine SeqO.ld (v := ?_) rfl (by rfl) ?_ ?_; rotate_left; (· intro w _; go_simp; (try with_reducible rfl)); simp only [Act.put, List.setIfInBounds_toArray, List.set_cons_zero, List.set_cons_succ]))
            refine SeqO.step rfl (by rfl) (fun K hK => ?_)
            go_simp
            refine hK.out _ _ trivial (fun _ => ?_)
            clear hK K c3 f3
            try simp only [Act.put, List.setIfInBounds_toArray, List.set_cons_zero, List.set_cons_succ]
            refine SeqO.fin ?_
            go_wp2
            go_roundw
            case rel => exact ⟨x + 1, by omega, by go_num, Lib.hid ⟨_, by rw [show y * A + (x + 1) = n + 1 by rw [HNN.out]; omega]; exact HN.out⟩⟩
            case measure => simp [intOf]; omega
          · go_simp
            go_at_call 110
            refine (CC.out _ HP.out.2.2.2.2).mono ?_
            rintro e w1 ⟨rfl, hb1⟩
            try dsimp only
            have HP1 := Lib.hid (HP.out.below hb1)
            have c3 : World.cell? _ _ = some (.slice sa n sc) := HP1.out.2.2.1.cell 3
            clear HP hb1
            have HP := HP1
            clear HP1
            refine hK.out _ _ trivial (fun _ => ?_)
            clear hK K
            try simp only [Act.put, List.setIfInBounds_toArray, List.set_cons_zero, List.set_cons_succ]
            refine ⟨wpOp_stepS rfl (by rfl) (fun K hK => ?_), wpOp_stepS rfl (by rfl) (fun K hK => ?_)⟩
            · go_simp
              refine hK.out _ _ trivial (fun _ => ?_)
              clear hK K
              try simp only [Act.put, List.setIfInBounds_toArray, List.set_cons_zero, List.set_cons_succ]
              refine SeqO.step rfl (by rfl) (fun K hK => ?_)
              go_simp
              have HP1 := Lib.hid (HP.out.alloc (.cells #[.int .i64 col] 3))
              have c3 : World.cell? _ _ = some (.slice sa n sc) := HP1.out.2.2.1.cell 3
              clear HP
              have HP := HP1
              clear HP1
              refine hK.out _ _ trivial (fun _ => ?_)
              clear hK K
              try simp only [Act.put, List.setIfInBounds_toArray, List.set_cons_zero, List.set_cons_succ]
              clear c3
              refine SeqO.step rfl (by rfl) (fun K hK => ?_)
              refine wp_append_own _ _ _ 22 rfl (w.heap.size + 3) 3 i0 (.int .i64 0) 1 8 Tryz.underlying22 hi hz0 hz1 hz2 rfl (by decide) _ n _ rfl HP.out.2.2.2.1 ⟨_, 0, none⟩ 1 1 (intL col) rfl rfl (intL_at _ _ _) (intL_one _) (by unfold maxLen; omega) (by omega) (by have := HP.out.2.2.1.lt; omega) ?_
              intro v' w2 hown2 hgrow _
              have hp2 := OwnF.pushed hown2 HFN.out
              obtain ⟨g, cp, rfl, hg1, hg2⟩ := hp2.form (by omega)
              have HN := Lib.hid (HP.out.next hgrow hp2)
              have hB2 := HP.out.2.2.1.grown hgrow (fun e => by have := (World.ownsRow.lt HP.out.2.2.2.1 _ e.symm).1; omega)
              have c3 : World.cell? _ _ = some (.slice sa n sc) := hB2.cell 3
              have f3 := hB2.frozen 3
              clear HP hown2 hgrow hp2 hB2 hg1 hg2
              refine hK.out _ _ trivial (fun _ => ?_)
              clear hK K
              try simp only [Act.put, List.setIfInBounds_toArray, List.set_cons_zero, List.set_cons_succ]
              repeat (first
                | (refine SeqO.ld (v := ?_) rfl (by rfl) ?_ ?_; rotate_left; (· intro w _; go_simp; (try with_reducible rfl)); simp only [Act.put, List.setIfInBounds_toArray, List.set_cons_zero, List.set_cons_succ]))
              refine SeqO.step rfl (by rfl) (fun K hK => ?_)
              go_simp
              refine hK.out _ _ trivial (fun _ => ?_)
              clear hK K c3 f3
              try simp only [Act.put, List.setIfInBounds_toArray, List.set_cons_zero, List.set_cons_succ]
              refine SeqO.fin ?_
              go_wp2
              go_roundw
              case rel => exact ⟨x + 1, by omega, by go_num, Lib.hid ⟨_, by rw [show y * A + (x + 1) = n + 1 by rw [HNN.out]; omega]; exact HN.out⟩⟩
              case measure => simp [intOf]; omega
            · go_simp
              have HP1 := Lib.hid (HP.out.alloc (.cells #[.int .i64 col] 3))
              have c3 : World.cell? _ _ = some (.slice sa n sc) := HP1.out.2.2.1.cell 3
              clear HP
              have HP := HP1
              clear HP1
              refine hK.out _ _ trivial (fun _ => ?_)
              clear hK K
              try simp only [Act.put, List.setIfInBounds_toArray, List.set_cons_zero, List.set_cons_succ]
              refine SeqO.step rfl (by rfl) (fun K hK => ?_)
              go_simp
              refine hK.out _ _ trivial (fun _ => ?_)
              clear hK K
              try simp only [Act.put, List.setIfInBounds_toArray, List.set_cons_zero, List.set_cons_succ]
              clear c3
              refine SeqO.step rfl (by rfl) (fun K hK => ?_)
              refine wp_append_own _ _ _ 22 rfl (w.heap.size + 3) 3 i0 (.int .i64 0) 1 8 Tryz.underlying22 hi hz0 hz1 hz2 rfl (by decide) _ n _ rfl HP.out.2.2.2.1 ⟨_, 0, none⟩ 1 1 (intL col) rfl rfl (intL_at _ _ _) (intL_one _) (by unfold maxLen; omega) (by omega) (by have := HP.out.2.2.1.lt; omega) ?_
              intro v' w2 hown2 hgrow _
              have hp2 := OwnF.pushed hown2 HFN.out
              obtain ⟨g, cp, rfl, hg1, hg2⟩ := hp2.form (by omega)
              have HN := Lib.hid (HP.out.next hgrow hp2)
              have hB2 := HP.out.2.2.1.grown hgrow (fun e => by have := (World.ownsRow.lt HP.out.2.2.2.1 _ e.symm).1; omega)
              have c3 : World.cell? _ _ = some (.slice sa n sc) := hB2.cell 3
              have f3 := hB2.frozen 3
              clear HP hown2 hgrow hp2 hB2 hg1 hg2
              refine hK.out _ _ trivial (fun _ => ?_)
              clear hK K
              try simp only [Act.put, List.setIfInBounds_toArray, List.set_cons_zero, List.set_cons_succ]
              repeat (first
                | (refine SeqO.ld (v := ?_) rfl (by rfl) ?_ ?_; rotate_left; (· intro w _; go_simp; (try with_reducible rfl)); simp only [Act.put, List.setIfInBounds_toArray, List.set_cons_zero, List.set_cons_succ]))
              refine SeqO.step rfl (by rfl) (fun K hK => ?_)
              go_simp
              refine hK.out _ _ trivial (fun _ => ?_)
              clear hK K c3 f3
              try simp only [Act.put, List.setIfInBounds_toArray, List.set_cons_zero, List.set_cons_succ]
              refine SeqO.fin ?_
              go_wp2
              go_roundw
              case rel => exact ⟨x + 1, by omega, by go_num, Lib.hid ⟨_, by rw [show y * A + (x + 1) = n + 1 by rw [HNN.out]; omega]; exact HN.out⟩⟩
              case measure => simp [intOf]; omega
        · obtain rfl : x = A := by omega
          have hdx : decide ((x : Int) < l.a) = false := decide_eq_false (by omega)
          have HN := Lib.hid hgx.out
          clear hgx
          go_wp2
          go_roundw
          case rel => exact ⟨y + 1, by omega, by go_num, Lib.hid (by obtain ⟨v, h⟩ := HN.out; exact ⟨v, by rw [Nat.add_mul, Nat.one_mul]; exact h⟩)⟩
          case measure => simp [intOf]; omega
    · obtain rfl : y = D := by omega
      have hdy : decide ((y : Int) < l.c) = false := decide_eq_false (by omega)
      obtain ⟨k0, k1, k2, hown, hw⟩ := hg
      have hform : ∃ a c, v0 = .slice a (y * A) c := by
        rcases hown with ⟨_, ⟨h1, h2⟩ | ⟨g, cap, cur, h1, _⟩⟩
        · exact ⟨none, 0, by rw [h1, h2]⟩
        · exact ⟨_, _, h1⟩
      obtain ⟨sa, sc, rfl⟩ := hform
      have c0 : World.cell? _ _ = some (.int .i64 l.a) := k2.cell 0
      have c1 : World.cell? _ _ = some (.int .i64 l.b) := k2.cell 1
      have c2 : World.cell? _ _ = some (.int .i64 l.c) := k2.cell 2
      have c3 : World.cell? _ _ = some (.slice sa (y * A) sc) := k2.cell 3
      have d0 : World.cell? _ _ = some (.int .i64 0) := k1.cell 0
      have d1 : World.cell? _ _ = some (.int .i64 0) := k1.cell 1
      have d2 : World.cell? _ _ = some (.int .i64 0) := k1.cell 2
      have d3 : World.cell? _ _ = some (.slice none 0 0) := k1.cell 3
      have f0 := k1.frozen 0
      have f1 := k1.frozen 1
      have f2 := k1.frozen 2
      have f3 := k1.frozen 3
      have HN := Lib.hid (And.intro hown hw)
      clear k0 k1 k2 hown hw HG
      go_wp2
      refine bodyPost_ret (v := .agg #[.int .i64 l.a, .int .i64 l.b, .int .i64 l.c, .slice sa (y * A) sc]) (by simp [results, Tryz.results107, go_sem, d0, d1, d2, d3]) rfl ⟨_, rfl, ?_, ?_⟩
      · rw [HTOT.out]
        exact ((((HN.out.1.setOld (by simp) _).setOld (by simp) _).setOld (by simp) _).setOld (by simp) _).mono (by omega)
      · exact (((HN.out.2.setCell (by simp) _).setCell (by simp) _).setCell (by simp) _).setCell (by simp) _
end Go.Proofs.YtigigmjdockdeaaGreatDoor
