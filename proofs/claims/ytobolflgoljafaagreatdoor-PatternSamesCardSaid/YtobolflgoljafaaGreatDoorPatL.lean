/- What the reference holds while it writes the cells of a repeat. The reference's Shift. The reference's Shift where it refuses; shifts of planes. -/
import Derived.Test.YtobolflgoljafaaGreatDoorPatJ
import Derived.Test.YtobolflgoljafaaGreatDoorPatF
import Derived.Test.YtobolflgoljafaaGreatDoorPatK
namespace Go.Proofs.YtobolflgoljafaaGreatDoor
open Go.RowKit

/-- The pattern, the result's place, the repeat that is written. -/
def RSo (w W : World) (l : Pt.Lat) (v : Value) (k : Pt.Lat) (F : Nat → Int) (n : Nat) (u : Value) (o : Nat) : Prop :=
  BlockAt W w.heap.size #[.int .i64 l.a, .int .i64 l.b, .int .i64 l.c, v] 24 ∧ BlockAt W (w.heap.size + 1) #[.int .i64 0, .int .i64 0, .int .i64 0, .slice none 0 0] 24 ∧
    BlockAt W o #[.int .i64 k.a, .int .i64 k.b, .int .i64 k.c, u] 24 ∧ OwnF (o + 1) W u n F ∧ Below w.heap.size w W
theorem RSo.below {w W W2 : World} {l k : Pt.Lat} {F : Nat → Int} {n o : Nat} {v u : Value} (h : RSo w W l v k F n u o) (hb : Below W.heap.size W W2) : RSo w W2 l v k F n u o :=
  ⟨h.1.below hb h.1.lt, h.2.1.below hb h.2.1.lt, h.2.2.1.below hb h.2.2.1.lt, h.2.2.2.1.below hb, below_step h.2.2.2.2 hb⟩
theorem RSo.drew {w W : World} {l k : Pt.Lat} {F : Nat → Int} {n o : Nat} {v u : Value} (h : RSo w W l v k F n u o) : RSo w W.drew l v k F n u o := ⟨h.1.drew, h.2.1.drew, h.2.2.1.drew, h.2.2.2.1.drew, h.2.2.2.2.drew⟩
theorem RSo.alloc {w W : World} {l k : Pt.Lat} {F : Nat → Int} {n o : Nat} {v u : Value} (h : RSo w W l v k F n u o) (ob : Obj) : RSo w (W.alloc ob) l v k F n u o := h.below ((Below.refl _ _).alloc (Nat.le_refl _) ob)
theorem RSo.next {w W w2 : World} {l k : Pt.Lat} {F : Nat → Int} {n o : Nat} {v v' u : Value} (h : RSo w W l v k F n v' o) (ho : w.heap.size + 1 < o) (hg : W.grownBy w2 v'.ownBlock) (hp : OwnF (o + 1) w2 u (n + 1) F) : RSo w (w2.setCell ⟨o, 3, none⟩ u) l v k F (n + 1) u o := by
  obtain ⟨h0, h1, h2, hown, hw⟩ := h
  have hne : ∀ B, B < o + 1 → some B ≠ v'.ownBlock := fun B hB e => by have := (World.ownsRow.lt hown B e.symm).1; omega
  refine ⟨(h0.grown hg (hne _ (by omega))).other (by omega) _, (h1.grown hg (hne _ (by omega))).other (by omega) _, (h2.grown hg (hne _ (by omega))).set 3 _, hp.setOld (by simp) _, ?_⟩
  exact (hw.grown hg hw.size (fun k e => by have := (World.ownsRow.lt hown k e).1; omega)).setCell (by simp; omega) _
end Go.Proofs.YtobolflgoljafaaGreatDoor
namespace Go.Proofs.YtobolflgoljafaaGreatDoor
open Go.RowKit

/-- The least pattern of a repeat that the call itself has written. -/
theorem least_own {k : Pt.Lat} (hk : small k) {f : Int → Int → Int} (hf : Pl f) (hper : ∀ x y, Pt.inL k x y → Pt.Per f x y) (base : Nat) (v : Value) (W : World) (h : OwnF base W v (k.a * k.c).toNat (Pt.cellF k f)) :
    Calls Tryz.prog 59 #[patV k v] W fun e w' => ∃ u, e = .returned (patV (latF f) u) ∧ OwnI W.heap.size w' u (cellsF f) ∧ Below W.heap.size W w' := by
  obtain ⟨cs, hp, hc⟩ := own_patIn h hk (fun x y => by
    obtain ⟨_, _, _, _, h⟩ := hf
    have := h x y
    omega)
  have hc := hc hper
  refine (refLeast0_any k (latF f) v cs W hp (by rw [hc]; exact hf.isB)).mono ?_
  rintro e w' ⟨u, he, ho, hb⟩
  rw [hc] at ho
  exact ⟨u, he, ho.ownI, hb⟩

set_option maxRecDepth 20000 in
set_option maxHeartbeats 4000000 in
theorem refShift_ok (A0 B0 C0 : Int) (v : Value) (cs : List Int) (dx dy : Int) (w : World) (hz : placeE A0 B0 C0 cs dx dy = 0) (hv : Ints w v cs) (hkl : cs.length ≤ 1000000000) (hA1 : -9223372036854775808 ≤ A0) (hAx : A0 ≤ 9223372036854775807) :
    Calls Tryz.prog 89 #[.agg #[.int .i64 A0, .int .i64 B0, .int .i64 C0, v], .int .i64 dx, .int .i64 dy] w (MakesF (Pt.shiF dx dy (Pt.col ⟨A0, B0, C0⟩ (csF cs))) w) := by
  obtain ⟨hzv, ⟨x1, x2⟩, ⟨y1, y2⟩⟩ := place_ok hz
  have VA := Lib.hid (fun W hW => refValidate_any A0 B0 C0 v cs W (hv.all hW) hkl hA1 hAx)
  rw [hzv] at VA
  have NR := Lib.hid (fun W => refNear_any dx dy W)
  rw [show (fromB (-100000) 100000 dx && fromB (-100000) 100000 dy) = true by rw [(fromB_iff _ _ _).2 ⟨x1, x2⟩, (fromB_iff _ _ _).2 ⟨y1, y2⟩]; rfl] at NR
  obtain ⟨va, vc, rfl, _⟩ := hv.look'
  have hpl := (pl_of hzv).shi dx dy
  obtain ⟨ok, sm, hm, hp1, hlen, hcol, pl⟩ := plane_of hzv
  have hp := (valid_in hzv hv).1
  obtain ⟨kz1, kz2, _⟩ := lat_small ok (n := 144) hm
  obtain ⟨l, hl⟩ : ∃ l : Pt.Lat, l = ⟨A0, B0, C0⟩ := ⟨_, rfl⟩
  have CR := Lib.hid (fun (x y : Int) W (hW : Below w.heap.size w W) h1 h2 h3 h4 => refColor_any l _ cs x y W (by rw [hl]; exact hp.all hW) h1 h2 h3 h4)
  have LS := Lib.hid (fun (base : Nat) (u : Value) W h => least_own (k := l) (by rw [hl]; exact sm) hpl (fun x y hi => (pl.shi dx dy).per _ _ (by rw [hl] at hi; exact hi)) base u W h)
  have FA := Lib.hid (fun (x y : Int) h1 h2 h3 => Pt.cellF_at (l := l) (Pt.shiF dx dy (Pt.col ⟨A0, B0, C0⟩ (csF cs))) (x := x) (y := y) h1 h2 h3)
  rw [← hl] at kz1 kz2 FA LS ⊢
  obtain ⟨o1, o2, o3, o4⟩ := show l.ok by rw [hl]; exact ok
  obtain ⟨i0, hi, hz0, hz1, hz2⟩ := info_parts infoInt
  obtain ⟨A, hA⟩ : ∃ A : Nat, l.a = A := ⟨l.a.toNat, by omega⟩
  obtain ⟨D, hD⟩ : ∃ D : Nat, l.c = D := ⟨l.c.toNat, by omega⟩
  have HTOT : Hid ((l.a * l.c).toNat = D * A) := Lib.hid (by rw [hA, hD, ← Int.natCast_mul, Int.toNat_natCast, Nat.mul_comm])
  have HA := Lib.hid hA
  have HD := Lib.hid hD
  have hA3 : l.a ≤ (A : Int) := by omega
  have hA4 : (A : Int) ≤ l.a := by omega
  have hD3 : l.c ≤ (D : Int) := by omega
  have hD4 : (D : Int) ≤ l.c := by omega
  have hA2 : A ≤ 30000 := by omega
  have hD2 : D ≤ 30000 := by omega
  have hsf : ∀ x y, Pt.shiF dx dy (Pt.col l (csF cs)) x y = Pt.col l (csF cs) (x - dx) (y - dy) := fun _ _ => rfl
  simp only [hsf] at FA
  have e0 : A0 = l.a := by rw [hl]
  have e1 : B0 = l.b := by rw [hl]
  have e2 : C0 = l.c := by rw [hl]
  subst e0 e1 e2
  unfold MakesF
  generalize hFF : Pt.cellF l (Pt.shiF dx dy (Pt.col l (csF cs))) = F at *
  generalize latF (Pt.shiF dx dy (Pt.col l (csF cs))) = LL at *
  generalize cellsF (Pt.shiF dx dy (Pt.col l (csF cs))) = K at *
  obtain ⟨vn, hvn⟩ : ∃ vn, vn = cs.length := ⟨_, rfl⟩
  rw [← hvn] at VA CR ⊢
  have b0 := (BlockAt.new w #[.int .i64 l.a, .int .i64 l.b, .int .i64 l.c, .slice va vn vc] 24).alloc (.cells #[.int .i64 0, .int .i64 0, .int .i64 0, .slice none 0 0] 24)
  have b1 := BlockAt.new (w.alloc (.cells #[.int .i64 l.a, .int .i64 l.b, .int .i64 l.c, .slice va vn vc] 24)) #[.int .i64 0, .int .i64 0, .int .i64 0, .slice none 0 0] 24
  simp only [World.size_alloc] at b1
  have hw := below_alloc (below_alloc (Below.refl w.heap.size w) (.cells #[.int .i64 l.a, .int .i64 l.b, .int .i64 l.c, .slice va vn vc] 24)) (.cells #[.int .i64 0, .int .i64 0, .int .i64 0, .slice none 0 0] 24)
  have HB := Lib.hid (And.intro b0 (And.intro b1 hw))
  clear b0 b1 hw hv hp hpl pl hcol hlen hm hp1 hz hzv ok sm hl hvn hFF hsf hkl hA hD
  go_enter Tryz.func89, Tryz.ntmps89
  go_wp2_with fail
  refine (VA.out _ HB.out.2.2).mono ?_
  rintro e wo ⟨rfl, hb1⟩
  have H1 := Lib.hid (And.intro (HB.out.1.below hb1 HB.out.1.lt) (And.intro (HB.out.2.1.below hb1 HB.out.2.1.lt) (below_step HB.out.2.2 hb1)))
  clear hb1 HB VA
  have c0 : World.cell? _ _ = some (.int .i64 l.a) := H1.out.1.cell 0
  have c1 : World.cell? _ _ = some (.int .i64 l.b) := H1.out.1.cell 1
  have c2 : World.cell? _ _ = some (.int .i64 l.c) := H1.out.1.cell 2
  have c3 : World.cell? _ _ = some (.slice va vn vc) := H1.out.1.cell 3
  go_wp2_with fail
  refine (NR.out _).mono ?_
  rintro e w2 ⟨rfl, rfl⟩
  have ho : w.heap.size + 1 < wo.heap.size := H1.out.2.1.lt
  have HN4 : Hid (∃ u, RSo w (wo.alloc (.cells #[.int .i64 l.a, .int .i64 l.b, .int .i64 l.c, .slice none 0 0] 24)) l (.slice va vn vc) l F (0 * A) u wo.heap.size) := Lib.hid ⟨.slice none 0 0, H1.out.1.alloc _, H1.out.2.1.alloc _, BlockAt.new _ _ _, by rw [Nat.zero_mul]; exact OwnF.nil _ _ _, below_alloc H1.out.2.2 _⟩
  go_wp2
  clear c0 c1 c2 c3 H1 NR
  go_loopw [10] (fun t wr => ∃ y : Nat, y ≤ D ∧ t = .int .i64 (y : Int) ∧ Hid (∃ u, RSo w wr l (.slice va vn vc) l F (y * A) u wo.heap.size)) (fun t _ => D - (intOf t).toNat)
  case atStart => exact ⟨0, Nat.zero_le _, rfl, HN4⟩
  case round =>
    obtain ⟨y, hyD, rfl, hg⟩ := hrel
    clear HN4
    obtain ⟨v0, hg⟩ := hg.out
    have HG := Lib.hid hg
    by_cases hlt : y < D
    · have d0 : World.cell? _ _ = some (.int .i64 l.a) := hg.1.cell 0
      have d2 : World.cell? _ _ = some (.int .i64 l.c) := hg.1.cell 2
      have hdy : decide ((y : Int) < l.c) = true := decide_eq_true (by omega)
      clear hg
      go_wp2
      clear d0 d2
      go_loopw [11] (fun t wx => ∃ x : Nat, x ≤ A ∧ t = .int .i64 (x : Int) ∧ Hid (∃ u, RSo w wx l (.slice va vn vc) l F (y * A + x) u wo.heap.size)) (fun t _ => A - (intOf t).toNat)
      case atStart => exact ⟨0, Nat.zero_le _, rfl, Lib.hid ⟨_, HG.out⟩⟩
      case round =>
        obtain ⟨x, hxA, rfl, hgx⟩ := hrel
        clear HG
        obtain ⟨u0, hx⟩ := hgx.out
        have d0 : World.cell? _ _ = some (.int .i64 l.a) := hx.1.cell 0
        by_cases hxlt : x < A
        · have hform : ∃ a c, u0 = .slice a (y * A + x) c := by
            rcases hx.2.2.2.1 with ⟨_, ⟨h1, h2⟩ | ⟨g, cap, cur, h1, _⟩⟩
            · exact ⟨none, 0, by rw [h1, h2]⟩
            · exact ⟨_, _, h1⟩
          obtain ⟨sa, sc, rfl⟩ := hform
          have HP := Lib.hid hx.drew
          have CC := Lib.hid (fun W hW => CR.out ((x : Int) - dx) ((y : Int) - dy) W hW (by omega) (by omega) (by omega) (by omega))
          have hfn := FA.out (x : Int) (y : Int) (by omega) (by rw [HA.out]; omega) (by omega)
          rw [HA.out, ← Int.natCast_mul, ← Int.natCast_add, Int.toNat_natCast] at hfn
          have hyA : y * A ≤ 900000000 := by
            have := Nat.mul_le_mul (show y ≤ 30000 by omega) hA2
            omega
          have HFN := Lib.hid hfn
          have c3 : World.cell? _ _ = some (.slice sa (y * A + x) sc) := hx.drew.2.2.1.cell 3
          have hdx : decide ((x : Int) < l.a) = true := decide_eq_true (by omega)
          have g3 : IntKind.i64.wrap ((x : Int) - dx) = (x : Int) - dx := IntWalk.i64_in _ ⟨by omega, by omega⟩
          have g4 : IntKind.i64.wrap ((y : Int) - dy) = (y : Int) - dy := IntWalk.i64_in _ ⟨by omega, by omega⟩
          generalize Pt.col l (csF cs) ((x : Int) - dx) ((y : Int) - dy) = col at *
          obtain ⟨n, hn⟩ : ∃ n, n = y * A + x := ⟨_, rfl⟩
          rw [← hn] at HP HFN c3
          have HNN := Lib.hid hn
          have hnb : n ≤ 900030000 := by omega
          clear hfn hx hg hgx hyA hn
          go_upto_region 13 with fail
          clear d0
          refine wp_region_seq2 (.take 0 (.take 2 (.take 3 (.take 4 (.take 5 (.take 6 (.take 7 (.take 8 (.two 1 (.one 9 (.one 10 (.one 11 (.take 12 (.one 13 .done))))) 9 (.two 1 (.one 10 (.one 11 (.take 12 (.one 13 .done)))) 10 (.one 1 (.one 11 (.take 12 (.one 13 .done)))))))))))))) (fun W => PatAt W w.heap.size l (.slice va vn vc))
            (by kernel_rfl) (by kernel_rfl) (by kernel_rfl) (by kernel_rfl) (fun d _ _ _ _ h => by cases d <;> exact h) (BlockAt.pat (l := l) HP.out.1) (fun _ => ?_)
          repeat (first
            | (refine SeqO.ld (v := ?_) rfl (by rfl) ?_ ?_; rotate_left; (· intro w hSw; (try dsimp only at hSw); obtain ⟨c0, c1, c2, c4, _⟩ := hSw; go_simp; (try with_reducible rfl)); simp only [Act.put, List.setIfInBounds_toArray, List.set_cons_zero, List.set_cons_succ]))
          refine ⟨wpOp_stepS rfl (by rfl) (fun K hK => ?_), wpOp_stepS rfl (by rfl) (fun K hK => ?_)⟩
          · go_simp
            refine hK.out _ _ (BlockAt.pat (l := l) HP.out.1) (fun _ => ?_)
            clear hK K
            try simp only [Act.put, List.setIfInBounds_toArray, List.set_cons_zero, List.set_cons_succ]
            refine SeqO.step rfl (by rfl) (fun K hK => ?_)
            go_simp
            go_at_call 51
            refine (CC.out _ HP.out.2.2.2.2).mono ?_
            rintro e w1 ⟨rfl, hb1⟩
            try dsimp only
            have HP1 := Lib.hid (HP.out.below hb1)
            have c3 : World.cell? _ _ = some (.slice sa n sc) := HP1.out.2.2.1.cell 3
            clear HP hb1
            have HP := HP1
            clear HP1
            refine hK.out _ _ (BlockAt.pat (l := l) HP.out.1) (fun _ => ?_)
            clear hK K
            try simp only [Act.put, List.setIfInBounds_toArray, List.set_cons_zero, List.set_cons_succ]
            refine SeqO.step rfl (by rfl) (fun K hK => ?_)
            go_simp
            have HP1 := Lib.hid (HP.out.alloc (.cells #[.int .i64 col] 3))
            have c3 : World.cell? _ _ = some (.slice sa n sc) := HP1.out.2.2.1.cell 3
            clear HP
            have HP := HP1
            clear HP1
            refine hK.out _ _ (BlockAt.pat (l := l) HP.out.1) (fun _ => ?_)
            clear hK K
            try simp only [Act.put, List.setIfInBounds_toArray, List.set_cons_zero, List.set_cons_succ]
            clear c3
            refine SeqO.step rfl (by rfl) (fun K hK => ?_)
            refine wp_append_own _ _ _ 22 rfl (wo.heap.size + 1) 3 i0 (.int .i64 0) 1 8 Tryz.underlying22 hi hz0 hz1 hz2 rfl (by decide) _ n _ rfl HP.out.2.2.2.1 ⟨_, 0, none⟩ 1 1 (intL col) rfl rfl (intL_at _ _ _) (intL_one _) (by unfold maxLen; omega) (by omega) (by have := HP.out.2.2.1.lt; omega) ?_
            intro v' w2 hown2 hgrow _
            have hp2 := OwnF.pushed hown2 HFN.out
            obtain ⟨g, cp, rfl, hg1, hg2⟩ := hp2.form (by omega)
            have HN := Lib.hid (HP.out.next ho hgrow hp2)
            have hB2 := HP.out.2.2.1.grown hgrow (fun e => by have := (World.ownsRow.lt HP.out.2.2.2.1 _ e.symm).1; omega)
            have hPt := BlockAt.pat (l := l) (HP.out.1.grown hgrow (fun e => by have := (World.ownsRow.lt HP.out.2.2.2.1 _ e.symm).1; omega))
            have c3 : World.cell? _ _ = some (.slice sa n sc) := hB2.cell 3
            have f3 := hB2.frozen 3
            clear HP hown2 hgrow hp2 hB2 hg1 hg2
            refine hK.out _ _ hPt (fun _ => ?_)
            clear hK K
            try simp only [Act.put, List.setIfInBounds_toArray, List.set_cons_zero, List.set_cons_succ]
            repeat (first
              | (refine SeqO.ld (v := ?_) rfl (by rfl) ?_ ?_; rotate_left; (· intro w _; go_simp; (try with_reducible rfl)); simp only [Act.put, List.setIfInBounds_toArray, List.set_cons_zero, List.set_cons_succ]))
            refine SeqO.step rfl (by rfl) (fun K hK => ?_)
            go_simp
            refine hK.out _ _ (BlockAt.pat (l := l) HN.out.1) (fun _ => ?_)
            clear hK K c3 f3 hPt
            try simp only [Act.put, List.setIfInBounds_toArray, List.set_cons_zero, List.set_cons_succ]
            refine SeqO.fin ?_
            go_wp2
            go_roundw
            case rel => exact ⟨x + 1, by omega, by go_num, Lib.hid ⟨_, by rw [show y * A + (x + 1) = n + 1 by rw [HNN.out]; omega]; exact HN.out⟩⟩
            case measure => simp [intOf]; omega
          · go_simp
            go_at_call 51
            refine (CC.out _ HP.out.2.2.2.2).mono ?_
            rintro e w1 ⟨rfl, hb1⟩
            try dsimp only
            have HP1 := Lib.hid (HP.out.below hb1)
            have c3 : World.cell? _ _ = some (.slice sa n sc) := HP1.out.2.2.1.cell 3
            clear HP hb1
            have HP := HP1
            clear HP1
            refine hK.out _ _ (BlockAt.pat (l := l) HP.out.1) (fun _ => ?_)
            clear hK K
            try simp only [Act.put, List.setIfInBounds_toArray, List.set_cons_zero, List.set_cons_succ]
            refine ⟨wpOp_stepS rfl (by rfl) (fun K hK => ?_), wpOp_stepS rfl (by rfl) (fun K hK => ?_)⟩
            · go_simp
              refine hK.out _ _ (BlockAt.pat (l := l) HP.out.1) (fun _ => ?_)
              clear hK K
              try simp only [Act.put, List.setIfInBounds_toArray, List.set_cons_zero, List.set_cons_succ]
              refine SeqO.step rfl (by rfl) (fun K hK => ?_)
              go_simp
              have HP1 := Lib.hid (HP.out.alloc (.cells #[.int .i64 col] 3))
              have c3 : World.cell? _ _ = some (.slice sa n sc) := HP1.out.2.2.1.cell 3
              clear HP
              have HP := HP1
              clear HP1
              refine hK.out _ _ (BlockAt.pat (l := l) HP.out.1) (fun _ => ?_)
              clear hK K
              try simp only [Act.put, List.setIfInBounds_toArray, List.set_cons_zero, List.set_cons_succ]
              clear c3
              refine SeqO.step rfl (by rfl) (fun K hK => ?_)
              refine wp_append_own _ _ _ 22 rfl (wo.heap.size + 1) 3 i0 (.int .i64 0) 1 8 Tryz.underlying22 hi hz0 hz1 hz2 rfl (by decide) _ n _ rfl HP.out.2.2.2.1 ⟨_, 0, none⟩ 1 1 (intL col) rfl rfl (intL_at _ _ _) (intL_one _) (by unfold maxLen; omega) (by omega) (by have := HP.out.2.2.1.lt; omega) ?_
              intro v' w2 hown2 hgrow _
              have hp2 := OwnF.pushed hown2 HFN.out
              obtain ⟨g, cp, rfl, hg1, hg2⟩ := hp2.form (by omega)
              have HN := Lib.hid (HP.out.next ho hgrow hp2)
              have hB2 := HP.out.2.2.1.grown hgrow (fun e => by have := (World.ownsRow.lt HP.out.2.2.2.1 _ e.symm).1; omega)
              have hPt := BlockAt.pat (l := l) (HP.out.1.grown hgrow (fun e => by have := (World.ownsRow.lt HP.out.2.2.2.1 _ e.symm).1; omega))
              have c3 : World.cell? _ _ = some (.slice sa n sc) := hB2.cell 3
              have f3 := hB2.frozen 3
              clear HP hown2 hgrow hp2 hB2 hg1 hg2
              refine hK.out _ _ hPt (fun _ => ?_)
              clear hK K
              try simp only [Act.put, List.setIfInBounds_toArray, List.set_cons_zero, List.set_cons_succ]
              repeat (first
                | (refine SeqO.ld (v := ?_) rfl (by rfl) ?_ ?_; rotate_left; (· intro w _; go_simp; (try with_reducible rfl)); simp only [Act.put, List.setIfInBounds_toArray, List.set_cons_zero, List.set_cons_succ]))
              refine SeqO.step rfl (by rfl) (fun K hK => ?_)
              go_simp
              refine hK.out _ _ (BlockAt.pat (l := l) HN.out.1) (fun _ => ?_)
              clear hK K c3 f3 hPt
              try simp only [Act.put, List.setIfInBounds_toArray, List.set_cons_zero, List.set_cons_succ]
              refine SeqO.fin ?_
              go_wp2
              go_roundw
              case rel => exact ⟨x + 1, by omega, by go_num, Lib.hid ⟨_, by rw [show y * A + (x + 1) = n + 1 by rw [HNN.out]; omega]; exact HN.out⟩⟩
              case measure => simp [intOf]; omega
            · go_simp
              have HP1 := Lib.hid (HP.out.alloc (.cells #[.int .i64 col] 3))
              have c3 : World.cell? _ _ = some (.slice sa n sc) := HP1.out.2.2.1.cell 3
              clear HP
              have HP := HP1
              clear HP1
              refine hK.out _ _ (BlockAt.pat (l := l) HP.out.1) (fun _ => ?_)
              clear hK K
              try simp only [Act.put, List.setIfInBounds_toArray, List.set_cons_zero, List.set_cons_succ]
              refine SeqO.step rfl (by rfl) (fun K hK => ?_)
              go_simp
              refine hK.out _ _ (BlockAt.pat (l := l) HP.out.1) (fun _ => ?_)
              clear hK K
              try simp only [Act.put, List.setIfInBounds_toArray, List.set_cons_zero, List.set_cons_succ]
              clear c3
              refine SeqO.step rfl (by rfl) (fun K hK => ?_)
              refine wp_append_own _ _ _ 22 rfl (wo.heap.size + 1) 3 i0 (.int .i64 0) 1 8 Tryz.underlying22 hi hz0 hz1 hz2 rfl (by decide) _ n _ rfl HP.out.2.2.2.1 ⟨_, 0, none⟩ 1 1 (intL col) rfl rfl (intL_at _ _ _) (intL_one _) (by unfold maxLen; omega) (by omega) (by have := HP.out.2.2.1.lt; omega) ?_
              intro v' w2 hown2 hgrow _
              have hp2 := OwnF.pushed hown2 HFN.out
              obtain ⟨g, cp, rfl, hg1, hg2⟩ := hp2.form (by omega)
              have HN := Lib.hid (HP.out.next ho hgrow hp2)
              have hB2 := HP.out.2.2.1.grown hgrow (fun e => by have := (World.ownsRow.lt HP.out.2.2.2.1 _ e.symm).1; omega)
              have hPt := BlockAt.pat (l := l) (HP.out.1.grown hgrow (fun e => by have := (World.ownsRow.lt HP.out.2.2.2.1 _ e.symm).1; omega))
              have c3 : World.cell? _ _ = some (.slice sa n sc) := hB2.cell 3
              have f3 := hB2.frozen 3
              clear HP hown2 hgrow hp2 hB2 hg1 hg2
              refine hK.out _ _ hPt (fun _ => ?_)
              clear hK K
              try simp only [Act.put, List.setIfInBounds_toArray, List.set_cons_zero, List.set_cons_succ]
              repeat (first
                | (refine SeqO.ld (v := ?_) rfl (by rfl) ?_ ?_; rotate_left; (· intro w _; go_simp; (try with_reducible rfl)); simp only [Act.put, List.setIfInBounds_toArray, List.set_cons_zero, List.set_cons_succ]))
              refine SeqO.step rfl (by rfl) (fun K hK => ?_)
              go_simp
              refine hK.out _ _ (BlockAt.pat (l := l) HN.out.1) (fun _ => ?_)
              clear hK K c3 f3 hPt
              try simp only [Act.put, List.setIfInBounds_toArray, List.set_cons_zero, List.set_cons_succ]
              refine SeqO.fin ?_
              go_wp2
              go_roundw
              case rel => exact ⟨x + 1, by omega, by go_num, Lib.hid ⟨_, by rw [show y * A + (x + 1) = n + 1 by rw [HNN.out]; omega]; exact HN.out⟩⟩
              case measure => simp [intOf]; omega
        · obtain rfl : x = A := by omega
          have hdx : decide ((x : Int) < l.a) = false := decide_eq_false (by omega)
          have HN := Lib.hid hgx.out
          clear hgx hx
          go_wp2
          go_roundw
          case rel => exact ⟨y + 1, by omega, by go_num, Lib.hid (by obtain ⟨v, h⟩ := HN.out; exact ⟨v, by rw [Nat.add_mul, Nat.one_mul]; exact h⟩)⟩
          case measure => simp [intOf]; omega
    · obtain rfl : y = D := by omega
      have hdy : decide ((y : Int) < l.c) = false := decide_eq_false (by omega)
      have d0 : World.cell? _ _ = some (.int .i64 l.a) := hg.1.cell 0
      have d2 : World.cell? _ _ = some (.int .i64 l.c) := hg.1.cell 2
      obtain ⟨k0, k1, k2, hown, hw⟩ := hg
      have hform : ∃ a c, v0 = .slice a (y * A) c := by
        rcases hown with ⟨_, ⟨h1, h2⟩ | ⟨g, cap, cur, h1, _⟩⟩
        · exact ⟨none, 0, by rw [h1, h2]⟩
        · exact ⟨_, _, h1⟩
      obtain ⟨sa, sc, rfl⟩ := hform
      have c0 : World.cell? _ _ = some (.int .i64 l.a) := k2.cell 0
      have c1 : World.cell? _ _ = some (.int .i64 l.b) := k2.cell 1
      have c2 : World.cell? _ _ = some (.int .i64 l.c) := k2.cell 2
      have c3 : World.cell? _ _ = some (.slice sa (y * A) sc) := k2.cell 3
      have HK1 := Lib.hid k1
      have HWW := Lib.hid hw
      have LE := Lib.hid (LS.out (wo.heap.size + 1) (.slice sa (y * A) sc) wr (by rw [HTOT.out]; exact hown))
      have hsz := hw.size
      have hk1 := k1.lt
      clear k0 k1 k2 hown hw HG hg
      go_wp2_with fail
      refine LE.out.mono ?_
      rintro e wz ⟨uz, rfl, hz1, hzb⟩
      obtain ⟨za, zc, rfl⟩ := hz1.form
      have hB := HK1.out.below hzb HK1.out.lt
      have e0 : World.cell? _ _ = some (.int .i64 0) := hB.cell 0
      have e1 : World.cell? _ _ = some (.int .i64 0) := hB.cell 1
      have e2 : World.cell? _ _ = some (.int .i64 0) := hB.cell 2
      have e3 : World.cell? _ _ = some (.slice none 0 0) := hB.cell 3
      have r0 := hB.frozen 0
      have r1 := hB.frozen 1
      have r2 := hB.frozen 2
      have r3 := hB.frozen 3
      have hlz := hB.lt
      have HZ := Lib.hid (And.intro hz1 (below_step HWW.out hzb))
      clear hz1 hzb hB HK1 HWW LE c0 c1 c2 c3 d0 d2
      go_wp2
      refine bodyPost_ret (v := .tuple #[patV LL (.slice za K.length zc), .int .i64 0]) (by simp [results, Tryz.results89, go_sem, e0, e1, e2, e3]) rfl ⟨_, rfl, ?_, ?_⟩
      · refine OwnI.mono (base := wr.heap.size) ?_ (by omega)
        iterate 4 (refine OwnI.setOld ?_ (by dsimp only; omega) _)
        exact HZ.out.1
      · iterate 4 (refine Below.setCell ?_ (by dsimp only; omega) _)
        exact HZ.out.2
end Go.Proofs.YtobolflgoljafaaGreatDoor
namespace Go.Proofs.YtobolflgoljafaaGreatDoor
open Go.RowKit

theorem shift_pl {f : Int → Int → Int} (h : Pl f) (u : Value) (W : World) (dx dy : Int) (hu : Ints W u (cellsF f)) (h1 : -100000 ≤ dx) (h2 : dx ≤ 100000) (h3 : -100000 ≤ dy) (h4 : dy ≤ 100000) : Calls Tryz.prog 37 #[patV (latF f) u, .int .i64 dx, .int .i64 dy] W (MakesF (Pt.shiF dx dy f) W) := by
  have hl := h.len.2
  have hs := h.size
  have := shift_any (latF f).a (latF f).b (latF f).c u (cellsF f) dx dy W hu (by omega) (by have := h.isB.ok.1; omega) (by omega)
  rw [place_in h.valid (by rw [(fromB_iff _ _ _).2 ⟨h1, h2⟩, (fromB_iff _ _ _).2 ⟨h3, h4⟩]; rfl), h.col] at this
  exact this.mono fun e w' h => PatRes.makes h
theorem shi_back (dx dy : Int) (f : Int → Int → Int) : Pt.shiF (-dx) (-dy) (Pt.shiF dx dy f) = f := by
  funext x y
  unfold Pt.shiF
  rw [show x - -dx - dx = x by omega, show y - -dy - dy = y by omega]

set_option maxRecDepth 20000 in
set_option maxHeartbeats 2000000 in
theorem refShift_bad (A B C : Int) (v : Value) (cs : List Int) (dx dy : Int) (w : World) (hz : placeE A B C cs dx dy ≠ 0) (hv : Ints w v cs) (hkl : cs.length ≤ 1000000000) (hA1 : -9223372036854775808 ≤ A) (hA2 : A ≤ 9223372036854775807) :
    Calls Tryz.prog 89 #[.agg #[.int .i64 A, .int .i64 B, .int .i64 C, v], .int .i64 dx, .int .i64 dy] w fun e w' => e = .returned (.tuple #[patV ⟨0, 0, 0⟩ (.slice none 0 0), .int .i64 (placeE A B C cs dx dy)]) ∧ Below w.heap.size w w' := by
  have VA := Lib.hid (fun W hW => refValidate_any A B C v cs W (hv.all hW) hkl hA1 hA2)
  have NR := Lib.hid (fun W => refNear_any dx dy W)
  obtain ⟨va, vc, rfl, _⟩ := hv.look'
  have b1 := BlockAt.new (w.alloc (.cells #[.int .i64 A, .int .i64 B, .int .i64 C, .slice va cs.length vc] 24)) #[.int .i64 0, .int .i64 0, .int .i64 0, .slice none 0 0] 24
  simp only [World.size_alloc] at b1
  have hw := below_alloc (below_alloc (Below.refl w.heap.size w) (.cells #[.int .i64 A, .int .i64 B, .int .i64 C, .slice va cs.length vc] 24)) (.cells #[.int .i64 0, .int .i64 0, .int .i64 0, .slice none 0 0] 24)
  have HB := Lib.hid (And.intro b1 hw)
  clear b1 hw
  by_cases hz0 : validE A B C cs = 0
  · rw [hz0] at VA
    have hnf : (fromB (-100000) 100000 dx && fromB (-100000) 100000 dy) = false := by
      apply Bool.eq_false_iff.2
      intro h
      exact hz (place_in hz0 h)
    rw [place_near hz0 hnf]
    rw [hnf] at NR
    clear hz hz0 hnf hv
    go_enter Tryz.func89, Tryz.ntmps89
    go_wp2_with fail
    refine (VA.out _ HB.out.2).mono ?_
    rintro e w1 ⟨rfl, hb1⟩
    have hB1 := HB.out.1.below hb1 HB.out.1.lt
    have HW := Lib.hid (below_step HB.out.2 hb1)
    go_wp2_with fail
    refine (NR.out _).mono ?_
    rintro e w2 ⟨rfl, rfl⟩
    have e0 : World.cell? _ _ = some (.int .i64 0) := hB1.cell 0
    have e1 : World.cell? _ _ = some (.int .i64 0) := hB1.cell 1
    have e2 : World.cell? _ _ = some (.int .i64 0) := hB1.cell 2
    have e3 : World.cell? _ _ = some (.slice none 0 0) := hB1.cell 3
    have r0 := hB1.frozen 0
    have r1 := hB1.frozen 1
    have r2 := hB1.frozen 2
    have r3 := hB1.frozen 3
    have hlt := hB1.lt
    clear hb1 hB1 VA HB NR
    go_wp2
    refine bodyPost_ret (v := .tuple #[.agg #[.int .i64 0, .int .i64 0, .int .i64 0, .slice none 0 0], .int .i64 1]) (by simp [results, Tryz.results89, go_sem, e0, e1, e2, e3]) rfl ⟨rfl, ?_⟩
    iterate 4 (refine Below.setCell ?_ (by dsimp only; omega) _)
    exact HW.out
  · rw [place_bad hz0]
    generalize validE A B C cs = q at *
    have hd : (q == 0) = false := beq_eq_false_iff_ne.2 hz0
    have hd2 : (q != 0) = true := by rw [bne, hd]; rfl
    clear hz hz0 hv NR
    go_enter Tryz.func89, Tryz.ntmps89
    go_wp2_with fail
    refine (VA.out _ HB.out.2).mono ?_
    rintro e w1 ⟨rfl, hb1⟩
    have hB1 := HB.out.1.below hb1 HB.out.1.lt
    have HW := Lib.hid (below_step HB.out.2 hb1)
    have e0 : World.cell? _ _ = some (.int .i64 0) := hB1.cell 0
    have e1 : World.cell? _ _ = some (.int .i64 0) := hB1.cell 1
    have e2 : World.cell? _ _ = some (.int .i64 0) := hB1.cell 2
    have e3 : World.cell? _ _ = some (.slice none 0 0) := hB1.cell 3
    have r0 := hB1.frozen 0
    have r1 := hB1.frozen 1
    have r2 := hB1.frozen 2
    have r3 := hB1.frozen 3
    have hlt := hB1.lt
    clear hb1 hB1 VA HB
    go_wp2
    refine bodyPost_ret (v := .tuple #[.agg #[.int .i64 0, .int .i64 0, .int .i64 0, .slice none 0 0], .int .i64 q]) (by simp [results, Tryz.results89, go_sem, e0, e1, e2, e3]) rfl ⟨rfl, ?_⟩
    iterate 4 (refine Below.setCell ?_ (by dsimp only; omega) _)
    exact HW.out
theorem MakesF.res {f : Int → Int → Int} {w w' : World} {e : Ending} (h : MakesF f w e w') : PatRes 0 (latF f) f w e w' := by
  unfold PatRes
  rw [ansL_ok, ansC_ok]
  exact h
theorem makes_unf {f : Int → Int → Int} {L : Pt.Lat} {K : List Int} (hL : latF f = L) (hK : cellsF f = K) {w w' : World} {e : Ending} (h : MakesF f w e w') : ∃ u, e = .returned (.tuple #[patV L u, .int .i64 0]) ∧ OwnI w.heap.size w' u K ∧ Below w.heap.size w w' := by
  subst hL; subst hK; exact h
theorem refShift_any (A B C : Int) (v : Value) (cs : List Int) (dx dy : Int) (w : World) (hv : Ints w v cs) (hkl : cs.length ≤ 1000000000) (hA1 : -9223372036854775808 ≤ A) (hA2 : A ≤ 9223372036854775807) :
    Calls Tryz.prog 89 #[.agg #[.int .i64 A, .int .i64 B, .int .i64 C, v], .int .i64 dx, .int .i64 dy] w (PatRes (placeE A B C cs dx dy) (latF (Pt.shiF dx dy (Pt.col ⟨A, B, C⟩ (csF cs)))) (Pt.shiF dx dy (Pt.col ⟨A, B, C⟩ (csF cs))) w) := by
  by_cases hz : placeE A B C cs dx dy = 0
  · rw [hz]
    exact (refShift_ok A B C v cs dx dy w hz hv hkl hA1 hA2).mono fun e w' h => h.res
  · exact (refShift_bad A B C v cs dx dy w hz hv hkl hA1 hA2).mono fun e w' h => patRes_of (fun h0 => absurd h0 hz) (fun _ => h.1) h.2
end Go.Proofs.YtobolflgoljafaaGreatDoor
