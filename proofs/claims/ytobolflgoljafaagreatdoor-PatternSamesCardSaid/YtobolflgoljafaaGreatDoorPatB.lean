/- Closures of a plane; a pattern is painted: pattern.paint. A pattern is painted: pattern.paint. The plane of a pattern: pattern.planeOf. The least pattern of a plane: pattern.draw. The least pattern of a pattern: pattern.least. -/
import Derived.Test.YtobolflgoljafaaGreatDoorPatA
import Derived.Laws.EntriesVeiled
namespace Go.Proofs.YtobolflgoljafaaGreatDoor
open Go.RowKit

set_option maxRecDepth 20000 in
set_option maxHeartbeats 1000000 in
theorem draw1_any (l : Pt.Lat) (v : Value) (cs : List Int) (bp : Nat) (dx dy : Int) (w : World) (hp : PatIn w l v cs) (hb : PatAt w bp l v) (hx : -500000 ≤ dx) (hx2 : dx ≤ 500000) (hy : -500000 ≤ dy) (hy2 : dy ≤ 500000) :
    Calls Tryz.prog 92 #[.int .i64 dx, .int .i64 dy, .pointer (some ⟨bp, 0, none⟩)] w fun e w' => e = .returned (.bool (movedB l (Pt.col l (csF cs)) (Pt.col l (csF cs)) dx dy)) ∧ Below w.heap.size w w' := by
  have M := Lib.hid (fun W hW => isMoved_any l l v v cs cs dx dy W (hp.all hW) (hp.all hW) hx hx2 hy hy2)
  generalize movedB l (Pt.col l (csF cs)) (Pt.col l (csF cs)) dx dy = r at *
  obtain ⟨c0, c1, c2, c3, _⟩ := hb
  have hvp : ∃ a n c, v = .slice a n c := by
    obtain ⟨_, _, _, _, h, _⟩ := hp.at_ 0 0
    exact ⟨_, _, _, h⟩
  obtain ⟨a, n, c, rfl⟩ := hvp
  clear hp
  go_enter Tryz.func92, Tryz.ntmps92
  go_wp2_with fail
  refine (M.out _ (by repeat' (first | exact Below.refl _ _ | apply below_drewN))).mono ?_
  rintro e w1 ⟨rfl, hb1⟩
  go_wp2
  go_ret
  exact ⟨rfl, by first | exact hb1 | exact (Below.refl _ _).trans hb1⟩

set_option maxRecDepth 20000 in
set_option maxHeartbeats 1000000 in
theorem planeOf1_any (l : Pt.Lat) (v : Value) (cs : List Int) (bp : Nat) (x y : Int) (w : World) (hp : PatIn w l v cs) (hb : PatAt w bp l v) (hx : -1000000 ≤ x) (hx2 : x ≤ 1000000) (hy : -1000000 ≤ y) (hy2 : y ≤ 1000000) :
    Calls Tryz.prog 94 #[.int .i64 x, .int .i64 y, .pointer (some ⟨bp, 0, none⟩)] w fun e w' => e = .returned (.int .i64 (Pt.col l (csF cs) x y)) ∧ Below w.heap.size w w' := by
  have M := Lib.hid (fun W hW => colorAt_any l v cs x y W (hp.all hW) hx hx2 hy hy2)
  generalize Pt.col l (csF cs) x y = r at *
  obtain ⟨c0, c1, c2, c3, _⟩ := hb
  have hvp : ∃ a n c, v = .slice a n c := by
    obtain ⟨_, _, _, _, h, _⟩ := hp.at_ 0 0
    exact ⟨_, _, _, h⟩
  obtain ⟨a, n, c, rfl⟩ := hvp
  clear hp
  go_enter Tryz.func94, Tryz.ntmps94
  go_wp2_with fail
  refine (M.out _ (by repeat' (first | exact Below.refl _ _ | apply below_drewN))).mono ?_
  rintro e w1 ⟨rfl, hb1⟩
  go_wp2
  go_ret
  exact ⟨rfl, by first | exact hb1 | exact (Below.refl _ _).trans hb1⟩

set_option maxRecDepth 20000 in
set_option maxHeartbeats 2000000 in
theorem find_draw1 (bp : Nat) (most : Int) (l0 : Pt.Lat) (G : Int → Int → Prop) (gB : Int → Int → Bool) (w : World) (hG : Pt.Grp G) (h0 : Pt.IsB G l0) (hgB : ∀ x y, gB x y = true ↔ G x y) (hm1 : 1 ≤ most) (hm2 : most ≤ 30000) (hA2 : l0.a ≤ 30000) (hC2 : l0.c ≤ 30000)
    (HF : ∀ (dx dy : Int) W, 0 ≤ dx → dx ≤ 30000 → 0 ≤ dy → dy ≤ 30000 → Below w.heap.size w W → Calls Tryz.prog 92 #[.int .i64 dx, .int .i64 dy, .pointer (some ⟨bp, 0, none⟩)] W fun e w' => e = .returned (.bool (gB dx dy)) ∧ Below W.heap.size W w') :
    Calls Tryz.prog 90 #[.int .i64 most, .func (.func 92) #[] #[.pointer (some ⟨bp, 0, none⟩)]] w (FindSays most l0 w) := by
  obtain ⟨f1, f2, f3, f4, f5⟩ := find_facts hG h0 hgB
  obtain ⟨a1, b1, b2, c1⟩ := h0.ok
  obtain ⟨A, B, C⟩ := l0
  dsimp only at *
  have F1 := Lib.hid f1
  have F2 := Lib.hid f2
  have F3 := Lib.hid f3
  have F4 := Lib.hid f4
  have F5 := Lib.hid f5
  have HH := Lib.hid HF
  have Z0 := LatW.fresh w ⟨0, 0, 0⟩ 63
  have B0 := (Below.refl w.heap.size w).alloc (Nat.le_refl _) (.cells #[.int .i64 0, .int .i64 0, .int .i64 0] 63)
  have H0 := Lib.hid (And.intro Z0 B0)
  clear f1 f2 f3 f4 f5 HF hG h0 hgB Z0 B0
  have HNO : Hid (¬ A * C ≤ most → ∀ (W : World), Below w.heap.size w W → FindSays most ⟨A, B, C⟩ w (.returned (.tuple #[latV ⟨0, 0, 0⟩, .bool false])) W) := Lib.hid fun h W hW => ⟨fun h2 => absurd h2 h, fun _ => rfl, hW⟩
  have HYES : Hid (A * C ≤ most → ∀ (W : World), Below w.heap.size w W → FindSays most ⟨A, B, C⟩ w (.returned (.tuple #[latV ⟨A, B, C⟩, .bool true])) W) := Lib.hid fun h W hW => ⟨fun _ => rfl, fun h2 => absurd h h2, hW⟩
  go_enter Tryz.func90, Tryz.ntmps90
  go_wp2
  go_loopw [6] (fun t wr => ∃ a : Int, 1 ≤ a ∧ a ≤ A ∧ a ≤ most ∧ t = .int .i64 a ∧ Hid (LatW wr w.heap.size ⟨0, 0, 0⟩ ∧ Below w.heap.size w wr)) (fun t _ => (A - intOf t).toNat)
  case atStart => exact ⟨1, by omega, by omega, by omega, rfl, H0⟩
  case round =>
    obtain ⟨a, ha1, haA, ham, rfl, hg⟩ := hrel
    clear H0
    have CA := Lib.hid (HH.out a 0 _ (by omega) (by omega) (by omega) (by omega) hg.out.2)
    by_cases hlt : a < A
    · rw [F1.out a ha1 hlt] at CA
      go_wp2_with fail
      refine CA.out.mono ?_
      rintro e w1 ⟨rfl, hb1⟩
      have hL := hg.out.1.all hb1
      have HW := Lib.hid (And.intro hL (below_step hg.out.2 hb1))
      obtain ⟨⟨c0, c1', c2⟩, ⟨z0, z1, z2⟩, _⟩ := hL
      clear hb1 CA
      by_cases hmo : a + 1 ≤ most
      · have hd : decide (most < a + 1) = false := decide_eq_false (by omega)
        clear c0 c1' c2 z0 z1 z2
        go_wp2
        go_roundw
        case rel => exact ⟨a + 1, by omega, by omega, hmo, rfl, HW⟩
        case measure => simp [intOf]; omega
      · have hd : decide (most < a + 1) = true := decide_eq_true (by omega)
        have hbig : ¬ A * C ≤ most := by
          intro h
          have : A * 1 ≤ A * C := Int.mul_le_mul_of_nonneg_left c1 (by omega)
          omega
        have HE := Lib.hid (HNO.out (by omega))
        clear hbig
        dsimp only at c0 c1' c2
        go_wp2
        exact bodyPost_ret (v := .tuple #[.agg #[.int .i64 0, .int .i64 0, .int .i64 0], .bool false]) (by simp [results, Tryz.results90, go_sem, c0, c1', c2]) rfl (HE.out _ (((HW.out.2.setCell (Nat.le_refl _) _).setCell (Nat.le_refl _) _).setCell (Nat.le_refl _) _))
    · obtain rfl : a = A := by omega
      rw [F2.out] at CA
      go_wp2_with fail
      refine CA.out.mono ?_
      rintro e w1 ⟨rfl, hb1⟩
      have HW := Lib.hid (And.intro (hg.out.1.all hb1) (below_step hg.out.2 hb1))
      clear hb1 CA hg hlt
      go_wp2
      go_loopw [7] (fun t wr => ∃ c : Int, 1 ≤ c ∧ c ≤ C ∧ t = .int .i64 c ∧ Hid (LatW wr w.heap.size ⟨0, 0, 0⟩ ∧ Below w.heap.size w wr)) (fun t _ => (C + 1 - intOf t).toNat)
      case atStart => exact ⟨1, by omega, by omega, rfl, HW⟩
      case round =>
        obtain ⟨c, hc1, hcC, rfl, hg⟩ := hrel
        clear HW
        have hp0 : 0 ≤ a * c := Int.mul_nonneg (by omega) (by omega)
        have hp1 : a * c ≤ a * C := Int.mul_le_mul_of_nonneg_left hcC (by omega)
        have hcc : c ≤ a * c := by have := Int.mul_le_mul_of_nonneg_right ha1 (show 0 ≤ c by omega); omega
        have hp2 : a * c ≤ 900000000 := by
          have := Int.mul_le_mul_of_nonneg_right hA2 (show 0 ≤ c by omega)
          omega
        have g1 : IntKind.i64.wrap (a * c) = a * c := IntWalk.i64_in _ ⟨by omega, by omega⟩
        by_cases hle : a * c ≤ most
        · have hd : decide (a * c ≤ most) = true := decide_eq_true hle
          go_wp2
          go_loopw [27] (fun t wx => ∃ b : Int, 0 ≤ b ∧ b ≤ a ∧ t = .int .i64 b ∧ Hid ((c = C → b ≤ B) ∧ LatW wx w.heap.size ⟨0, 0, 0⟩ ∧ Below w.heap.size w wx)) (fun t _ => (a - intOf t).toNat)
          case atStart => exact ⟨0, by omega, by omega, rfl, Lib.hid ⟨fun _ => b1, hg.out⟩⟩
          case round =>
            obtain ⟨b, hb0, hba, rfl, hgb⟩ := hrel
            clear hg
            by_cases hbl : b < a
            · have CB := Lib.hid (HH.out b c _ (by omega) (by omega) (by omega) (by omega) hgb.out.2.2)
              have hcB := hgb.out.1
              by_cases hhit : c = C ∧ b = B
              · obtain ⟨rfl, rfl⟩ := hhit
                rw [F5.out] at CB
                have HE := Lib.hid (HYES.out hle)
                clear hcB
                go_wp2_with fail
                refine CB.out.mono ?_
                rintro e w2 ⟨rfl, hb2⟩
                have hL := hgb.out.2.1.all hb2
                have HW := Lib.hid (below_step hgb.out.2.2 hb2)
                obtain ⟨⟨c0, c1', c2⟩, ⟨z0, z1, z2⟩, _⟩ := hL
                clear hb2 CB hgb
                dsimp only at c0 c1' c2
                go_wp2
                exact bodyPost_ret (v := .tuple #[.agg #[.int .i64 a, .int .i64 b, .int .i64 c], .bool true]) (by simp [results, Tryz.results90, go_sem, c0, c1', c2]) rfl (HE.out _ (((HW.out.setCell (Nat.le_refl _) _).setCell (Nat.le_refl _) _).setCell (Nat.le_refl _) _))
              · have hno : gB b c = false := by
                  by_cases hcC2 : c < C
                  · exact F3.out b c hc1 hcC2 hb0 hbl
                  · have e : c = C := by omega
                    have := hcB e
                    rw [e]
                    exact F4.out b hb0 (by omega)
                rw [hno] at CB
                have HCB : Hid (c = C → b + 1 ≤ B) := Lib.hid fun e => by have := hcB e; omega
                clear hno hcB hhit
                go_wp2_with fail
                refine CB.out.mono ?_
                rintro e w2 ⟨rfl, hb2⟩
                have HW := Lib.hid (And.intro HCB.out (And.intro (hgb.out.2.1.all hb2) (below_step hgb.out.2.2 hb2)))
                clear hb2 CB hgb HCB
                go_wp2
                go_roundw
                case rel => exact ⟨b + 1, by omega, by omega, rfl, HW⟩
                case measure => simp [intOf]; omega
            · obtain rfl : b = a := by omega
              have hcC3 : c < C := by
                by_cases e : c = C
                · have := hgb.out.1 e; omega
                · omega
              have HW := Lib.hid hgb.out.2
              clear hgb
              go_wp2
              go_roundw
              case rel => exact ⟨c + 1, by omega, by omega, rfl, HW⟩
              case measure => simp [intOf]; omega
        · have hd : decide (a * c ≤ most) = false := decide_eq_false hle
          have HE := Lib.hid (HNO.out (by omega))
          obtain ⟨hL, hw⟩ := hg.out
          obtain ⟨⟨c0, c1', c2⟩, ⟨z0, z1, z2⟩, _⟩ := hL
          have HW := Lib.hid hw
          clear hg hw
          dsimp only at c0 c1' c2
          go_wp2
          exact bodyPost_ret (v := .tuple #[.agg #[.int .i64 0, .int .i64 0, .int .i64 0], .bool false]) (by simp [results, Tryz.results90, go_sem, c0, c1', c2]) rfl (HE.out _ (((HW.out.setCell (Nat.le_refl _) _).setCell (Nat.le_refl _) _).setCell (Nat.le_refl _) _))
end Go.Proofs.YtobolflgoljafaaGreatDoor
namespace Go.Proofs.YtobolflgoljafaaGreatDoor
open Go.RowKit

theorem OwnF.mono {base B : Nat} {w : World} {v : Value} {n : Nat} {f : Nat → Int} (h : OwnF base w v n f) (hB : B ≤ base) : OwnF B w v n f := by
  obtain ⟨h0, h⟩ := h
  rcases h with h | ⟨g, cap, cur, h1, h2, h3⟩
  · exact ⟨h0, .inl h⟩
  · exact ⟨h0, .inr ⟨g, cap, cur, h1, Nat.le_trans hB h2, h3⟩⟩
theorem OwnF.setOld {base : Nat} {w : World} {v : Value} {n : Nat} {f : Nat → Int} (h : OwnF base w v n f) {a : Addr} (ha : a.block < base) (u : Value) : OwnF base (w.setCell a u) v n f := RowKit.ownsRow_setCell_below h ha u
theorem BlockAt.grown {W w2 : World} {B : Nat} {cs : Array Value} {t : TypeId} {row : Option Nat} (h : BlockAt W B cs t) (hg : W.grownBy w2 row) (hne : some B ≠ row) : BlockAt w2 B cs t := (hg.block B h.lt hne).trans h
/-- What paint holds: the lattice, the answer's place, the pattern with n cells. -/
def PSt (w W : World) (l : Pt.Lat) (F : Nat → Int) (n : Nat) (v : Value) : Prop :=
  BlockAt W w.heap.size #[.int .i64 l.a, .int .i64 l.b, .int .i64 l.c] 63 ∧ BlockAt W (w.heap.size + 1) #[.int .i64 0, .int .i64 0, .int .i64 0, .slice none 0 0] 24 ∧
    BlockAt W (w.heap.size + 2) #[.int .i64 l.a, .int .i64 l.b, .int .i64 l.c, v] 24 ∧ OwnF (w.heap.size + 3) W v n F ∧ Below w.heap.size w W
theorem PSt.below {w W W2 : World} {l : Pt.Lat} {F : Nat → Int} {n : Nat} {v : Value} (h : PSt w W l F n v) (hb : Below W.heap.size W W2) : PSt w W2 l F n v :=
  ⟨h.1.below hb h.1.lt, h.2.1.below hb h.2.1.lt, h.2.2.1.below hb h.2.2.1.lt, h.2.2.2.1.below hb, below_step h.2.2.2.2 hb⟩
theorem PSt.drew {w W : World} {l : Pt.Lat} {F : Nat → Int} {n : Nat} {v : Value} (h : PSt w W l F n v) : PSt w W.drew l F n v := ⟨h.1.drew, h.2.1.drew, h.2.2.1.drew, h.2.2.2.1.drew, h.2.2.2.2.drew⟩
theorem PSt.alloc {w W : World} {l : Pt.Lat} {F : Nat → Int} {n : Nat} {v : Value} (h : PSt w W l F n v) (o : Obj) : PSt w (W.alloc o) l F n v := h.below ((Below.refl _ _).alloc (Nat.le_refl _) o)
theorem PSt.start (w : World) (l : Pt.Lat) (F : Nat → Int) : PSt w (((w.alloc (.cells #[.int .i64 l.a, .int .i64 l.b, .int .i64 l.c] 63)).alloc (.cells #[.int .i64 0, .int .i64 0, .int .i64 0, .slice none 0 0] 24)).alloc (.cells #[.int .i64 l.a, .int .i64 l.b, .int .i64 l.c, .slice none 0 0] 24)) l F 0 (.slice none 0 0) := by
  have h1 := BlockAt.new w #[.int .i64 l.a, .int .i64 l.b, .int .i64 l.c] 63
  have h2 := BlockAt.new (w.alloc (.cells #[.int .i64 l.a, .int .i64 l.b, .int .i64 l.c] 63)) #[.int .i64 0, .int .i64 0, .int .i64 0, .slice none 0 0] 24
  have h3 := BlockAt.new ((w.alloc (.cells #[.int .i64 l.a, .int .i64 l.b, .int .i64 l.c] 63)).alloc (.cells #[.int .i64 0, .int .i64 0, .int .i64 0, .slice none 0 0] 24)) #[.int .i64 l.a, .int .i64 l.b, .int .i64 l.c, .slice none 0 0] 24
  simp only [World.size_alloc] at h2 h3
  exact ⟨(h1.alloc _).alloc _, h2.alloc _, h3, OwnF.nil _ _ _, below_alloc (below_alloc (below_alloc (Below.refl _ _) _) _) _⟩
theorem PSt.next {w W w2 : World} {l : Pt.Lat} {F : Nat → Int} {n : Nat} {v u : Value} (h : PSt w W l F n v) (hg : W.grownBy w2 v.ownBlock) (hp : OwnF (w.heap.size + 3) w2 u (n + 1) F) : PSt w (w2.setCell ⟨w.heap.size + 2, 3, none⟩ u) l F (n + 1) u := by
  obtain ⟨h0, h1, h2, hown, hw⟩ := h
  have hne : ∀ B, B < w.heap.size + 3 → some B ≠ v.ownBlock := fun B hB e => by have := (World.ownsRow.lt hown B e.symm).1; omega
  refine ⟨(h0.grown hg (hne _ (by omega))).other (by omega) _, (h1.grown hg (hne _ (by omega))).other (by omega) _, (h2.grown hg (hne _ (by omega))).set 3 _, hp.setOld (by simp) _, ?_⟩
  exact (hw.grown hg hw.size (fun k e => by have := (World.ownsRow.lt hown k e).1; omega)).setCell (by simp) _

set_option maxRecDepth 20000 in
set_option maxHeartbeats 4000000 in
theorem paint_plane (bp : Nat) (l : Pt.Lat) (f : Int → Int → Int) (w : World) (hs : small l)
    (HF : ∀ (x y : Int) W, 0 ≤ x → x ≤ 30000 → 0 ≤ y → y ≤ 30000 → Below w.heap.size w W → Calls Tryz.prog 94 #[.int .i64 x, .int .i64 y, .pointer (some ⟨bp, 0, none⟩)] W fun e w' => e = .returned (.int .i64 (f x y)) ∧ Below W.heap.size W w') :
    Calls Tryz.prog 91 #[latV l, .func (.func 94) #[] #[.pointer (some ⟨bp, 0, none⟩)]] w fun e w' => ∃ v, e = .returned (patV l v) ∧ OwnF w.heap.size w' v (l.a * l.c).toNat (Pt.cellF l f) ∧ Below w.heap.size w w' := by
  obtain ⟨i0, hi, hz0, hz1, hz2⟩ := info_parts infoInt
  obtain ⟨⟨a1, a2, a3, a4⟩, a5, a6⟩ := hs
  have C := Lib.hid HF
  have H0 := Lib.hid (PSt.start w l (Pt.cellF l f))
  have FA := Lib.hid (fun (x y : Int) h1 h2 h3 => Pt.cellF_at (l := l) f (x := x) (y := y) h1 h2 h3)
  obtain ⟨A, hA⟩ : ∃ A : Nat, l.a = A := ⟨l.a.toNat, by omega⟩
  obtain ⟨D, hD⟩ : ∃ D : Nat, l.c = D := ⟨l.c.toNat, by omega⟩
  have HTOT : Hid ((l.a * l.c).toNat = D * A) := Lib.hid (by rw [hA, hD, ← Int.natCast_mul, Int.toNat_natCast, Nat.mul_comm])
  have HA := Lib.hid hA
  have HD := Lib.hid hD
  have hA1 : 1 ≤ A := by omega
  have hA3 : l.a ≤ (A : Int) := by omega
  have hA4 : (A : Int) ≤ l.a := by omega
  have hD3 : l.c ≤ (D : Int) := by omega
  have hD4 : (D : Int) ≤ l.c := by omega
  have hA2 : A ≤ 30000 := by omega
  have hD2 : D ≤ 30000 := by omega
  clear hA hD HF
  generalize hF : Pt.cellF l f = F at *
  clear hF
  go_enter Tryz.func91, Tryz.ntmps91
  go_wp2
  go_loopw [17] (fun t wr => ∃ y : Nat, y ≤ D ∧ t = .int .i64 (y : Int) ∧ Hid (∃ v, PSt w wr l F (y * A) v)) (fun t _ => D - (intOf t).toNat)
  case atStart => exact ⟨0, Nat.zero_le _, rfl, Lib.hid ⟨_, by rw [Nat.zero_mul]; exact H0.out⟩⟩
  case round =>
    obtain ⟨y, hyD, rfl, hg⟩ := hrel
    clear H0
    obtain ⟨v0, hg⟩ := hg.out
    have HG := Lib.hid hg
    by_cases hlt : y < D
    · have c0 : World.cell? _ _ = some (.int .i64 l.a) := hg.1.cell 0
      have hdy : decide ((y : Int) < l.c) = true := decide_eq_true (by omega)
      clear hg
      go_wp2
      clear c0
      go_loopw [22] (fun t wx => ∃ x : Nat, x ≤ A ∧ t = .int .i64 (x : Int) ∧ Hid (∃ v, PSt w wx l F (y * A + x) v)) (fun t _ => A - (intOf t).toNat)
      case atStart => exact ⟨0, Nat.zero_le _, rfl, Lib.hid ⟨_, HG.out⟩⟩
      case round =>
        obtain ⟨x, hxA, rfl, hgx⟩ := hrel
        clear HG
        by_cases hxlt : x < A
        · obtain ⟨v, hx⟩ := hgx.out
          have hform : ∃ a c, v = .slice a (y * A + x) c := by
            rcases hx.2.2.2.1 with ⟨_, ⟨h1, h2⟩ | ⟨g, cap, cur, h1, _⟩⟩
            · exact ⟨none, 0, by rw [h1, h2]⟩
            · exact ⟨_, _, h1⟩
          obtain ⟨sa, sc, rfl⟩ := hform
          have HP := Lib.hid hx.drew
          have CC := Lib.hid (fun W => C.out (x : Int) (y : Int) W (by omega) (by omega) (by omega) (by omega))
          have hfn := FA.out (x : Int) (y : Int) (by omega) (by rw [HA.out]; omega) (by omega)
          rw [HA.out, ← Int.natCast_mul, ← Int.natCast_add, Int.toNat_natCast] at hfn
          have hyA : y * A ≤ 900000000 := by
            have := Nat.mul_le_mul (show y ≤ 30000 by omega) hA2
            omega
          have HFN := Lib.hid hfn
          have c3 : World.cell? _ _ = some (.slice sa (y * A + x) sc) := hx.drew.2.2.1.cell 3
          have hdx : decide ((x : Int) < l.a) = true := decide_eq_true (by omega)
          generalize f (x : Int) (y : Int) = col at *
          obtain ⟨n, hn⟩ : ∃ n, n = y * A + x := ⟨_, rfl⟩
          rw [← hn] at HP HFN c3
          have HNN := Lib.hid hn
          have hnb : n ≤ 900030000 := by omega
          clear hfn hx hg hgx hyA hn
          go_upto_region 8 with fail
          refine wp_region_seq2 (.take 0 (.take 2 (.take 3 (.take 4 (.two 1 (.one 5 (.one 6 (.one 7 (.take 8 (.one 9 .done))))) 5 (.two 1 (.one 6 (.one 7 (.take 8 (.one 9 .done)))) 6 (.one 1 (.one 7 (.take 8 (.one 9 .done)))))))))) (fun _ => True)
            (by kernel_rfl) (by kernel_rfl) (by kernel_rfl) (by kernel_rfl) (fun d _ _ _ _ h => by cases d <;> exact h) trivial (fun _ => ?_)
          repeat (first
            | (refine SeqO.ld (v := ?_) rfl (by rfl) ?_ ?_; rotate_left; (· intro w _; go_simp; (try with_reducible rfl)); simp only [Act.put, List.setIfInBounds_toArray, List.set_cons_zero, List.set_cons_succ]))
          refine ⟨wpOp_stepS rfl (by rfl) (fun K hK => ?_), wpOp_stepS rfl (by rfl) (fun K hK => ?_)⟩
          · go_simp
            refine hK.out _ _ trivial (fun _ => ?_)
            clear hK K
            try simp only [Act.put, List.setIfInBounds_toArray, List.set_cons_zero, List.set_cons_succ]
            refine SeqO.step rfl (by rfl) (fun K hK => ?_)
            go_simp
            go_at_call 94
            refine (CC.out _ HP.out.2.2.2.2).mono ?_
            rintro e w1 ⟨rfl, hb1⟩
            try dsimp only
            have HP1 := Lib.hid (HP.out.below hb1)
            have c3 : World.cell? _ _ = some (.slice sa n sc) := HP1.out.2.2.1.cell 3
            clear HP hb1
            have HP := HP1
            clear HP1
            refine hK.out _ _ trivial (fun _ => ?_)
            clear hK K
            try simp only [Act.put, List.setIfInBounds_toArray, List.set_cons_zero, List.set_cons_succ]
            refine SeqO.step rfl (by rfl) (fun K hK => ?_)
            go_simp
            have HP1 := Lib.hid (HP.out.alloc (.cells #[.int .i64 col] 3))
            have c3 : World.cell? _ _ = some (.slice sa n sc) := HP1.out.2.2.1.cell 3
            clear HP
            have HP := HP1
            clear HP1
            refine hK.out _ _ trivial (fun _ => ?_)
            clear hK K
            try simp only [Act.put, List.setIfInBounds_toArray, List.set_cons_zero, List.set_cons_succ]
            clear c3
            refine SeqO.step rfl (by rfl) (fun K hK => ?_)
            refine wp_append_own _ _ _ 22 rfl (w.heap.size + 3) 3 i0 (.int .i64 0) 1 8 Tryz.underlying22 hi hz0 hz1 hz2 rfl (by decide) _ n _ rfl HP.out.2.2.2.1 ⟨_, 0, none⟩ 1 1 (intL col) rfl rfl (intL_at _ _ _) (intL_one _) (by unfold maxLen; omega) (by omega) (by have := HP.out.2.2.1.lt; omega) ?_
            intro v' w2 hown2 hgrow _
            have hp2 := OwnF.pushed hown2 HFN.out
            obtain ⟨g, cp, rfl, hg1, hg2⟩ := hp2.form (by omega)
            have HN := Lib.hid (HP.out.next hgrow hp2)
            have hB2 := HP.out.2.2.1.grown hgrow (fun e => by have := (World.ownsRow.lt HP.out.2.2.2.1 _ e.symm).1; omega)
            have c3 : World.cell? _ _ = some (.slice sa n sc) := hB2.cell 3
            have f3 := hB2.frozen 3
            clear HP hown2 hgrow hp2 hB2 hg1 hg2
            refine hK.out _ _ trivial (fun _ => ?_)
            clear hK K
            try simp only [Act.put, List.setIfInBounds_toArray, List.set_cons_zero, List.set_cons_succ]
            repeat (first
              | (refine SeqO.ld (v := ?_) rfl (by rfl) ?_ ?_; rotate_left; (· intro w _; go_simp; (try with_reducible rfl)); simp only [Act.put, List.setIfInBounds_toArray, List.set_cons_zero, List.set_cons_succ]))
            refine SeqO.step rfl (by rfl) (fun K hK => ?_)
            go_simp
            refine hK.out _ _ trivial (fun _ => ?_)
            clear hK K c3 f3
            try simp only [Act.put, List.setIfInBounds_toArray, List.set_cons_zero, List.set_cons_succ]
            refine SeqO.fin ?_
            go_wp2
            go_roundw
            case rel => exact ⟨x + 1, by omega, by go_num, Lib.hid ⟨_, by rw [show y * A + (x + 1) = n + 1 by rw [HNN.out]; omega]; exact HN.out⟩⟩
            case measure => simp [intOf]; omega
          · go_simp
            go_at_call 94
            refine (CC.out _ HP.out.2.2.2.2).mono ?_
            rintro e w1 ⟨rfl, hb1⟩
            try dsimp only
            have HP1 := Lib.hid (HP.out.below hb1)
            have c3 : World.cell? _ _ = some (.slice sa n sc) := HP1.out.2.2.1.cell 3
            clear HP hb1
            have HP := HP1
            clear HP1
            refine hK.out _ _ trivial (fun _ => ?_)
            clear hK K
            try simp only [Act.put, List.setIfInBounds_toArray, List.set_cons_zero, List.set_cons_succ]
            refine ⟨wpOp_stepS rfl (by rfl) (fun K hK => ?_), wpOp_stepS rfl (by rfl) (fun K hK => ?_)⟩
            · go_simp
              refine hK.out _ _ trivial (fun _ => ?_)
              clear hK K
              try simp only [Act.put, List.setIfInBounds_toArray, List.set_cons_zero, List.set_cons_succ]
              refine SeqO.step rfl (by rfl) (fun K hK => ?_)
              go_simp
              have HP1 := Lib.hid (HP.out.alloc (.cells #[.int .i64 col] 3))
              have c3 : World.cell? _ _ = some (.slice sa n sc) := HP1.out.2.2.1.cell 3
              clear HP
              have HP := HP1
              clear HP1
              refine hK.out _ _ trivial (fun _ => ?_)
              clear hK K
              try simp only [Act.put, List.setIfInBounds_toArray, List.set_cons_zero, List.set_cons_succ]
              clear c3
              refine SeqO.step rfl (by rfl) (fun K hK => ?_)
              refine wp_append_own _ _ _ 22 rfl (w.heap.size + 3) 3 i0 (.int .i64 0) 1 8 Tryz.underlying22 hi hz0 hz1 hz2 rfl (by decide) _ n _ rfl HP.out.2.2.2.1 ⟨_, 0, none⟩ 1 1 (intL col) rfl rfl (intL_at _ _ _) (intL_one _) (by unfold maxLen; omega) (by omega) (by have := HP.out.2.2.1.lt; omega) ?_
              intro v' w2 hown2 hgrow _
              have hp2 := OwnF.pushed hown2 HFN.out
              obtain ⟨g, cp, rfl, hg1, hg2⟩ := hp2.form (by omega)
              have HN := Lib.hid (HP.out.next hgrow hp2)
              have hB2 := HP.out.2.2.1.grown hgrow (fun e => by have := (World.ownsRow.lt HP.out.2.2.2.1 _ e.symm).1; omega)
              have c3 : World.cell? _ _ = some (.slice sa n sc) := hB2.cell 3
              have f3 := hB2.frozen 3
              clear HP hown2 hgrow hp2 hB2 hg1 hg2
              refine hK.out _ _ trivial (fun _ => ?_)
              clear hK K
              try simp only [Act.put, List.setIfInBounds_toArray, List.set_cons_zero, List.set_cons_succ]
              repeat (first
                | (refine SeqO.ld (v := ?_) rfl (by rfl) ?_ ?_; rotate_left; (· intro w _; go_simp; (try with_reducible rfl)); simp only [Act.put, List.setIfInBounds_toArray, List.set_cons_zero, List.set_cons_succ]))
              refine SeqO.step rfl (by rfl) (fun K hK => ?_)
              go_simp
              refine hK.out _ _ trivial (fun _ => ?_)
              clear hK K c3 f3
              try simp only [Act.put, List.setIfInBounds_toArray, List.set_cons_zero, List.set_cons_succ]
              refine SeqO.fin ?_
              go_wp2
              go_roundw
              case rel => exact ⟨x + 1, by omega, by go_num, Lib.hid ⟨_, by rw [show y * A + (x + 1) = n + 1 by rw [HNN.out]; omega]; exact HN.out⟩⟩
              case measure => simp [intOf]; omega
            · go_simp
              have HP1 := Lib.hid (HP.out.alloc (.cells #[.int .i64 col] 3))
              have c3 : World.cell? _ _ = some (.slice sa n sc) := HP1.out.2.2.1.cell 3
              clear HP
              have HP := HP1
              clear HP1
              refine hK.out _ _ trivial (fun _ => ?_)
              clear hK K
              try simp only [Act.put, List.setIfInBounds_toArray, List.set_cons_zero, List.set_cons_succ]
              refine SeqO.step rfl (by rfl) (fun K hK => ?_)
              go_simp
              refine hK.out _ _ trivial (fun _ => ?_)
              clear hK K
              try simp only [Act.put, List.setIfInBounds_toArray, List.set_cons_zero, List.set_cons_succ]
              clear c3
              refine SeqO.step rfl (by rfl) (fun K hK => ?_)
              refine wp_append_own _ _ _ 22 rfl (w.heap.size + 3) 3 i0 (.int .i64 0) 1 8 Tryz.underlying22 hi hz0 hz1 hz2 rfl (by decide) _ n _ rfl HP.out.2.2.2.1 ⟨_, 0, none⟩ 1 1 (intL col) rfl rfl (intL_at _ _ _) (intL_one _) (by unfold maxLen; omega) (by omega) (by have := HP.out.2.2.1.lt; omega) ?_
              intro v' w2 hown2 hgrow _
              have hp2 := OwnF.pushed hown2 HFN.out
              obtain ⟨g, cp, rfl, hg1, hg2⟩ := hp2.form (by omega)
              have HN := Lib.hid (HP.out.next hgrow hp2)
              have hB2 := HP.out.2.2.1.grown hgrow (fun e => by have := (World.ownsRow.lt HP.out.2.2.2.1 _ e.symm).1; omega)
              have c3 : World.cell? _ _ = some (.slice sa n sc) := hB2.cell 3
              have f3 := hB2.frozen 3
              clear HP hown2 hgrow hp2 hB2 hg1 hg2
              refine hK.out _ _ trivial (fun _ => ?_)
              clear hK K
              try simp only [Act.put, List.setIfInBounds_toArray, List.set_cons_zero, List.set_cons_succ]
              repeat (first
                | (refine SeqO.ld (v := ?_) rfl (by rfl) ?_ ?_; rotate_left; (· intro w _; go_simp; (try with_reducible rfl)); simp only [Act.put, List.setIfInBounds_toArray, List.set_cons_zero, List.set_cons_succ]))
              refine SeqO.step rfl (by rfl) (fun K hK => ?_)
              go_simp
              refine hK.out _ _ trivial (fun _ => ?_)
              clear hK K c3 f3
              try simp only [Act.put, List.setIfInBounds_toArray, List.set_cons_zero, List.set_cons_succ]
              refine SeqO.fin ?_
              go_wp2
              go_roundw
              case rel => exact ⟨x + 1, by omega, by go_num, Lib.hid ⟨_, by rw [show y * A + (x + 1) = n + 1 by rw [HNN.out]; omega]; exact HN.out⟩⟩
              case measure => simp [intOf]; omega
        · obtain rfl : x = A := by omega
          have hdx : decide ((x : Int) < l.a) = false := decide_eq_false (by omega)
          have HN := Lib.hid hgx.out
          clear hgx
          go_wp2
          go_roundw
          case rel => exact ⟨y + 1, by omega, by go_num, Lib.hid (by obtain ⟨v, h⟩ := HN.out; exact ⟨v, by rw [Nat.add_mul, Nat.one_mul]; exact h⟩)⟩
          case measure => simp [intOf]; omega
    · obtain rfl : y = D := by omega
      have hdy : decide ((y : Int) < l.c) = false := decide_eq_false (by omega)
      obtain ⟨k0, k1, k2, hown, hw⟩ := hg
      have hform : ∃ a c, v0 = .slice a (y * A) c := by
        rcases hown with ⟨_, ⟨h1, h2⟩ | ⟨g, cap, cur, h1, _⟩⟩
        · exact ⟨none, 0, by rw [h1, h2]⟩
        · exact ⟨_, _, h1⟩
      obtain ⟨sa, sc, rfl⟩ := hform
      have c0 : World.cell? _ _ = some (.int .i64 l.a) := k2.cell 0
      have c1 : World.cell? _ _ = some (.int .i64 l.b) := k2.cell 1
      have c2 : World.cell? _ _ = some (.int .i64 l.c) := k2.cell 2
      have c3 : World.cell? _ _ = some (.slice sa (y * A) sc) := k2.cell 3
      have d0 : World.cell? _ _ = some (.int .i64 0) := k1.cell 0
      have d1 : World.cell? _ _ = some (.int .i64 0) := k1.cell 1
      have d2 : World.cell? _ _ = some (.int .i64 0) := k1.cell 2
      have d3 : World.cell? _ _ = some (.slice none 0 0) := k1.cell 3
      have f0 := k1.frozen 0
      have f1 := k1.frozen 1
      have f2 := k1.frozen 2
      have f3 := k1.frozen 3
      have HN := Lib.hid (And.intro hown hw)
      clear k0 k1 k2 hown hw HG
      go_wp2
      refine bodyPost_ret (v := .agg #[.int .i64 l.a, .int .i64 l.b, .int .i64 l.c, .slice sa (y * A) sc]) (by simp [results, Tryz.results91, go_sem, d0, d1, d2, d3]) rfl ⟨_, rfl, ?_, ?_⟩
      · rw [HTOT.out]
        exact ((((HN.out.1.setOld (by simp) _).setOld (by simp) _).setOld (by simp) _).setOld (by simp) _).mono (by omega)
      · exact (((HN.out.2.setCell (by simp) _).setCell (by simp) _).setCell (by simp) _).setCell (by simp) _
end Go.Proofs.YtobolflgoljafaaGreatDoor
namespace Go.Proofs.YtobolflgoljafaaGreatDoor
open Go.RowKit

abbrev planeV (n : Int) (l : Pt.Lat) (B : Nat) : Value := .agg #[.int .i64 n, .func (.func 93) #[latV l] #[], .func (.func 94) #[] #[.pointer (some ⟨B, 0, none⟩)]]
theorem BlockAt.pat {W : World} {B : Nat} {l : Pt.Lat} {v : Value} {t : TypeId} (h : BlockAt W B #[.int .i64 l.a, .int .i64 l.b, .int .i64 l.c, v] t) : PatAt W B l v := ⟨h.cell 0, h.cell 1, h.cell 2, h.cell 3, h.lt⟩
theorem PatAt.other {W : World} {B B' i : Nat} {l : Pt.Lat} {v : Value} (h : PatAt W B l v) (hne : B ≠ B') (u : Value) : PatAt (W.setCell ⟨B', i, none⟩ u) B l v := by
  have hb : (W.setCell ⟨B', i, none⟩ u).heap[B]? = W.heap[B]? := Below.heap_setCell _ _ _ _ hne
  obtain ⟨h0, h1, h2, h3, h4⟩ := h
  exact ⟨(World.cell?_of_block (w := W) hb).trans h0, (World.cell?_of_block (w := W) hb).trans h1, (World.cell?_of_block (w := W) hb).trans h2, (World.cell?_of_block (w := W) hb).trans h3, by simp; exact h4⟩

set_option maxRecDepth 20000 in
set_option maxHeartbeats 2000000 in
theorem planeOf_any (l : Pt.Lat) (n : Nat) (a : Option Addr) (c : Nat) (w : World) (_hn : n ≤ 1000000) :
    Calls Tryz.prog 54 #[patV l (.slice a n c)] w fun e w' => e = .returned (planeV n l w.heap.size) ∧ PatAt w' w.heap.size l (.slice a n c) ∧ w.heap.size < w'.heap.size ∧ Below w.heap.size w w' := by
  have L := Lib.hid (fun W => latticeOf_any l (.slice a n c) W rfl)
  have b0 := (BlockAt.new w #[.int .i64 l.a, .int .i64 l.b, .int .i64 l.c, .slice a n c] 24).alloc (.cells #[.int .i64 0, .nilFunc, .nilFunc] 73)
  have b1 := BlockAt.new (w.alloc (.cells #[.int .i64 l.a, .int .i64 l.b, .int .i64 l.c, .slice a n c] 24)) #[.int .i64 0, .nilFunc, .nilFunc] 73
  simp only [World.size_alloc] at b1
  have hw := below_alloc (below_alloc (Below.refl w.heap.size w) (.cells #[.int .i64 l.a, .int .i64 l.b, .int .i64 l.c, .slice a n c] 24)) (.cells #[.int .i64 0, .nilFunc, .nilFunc] 73)
  go_enter Tryz.func54, Tryz.ntmps54
  have P0 := b0.pat
  have HB := Lib.hid (And.intro b0 (And.intro b1 hw))
  clear b0 b1 hw
  go_upto_region 1 with fail
  refine wp_region_seq [(0, true), (1, true), (3, true), (6, true), (2, true), (4, false), (5, true), (7, true), (8, false)] (fun W => PatAt W w.heap.size l (.slice a n c))
    (by kernel_rfl) (by kernel_rfl) (by kernel_rfl) (by kernel_rfl) (fun d _ _ _ _ h => by cases d <;> exact h) P0 (fun hS => ?_)
  repeat (first
    | (refine SeqH.take (v := ?_) rfl (by rfl) ?_ ?_; rotate_left; (· intro w hSw; (try dsimp only at hSw); obtain ⟨c0, c1, c2, c3, _⟩ := hSw; go_simp; (try with_reducible rfl)); simp only [Act.put, List.setIfInBounds_toArray, List.set_cons_zero, List.set_cons_succ]))
  refine SeqH.step rfl (by rfl) (fun K hK => ?_)
  go_simp
  go_at_call 47
  refine (L.out _).mono ?_
  rintro e w1 ⟨rfl, hb1⟩
  try dsimp only
  have hP1 : PatAt w1 w.heap.size l (.slice a n c) := hS.all hb1
  have HN := Lib.hid (And.intro (HB.out.2.1.drew.below hb1 HB.out.2.1.drew.lt) (below_step HB.out.2.2.drew hb1))
  refine hK.out _ _ hP1 (fun _ => ?_)
  clear hK K hb1 hS P0 HB
  try simp only [Act.put, List.setIfInBounds_toArray, List.set_cons_zero, List.set_cons_succ]
  repeat (first
    | (refine SeqH.take (v := ?_) rfl (by rfl) ?_ ?_; rotate_left; (· intro w hSw; (try dsimp only at hSw); obtain ⟨c0, c1, c2, c3, _⟩ := hSw; go_simp; (try with_reducible rfl)); simp only [Act.put, List.setIfInBounds_toArray, List.set_cons_zero, List.set_cons_succ]))
  have c0 : World.cell? _ _ = some (.int .i64 0) := HN.out.1.cell 0
  have c1 : World.cell? _ _ = some .nilFunc := HN.out.1.cell 1
  have c2 : World.cell? _ _ = some .nilFunc := HN.out.1.cell 2
  have f0 := HN.out.1.frozen 0
  have f1 := HN.out.1.frozen 1
  have f2 := HN.out.1.frozen 2
  refine SeqH.step rfl (by rfl) (fun K hK => ?_)
  go_simp
  have hP2 : PatAt (((w1.setCell ⟨w.heap.size + 1, 0, none⟩ (.int .i64 n)).setCell ⟨w.heap.size + 1, 1, none⟩ (.func (.func 93) #[latV l] #[])).setCell ⟨w.heap.size + 1, 2, none⟩ (.func (.func 94) #[] #[.pointer (some ⟨w.heap.size, 0, none⟩)])) w.heap.size l (.slice a n c) := by
    exact ((hP1.other (by omega) _).other (by omega) _).other (by omega) _
  refine hK.out _ _ hP2 (fun _ => ?_)
  clear hK K
  try simp only [Act.put, List.setIfInBounds_toArray, List.set_cons_zero, List.set_cons_succ]
  refine SeqH.done ?_
  go_wp2
  refine bodyPost_ret (v := planeV n l w.heap.size) (by simp [results, Tryz.results54, go_sem, c0, c1, c2]) rfl ⟨rfl, hP2, by have := HN.out.1.lt; simp; omega, ?_⟩
  exact ((HN.out.2.setCell (by simp) _).setCell (by simp) _).setCell (by simp) _
end Go.Proofs.YtobolflgoljafaaGreatDoor
namespace Go.Proofs.YtobolflgoljafaaGreatDoor
open Go.RowKit

theorem csF_fnL {n i : Nat} {F : Nat → Int} (h : i < n) : csF (fnL n F) i = F i := by simp [csF, fnL, h]
theorem csF_out {n i : Nat} {F : Nat → Int} (h : ¬ i < n) : csF (fnL n F) i = 0 := by simp [csF, fnL, h]
theorem own_patIn {base : Nat} {W : World} {v : Value} {k : Pt.Lat} {f : Int → Int → Int} (h : OwnF base W v (k.a * k.c).toNat (Pt.cellF k f)) (hs : small k) (hf : ∀ x y, 0 ≤ f x y ∧ f x y ≤ 1000) :
    ∃ cs, PatIn W k v cs ∧ ((∀ x y, Pt.inL k x y → Pt.Per f x y) → Pt.col k (csF cs) = f) := by
  have hp : 0 ≤ k.a * k.c := Int.mul_nonneg (by have := hs.1.1; omega) (by have := hs.1.2.2.2; omega)
  refine ⟨fnL (k.a * k.c).toNat (Pt.cellF k f), ⟨OwnI.ints (base := base) (by unfold OwnI; rw [fnL_len]; exact h), by rw [fnL_len]; omega, hs, fun i => ?_⟩, fun hper => ?_⟩
  · by_cases hi : i < (k.a * k.c).toNat
    · rw [csF_fnL hi]; exact hf _ _
    · rw [csF_out hi]; omega
  · exact Pt.col_cell hs.1 hper fun i hi => csF_fnL (by omega)
def DrawSays (l0 : Pt.Lat) (f : Int → Int → Int) (w : World) (e : Ending) (w' : World) : Prop :=
  (l0.a * l0.c ≤ 144 → ∃ v, e = .returned (.tuple #[patV l0 v, .int .i64 0]) ∧ OwnF w.heap.size w' v (l0.a * l0.c).toNat (Pt.cellF l0 f)) ∧ (¬ l0.a * l0.c ≤ 144 → e = .returned (.tuple #[patV ⟨0, 0, 0⟩ (.slice none 0 0), .int .i64 4])) ∧ Below w.heap.size w w'
theorem moved_per {k : Pt.Lat} (h : k.ok) {f : Int → Int → Int} (hper : ∀ x y, Pt.inL k x y → Pt.Per f x y) (dx dy : Int) : movedB k f f dx dy = true ↔ Pt.Per f dx dy := by
  rw [movedB_iff h]
  exact ⟨fun he => Pt.per_repeat h hper dx dy he, fun he x y _ _ _ _ => (he x y).symm⟩

set_option maxRecDepth 20000 in
set_option maxHeartbeats 4000000 in
theorem draw_plane (kk : Pt.Lat) (bp : Nat) (n : Int) (k l0 : Pt.Lat) (G : Int → Int → Prop) (gB : Int → Int → Bool) (f : Int → Int → Int) (w : World) (hG : Pt.Grp G) (hk : Pt.IsB G k) (hgB : ∀ x y, gB x y = true ↔ G x y) (hkn : k.a * k.c ≤ n) (hn1 : 1 ≤ n) (hn2 : n ≤ 30000) (hka : k.a ≤ 30000) (hkc : k.c ≤ 30000)
    (hper : ∀ x y, G x y → Pt.Per f x y) (hf : ∀ x y, 0 ≤ f x y ∧ f x y ≤ 1000) (h0 : Pt.IsB (Pt.Per f) l0) (hA : l0.a ≤ 30000) (hC : l0.c ≤ 30000)
    (HH : ∀ (dx dy : Int) W, 0 ≤ dx → dx ≤ 30000 → 0 ≤ dy → dy ≤ 30000 → Below w.heap.size w W → Calls Tryz.prog 93 #[latV kk, .int .i64 dx, .int .i64 dy] W fun e w' => e = .returned (.bool (gB dx dy)) ∧ Below W.heap.size W w')
    (HF : ∀ (x y : Int) W, 0 ≤ x → x ≤ 30000 → 0 ≤ y → y ≤ 30000 → Below w.heap.size w W → Calls Tryz.prog 94 #[.int .i64 x, .int .i64 y, .pointer (some ⟨bp, 0, none⟩)] W fun e w' => e = .returned (.int .i64 (f x y)) ∧ Below W.heap.size W w') :
    Calls Tryz.prog 53 #[.agg #[.int .i64 n, .func (.func 93) #[latV kk] #[], .func (.func 94) #[] #[.pointer (some ⟨bp, 0, none⟩)]]] w (DrawSays l0 f w) := by
  have F1 := Lib.hid (fun W (hW : Below w.heap.size w W) => find_has kk n k G gB W hG hk hgB hn1 hn2 hka hkc (fun dx dy X h1 h2 h3 h4 hX => HH dx dy X h1 h2 h3 h4 (below_step hW hX)))
  have hsk : small k := ⟨hk.ok, hka, hkc⟩
  have hs0 : small l0 := ⟨h0.ok, hA, hC⟩
  have P1 := Lib.hid (fun W (hW : Below w.heap.size w W) => paint_plane bp k f W hsk (fun x y X h1 h2 h3 h4 hX => HF x y X h1 h2 h3 h4 (below_step hW hX)))
  have P2 := Lib.hid (fun W (hW : Below w.heap.size w W) => paint_plane bp l0 f W hs0 (fun x y X h1 h2 h3 h4 hX => HF x y X h1 h2 h3 h4 (below_step hW hX)))
  have hperk : ∀ x y, Pt.inL k x y → Pt.Per f x y := fun x y h => hper x y ((hk.iff hG x y).2 h)
  have D1 := Lib.hid (fun W (v : Value) (cs : List Int) (bp : Nat) (hp : PatIn W k v cs) (hc : Pt.col k (csF cs) = f) (hb : PatAt W bp k v) => find_draw1 bp 144 l0 (Pt.Per f) (movedB k f f) W (Pt.per_grp f) h0 (fun x y => moved_per hk.ok hperk x y) (by omega) (by omega) hA hC (fun dx dy X h1 h2 h3 h4 hX => by
    have := draw1_any k v cs bp dx dy X (hp.all hX) (hb.all hX) (by omega) (by omega) (by omega) (by omega)
    rw [hc] at this
    exact this))
  have OP := Lib.hid (fun (base : Nat) (W : World) (v : Value) (h : OwnF base W v (k.a * k.c).toNat (Pt.cellF k f)) => own_patIn h hsk hf)
  have HPK := Lib.hid hperk
  have hpos : 0 < (k.a * k.c).toNat := by
    have := Int.mul_le_mul_of_nonneg_left hk.ok.2.2.2 (show 0 ≤ k.a by have := hk.ok.1; omega)
    have := hk.ok.1
    omega
  have hkk := Lib.hid hkn
  have hpos0 : 0 < (l0.a * l0.c).toNat := by
    have := Int.mul_le_mul_of_nonneg_left h0.ok.2.2.2 (show 0 ≤ l0.a by have := h0.ok.1; omega)
    have := h0.ok.1
    omega
  clear HH HF hG hk hgB hper hf h0 hperk hsk hs0 hkn
  have b0 := (BlockAt.new w #[.int .i64 n, .func (.func 93) #[latV kk] #[], .func (.func 94) #[] #[.pointer (some ⟨bp, 0, none⟩)]] 73).alloc (.cells #[.int .i64 0, .int .i64 0, .int .i64 0, .slice none 0 0] 24)
  have b1 := BlockAt.new (w.alloc (.cells #[.int .i64 n, .func (.func 93) #[latV kk] #[], .func (.func 94) #[] #[.pointer (some ⟨bp, 0, none⟩)]] 73)) #[.int .i64 0, .int .i64 0, .int .i64 0, .slice none 0 0] 24
  simp only [World.size_alloc] at b1
  have hw := below_alloc (below_alloc (Below.refl w.heap.size w) (.cells #[.int .i64 n, .func (.func 93) #[latV kk] #[], .func (.func 94) #[] #[.pointer (some ⟨bp, 0, none⟩)]] 73)) (.cells #[.int .i64 0, .int .i64 0, .int .i64 0, .slice none 0 0] 24)
  go_enter Tryz.func53, Tryz.ntmps53
  go_wp2_with fail
  refine (F1.out _ hw).mono ?_
  rintro e w1 ⟨hyes, hno, hb1⟩
  obtain rfl := hyes hkk.out
  clear hyes hno hkk F1
  have B0 := Lib.hid (b0.below hb1 b0.lt)
  have B1 := Lib.hid (b1.below hb1 b1.lt)
  have HW := Lib.hid (below_step hw hb1)
  clear b0 b1 hw hb1
  have c2 : World.cell? _ _ = some (.func (.func 94) #[] #[.pointer (some ⟨bp, 0, none⟩)]) := B0.out.cell 2
  have hlt0 := B0.out.lt
  have c2' : World.cell? (w1.alloc (.cells #[.int .i64 k.a, .int .i64 k.b, .int .i64 k.c] 63)) _ = some (.func (.func 94) #[] #[.pointer (some ⟨bp, 0, none⟩)]) := (B0.out.alloc _).cell 2
  go_wp2_with fail
  refine (P1.out _ (below_alloc HW.out _)).mono ?_
  rintro e w2 ⟨v, rfl, hown, hb2⟩
  obtain ⟨g, cp, rfl, _, _⟩ := hown.form hpos
  obtain ⟨cs, hpat, hcol⟩ := OP.out _ _ _ hown
  have hcol := hcol HPK.out
  have B0' := Lib.hid ((B0.out.alloc _).below hb2 (B0.out.alloc _).lt)
  have B1' := Lib.hid ((B1.out.alloc _).below hb2 (B1.out.alloc _).lt)
  have HW2 := Lib.hid (below_step (below_alloc HW.out _) hb2)
  have D := Lib.hid (D1.out (w2.alloc (.cells #[.int .i64 k.a, .int .i64 k.b, .int .i64 k.c, .slice (some ⟨g, 0, none⟩) (k.a * k.c).toNat cp] 24)) _ cs w2.heap.size (hpat.all ((Below.refl _ _).alloc (Nat.le_refl _) _)) hcol (PatAt.fresh _ _ _ _))
  clear hown hb2 hpat hcol c2 c2' hlt0 B0 B1 HW OP HPK D1 P1
  go_wp2_with fail
  refine D.out.mono ?_
  rintro e w4 ⟨hyes, hno, hb4⟩
  have B0 := Lib.hid ((B0'.out.alloc _).below hb4 (B0'.out.alloc _).lt)
  have B1 := Lib.hid ((B1'.out.alloc _).below hb4 (B1'.out.alloc _).lt)
  have HW := Lib.hid (below_step (below_alloc HW2.out _) hb4)
  clear B0' B1' HW2 hb4 D
  by_cases hsz : l0.a * l0.c ≤ 144
  · obtain rfl := hyes hsz
    have HSZ := Lib.hid hsz
    have c2 : World.cell? _ _ = some (.func (.func 94) #[] #[.pointer (some ⟨bp, 0, none⟩)]) := B0.out.cell 2
    have hlt0 := B0.out.lt
    have c2' : World.cell? (w4.alloc (.cells #[.int .i64 l0.a, .int .i64 l0.b, .int .i64 l0.c] 63)) _ = some (.func (.func 94) #[] #[.pointer (some ⟨bp, 0, none⟩)]) := (B0.out.alloc _).cell 2
    clear hyes hno hsz
    go_wp2_with fail
    refine (P2.out _ (below_alloc HW.out _)).mono ?_
    rintro e w5 ⟨u, rfl, hown, hb5⟩
    obtain ⟨g2, cp2, rfl, _, _⟩ := hown.form hpos0
    have B1' := Lib.hid ((B1.out.alloc _).below hb5 (B1.out.alloc _).lt)
    have HW2 := Lib.hid (below_step (below_alloc HW.out _) hb5)
    have hsz4 : w.heap.size + 2 ≤ w4.heap.size := by have := B1.out.lt; omega
    have HO := Lib.hid hown
    clear hown hb5 c2 c2' hlt0 B0 P2
    have c0 : World.cell? _ _ = some (.int .i64 0) := B1'.out.cell 0
    have c1 : World.cell? _ _ = some (.int .i64 0) := B1'.out.cell 1
    have c2 : World.cell? _ _ = some (.int .i64 0) := B1'.out.cell 2
    have c3 : World.cell? _ _ = some (.slice none 0 0) := B1'.out.cell 3
    have f0 := B1'.out.frozen 0
    have f1 := B1'.out.frozen 1
    have f2 := B1'.out.frozen 2
    have f3 := B1'.out.frozen 3
    go_wp2
    refine bodyPost_ret (v := .tuple #[.agg #[.int .i64 l0.a, .int .i64 l0.b, .int .i64 l0.c, .slice (some ⟨g2, 0, none⟩) (l0.a * l0.c).toNat cp2], .int .i64 0]) (by simp [results, Tryz.results53, go_sem, c0, c1, c2, c3]) rfl ⟨fun _ => ⟨_, rfl, ?_⟩, fun h => absurd HSZ.out h, ?_⟩
    · exact ((((HO.out.setOld (by simp; omega) _).setOld (by simp; omega) _).setOld (by simp; omega) _).setOld (by simp; omega) _).mono (by simp; omega)
    · exact (((HW2.out.setCell (by simp) _).setCell (by simp) _).setCell (by simp) _).setCell (by simp) _
  · obtain rfl := hno hsz
    have HSZ := Lib.hid hsz
    clear hyes hno hsz P2
    have c0 : World.cell? _ _ = some (.int .i64 0) := B1.out.cell 0
    have c1 : World.cell? _ _ = some (.int .i64 0) := B1.out.cell 1
    have c2 : World.cell? _ _ = some (.int .i64 0) := B1.out.cell 2
    have c3 : World.cell? _ _ = some (.slice none 0 0) := B1.out.cell 3
    have f0 := B1.out.frozen 0
    have f1 := B1.out.frozen 1
    have f2 := B1.out.frozen 2
    have f3 := B1.out.frozen 3
    have hlt := B1.out.lt
    go_wp2
    refine bodyPost_ret (v := .tuple #[.agg #[.int .i64 0, .int .i64 0, .int .i64 0, .slice none 0 0], .int .i64 4]) (by simp [results, Tryz.results53, go_sem, c0, c1, c2, c3, hlt]) rfl ⟨fun h => by have := HSZ.out; omega, fun _ => rfl, ?_⟩
    exact below_alloc ((((HW.out.setCell (by simp) _).setCell (by simp) _).setCell (by simp) _).setCell (by simp) _) _
end Go.Proofs.YtobolflgoljafaaGreatDoor
namespace Go.Proofs.YtobolflgoljafaaGreatDoor
open Go.RowKit

theorem least_size {l l0 : Pt.Lat} (h : l.ok) {f : Int → Int → Int} (hper : ∀ x y, Pt.inL l x y → Pt.Per f x y) (h0 : Pt.IsB (Pt.Per f) l0) : l0.a * l0.c ≤ l.a * l.c ∧ l0.a ≤ l0.a * l0.c ∧ l0.c ≤ l0.a * l0.c := by
  have h1 := Pt.Cells.size (Pt.per_grp f) (Pt.Cells.ofLat h hper) h0
  have hp : 0 ≤ l.a * l.c := Int.mul_nonneg (by have := h.1; omega) (by have := h.2.2.2; omega)
  obtain ⟨a1, a2, a3, a4⟩ := h0.ok
  have h2 := Int.mul_le_mul_of_nonneg_left a4 (show 0 ≤ l0.a by omega)
  have h3 := Int.mul_le_mul_of_nonneg_right a1 (show 0 ≤ l0.c by omega)
  exact ⟨by omega, by omega, by omega⟩
theorem least_is {l : Pt.Lat} (h : l.ok) {f : Int → Int → Int} (hper : ∀ x y, Pt.inL l x y → Pt.Per f x y) : ∃ l0, Pt.IsB (Pt.Per f) l0 := by
  obtain ⟨l0, h0, _⟩ := Pt.Cells.basis (Pt.per_grp f) (Pt.Cells.ofLat h hper)
  exact ⟨l0, h0⟩
/-- draw of the plane of a pattern. -/
theorem drawPlane_any (l l0 : Pt.Lat) (v : Value) (cs : List Int) (B : Nat) (w : World) (hp : PatIn w l v cs) (hm : l.a * l.c ≤ 144) (h0 : Pt.IsB (Pt.Per (Pt.col l (csF cs))) l0) (hB : PatAt w B l v) :
    Calls Tryz.prog 53 #[planeV cs.length l B] w fun e w' => ∃ u, e = .returned (.tuple #[patV l0 u, .int .i64 0]) ∧ OwnF w.heap.size w' u (l0.a * l0.c).toNat (Pt.cellF l0 (Pt.col l (csF cs))) ∧ Below w.heap.size w w' := by
  have hper : ∀ x y, Pt.inL l x y → Pt.Per (Pt.col l (csF cs)) x y := fun x y h => Pt.col_per hp.2.2.1.1 _ h
  obtain ⟨z1, z2, z3⟩ := least_size hp.2.2.1.1 hper h0
  have hlen := hp.2.1
  obtain ⟨a1, a2, a3, a4⟩ := hp.2.2.1.1
  have h2 := Int.mul_le_mul_of_nonneg_left a4 (show 0 ≤ l.a by omega)
  have h3 := Int.mul_le_mul_of_nonneg_right a1 (show 0 ≤ l.c by omega)
  have D := draw_plane l B cs.length l l0 (Pt.inL l) (hasB l) (Pt.col l (csF cs)) w (Pt.inL_grp l) (Pt.ofLat_isB hp.2.2.1.1) (fun x y => hasB_iff hp.2.2.1.1 x y) (by omega) (by omega) (by omega) (by omega) (by omega) hper
    (fun x y => hp.2.2.2 _) h0 (by omega) (by omega) (fun dx dy W e1 e2 e3 e4 hW => has_any l dx dy W hp.2.2.1 (by omega) (by omega) (by omega) (by omega))
    (fun x y W e1 e2 e3 e4 hW => planeOf1_any l v cs B x y W (hp.all hW) (hB.all hW) (by omega) (by omega) (by omega) (by omega))
  refine D.mono ?_
  rintro e w' ⟨hy, _, hb⟩
  obtain ⟨u, rfl, hown⟩ := hy (by omega)
  exact ⟨u, rfl, hown, hb⟩

set_option maxRecDepth 20000 in
set_option maxHeartbeats 1000000 in
theorem least_any (l l0 : Pt.Lat) (v : Value) (cs : List Int) (w : World) (hp : PatIn w l v cs) (hm : l.a * l.c ≤ 144) (h0 : Pt.IsB (Pt.Per (Pt.col l (csF cs))) l0) :
    Calls Tryz.prog 46 #[patV l v] w fun e w' => ∃ u, e = .returned (patV l0 u) ∧ OwnF w.heap.size w' u (l0.a * l0.c).toNat (Pt.cellF l0 (Pt.col l (csF cs))) ∧ Below w.heap.size w w' := by
  have hvp : ∃ a c, v = .slice a cs.length c := by
    obtain ⟨_, _, _, _, h, _⟩ := hp.at_ 0 0
    exact ⟨_, _, h⟩
  obtain ⟨va, vc, rfl⟩ := hvp
  have hlen : cs.length ≤ 1000000 := by have := hp.2.1; omega
  have PO := Lib.hid (fun W => planeOf_any l cs.length va vc W hlen)
  have DP := Lib.hid (fun B W hW (hB : PatAt W B l _) => drawPlane_any l l0 _ cs B W (hp.all hW) hm h0 hB)
  have hpos0 : 0 < (l0.a * l0.c).toNat := by
    have := Int.mul_le_mul_of_nonneg_left h0.ok.2.2.2 (show 0 ≤ l0.a by have := h0.ok.1; omega)
    have := h0.ok.1
    omega
  clear hp hm h0 hlen
  generalize hF : Pt.cellF l0 (Pt.col l (csF cs)) = F at *
  clear hF
  have b0 := (BlockAt.new w #[.int .i64 l.a, .int .i64 l.b, .int .i64 l.c, .slice va cs.length vc] 24).alloc (.cells #[.int .i64 0, .int .i64 0, .int .i64 0, .slice none 0 0] 24)
  have b1 := BlockAt.new (w.alloc (.cells #[.int .i64 l.a, .int .i64 l.b, .int .i64 l.c, .slice va cs.length vc] 24)) #[.int .i64 0, .int .i64 0, .int .i64 0, .slice none 0 0] 24
  simp only [World.size_alloc] at b1
  have hw := below_alloc (below_alloc (Below.refl w.heap.size w) (.cells #[.int .i64 l.a, .int .i64 l.b, .int .i64 l.c, .slice va cs.length vc] 24)) (.cells #[.int .i64 0, .int .i64 0, .int .i64 0, .slice none 0 0] 24)
  have HB := Lib.hid (And.intro b1 hw)
  clear b0 b1 hw
  go_enter Tryz.func46, Tryz.ntmps46
  go_wp2_with fail
  refine (PO.out _).mono ?_
  rintro e w1 ⟨rfl, hpa, _, hb1⟩
  have B1 := Lib.hid (HB.out.1.below hb1 HB.out.1.lt)
  have HW := Lib.hid (below_step HB.out.2 hb1)
  simp only [World.size_alloc] at hpa
  have D := Lib.hid (DP.out _ w1 HW.out hpa)
  clear HB hb1 hpa PO DP
  go_wp2_with fail
  refine D.out.mono ?_
  rintro e w2 ⟨u, rfl, hown, hb2⟩
  obtain ⟨g, cp, rfl, _, _⟩ := hown.form hpos0
  have B2 := Lib.hid (B1.out.below hb2 B1.out.lt)
  have HW2 := Lib.hid (below_step HW.out hb2)
  have hsz1 := B1.out.lt
  have HO := Lib.hid hown
  clear hown hb2 D B1 HW
  have c0 : World.cell? _ _ = some (.int .i64 0) := B2.out.cell 0
  have c1 : World.cell? _ _ = some (.int .i64 0) := B2.out.cell 1
  have c2 : World.cell? _ _ = some (.int .i64 0) := B2.out.cell 2
  have c3 : World.cell? _ _ = some (.slice none 0 0) := B2.out.cell 3
  have f0 := B2.out.frozen 0
  have f1 := B2.out.frozen 1
  have f2 := B2.out.frozen 2
  have f3 := B2.out.frozen 3
  have hlt := B2.out.lt
  go_wp2
  refine bodyPost_ret (v := .agg #[.int .i64 l0.a, .int .i64 l0.b, .int .i64 l0.c, .slice (some ⟨g, 0, none⟩) (l0.a * l0.c).toNat cp]) (by simp [results, Tryz.results46, go_sem, c0, c1, c2, c3, hlt]) rfl ⟨_, rfl, ?_, ?_⟩
  · exact OwnF.mono (World.ownsRow.alloc ((((HO.out.setOld (by simp; omega) _).setOld (by simp; omega) _).setOld (by simp; omega) _).setOld (by simp; omega) _) _) (by omega)
  · exact below_alloc ((((HW2.out.setCell (by simp) _).setCell (by simp) _).setCell (by simp) _).setCell (by simp) _) _
end Go.Proofs.YtobolflgoljafaaGreatDoor
