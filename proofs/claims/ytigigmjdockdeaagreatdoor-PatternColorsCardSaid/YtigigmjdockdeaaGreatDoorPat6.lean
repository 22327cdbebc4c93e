/- Closures of a plane; a pattern is painted: pattern.paint. -/
import Derived.Test.YtigigmjdockdeaaGreatDoorPat5
namespace Go.Proofs.YtigigmjdockdeaaGreatDoor
open Go.RowKit

set_option maxRecDepth 20000 in
set_option maxHeartbeats 1000000 in
theorem draw1_any (l : Pt.Lat) (v : Value) (cs : List Int) (bp : Nat) (dx dy : Int) (w : World) (hp : PatIn w l v cs) (hb : PatAt w bp l v) (hx : -500000 ≤ dx) (hx2 : dx ≤ 500000) (hy : -500000 ≤ dy) (hy2 : dy ≤ 500000) :
    Calls Tryz.prog 108 #[.int .i64 dx, .int .i64 dy, .pointer (some ⟨bp, 0, none⟩)] w fun e w' => e = .returned (.bool (movedB l (Pt.col l (csF cs)) (Pt.col l (csF cs)) dx dy)) ∧ Below w.heap.size w w' := by
  have M := Lib.hid (fun W hW => isMoved_any l l v v cs cs dx dy W (hp.all hW) (hp.all hW) hx hx2 hy hy2)
  generalize movedB l (Pt.col l (csF cs)) (Pt.col l (csF cs)) dx dy = r at *
  obtain ⟨c0, c1, c2, c3, _⟩ := hb
  have hvp : ∃ a n c, v = .slice a n c := by
    obtain ⟨_, _, _, _, h, _⟩ := hp.at_ 0 0
    exact ⟨_, _, _, h⟩
  obtain ⟨a, n, c, rfl⟩ := hvp
  clear hp
  go_enter Tryz.func108, Tryz.ntmps108
  go_wp2_with fail
  refine (M.out _ (by repeat' (first | exact Below.refl _ _ | apply below_drewN))).mono ?_
  rintro e w1 ⟨rfl, hb1⟩
  go_wp2
  go_ret
  exact ⟨rfl, by first | exact hb1 | exact (Below.refl _ _).trans hb1⟩

set_option maxRecDepth 20000 in
set_option maxHeartbeats 1000000 in
theorem planeOf1_any (l : Pt.Lat) (v : Value) (cs : List Int) (bp : Nat) (x y : Int) (w : World) (hp : PatIn w l v cs) (hb : PatAt w bp l v) (hx : -1000000 ≤ x) (hx2 : x ≤ 1000000) (hy : -1000000 ≤ y) (hy2 : y ≤ 1000000) :
    Calls Tryz.prog 110 #[.int .i64 x, .int .i64 y, .pointer (some ⟨bp, 0, none⟩)] w fun e w' => e = .returned (.int .i64 (Pt.col l (csF cs) x y)) ∧ Below w.heap.size w w' := by
  have M := Lib.hid (fun W hW => colorAt_any l v cs x y W (hp.all hW) hx hx2 hy hy2)
  generalize Pt.col l (csF cs) x y = r at *
  obtain ⟨c0, c1, c2, c3, _⟩ := hb
  have hvp : ∃ a n c, v = .slice a n c := by
    obtain ⟨_, _, _, _, h, _⟩ := hp.at_ 0 0
    exact ⟨_, _, _, h⟩
  obtain ⟨a, n, c, rfl⟩ := hvp
  clear hp
  go_enter Tryz.func110, Tryz.ntmps110
  go_wp2_with fail
  refine (M.out _ (by repeat' (first | exact Below.refl _ _ | apply below_drewN))).mono ?_
  rintro e w1 ⟨rfl, hb1⟩
  go_wp2
  go_ret
  exact ⟨rfl, by first | exact hb1 | exact (Below.refl _ _).trans hb1⟩

set_option maxRecDepth 20000 in
set_option maxHeartbeats 2000000 in
theorem find_draw1 (bp : Nat) (most : Int) (l0 : Pt.Lat) (G : Int → Int → Prop) (gB : Int → Int → Bool) (w : World) (hG : Pt.Grp G) (h0 : Pt.IsB G l0) (hgB : ∀ x y, gB x y = true ↔ G x y) (hm1 : 1 ≤ most) (hm2 : most ≤ 30000) (hA2 : l0.a ≤ 30000) (hC2 : l0.c ≤ 30000)
    (HF : ∀ (dx dy : Int) W, 0 ≤ dx → dx ≤ 30000 → 0 ≤ dy → dy ≤ 30000 → Below w.heap.size w W → Calls Tryz.prog 108 #[.int .i64 dx, .int .i64 dy, .pointer (some ⟨bp, 0, none⟩)] W fun e w' => e = .returned (.bool (gB dx dy)) ∧ Below W.heap.size W w') :
    Calls Tryz.prog 106 #[.int .i64 most, .func (.func 108) #[] #[.pointer (some ⟨bp, 0, none⟩)]] w (FindSays most l0 w) := by
  obtain ⟨f1, f2, f3, f4, f5⟩ := find_facts hG h0 hgB
  obtain ⟨a1, b1, b2, c1⟩ := h0.ok
  obtain ⟨A, B, C⟩ := l0
  dsimp only at *
  have F1 := Lib.hid f1
  have F2 := Lib.hid f2
  have F3 := Lib.hid f3
  have F4 := Lib.hid f4
  have F5 := Lib.hid f5
  have HH := Lib.hid HF
  have Z0 := LatW.fresh w ⟨0, 0, 0⟩ 70
  have B0 := (Below.refl w.heap.size w).alloc (Nat.le_refl _) (.cells #[.int .i64 0, .int .i64 0, .int .i64 0] 70)
  have H0 := Lib.hid (And.intro Z0 B0)
  clear f1 f2 f3 f4 f5 HF hG h0 hgB Z0 B0
  have HNO : Hid (¬ A * C ≤ most → ∀ (W : World), Below w.heap.size w W → FindSays most ⟨A, B, C⟩ w (.returned (.tuple #[latV ⟨0, 0, 0⟩, .bool false])) W) := Lib.hid fun h W hW => ⟨fun h2 => absurd h2 h, fun _ => rfl, hW⟩
  have HYES : Hid (A * C ≤ most → ∀ (W : World), Below w.heap.size w W → FindSays most ⟨A, B, C⟩ w (.returned (.tuple #[latV ⟨A, B, C⟩, .bool true])) W) := Lib.hid fun h W hW => ⟨fun _ => rfl, fun h2 => absurd h h2, hW⟩
  go_enter Tryz.func106, Tryz.ntmps106
  go_wp2
  go_loopw [6] (fun t wr => ∃ a : Int, 1 ≤ a ∧ a ≤ A ∧ a ≤ most ∧ t = .int .i64 a ∧ Hid (LatW wr w.heap.size ⟨0, 0, 0⟩ ∧ Below w.heap.size w wr)) (fun t _ => (A - intOf t).toNat)
  case atStart => exact ⟨1, by omega, by omega, by omega, rfl, H0⟩
  case round =>
    obtain ⟨a, ha1, haA, ham, rfl, hg⟩ := hrel
    clear H0
    have CA := Lib.hid (HH.out a 0 _ (by omega) (by omega) (by omega) (by omega) hg.out.2)
    by_cases hlt : a < A
    · rw [F1.out a ha1 hlt] at CA
      go_wp2_with fail
      refine CA.out.mono ?_
      rintro e w1 ⟨rfl, hb1⟩
      have hL := hg.out.1.all hb1
      have HW := Lib.hid (And.intro hL (below_step hg.out.2 hb1))
      obtain ⟨⟨c0, c1', c2⟩, ⟨z0, z1, z2⟩, _⟩ := hL
      clear hb1 CA
      by_cases hmo : a + 1 ≤ most
      · have hd : decide (most < a + 1) = false := decide_eq_false (by omega)
        clear c0 c1' c2 z0 z1 z2
        go_wp2
        go_roundw
        case rel => exact ⟨a + 1, by omega, by omega, hmo, rfl, HW⟩
        case measure => simp [intOf]; omega
      · have hd : decide (most < a + 1) = true := decide_eq_true (by omega)
        have hbig : ¬ A * C ≤ most := by
          intro h
          have : A * 1 ≤ A * C := Int.mul_le_mul_of_nonneg_left c1 (by omega)
          omega
        have HE := Lib.hid (HNO.out (by omega))
        clear hbig
        dsimp only at c0 c1' c2
        go_wp2
        exact bodyPost_ret (v := .tuple #[.agg #[.int .i64 0, .int .i64 0, .int .i64 0], .bool false]) (by simp [results, Tryz.results106, go_sem, c0, c1', c2]) rfl (HE.out _ (((HW.out.2.setCell (Nat.le_refl _) _).setCell (Nat.le_refl _) _).setCell (Nat.le_refl _) _))
    · obtain rfl : a = A := by omega
      rw [F2.out] at CA
      go_wp2_with fail
      refine CA.out.mono ?_
      rintro e w1 ⟨rfl, hb1⟩
      have HW := Lib.hid (And.intro (hg.out.1.all hb1) (below_step hg.out.2 hb1))
      clear hb1 CA hg hlt
      go_wp2
      go_loopw [7] (fun t wr => ∃ c : Int, 1 ≤ c ∧ c ≤ C ∧ t = .int .i64 c ∧ Hid (LatW wr w.heap.size ⟨0, 0, 0⟩ ∧ Below w.heap.size w wr)) (fun t _ => (C + 1 - intOf t).toNat)
      case atStart => exact ⟨1, by omega, by omega, rfl, HW⟩
      case round =>
        obtain ⟨c, hc1, hcC, rfl, hg⟩ := hrel
        clear HW
        have hp0 : 0 ≤ a * c := Int.mul_nonneg (by omega) (by omega)
        have hp1 : a * c ≤ a * C := Int.mul_le_mul_of_nonneg_left hcC (by omega)
        have hcc : c ≤ a * c := by have := Int.mul_le_mul_of_nonneg_right ha1 (show 0 ≤ c by omega); omega
        have hp2 : a * c ≤ 900000000 := by
          have := Int.mul_le_mul_of_nonneg_right hA2 (show 0 ≤ c by omega)
          omega
        have g1 : IntKind.i64.wrap (a * c) = a * c := IntWalk.i64_in _ ⟨by omega, by omega⟩
        by_cases hle : a * c ≤ most
        · have hd : decide (a * c ≤ most) = true := decide_eq_true hle
          go_wp2
          go_loopw [27] (fun t wx => ∃ b : Int, 0 ≤ b ∧ b ≤ a ∧ t = .int .i64 b ∧ Hid ((c = C → b ≤ B) ∧ LatW wx w.heap.size ⟨0, 0, 0⟩ ∧ Below w.heap.size w wx)) (fun t _ => (a - intOf t).toNat)
          case atStart => exact ⟨0, by omega, by omega, rfl, Lib.hid ⟨fun _ => b1, hg.out⟩⟩
          case round =>
            obtain ⟨b, hb0, hba, rfl, hgb⟩ := hrel
            clear hg
            by_cases hbl : b < a
            · have CB := Lib.hid (HH.out b c _ (by omega) (by omega) (by omega) (by omega) hgb.out.2.2)
              have hcB := hgb.out.1
              by_cases hhit : c = C ∧ b = B
              · obtain ⟨rfl, rfl⟩ := hhit
                rw [F5.out] at CB
                have HE := Lib.hid (HYES.out hle)
                clear hcB
                go_wp2_with fail
                refine CB.out.mono ?_
                rintro e w2 ⟨rfl, hb2⟩
                have hL := hgb.out.2.1.all hb2
                have HW := Lib.hid (below_step hgb.out.2.2 hb2)
                obtain ⟨⟨c0, c1', c2⟩, ⟨z0, z1, z2⟩, _⟩ := hL
                clear hb2 CB hgb
                dsimp only at c0 c1' c2
                go_wp2
                exact bodyPost_ret (v := .tuple #[.agg #[.int .i64 a, .int .i64 b, .int .i64 c], .bool true]) (by simp [results, Tryz.results106, go_sem, c0, c1', c2]) rfl (HE.out _ (((HW.out.setCell (Nat.le_refl _) _).setCell (Nat.le_refl _) _).setCell (Nat.le_refl _) _))
              · have hno : gB b c = false := by
                  by_cases hcC2 : c < C
                  · exact F3.out b c hc1 hcC2 hb0 hbl
                  · have e : c = C := by omega
                    have := hcB e
                    rw [e]
                    exact F4.out b hb0 (by omega)
                rw [hno] at CB
                have HCB : Hid (c = C → b + 1 ≤ B) := Lib.hid fun e => by have := hcB e; omega
                clear hno hcB hhit
                go_wp2_with fail
                refine CB.out.mono ?_
                rintro e w2 ⟨rfl, hb2⟩
                have HW := Lib.hid (And.intro HCB.out (And.intro (hgb.out.2.1.all hb2) (below_step hgb.out.2.2 hb2)))
                clear hb2 CB hgb HCB
                go_wp2
                go_roundw
                case rel => exact ⟨b + 1, by omega, by omega, rfl, HW⟩
                case measure => simp [intOf]; omega
            · obtain rfl : b = a := by omega
              have hcC3 : c < C := by
                by_cases e : c = C
                · have := hgb.out.1 e; omega
                · omega
              have HW := Lib.hid hgb.out.2
              clear hgb
              go_wp2
              go_roundw
              case rel => exact ⟨c + 1, by omega, by omega, rfl, HW⟩
              case measure => simp [intOf]; omega
        · have hd : decide (a * c ≤ most) = false := decide_eq_false hle
          have HE := Lib.hid (HNO.out (by omega))
          obtain ⟨hL, hw⟩ := hg.out
          obtain ⟨⟨c0, c1', c2⟩, ⟨z0, z1, z2⟩, _⟩ := hL
          have HW := Lib.hid hw
          clear hg hw
          dsimp only at c0 c1' c2
          go_wp2
          exact bodyPost_ret (v := .tuple #[.agg #[.int .i64 0, .int .i64 0, .int .i64 0], .bool false]) (by simp [results, Tryz.results106, go_sem, c0, c1', c2]) rfl (HE.out _ (((HW.out.setCell (Nat.le_refl _) _).setCell (Nat.le_refl _) _).setCell (Nat.le_refl _) _))
end Go.Proofs.YtigigmjdockdeaaGreatDoor
