/- The reference's Home. -/
import Derived.Test.YtigigmjdockdeaaGreatDoorPat20
namespace Go.Proofs.YtigigmjdockdeaaGreatDoor
open Go.RowKit

theorem home_hit {l : Pt.Lat} (h : l.ok) {x y u v : Int} (h1 : 0 ≤ u) (h2 : u < l.a) (h3 : 0 ≤ v) (h4 : v < l.c) : hasB l (x - u) (y - v) = true ↔ u = Pt.hx l x y ∧ v = Pt.hy l y := by
  rw [hasB_iff h]
  constructor
  · intro hi
    obtain ⟨e1, e2⟩ := Pt.home_eq h hi
    obtain ⟨e3, e4⟩ := Pt.home_self h1 h2 h3 h4
    exact ⟨by rw [e1, e3], by rw [e2, e4]⟩
  · rintro ⟨rfl, rfl⟩
    exact Pt.home_in l x y

set_option maxRecDepth 20000 in
set_option maxHeartbeats 2000000 in
theorem refHome_any (A B C : Int) (v : Value) (cs : List Int) (x y : Int) (l0 : Pt.Lat) (w : World) (hv : Ints w v cs) (hkl : cs.length ≤ 1000000000) (hA1 : -9223372036854775808 ≤ A) (hA2 : A ≤ 9223372036854775807) (h0 : validE A B C cs = 0 → Pt.IsB (Pt.Per (Pt.col ⟨A, B, C⟩ (csF cs))) l0) :
    Calls Tryz.prog 22 #[.agg #[.int .i64 A, .int .i64 B, .int .i64 C, v], .int .i64 x, .int .i64 y] w fun e w' => e = .returned (if placeE A B C cs x y = 0 then .tuple #[.int .i64 (Pt.hx l0 x y), .int .i64 (Pt.hy l0 y), .int .i64 0] else .tuple #[.int .i64 0, .int .i64 0, .int .i64 (placeE A B C cs x y)]) ∧ Below w.heap.size w w' := by
  have VA := Lib.hid (fun W hW => refValidate_any A B C v cs W (hv.all hW) hkl hA1 hA2)
  have NR := Lib.hid (fun W => refNear_any x y W)
  obtain ⟨va, vc, rfl, _⟩ := hv.look'
  have b0 := BlockAt.new w #[.int .i64 A, .int .i64 B, .int .i64 C, .slice va cs.length vc] 24
  have hw := (Below.refl w.heap.size w).alloc (Nat.le_refl _) (.cells #[.int .i64 A, .int .i64 B, .int .i64 C, .slice va cs.length vc] 24)
  have HB := Lib.hid (And.intro b0 hw)
  clear b0 hw
  by_cases hz0 : validE A B C cs = 0
  · rw [hz0] at VA
    by_cases hnr : (fromB (-100000) 100000 x && fromB (-100000) 100000 y) = true
    · have hz := place_in hz0 hnr
      obtain ⟨_, ⟨x1, x2⟩, ⟨y1, y2⟩⟩ := place_ok hz
      rw [if_pos hz]
      rw [hnr] at NR
      obtain ⟨hp, hm⟩ := valid_in hz0 hv
      have h1 := h0 hz0
      obtain ⟨z1, z2, z3⟩ := least_size hp.2.2.1.1 (fun x y h => Pt.col_per hp.2.2.1.1 _ h) h1
      have hs0 : small l0 := ⟨h1.ok, by dsimp only at z1; omega, by dsimp only at z1; omega⟩
      have hpos0 : 0 < (l0.a * l0.c).toNat := by have := h1.ok.1; omega
      have CA := Lib.hid (fun W hW => refLeast0_any ⟨A, B, C⟩ l0 _ cs W (hp.all hW) h1)
      have IN := Lib.hid (fun (v : Value) (dx dy : Int) (W : World) (hv : ∃ a n c, v = .slice a n c) h1 h2 h3 h4 => refIn_any l0 v dx dy W hv hs0 h1 h2 h3 h4)
      have HIT := Lib.hid (fun (u v : Int) h1 h2 h3 h4 => home_hit hs0.1 (x := x) (y := y) (u := u) (v := v) h1 h2 h3 h4)
      obtain ⟨m1, m2, m3, m4⟩ := Pt.home_bd hs0.1 x y
      obtain ⟨⟨k1, k2, k3, k4⟩, k5, k6⟩ := hs0
      clear hp hm h1 z1 z2 z3 h0
      generalize Pt.hx l0 x y = ra at *
      generalize Pt.hy l0 y = rb at *
      clear hz hz0 hv hnr
      go_enter Tryz.func22, Tryz.ntmps22
      go_wp2_with fail
      refine (VA.out _ HB.out.2).mono ?_
      rintro e w1 ⟨rfl, hb1⟩
      have HP := Lib.hid (HB.out.1.below hb1 HB.out.1.lt)
      have HW := Lib.hid (below_step HB.out.2 hb1)
      have c0 : World.cell? _ _ = some (.int .i64 A) := HP.out.cell 0
      have c1 : World.cell? _ _ = some (.int .i64 B) := HP.out.cell 1
      have c2 : World.cell? _ _ = some (.int .i64 C) := HP.out.cell 2
      have c3 : World.cell? _ _ = some (.slice va cs.length vc) := HP.out.cell 3
      clear hb1 VA HB
      go_wp2_with fail
      refine (NR.out _).mono ?_
      rintro e w2 ⟨rfl, rfl⟩
      go_wp2_with fail
      refine (CA.out _ HW.out).mono ?_
      rintro e w2 ⟨u, rfl, hown, hb2⟩
      obtain ⟨g, cp, rfl, _, _⟩ := hown.form hpos0
      have HW2 := Lib.hid (below_step HW.out hb2)
      have HS := Lib.hid (And.intro (PatAt.fresh w2 l0 (.slice (some ⟨g, 0, none⟩) (l0.a * l0.c).toNat cp) 24) (below_alloc HW2.out (.cells #[.int .i64 l0.a, .int .i64 l0.b, .int .i64 l0.c, .slice (some ⟨g, 0, none⟩) (l0.a * l0.c).toNat cp] 24)))
      clear hb2 hown CA c0 c1 c2 c3 HW2 HW HP
      generalize (l0.a * l0.c).toNat = nn at *
      go_wp2
      go_loopw [11] (fun t wr => ∃ v : Int, 0 ≤ v ∧ v ≤ rb ∧ t = .int .i64 v ∧ Hid (PatAt wr w2.heap.size l0 (.slice (some ⟨g, 0, none⟩) nn cp) ∧ Below w.heap.size w wr)) (fun t _ => (rb + 1 - intOf t).toNat)
      case atStart => exact ⟨0, by omega, by omega, rfl, HS⟩
      case round =>
        obtain ⟨v, hv0, hvr, rfl, hg⟩ := hrel
        clear HS
        obtain ⟨c0, c1, c2, c3, _⟩ := id hg.out.1
        have hvc : decide (v < l0.c) = true := decide_eq_true (by omega)
        go_wp2
        clear c0 c1 c2 c3
        go_loopw [12] (fun t wr => ∃ u : Int, 0 ≤ u ∧ u ≤ l0.a ∧ (v = rb → u ≤ ra) ∧ t = .int .i64 u ∧ Hid (PatAt wr w2.heap.size l0 (.slice (some ⟨g, 0, none⟩) nn cp) ∧ Below w.heap.size w wr)) (fun t _ => (l0.a + 1 - intOf t).toNat)
        case atStart => exact ⟨0, by omega, by omega, fun _ => m1, rfl, hg⟩
        case round =>
          clear hg
          obtain ⟨u, hu0, hua, hur, rfl, hg⟩ := hrel
          obtain ⟨c0, c1, c2, c3, _⟩ := id hg.out.1
          by_cases hul : u < l0.a
          · have huc : decide (u < l0.a) = true := decide_eq_true hul
            have g1 : IntKind.i64.wrap (x - u) = x - u := IntWalk.i64_in _ ⟨by omega, by omega⟩
            have g2 : IntKind.i64.wrap (y - v) = y - v := IntWalk.i64_in _ ⟨by omega, by omega⟩
            have IC := Lib.hid (IN.out (.slice (some ⟨g, 0, none⟩) nn cp) (x - u) (y - v) wr ⟨_, _, _, rfl⟩ (by omega) (by omega) (by omega) (by omega))
            have HI := Lib.hid (HIT.out u v hu0 hul hv0 (by omega))
            generalize hasB l0 (x - u) (y - v) = r at *
            cases r
            · have hne : ¬ (u = ra ∧ v = rb) := fun h => by have := HI.out.2 h; cases this
              clear HI
              go_wp2_with fail
              refine IC.out.mono ?_
              rintro e w3 ⟨rfl, hb3⟩
              have HN := Lib.hid (And.intro (hg.out.1.all hb3) (below_step hg.out.2 hb3))
              clear hb3 IC c0 c1 c2 c3 hg
              go_wp2
              go_roundw
              case rel => exact ⟨u + 1, by omega, by omega, fun e => by have := hur e; omega, by go_num, HN⟩
              case measure => simp [intOf]; omega
            · obtain ⟨rfl, rfl⟩ := HI.out.1 rfl
              clear HI
              go_wp2_with fail
              refine IC.out.mono ?_
              rintro e w3 ⟨rfl, hb3⟩
              have HN := Lib.hid (below_step hg.out.2 hb3)
              clear hb3 IC c0 c1 c2 c3 hg
              go_wp2
              exact bodyPost_ret (v := .tuple #[.int .i64 u, .int .i64 v, .int .i64 0]) (by simp [results, Tryz.results22, go_sem]) rfl ⟨rfl, HN.out⟩
          · obtain rfl : u = l0.a := by omega
            have huc : decide (l0.a < l0.a) = false := decide_eq_false (by omega)
            have hvr2 : v < rb := by
              by_cases e : v = rb
              · have := hur e; omega
              · omega
            clear hul
            go_wp2
            go_roundw
            case rel => exact ⟨v + 1, by omega, by omega, by go_num, hg⟩
            case measure => simp [intOf]; omega
    · have hnf : (fromB (-100000) 100000 x && fromB (-100000) 100000 y) = false := by simpa using hnr
      rw [place_near hz0 hnf, if_neg (by decide)]
      rw [hnf] at NR
      clear hz0 hv hnr hnf
      go_enter Tryz.func22, Tryz.ntmps22
      go_wp2_with fail
      refine (VA.out _ HB.out.2).mono ?_
      rintro e w1 ⟨rfl, hb1⟩
      have HW := Lib.hid (below_step HB.out.2 hb1)
      clear hb1
      go_wp2_with fail
      refine (NR.out _).mono ?_
      rintro e w2 ⟨rfl, rfl⟩
      go_wp2
      exact bodyPost_ret (v := .tuple #[.int .i64 0, .int .i64 0, .int .i64 1]) (by simp [results, Tryz.results22, go_sem]) rfl ⟨rfl, HW.out⟩
  · rw [place_bad hz0, if_neg hz0]
    generalize validE A B C cs = q at *
    have hd : (q == 0) = false := beq_eq_false_iff_ne.2 hz0
    have hd2 : (q != 0) = true := by rw [bne, hd]; rfl
    clear hz0 hv
    go_enter Tryz.func22, Tryz.ntmps22
    go_wp2_with fail
    refine (VA.out _ HB.out.2).mono ?_
    rintro e w1 ⟨rfl, hb1⟩
    have HW := Lib.hid (below_step HB.out.2 hb1)
    clear hb1
    go_wp2
    exact bodyPost_ret (v := .tuple #[.int .i64 0, .int .i64 0, .int .i64 q]) (by simp [results, Tryz.results22, go_sem]) rfl ⟨rfl, HW.out⟩
end Go.Proofs.YtigigmjdockdeaaGreatDoor
