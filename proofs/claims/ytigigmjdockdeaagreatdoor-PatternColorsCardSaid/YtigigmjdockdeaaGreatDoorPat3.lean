/- Whether a repeat is that of another one, moved. -/
import Derived.Test.YtigigmjdockdeaaGreatDoorPat2
namespace Go.Proofs.YtigigmjdockdeaaGreatDoor
open Go.RowKit

/-- A row of a repeat is the other one's, moved. -/
def rowB (lp : Pt.Lat) (f g : Int → Int → Int) (dx dy : Int) (y : Nat) : Bool := (List.range lp.a.toNat).all fun x => f (x : Int) (y : Int) == g ((x : Int) + dx) ((y : Int) + dy)
def movedB (lp : Pt.Lat) (f g : Int → Int → Int) (dx dy : Int) : Bool := (List.range lp.c.toNat).all fun y => rowB lp f g dx dy y
theorem movedB_iff {lp : Pt.Lat} (h : lp.ok) (f g : Int → Int → Int) (dx dy : Int) : movedB lp f g dx dy = true ↔ ∀ x y : Int, 0 ≤ x → x < lp.a → 0 ≤ y → y < lp.c → f x y = g (x + dx) (y + dy) := by
  unfold movedB rowB
  simp only [List.all_eq_true, List.mem_range, beq_iff_eq]
  constructor
  · intro h1 x y hx hx2 hy hy2
    have := h1 y.toNat (by omega) x.toNat (by omega)
    rwa [show ((x.toNat : Nat) : Int) = x by omega, show ((y.toNat : Nat) : Int) = y by omega] at this
  · intro h1 y hy x hx
    exact h1 _ _ (by omega) (by omega) (by omega) (by omega)
theorem moved_no {lp : Pt.Lat} {f g : Int → Int → Int} {dx dy : Int} {x y : Nat} (hx : (x : Int) < lp.a) (hy : (y : Int) < lp.c) (h : f x y ≠ g ((x : Int) + dx) ((y : Int) + dy)) : movedB lp f g dx dy = false := by
  apply Bool.eq_false_iff.2
  intro hm
  unfold movedB rowB at hm
  simp only [List.all_eq_true, List.mem_range, beq_iff_eq] at hm
  exact h (hm y (by omega) x (by omega))

set_option maxRecDepth 20000 in
set_option maxHeartbeats 2000000 in
theorem isMoved_any (lp lq : Pt.Lat) (vp vq : Value) (cp cq : List Int) (dx dy : Int) (w : World) (hp : PatIn w lp vp cp) (hq : PatIn w lq vq cq) (hx : -500000 ≤ dx) (hx2 : dx ≤ 500000) (hy : -500000 ≤ dy) (hy2 : dy ≤ 500000) :
    Calls Tryz.prog 77 #[patV lp vp, patV lq vq, .int .i64 dx, .int .i64 dy] w fun e w' => e = .returned (.bool (movedB lp (Pt.col lp (csF cp)) (Pt.col lq (csF cq)) dx dy)) ∧ Below w.heap.size w w' := by
  have hsp := hp.2.2.1
  obtain ⟨⟨a1, a2, a3, a4⟩, a5, a6⟩ := hsp
  have P := Lib.hid hp
  have C := Lib.hid (fun (x y : Int) (h1 : -1000000 ≤ x) (h2 : x ≤ 1000000) (h3 : -1000000 ≤ y) (h4 : y ≤ 1000000) W (hW : Below w.heap.size w W) => colorAt_any lq vq cq x y W (hq.all hW) h1 h2 h3 h4)
  have hvp : ∃ a n c, vp = .slice a n c := by
    obtain ⟨_, _, _, _, h, _⟩ := hp.at_ 0 0
    exact ⟨_, _, _, h⟩
  have hvq : ∃ a n c, vq = .slice a n c := by
    obtain ⟨_, _, _, _, h, _⟩ := hq.at_ 0 0
    exact ⟨_, _, _, h⟩
  have hlen : (cp.length : Int) ≤ 900000000 := by
    rw [hp.2.1]
    have e1 : lp.a * lp.c ≤ 30000 * lp.c := Int.mul_le_mul_of_nonneg_right a5 (by omega)
    omega
  obtain ⟨vpa, vpn, vpc, rfl⟩ := hvp
  obtain ⟨vqa, vqn, vqc, rfl⟩ := hvq
  have P0 := (PatAt.fresh w lp (.slice vpa vpn vpc) 24).all ((Below.refl _ (w.alloc (.cells #[.int .i64 lp.a, .int .i64 lp.b, .int .i64 lp.c, .slice vpa vpn vpc] 24))).alloc (Nat.le_refl _) (.cells #[.int .i64 lq.a, .int .i64 lq.b, .int .i64 lq.c, .slice vqa vqn vqc] 24))
  have Q0 := PatAt.fresh (w.alloc (.cells #[.int .i64 lp.a, .int .i64 lp.b, .int .i64 lp.c, .slice vpa vpn vpc] 24)) lq (.slice vqa vqn vqc) 24
  have hz1 : (w.alloc (.cells #[.int .i64 lp.a, .int .i64 lp.b, .int .i64 lp.c, .slice vpa vpn vpc] 24)).heap.size = w.heap.size + 1 := by simp
  rw [hz1] at Q0
  have B0 := ((Below.refl w.heap.size w).alloc (Nat.le_refl _) (.cells #[.int .i64 lp.a, .int .i64 lp.b, .int .i64 lp.c, .slice vpa vpn vpc] 24)).alloc (by simp) (.cells #[.int .i64 lq.a, .int .i64 lq.b, .int .i64 lq.c, .slice vqa vqn vqc] 24)
  have H0 := Lib.hid (And.intro P0 (And.intro Q0 B0))
  obtain ⟨c0, c1, c2, c3, _⟩ := id P0
  obtain ⟨A, hA⟩ : ∃ A : Nat, lp.a = A := ⟨lp.a.toNat, by omega⟩
  obtain ⟨D, hD⟩ : ∃ D : Nat, lp.c = D := ⟨lp.c.toNat, by omega⟩
  clear hp hq P0 Q0 B0 hz1
  have HA := Lib.hid hA
  have HD := Lib.hid hD
  have hA1 : 1 ≤ A := by omega
  have hA3 : lp.a ≤ (A : Int) := by omega
  have hA4 : (A : Int) ≤ lp.a := by omega
  have hD3 : lp.c ≤ (D : Int) := by omega
  have hD4 : (D : Int) ≤ lp.c := by omega
  have hA2 : A ≤ 30000 := by omega
  have hD2 : D ≤ 30000 := by omega
  have MV := Lib.hid (fun x y hx hy h => moved_no (lp := lp) (f := Pt.col lp (csF cp)) (g := Pt.col lq (csF cq)) (dx := dx) (dy := dy) (x := x) (y := y) hx hy h)
  have hMT : (∀ y, y < D → rowB lp (Pt.col lp (csF cp)) (Pt.col lq (csF cq)) dx dy y = true) → movedB lp (Pt.col lp (csF cp)) (Pt.col lq (csF cq)) dx dy = true := fun h => by
    unfold movedB
    rw [List.all_eq_true]
    intro y hy
    exact h y (by have := List.mem_range.1 hy; omega)
  have hRT : ∀ y : Nat, (∀ x : Nat, x < A → Pt.col lp (csF cp) (x : Int) (y : Int) = Pt.col lq (csF cq) ((x : Int) + dx) ((y : Int) + dy)) → rowB lp (Pt.col lp (csF cp)) (Pt.col lq (csF cq)) dx dy y = true := fun y h => by
    unfold rowB
    rw [List.all_eq_true]
    intro x hx
    rw [beq_iff_eq]
    exact h x (by have := List.mem_range.1 hx; omega)
  clear hA hD
  have MT := Lib.hid hMT
  have RT := Lib.hid hRT
  clear hMT hRT
  generalize movedB lp (Pt.col lp (csF cp)) (Pt.col lq (csF cq)) dx dy = MB at *
  go_enter Tryz.func77, Tryz.ntmps77
  go_wp2
  clear c0 c1 c2 c3
  go_loopw [13] (fun t wr => ∃ y : Nat, y ≤ D ∧ t = .int .i64 (y : Int) ∧ Hid ((∀ y', y' < y → rowB lp (Pt.col lp (csF cp)) (Pt.col lq (csF cq)) dx dy y' = true) ∧ PatAt wr w.heap.size lp (.slice vpa vpn vpc) ∧ PatAt wr (w.heap.size + 1) lq (.slice vqa vqn vqc) ∧ Below w.heap.size w wr)) (fun t _ => D - (intOf t).toNat)
  case atStart => exact ⟨0, Nat.zero_le _, rfl, Lib.hid ⟨fun _ h => absurd h (by omega), H0.out⟩⟩
  case round =>
    obtain ⟨y, hyD, rfl, hg⟩ := hrel
    clear H0
    by_cases hlt : y < D
    · obtain ⟨c0, c1, c2, c3, _⟩ := hg.out.2.1
      have hdy : decide ((y : Int) < lp.c) = true := decide_eq_true (by omega)
      go_wp2
      clear c0 c1 c2 c3
      go_loopw [18] (fun t wx => ∃ x : Nat, x ≤ A ∧ t = .int .i64 (x : Int) ∧ Hid ((∀ x', x' < x → Pt.col lp (csF cp) (x' : Int) (y : Int) = Pt.col lq (csF cq) ((x' : Int) + dx) ((y : Int) + dy)) ∧ PatAt wx w.heap.size lp (.slice vpa vpn vpc) ∧ PatAt wx (w.heap.size + 1) lq (.slice vqa vqn vqc) ∧ Below w.heap.size w wx)) (fun t _ => A - (intOf t).toNat)
      case atStart => exact ⟨0, Nat.zero_le _, rfl, Lib.hid ⟨fun _ h => absurd h (by omega), hg.out.2⟩⟩
      case round =>
        obtain ⟨x, hxA, rfl, hgx⟩ := hrel
        by_cases hxlt : x < A
        · obtain ⟨hrow, hpp, hqq, hw⟩ := hgx.out
          obtain ⟨s1, s2⟩ := Pt.home_self (l := lp) (x := (x : Int)) (y := (y : Int)) (by omega) (by rw [HA.out]; omega) (by omega) (by rw [HD.out]; omega)
          obtain ⟨bb, off, cap, k, e1, hbb, i1, i2, i3, i4, hc⟩ := (P.out.all hw).at_ (x : Int) (y : Int)
          rw [s1, s2] at i1 i2 i3
          simp only [Value.slice.injEq] at e1
          obtain ⟨rfl, rfl, rfl⟩ := e1
          have CC := Lib.hid (C.out ((x : Int) + dx) ((y : Int) + dy) (by omega) (by omega) (by omega) (by omega))
          have HRW := Lib.hid hrow
          have HMV := Lib.hid (MV.out x y (by rw [HA.out]; omega) (by rw [HD.out]; omega))
          clear s1 s2 hrow
          generalize hu : Pt.col lp (csF cp) (x : Int) (y : Int) = u at *
          generalize hv : Pt.col lq (csF cq) ((x : Int) + dx) ((y : Int) + dy) = v at *
          have HU := Lib.hid hu
          have HV := Lib.hid hv
          have hya : (y : Int) * lp.a ≤ 900000000 := by omega
          have hya0 : 0 ≤ (y : Int) * lp.a := Int.mul_nonneg (by omega) (by omega)
          have g1 : IntKind.i64.wrap ((y : Int) * lp.a) = (y : Int) * lp.a := IntWalk.i64_in _ ⟨by omega, by omega⟩
          have g2 : IntKind.i64.wrap ((y : Int) * lp.a + (x : Int)) = (y : Int) * lp.a + (x : Int) := IntWalk.i64_in _ ⟨by omega, by omega⟩
          have g3 : IntKind.i64.wrap ((x : Int) + dx) = (x : Int) + dx := IntWalk.i64_in _ ⟨by omega, by omega⟩
          have g4 : IntKind.i64.wrap ((y : Int) + dy) = (y : Int) + dy := IntWalk.i64_in _ ⟨by omega, by omega⟩
          clear hu hv hg
          go_upto_region 7 with fail
          obtain ⟨p0, p1, p2, p3, hpz⟩ := id hpp
          obtain ⟨r0, r1, r2, r3, hqz⟩ := id hqq
          refine wp_region_seq [(0, true), (1, true), (2, true), (3, true), (4, true), (5, true), (6, true), (7, true), (8, true), (9, true), (10, true), (11, true), (12, true), (13, true), (14, true), (15, true), (16, true), (17, false), (18, true)]
            (fun W => ((W.cell? ⟨w.heap.size, 0, none⟩ = some (.int .i64 lp.a) ∧ W.cell? ⟨w.heap.size, 1, none⟩ = some (.int .i64 lp.b) ∧ W.cell? ⟨w.heap.size, 2, none⟩ = some (.int .i64 lp.c) ∧ W.cell? ⟨w.heap.size, 3, none⟩ = some (.slice (some ⟨bb, off, none⟩) cp.length vpc)) ∧
              (W.cell? ⟨w.heap.size + 1, 0, none⟩ = some (.int .i64 lq.a) ∧ W.cell? ⟨w.heap.size + 1, 1, none⟩ = some (.int .i64 lq.b) ∧ W.cell? ⟨w.heap.size + 1, 2, none⟩ = some (.int .i64 lq.c) ∧ W.cell? ⟨w.heap.size + 1, 3, none⟩ = some (.slice vqa vqn vqc)) ∧ W.cell? ⟨bb, off + k, none⟩ = some (.int .i64 u)) ∧
              Hid (PatAt W w.heap.size lp (.slice (some ⟨bb, off, none⟩) cp.length vpc) ∧ PatAt W (w.heap.size + 1) lq (.slice vqa vqn vqc) ∧ Below w.heap.size w W))
            (by kernel_rfl) (by kernel_rfl) (by kernel_rfl) (by kernel_rfl) (fun d _ _ _ _ h => by cases d <;> exact h)
            (by exact ⟨⟨⟨p0, p1, p2, p3⟩, ⟨r0, r1, r2, r3⟩, hc⟩, Lib.hid ⟨hpp, hqq, hw.drew⟩⟩) (fun hS => ?_)
          clear p0 p1 p2 p3 r0 r1 r2 r3 hpp hqq hw hc hgx hpz hqz
          repeat (first
            | (refine SeqH.take (v := ?_) rfl (by rfl) ?_ ?_; rotate_left; (· intro w hSw; (try dsimp only at hSw); obtain ⟨⟨⟨c0, c1, c2, c3⟩, ⟨d0, d1, d2, d3⟩, c4⟩, _⟩ := hSw; go_simp; (try with_reducible rfl)); simp only [Act.put, List.setIfInBounds_toArray, List.set_cons_zero, List.set_cons_succ]))
          refine SeqH.step rfl (by rfl) (fun K hK => ?_)
          go_simp
          go_at_call 60
          refine (CC.out _ hS.2.out.2.2).mono ?_
          rintro e w2 ⟨rfl, hb2⟩
          try dsimp only
          have hN := Lib.hid (And.intro (hS.2.out.1.all hb2) (And.intro (hS.2.out.2.1.all hb2) (below_step hS.2.out.2.2 hb2)))
          obtain ⟨p0, p1, p2, p3, _⟩ := hN.out.1
          obtain ⟨r0, r1, r2, r3, _⟩ := hN.out.2.1
          have hS3 : ((w2.cell? ⟨w.heap.size, 0, none⟩ = some (.int .i64 lp.a) ∧ w2.cell? ⟨w.heap.size, 1, none⟩ = some (.int .i64 lp.b) ∧ w2.cell? ⟨w.heap.size, 2, none⟩ = some (.int .i64 lp.c) ∧ w2.cell? ⟨w.heap.size, 3, none⟩ = some (.slice (some ⟨bb, off, none⟩) cp.length vpc)) ∧
              (w2.cell? ⟨w.heap.size + 1, 0, none⟩ = some (.int .i64 lq.a) ∧ w2.cell? ⟨w.heap.size + 1, 1, none⟩ = some (.int .i64 lq.b) ∧ w2.cell? ⟨w.heap.size + 1, 2, none⟩ = some (.int .i64 lq.c) ∧ w2.cell? ⟨w.heap.size + 1, 3, none⟩ = some (.slice vqa vqn vqc)) ∧ w2.cell? ⟨bb, off + k, none⟩ = some (.int .i64 u)) ∧
              Hid (PatAt w2 w.heap.size lp (.slice (some ⟨bb, off, none⟩) cp.length vpc) ∧ PatAt w2 (w.heap.size + 1) lq (.slice vqa vqn vqc) ∧ Below w.heap.size w w2) :=
            ⟨⟨⟨p0, p1, p2, p3⟩, ⟨r0, r1, r2, r3⟩, (hb2.cell (p := ⟨bb, off + k, none⟩) hbb).trans hS.1.2.2⟩, hN⟩
          refine hK.out _ _ hS3 (fun _ => ?_)
          clear hK K hb2 hS p0 p1 p2 p3 r0 r1 r2 r3
          try simp only [Act.put, List.setIfInBounds_toArray, List.set_cons_zero, List.set_cons_succ]
          repeat (first
            | (refine SeqH.take (v := ?_) rfl (by rfl) ?_ ?_; rotate_left; (· intro w hSw; (try dsimp only at hSw); obtain ⟨⟨⟨c0, c1, c2, c3⟩, ⟨d0, d1, d2, d3⟩, c4⟩, _⟩ := hSw; go_simp; (try with_reducible rfl)); simp only [Act.put, List.setIfInBounds_toArray, List.set_cons_zero, List.set_cons_succ]))
          refine SeqH.done ?_
          clear hS3
          by_cases huv : u = v
          · have q1 : (u != v) = false := by simp [huv]
            have HROW : Hid (∀ x' : Nat, x' < x + 1 → Pt.col lp (csF cp) (x' : Int) (y : Int) = Pt.col lq (csF cq) ((x' : Int) + dx) ((y : Int) + dy)) := Lib.hid fun x' h => by
              by_cases e : x' = x
              · rw [e, HU.out, HV.out]; exact huv
              · exact HRW.out x' (by omega)
            clear huv
            go_wp2
            go_roundw
            case rel => exact ⟨x + 1, by omega, by go_num, Lib.hid ⟨HROW.out, hN.out⟩⟩
            case measure => simp [intOf]; omega
          · have q1 : (u != v) = true := by simp [huv]
            have HB := Lib.hid (HMV.out huv)
            clear huv
            go_wp2
            go_ret
            exact ⟨by rw [HB.out]; rfl, hN.out.2.2⟩
        · obtain rfl : x = A := by omega
          have HR := Lib.hid (RT.out y hgx.out.1)
          have HG2 := Lib.hid (And.intro hg.out.1 hgx.out.2)
          clear hgx hg
          have HROWS : Hid (∀ y', y' < y + 1 → rowB lp (Pt.col lp (csF cp)) (Pt.col lq (csF cq)) dx dy y' = true) := Lib.hid fun y' h => by
            by_cases e : y' = y
            · rw [e]; exact HR.out
            · exact HG2.out.1 y' (by omega)
          go_wp2
          go_roundw
          case rel => exact ⟨y + 1, by omega, by go_num, Lib.hid ⟨HROWS.out, HG2.out.2⟩⟩
          case measure => simp [intOf]; omega
    · obtain rfl : y = D := by omega
      have HM := Lib.hid (MT.out hg.out.1)
      have hw := hg.out.2.2.2
      clear hg
      go_wp2
      go_ret
      exact ⟨by rw [HM.out]; rfl, hw⟩
end Go.Proofs.YtigigmjdockdeaaGreatDoor
