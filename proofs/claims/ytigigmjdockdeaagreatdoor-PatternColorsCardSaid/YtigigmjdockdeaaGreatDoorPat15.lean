/- The reference's period. -/
import Derived.Test.YtigigmjdockdeaaGreatDoorPat14
namespace Go.Proofs.YtigigmjdockdeaaGreatDoor
open Go.RowKit

set_option maxRecDepth 20000 in
set_option maxHeartbeats 2000000 in
theorem refPeriod_any (l : Pt.Lat) (v : Value) (cs : List Int) (dx dy : Int) (w : World) (hp : PatIn w l v cs) (hx : -500000 ≤ dx) (hx2 : dx ≤ 500000) (hy : -500000 ≤ dy) (hy2 : dy ≤ 500000) :
    Calls Tryz.prog 78 #[patV l v, .int .i64 dx, .int .i64 dy] w fun e w' => e = .returned (.bool (movedB l (Pt.col l (csF cs)) (Pt.col l (csF cs)) dx dy)) ∧ Below w.heap.size w w' := by
  have hsp := hp.2.2.1
  obtain ⟨⟨a1, a2, a3, a4⟩, a5, a6⟩ := hsp
  have C := Lib.hid (fun (x y : Int) (h1 : -1000000 ≤ x) (h2 : x ≤ 1000000) (h3 : -1000000 ≤ y) (h4 : y ≤ 1000000) W (hW : Below w.heap.size w W) => refColor_any l v cs x y W (hp.all hW) h1 h2 h3 h4)
  have hvp : ∃ a n c, v = .slice a n c := by
    obtain ⟨_, _, _, _, h, _⟩ := hp.at_ 0 0
    exact ⟨_, _, _, h⟩
  obtain ⟨va, vn, vc, rfl⟩ := hvp
  have P0 := PatAt.fresh w l (.slice va vn vc) 24
  have B0 := (Below.refl w.heap.size w).alloc (Nat.le_refl _) (.cells #[.int .i64 l.a, .int .i64 l.b, .int .i64 l.c, .slice va vn vc] 24)
  have H0 := Lib.hid (And.intro P0 B0)
  obtain ⟨A, hA⟩ : ∃ A : Nat, l.a = A := ⟨l.a.toNat, by omega⟩
  obtain ⟨D, hD⟩ : ∃ D : Nat, l.c = D := ⟨l.c.toNat, by omega⟩
  clear hp P0 B0
  have HA := Lib.hid hA
  have HD := Lib.hid hD
  have hA1 : 1 ≤ A := by omega
  have hA3 : l.a ≤ (A : Int) := by omega
  have hA4 : (A : Int) ≤ l.a := by omega
  have hD3 : l.c ≤ (D : Int) := by omega
  have hD4 : (D : Int) ≤ l.c := by omega
  have hA2 : A ≤ 30000 := by omega
  have hD2 : D ≤ 30000 := by omega
  have MV := Lib.hid (fun x y hx hy h => moved_no (lp := l) (f := Pt.col l (csF cs)) (g := Pt.col l (csF cs)) (dx := dx) (dy := dy) (x := x) (y := y) hx hy h)
  have hMT : (∀ y, y < D → rowB l (Pt.col l (csF cs)) (Pt.col l (csF cs)) dx dy y = true) → movedB l (Pt.col l (csF cs)) (Pt.col l (csF cs)) dx dy = true := fun h => by
    unfold movedB
    rw [List.all_eq_true]
    intro y hy
    exact h y (by have := List.mem_range.1 hy; omega)
  have hRT : ∀ y : Nat, (∀ x : Nat, x < A → Pt.col l (csF cs) (x : Int) (y : Int) = Pt.col l (csF cs) ((x : Int) + dx) ((y : Int) + dy)) → rowB l (Pt.col l (csF cs)) (Pt.col l (csF cs)) dx dy y = true := fun y h => by
    unfold rowB
    rw [List.all_eq_true]
    intro x hx
    rw [beq_iff_eq]
    exact h x (by have := List.mem_range.1 hx; omega)
  clear hA hD
  have MT := Lib.hid hMT
  have RT := Lib.hid hRT
  clear hMT hRT
  generalize movedB l (Pt.col l (csF cs)) (Pt.col l (csF cs)) dx dy = MB at *
  go_enter Tryz.func78, Tryz.ntmps78
  go_wp2
  go_loopw [7] (fun t wr => ∃ y : Nat, y ≤ D ∧ t = .int .i64 (y : Int) ∧ Hid ((∀ y', y' < y → rowB l (Pt.col l (csF cs)) (Pt.col l (csF cs)) dx dy y' = true) ∧ PatAt wr w.heap.size l (.slice va vn vc) ∧ Below w.heap.size w wr)) (fun t _ => D - (intOf t).toNat)
  case atStart => exact ⟨0, Nat.zero_le _, rfl, Lib.hid ⟨fun _ h => absurd h (by omega), H0.out⟩⟩
  case round =>
    obtain ⟨y, hyD, rfl, hg⟩ := hrel
    clear H0
    obtain ⟨c0, c1, c2, c3, _⟩ := id hg.out.2.1
    by_cases hlt : y < D
    · have hdy : decide ((y : Int) < l.c) = true := decide_eq_true (by omega)
      go_wp2
      clear c0 c1 c2 c3
      go_loopw [8] (fun t wx => ∃ x : Nat, x ≤ A ∧ t = .int .i64 (x : Int) ∧ Hid ((∀ x', x' < x → Pt.col l (csF cs) (x' : Int) (y : Int) = Pt.col l (csF cs) ((x' : Int) + dx) ((y : Int) + dy)) ∧ PatAt wx w.heap.size l (.slice va vn vc) ∧ Below w.heap.size w wx)) (fun t _ => A - (intOf t).toNat)
      case atStart => exact ⟨0, Nat.zero_le _, rfl, Lib.hid ⟨fun _ h => absurd h (by omega), hg.out.2⟩⟩
      case round =>
        obtain ⟨x, hxA, rfl, hgx⟩ := hrel
        by_cases hxlt : x < A
        · obtain ⟨hrow, hpp, hw⟩ := hgx.out
          have CC := Lib.hid (C.out ((x : Int) + dx) ((y : Int) + dy) (by omega) (by omega) (by omega) (by omega))
          have CD := Lib.hid (C.out (x : Int) (y : Int) (by omega) (by omega) (by omega) (by omega))
          have HRW := Lib.hid hrow
          have HMV := Lib.hid (MV.out x y (by rw [HA.out]; omega) (by rw [HD.out]; omega))
          have hdx : decide ((x : Int) < l.a) = true := decide_eq_true (by omega)
          clear hrow
          generalize hu : Pt.col l (csF cs) (x : Int) (y : Int) = u at *
          generalize hv : Pt.col l (csF cs) ((x : Int) + dx) ((y : Int) + dy) = v at *
          have HU := Lib.hid hu
          have HV := Lib.hid hv
          have g3 : IntKind.i64.wrap ((x : Int) + dx) = (x : Int) + dx := IntWalk.i64_in _ ⟨by omega, by omega⟩
          have g4 : IntKind.i64.wrap ((y : Int) + dy) = (y : Int) + dy := IntWalk.i64_in _ ⟨by omega, by omega⟩
          obtain ⟨p0, p1, p2, p3, _⟩ := id hpp
          clear hu hv
          go_upto_region 7 with fail
          refine wp_region_seq [(0, true), (1, true), (2, true), (3, true), (4, true), (5, true), (6, true), (8, true), (9, true), (10, true), (7, false), (11, false), (12, true)]
            (fun W => PatAt W w.heap.size l (.slice va vn vc) ∧ Hid (Below w.heap.size w W))
            (by kernel_rfl) (by kernel_rfl) (by kernel_rfl) (by kernel_rfl) (fun d _ _ _ _ h => by cases d <;> exact h)
            (by exact ⟨hpp, Lib.hid hw.drew⟩) (fun hS => ?_)
          clear p0 p1 p2 p3 hpp hw hgx
          repeat (first
            | (refine SeqH.take (v := ?_) rfl (by rfl) ?_ ?_; rotate_left; (· intro w hSw; (try dsimp only at hSw); obtain ⟨⟨c0, c1, c2, c3, _⟩, _⟩ := hSw; go_simp; (try with_reducible rfl)); simp only [Act.put, List.setIfInBounds_toArray, List.set_cons_zero, List.set_cons_succ]))
          refine SeqH.step rfl (by rfl) (fun K hK => ?_)
          go_simp
          go_at_call 62
          refine (CC.out _ hS.2.out).mono ?_
          rintro e w2 ⟨rfl, hb2⟩
          try dsimp only
          have hS2 : PatAt w2 w.heap.size l (.slice va vn vc) ∧ Hid (Below w.heap.size w w2) := ⟨hS.1.all hb2, Lib.hid (below_step hS.2.out hb2)⟩
          refine hK.out _ _ hS2 (fun _ => ?_)
          clear hK K hb2 hS
          try simp only [Act.put, List.setIfInBounds_toArray, List.set_cons_zero, List.set_cons_succ]
          refine SeqH.step rfl (by rfl) (fun K hK => ?_)
          go_simp
          go_at_call 62
          refine (CD.out _ hS2.2.out).mono ?_
          rintro e w3 ⟨rfl, hb3⟩
          try dsimp only
          have hS3 : PatAt w3 w.heap.size l (.slice va vn vc) ∧ Hid (Below w.heap.size w w3) := ⟨hS2.1.all hb3, Lib.hid (below_step hS2.2.out hb3)⟩
          refine hK.out _ _ hS3 (fun _ => ?_)
          clear hK K hb3 hS2
          try simp only [Act.put, List.setIfInBounds_toArray, List.set_cons_zero, List.set_cons_succ]
          repeat (first
            | (refine SeqH.take (v := ?_) rfl (by rfl) ?_ ?_; rotate_left; (· intro w hSw; (try dsimp only at hSw); obtain ⟨⟨c0, c1, c2, c3, _⟩, _⟩ := hSw; go_simp; (try with_reducible rfl)); simp only [Act.put, List.setIfInBounds_toArray, List.set_cons_zero, List.set_cons_succ]))
          refine SeqH.done ?_
          have HN := Lib.hid hS3
          clear hS3
          by_cases heq : u = v
          · subst heq
            have HE : Hid (Pt.col l (csF cs) (x : Int) (y : Int) = Pt.col l (csF cs) ((x : Int) + dx) ((y : Int) + dy)) := Lib.hid (HU.out.trans HV.out.symm)
            clear HU HV HMV
            go_wp2
            go_roundw
            case rel =>
              refine ⟨x + 1, by omega, by go_num, Lib.hid ⟨fun x' hx' => ?_, HN.out.1, HN.out.2.out⟩⟩
              by_cases e : x' = x
              · rw [e]; exact HE.out
              · exact HRW.out x' (by omega)
            case measure => simp [intOf]; omega
          · have HM := Lib.hid (HMV.out heq)
            have hne : (v == u) = false := beq_eq_false_iff_ne.2 (fun e => heq e.symm)
            have hne2 : (v != u) = true := by rw [bne, hne]; rfl
            clear HU HV HMV heq
            go_wp2
            go_ret
            exact ⟨by rw [HM.out]; rfl, HN.out.2.out⟩
        · obtain rfl : x = A := by omega
          have hdx : decide ((x : Int) < l.a) = false := decide_eq_false (by omega)
          have HRB := Lib.hid (RT.out y hgx.out.1)
          have HN := Lib.hid hgx.out.2
          have hgy := Lib.hid hg.out.1
          obtain ⟨c0, c1, c2, c3, _⟩ := id hgx.out.2.1
          clear hgx hg
          go_wp2
          go_roundw
          case rel =>
            refine ⟨y + 1, by omega, by go_num, Lib.hid ⟨fun y' hy' => ?_, HN.out⟩⟩
            by_cases e : y' = y
            · rw [e]; exact HRB.out
            · exact hgy.out y' (by omega)
          case measure => simp [intOf]; omega
    · obtain rfl : y = D := by omega
      have hdy : decide ((y : Int) < l.c) = false := decide_eq_false (by omega)
      have HM := Lib.hid (MT.out hg.out.1)
      have HN := Lib.hid hg.out.2.2
      clear hg
      go_wp2
      go_ret
      exact ⟨by rw [HM.out]; rfl, HN.out⟩
end Go.Proofs.YtigigmjdockdeaaGreatDoor
