/- The reference's modulo and color. The reference's period. The reference's within, near and Validate. The reference's At and IsPeriod. -/
import Derived.Test.YtobolflgoljafaaGreatDoorPatC
namespace Go.Proofs.YtobolflgoljafaaGreatDoor
open Go.RowKit

theorem rmod1 (x n : Int) : (x % n + n) % n = x % n := by rw [Int.add_emod, Int.emod_self, Int.add_zero, Int.emod_emod, Int.emod_emod]
theorem rmod2 (x n : Int) (hn : 1 ≤ n) : (x.tmod n + n) % n = x % n := by
  obtain ⟨f1, f2, _, _⟩ := tmod_fix x n hn
  by_cases h : x.tmod n < 0
  · rw [f1 h, Int.emod_emod]
  · rw [f2 h, rmod1]
set_option maxRecDepth 20000 in
set_option maxHeartbeats 400000 in
theorem refModulo_any (x n : Int) (w : World) (hn : 1 ≤ n) (hn2 : n ≤ 1000000) (hx : -1000000000000 ≤ x) (hx2 : x ≤ 1000000000000) :
    Calls Tryz.prog 61 #[.int .i64 x, .int .i64 n] w fun e w' => e = .returned (.int .i64 (x % n)) ∧ w = w' := by
  obtain ⟨f1, f2, f3, f4⟩ := tmod_fix x n hn
  have h1 := Int.emod_nonneg x (show n ≠ 0 by omega)
  have h2 := Int.emod_lt_of_pos x (show 0 < n by omega)
  have E1 := Lib.hid (rmod1 x n)
  have E2 := Lib.hid (rmod2 x n hn)
  have E3 : Hid ((x % n + n).tmod n = x % n) := Lib.hid (by rw [Int.tmod_eq_emod_of_nonneg (by omega)]; exact rmod1 x n)
  have E4 : Hid ((x.tmod n + n).tmod n = x % n) := Lib.hid (by rw [Int.tmod_eq_emod_of_nonneg (by omega)]; exact rmod2 x n hn)
  have E5 : Hid (x.tmod n % n = x % n) := Lib.hid (by have := rmod2 x n hn; rwa [Int.add_emod, Int.emod_self, Int.add_zero, Int.emod_emod] at this)
  clear f1 f2
  by_cases h0 : 0 ≤ x
  all_goals
    go_enter Tryz.func61, Tryz.ntmps61
    go_wp2
    go_ret
    first
      | exact ⟨rfl, rfl⟩
      | exact ⟨congrArg (fun z => Ending.returned (Value.int .i64 z)) E1.out, rfl⟩
      | exact ⟨congrArg (fun z => Ending.returned (Value.int .i64 z)) E2.out, rfl⟩
      | exact ⟨congrArg (fun z => Ending.returned (Value.int .i64 z)) E3.out, rfl⟩
      | exact ⟨congrArg (fun z => Ending.returned (Value.int .i64 z)) E4.out, rfl⟩
      | exact ⟨congrArg (fun z => Ending.returned (Value.int .i64 z)) E5.out, rfl⟩
      | exact ⟨congrArg (fun z => Ending.returned (Value.int .i64 z)) (Int.emod_emod _ _), rfl⟩

set_option maxRecDepth 20000 in
set_option maxHeartbeats 1000000 in
theorem refColor_any (l : Pt.Lat) (v : Value) (cs : List Int) (x y : Int) (w : World) (h : PatIn w l v cs) (hx : -1000000 ≤ x) (hx2 : x ≤ 1000000) (hy : -1000000 ≤ y) (hy2 : y ≤ 1000000) :
    Calls Tryz.prog 51 #[patV l v, .int .i64 x, .int .i64 y] w fun e w' => e = .returned (.int .i64 (Pt.col l (csF cs) x y)) ∧ Below w.heap.size w w' := by
  have hsm := h.2.2.1
  obtain ⟨bb, off, cap, k, rfl, hbb, i1, i2, i3, i4, hc⟩ := h.at_ x y
  obtain ⟨t1, t2, t3, t4, t5, t6, t7⟩ := home_in_bd l hsm x y hx hx2 hy hy2
  have b0 := (Below.refl w.heap.size w).alloc (Nat.le_refl _) (.cells #[.int .i64 l.a, .int .i64 l.b, .int .i64 l.c, .slice (some ⟨bb, off, none⟩) cs.length cap] 24)
  have P0 := PatAt.fresh w l (.slice (some ⟨bb, off, none⟩) cs.length cap) 24
  obtain ⟨m1, m2, m3, m4⟩ := Pt.home_bd hsm.1 x y
  obtain ⟨q1, q2⟩ := quot_fix y l.c hsm.1.2.2.2
  have hcs : (cs.length : Int) ≤ 900000000 := by
    rw [h.2.1]
    have e1 : l.a * l.c ≤ 30000 * l.c := Int.mul_le_mul_of_nonneg_right hsm.2.1 (by have := hsm.1.2.2.2; omega)
    have := hsm.2.2
    omega
  have h6 : 0 ≤ Pt.hy l y * l.a := Int.mul_nonneg m3 (by have := hsm.1.1; omega)
  obtain ⟨⟨a1, b1, b2, c1⟩, a2, c2⟩ := hsm
  have MY := Lib.hid (fun W => refModulo_any y l.c W c1 (by omega) (by omega) (by omega))
  have MX := Lib.hid (fun W => refModulo_any (x - y / l.c * l.b) l.a W a1 (by omega) (by omega) (by omega))
  have H5 : Hid (y % l.c = Pt.hy l y) := Lib.hid rfl
  have H6 : Hid ((x - y / l.c * l.b) % l.a = Pt.hx l x y) := Lib.hid rfl
  rw [H6.out] at MX
  rw [H5.out] at MY
  have hyy : y % l.c = Pt.hy l y := rfl
  rw [hyy] at q1 q2 t5
  have hcell : (w.alloc (.cells #[.int .i64 l.a, .int .i64 l.b, .int .i64 l.c, .slice (some ⟨bb, off, none⟩) cs.length cap] 24)).cell? ⟨bb, off + k, none⟩ = some (.int .i64 (Pt.col l (csF cs) x y)) := (b0.cell (p := ⟨bb, off + k, none⟩) hbb).trans hc
  clear h H5 H6 hyy hc
  generalize Pt.hx l x y = rx at *
  generalize Pt.hy l y = ry at *
  generalize Pt.col l (csF cs) x y = col at *
  obtain ⟨a, b, c⟩ := l
  dsimp only at *
  have hra : ry * a ≤ 900000000 := by omega
  have Q1 := Lib.hid q1
  have Q2 := Lib.hid q2
  generalize hq : y / c = q at *
  clear q1 q2 hq
  have g1 : IntKind.i64.wrap (q * b) = q * b := IntWalk.i64_in _ ⟨by omega, by omega⟩
  have g2 : IntKind.i64.wrap (x - q * b) = x - q * b := IntWalk.i64_in _ ⟨by omega, by omega⟩
  have g3 : IntKind.i64.wrap (ry * a) = ry * a := IntWalk.i64_in _ ⟨by omega, by omega⟩
  have g4 : IntKind.i64.wrap (ry * a + rx) = ry * a + rx := IntWalk.i64_in _ ⟨by omega, by omega⟩
  go_enter Tryz.func51, Tryz.ntmps51
  go_wp2_with fail
  refine (MY.out _).mono ?_
  rintro e w1 ⟨rfl, rfl⟩
  have hdd : (y - ry).tdiv c = q := Q1.out
  have hd2 : (y - ry) / c = q := Q2.out
  obtain ⟨e0, e1, e2, e3, _⟩ := id P0
  go_upto_region 3 with fail
  have hb0 := Lib.hid b0
  clear b0 e0 e1 e2 e3
  refine wp_region_seq [(0, true), (1, true), (2, true), (3, true), (4, true), (5, true), (6, true), (7, true), (8, true), (9, true), (10, true), (11, true), (12, true), (13, true), (14, false), (15, true), (16, true), (17, true), (18, true)]
    (fun W => PatAt W w.heap.size ⟨a, b, c⟩ (.slice (some ⟨bb, off, none⟩) cs.length cap) ∧ W.cell? ⟨bb, off + k, none⟩ = some (.int .i64 col))
    (by kernel_rfl) (by kernel_rfl) (by kernel_rfl) (by kernel_rfl) (fun d _ _ _ _ h => by cases d <;> exact h)
    (by exact ⟨P0, hcell⟩) (fun hS => ?_)
  repeat (first
    | (refine SeqH.take (v := ?_) rfl (by rfl) ?_ ?_; rotate_left; (· intro w hSw; (try dsimp only at hSw); obtain ⟨⟨c0, c1, c2, c3, _⟩, c4⟩ := hSw; go_simp; (try with_reducible rfl)); simp only [Act.put, List.setIfInBounds_toArray, List.set_cons_zero, List.set_cons_succ]))
  refine SeqH.step rfl (by rfl) (fun K hK => ?_)
  go_simp
  go_at_call 61
  refine (MX.out _).mono ?_
  rintro e w2 ⟨rfl, rfl⟩
  try dsimp only
  refine hK.out _ _ hS (fun _ => ?_)
  clear hK K
  try simp only [Act.put, List.setIfInBounds_toArray, List.set_cons_zero, List.set_cons_succ]
  repeat (first
    | (refine SeqH.take (v := ?_) rfl (by rfl) ?_ ?_; rotate_left; (· intro w hSw; (try dsimp only at hSw); obtain ⟨⟨c0, c1, c2, c3, _⟩, c4⟩ := hSw; go_simp; (try with_reducible rfl)); simp only [Act.put, List.setIfInBounds_toArray, List.set_cons_zero, List.set_cons_succ]))
  refine SeqH.done ?_
  go_wp2
  go_ret
  exact ⟨rfl, below_drewN hb0.out _⟩
end Go.Proofs.YtobolflgoljafaaGreatDoor
namespace Go.Proofs.YtobolflgoljafaaGreatDoor
open Go.RowKit

set_option maxRecDepth 20000 in
set_option maxHeartbeats 2000000 in
theorem refPeriod_any (l : Pt.Lat) (v : Value) (cs : List Int) (dx dy : Int) (w : World) (hp : PatIn w l v cs) (hx : -500000 ≤ dx) (hx2 : dx ≤ 500000) (hy : -500000 ≤ dy) (hy2 : dy ≤ 500000) :
    Calls Tryz.prog 97 #[patV l v, .int .i64 dx, .int .i64 dy] w fun e w' => e = .returned (.bool (movedB l (Pt.col l (csF cs)) (Pt.col l (csF cs)) dx dy)) ∧ Below w.heap.size w w' := by
  have hsp := hp.2.2.1
  obtain ⟨⟨a1, a2, a3, a4⟩, a5, a6⟩ := hsp
  have C := Lib.hid (fun (x y : Int) (h1 : -1000000 ≤ x) (h2 : x ≤ 1000000) (h3 : -1000000 ≤ y) (h4 : y ≤ 1000000) W (hW : Below w.heap.size w W) => refColor_any l v cs x y W (hp.all hW) h1 h2 h3 h4)
  have hvp : ∃ a n c, v = .slice a n c := by
    obtain ⟨_, _, _, _, h, _⟩ := hp.at_ 0 0
    exact ⟨_, _, _, h⟩
  obtain ⟨va, vn, vc, rfl⟩ := hvp
  have P0 := PatAt.fresh w l (.slice va vn vc) 24
  have B0 := (Below.refl w.heap.size w).alloc (Nat.le_refl _) (.cells #[.int .i64 l.a, .int .i64 l.b, .int .i64 l.c, .slice va vn vc] 24)
  have H0 := Lib.hid (And.intro P0 B0)
  obtain ⟨A, hA⟩ : ∃ A : Nat, l.a = A := ⟨l.a.toNat, by omega⟩
  obtain ⟨D, hD⟩ : ∃ D : Nat, l.c = D := ⟨l.c.toNat, by omega⟩
  clear hp P0 B0
  have HA := Lib.hid hA
  have HD := Lib.hid hD
  have hA1 : 1 ≤ A := by omega
  have hA3 : l.a ≤ (A : Int) := by omega
  have hA4 : (A : Int) ≤ l.a := by omega
  have hD3 : l.c ≤ (D : Int) := by omega
  have hD4 : (D : Int) ≤ l.c := by omega
  have hA2 : A ≤ 30000 := by omega
  have hD2 : D ≤ 30000 := by omega
  have MV := Lib.hid (fun x y hx hy h => moved_no (lp := l) (f := Pt.col l (csF cs)) (g := Pt.col l (csF cs)) (dx := dx) (dy := dy) (x := x) (y := y) hx hy h)
  have hMT : (∀ y, y < D → rowB l (Pt.col l (csF cs)) (Pt.col l (csF cs)) dx dy y = true) → movedB l (Pt.col l (csF cs)) (Pt.col l (csF cs)) dx dy = true := fun h => by
    unfold movedB
    rw [List.all_eq_true]
    intro y hy
    exact h y (by have := List.mem_range.1 hy; omega)
  have hRT : ∀ y : Nat, (∀ x : Nat, x < A → Pt.col l (csF cs) (x : Int) (y : Int) = Pt.col l (csF cs) ((x : Int) + dx) ((y : Int) + dy)) → rowB l (Pt.col l (csF cs)) (Pt.col l (csF cs)) dx dy y = true := fun y h => by
    unfold rowB
    rw [List.all_eq_true]
    intro x hx
    rw [beq_iff_eq]
    exact h x (by have := List.mem_range.1 hx; omega)
  clear hA hD
  have MT := Lib.hid hMT
  have RT := Lib.hid hRT
  clear hMT hRT
  generalize movedB l (Pt.col l (csF cs)) (Pt.col l (csF cs)) dx dy = MB at *
  go_enter Tryz.func97, Tryz.ntmps97
  go_wp2
  go_loopw [7] (fun t wr => ∃ y : Nat, y ≤ D ∧ t = .int .i64 (y : Int) ∧ Hid ((∀ y', y' < y → rowB l (Pt.col l (csF cs)) (Pt.col l (csF cs)) dx dy y' = true) ∧ PatAt wr w.heap.size l (.slice va vn vc) ∧ Below w.heap.size w wr)) (fun t _ => D - (intOf t).toNat)
  case atStart => exact ⟨0, Nat.zero_le _, rfl, Lib.hid ⟨fun _ h => absurd h (by omega), H0.out⟩⟩
  case round =>
    obtain ⟨y, hyD, rfl, hg⟩ := hrel
    clear H0
    obtain ⟨c0, c1, c2, c3, _⟩ := id hg.out.2.1
    by_cases hlt : y < D
    · have hdy : decide ((y : Int) < l.c) = true := decide_eq_true (by omega)
      go_wp2
      clear c0 c1 c2 c3
      go_loopw [8] (fun t wx => ∃ x : Nat, x ≤ A ∧ t = .int .i64 (x : Int) ∧ Hid ((∀ x', x' < x → Pt.col l (csF cs) (x' : Int) (y : Int) = Pt.col l (csF cs) ((x' : Int) + dx) ((y : Int) + dy)) ∧ PatAt wx w.heap.size l (.slice va vn vc) ∧ Below w.heap.size w wx)) (fun t _ => A - (intOf t).toNat)
      case atStart => exact ⟨0, Nat.zero_le _, rfl, Lib.hid ⟨fun _ h => absurd h (by omega), hg.out.2⟩⟩
      case round =>
        obtain ⟨x, hxA, rfl, hgx⟩ := hrel
        by_cases hxlt : x < A
        · obtain ⟨hrow, hpp, hw⟩ := hgx.out
          have CC := Lib.hid (C.out ((x : Int) + dx) ((y : Int) + dy) (by omega) (by omega) (by omega) (by omega))
          have CD := Lib.hid (C.out (x : Int) (y : Int) (by omega) (by omega) (by omega) (by omega))
          have HRW := Lib.hid hrow
          have HMV := Lib.hid (MV.out x y (by rw [HA.out]; omega) (by rw [HD.out]; omega))
          have hdx : decide ((x : Int) < l.a) = true := decide_eq_true (by omega)
          clear hrow
          generalize hu : Pt.col l (csF cs) (x : Int) (y : Int) = u at *
          generalize hv : Pt.col l (csF cs) ((x : Int) + dx) ((y : Int) + dy) = v at *
          have HU := Lib.hid hu
          have HV := Lib.hid hv
          have g3 : IntKind.i64.wrap ((x : Int) + dx) = (x : Int) + dx := IntWalk.i64_in _ ⟨by omega, by omega⟩
          have g4 : IntKind.i64.wrap ((y : Int) + dy) = (y : Int) + dy := IntWalk.i64_in _ ⟨by omega, by omega⟩
          obtain ⟨p0, p1, p2, p3, _⟩ := id hpp
          clear hu hv
          go_upto_region 7 with fail
          refine wp_region_seq [(0, true), (1, true), (2, true), (3, true), (4, true), (5, true), (6, true), (8, true), (9, true), (10, true), (7, false), (11, false), (12, true)]
            (fun W => PatAt W w.heap.size l (.slice va vn vc) ∧ Hid (Below w.heap.size w W))
            (by kernel_rfl) (by kernel_rfl) (by kernel_rfl) (by kernel_rfl) (fun d _ _ _ _ h => by cases d <;> exact h)
            (by exact ⟨hpp, Lib.hid hw.drew⟩) (fun hS => ?_)
          clear p0 p1 p2 p3 hpp hw hgx
          repeat (first
            | (refine SeqH.take (v := ?_) rfl (by rfl) ?_ ?_; rotate_left; (· intro w hSw; (try dsimp only at hSw); obtain ⟨⟨c0, c1, c2, c3, _⟩, _⟩ := hSw; go_simp; (try with_reducible rfl)); simp only [Act.put, List.setIfInBounds_toArray, List.set_cons_zero, List.set_cons_succ]))
          refine SeqH.step rfl (by rfl) (fun K hK => ?_)
          go_simp
          go_at_call 51
          refine (CC.out _ hS.2.out).mono ?_
          rintro e w2 ⟨rfl, hb2⟩
          try dsimp only
          have hS2 : PatAt w2 w.heap.size l (.slice va vn vc) ∧ Hid (Below w.heap.size w w2) := ⟨hS.1.all hb2, Lib.hid (below_step hS.2.out hb2)⟩
          refine hK.out _ _ hS2 (fun _ => ?_)
          clear hK K hb2 hS
          try simp only [Act.put, List.setIfInBounds_toArray, List.set_cons_zero, List.set_cons_succ]
          refine SeqH.step rfl (by rfl) (fun K hK => ?_)
          go_simp
          go_at_call 51
          refine (CD.out _ hS2.2.out).mono ?_
          rintro e w3 ⟨rfl, hb3⟩
          try dsimp only
          have hS3 : PatAt w3 w.heap.size l (.slice va vn vc) ∧ Hid (Below w.heap.size w w3) := ⟨hS2.1.all hb3, Lib.hid (below_step hS2.2.out hb3)⟩
          refine hK.out _ _ hS3 (fun _ => ?_)
          clear hK K hb3 hS2
          try simp only [Act.put, List.setIfInBounds_toArray, List.set_cons_zero, List.set_cons_succ]
          repeat (first
            | (refine SeqH.take (v := ?_) rfl (by rfl) ?_ ?_; rotate_left; (· intro w hSw; (try dsimp only at hSw); obtain ⟨⟨c0, c1, c2, c3, _⟩, _⟩ := hSw; go_simp; (try with_reducible rfl)); simp only [Act.put, List.setIfInBounds_toArray, List.set_cons_zero, List.set_cons_succ]))
          refine SeqH.done ?_
          have HN := Lib.hid hS3
          clear hS3
          by_cases heq : u = v
          · subst heq
            have HE : Hid (Pt.col l (csF cs) (x : Int) (y : Int) = Pt.col l (csF cs) ((x : Int) + dx) ((y : Int) + dy)) := Lib.hid (HU.out.trans HV.out.symm)
            clear HU HV HMV
            go_wp2
            go_roundw
            case rel =>
              refine ⟨x + 1, by omega, by go_num, Lib.hid ⟨fun x' hx' => ?_, HN.out.1, HN.out.2.out⟩⟩
              by_cases e : x' = x
              · rw [e]; exact HE.out
              · exact HRW.out x' (by omega)
            case measure => simp [intOf]; omega
          · have HM := Lib.hid (HMV.out heq)
            have hne : (v == u) = false := beq_eq_false_iff_ne.2 (fun e => heq e.symm)
            have hne2 : (v != u) = true := by rw [bne, hne]; rfl
            clear HU HV HMV heq
            go_wp2
            go_ret
            exact ⟨by rw [HM.out]; rfl, HN.out.2.out⟩
        · obtain rfl : x = A := by omega
          have hdx : decide ((x : Int) < l.a) = false := decide_eq_false (by omega)
          have HRB := Lib.hid (RT.out y hgx.out.1)
          have HN := Lib.hid hgx.out.2
          have hgy := Lib.hid hg.out.1
          obtain ⟨c0, c1, c2, c3, _⟩ := id hgx.out.2.1
          clear hgx hg
          go_wp2
          go_roundw
          case rel =>
            refine ⟨y + 1, by omega, by go_num, Lib.hid ⟨fun y' hy' => ?_, HN.out⟩⟩
            by_cases e : y' = y
            · rw [e]; exact HRB.out
            · exact hgy.out y' (by omega)
          case measure => simp [intOf]; omega
    · obtain rfl : y = D := by omega
      have hdy : decide ((y : Int) < l.c) = false := decide_eq_false (by omega)
      have HM := Lib.hid (MT.out hg.out.1)
      have HN := Lib.hid hg.out.2.2
      clear hg
      go_wp2
      go_ret
      exact ⟨by rw [HM.out]; rfl, HN.out⟩
end Go.Proofs.YtobolflgoljafaaGreatDoor
namespace Go.Proofs.YtobolflgoljafaaGreatDoor
open Go.RowKit

set_option maxRecDepth 20000 in
theorem refWithin_any (n lo hi : Int) (w : World) : Calls Tryz.prog 65 #[.int .i64 n, .int .i64 lo, .int .i64 hi] w fun e w' => e = .returned (.bool (fromB lo hi n)) ∧ w = w' := by
  by_cases h1 : lo ≤ n
  · have HE : Hid (fromB lo hi n = decide (n ≤ hi)) := Lib.hid (by unfold fromB; rw [decide_eq_true h1]; rfl)
    generalize fromB lo hi n = r at *
    go_enter Tryz.func65, Tryz.ntmps65
    go_wp2
    go_ret
    exact ⟨by rw [HE.out]; rfl, rfl⟩
  · have HE : Hid (fromB lo hi n = false) := Lib.hid (by unfold fromB; rw [decide_eq_false h1]; rfl)
    generalize fromB lo hi n = r at *
    go_enter Tryz.func65, Tryz.ntmps65
    go_wp2
    go_ret
    exact ⟨by rw [HE.out]; rfl, rfl⟩
set_option maxRecDepth 20000 in
theorem refNear_any (x y : Int) (w : World) : Calls Tryz.prog 118 #[.int .i64 x, .int .i64 y] w fun e w' => e = .returned (.bool (fromB (-100000) 100000 x && fromB (-100000) 100000 y)) ∧ w = w' := by
  have FX := Lib.hid (fun W => refWithin_any x (-100000) 100000 W)
  have FY := Lib.hid (fun W => refWithin_any y (-100000) 100000 W)
  generalize fromB (-100000) 100000 x = rx at *
  generalize fromB (-100000) 100000 y = ry at *
  cases rx
  · go_enter Tryz.func118, Tryz.ntmps118
    go_wp2_with fail
    refine (FX.out _).mono ?_
    rintro e w' ⟨rfl, rfl⟩
    go_wp2
    go_ret
    exact ⟨rfl, rfl⟩
  · go_enter Tryz.func118, Tryz.ntmps118
    go_wp2_with fail
    refine (FX.out _).mono ?_
    rintro e w' ⟨rfl, rfl⟩
    go_wp2_with fail
    refine (FY.out _).mono ?_
    rintro e w' ⟨rfl, rfl⟩
    go_wp2
    go_ret
    exact ⟨rfl, rfl⟩

set_option maxRecDepth 20000 in
set_option maxHeartbeats 2000000 in
theorem refValidate_any (A B C : Int) (v : Value) (cs : List Int) (w : World) (hv : Ints w v cs) (hkl : cs.length ≤ 1000000000) (hA1 : -9223372036854775808 ≤ A) (hA2 : A ≤ 9223372036854775807) :
    Calls Tryz.prog 57 #[.agg #[.int .i64 A, .int .i64 B, .int .i64 C, v]] w fun e w' => e = .returned (.int .i64 (validE A B C cs)) ∧ Below w.heap.size w w' := by
  have IA := Lib.hid (fun W => refWithin_any A 1 144 W)
  have IC := Lib.hid (fun W => refWithin_any C 1 144 W)
  have IB := Lib.hid (fun W => refWithin_any B 0 (A - 1) W)
  have hE : ∃ R, validE A B C cs = R := ⟨_, rfl⟩
  obtain ⟨R, hR⟩ := hE
  obtain ⟨va, vc, rfl, hk⟩ := hv.look'
  have HK := Lib.hid hk
  have HHIT := Lib.hid (fun (j : Nat) (h : j < cs.length) hx => colB_hit h hx)
  have HALL := Lib.hid (fun h => colB_all (ks := cs) h)
  have WI := Lib.hid (fun (n : Int) W => refWithin_any n 0 7 W)
  have HR := Lib.hid hR
  have HFA := Lib.hid (fromB_iff 1 144 A)
  have HFC := Lib.hid (fromB_iff 1 144 C)
  have b0 := BlockAt.new w #[.int .i64 A, .int .i64 B, .int .i64 C, .slice va cs.length vc] 24
  have hw := (Below.refl w.heap.size w).alloc (Nat.le_refl _) (.cells #[.int .i64 A, .int .i64 B, .int .i64 C, .slice va cs.length vc] 24)
  have HB := Lib.hid (And.intro b0 hw)
  rw [hR]
  unfold validE at HR
  generalize fromB 1 144 A = ra at *
  generalize fromB 1 144 C = rc at *
  generalize fromB 0 (A - 1) B = rb at *
  clear hR hv b0 hw hk
  cases ra
  · have HE : Hid (R = 1) := Lib.hid (by rw [← HR.out]; simp)
    clear HR
    go_enter Tryz.func57, Tryz.ntmps57
    go_wp2_with fail
    refine (IA.out _).mono ?_
    rintro e w' ⟨rfl, rfl⟩
    go_wp2
    go_ret
    exact ⟨by rw [HE.out]; rfl, HB.out.2⟩
  obtain ⟨hA3, _⟩ := HFA.out.1 rfl
  have hA4 : -9223372036854775808 < A := by omega
  cases rc
  · have HE : Hid (R = 1) := Lib.hid (by rw [← HR.out]; simp)
    clear HR
    go_enter Tryz.func57, Tryz.ntmps57
    go_wp2_with fail
    refine (IA.out _).mono ?_
    rintro e w' ⟨rfl, rfl⟩
    go_wp2_with fail
    refine (IC.out _).mono ?_
    rintro e w' ⟨rfl, rfl⟩
    go_wp2
    go_ret
    exact ⟨by rw [HE.out]; rfl, HB.out.2⟩
  cases rb
  · have HE : Hid (R = 1) := Lib.hid (by rw [← HR.out]; simp)
    clear HR
    go_enter Tryz.func57, Tryz.ntmps57
    go_wp2_with fail
    refine (IA.out _).mono ?_
    rintro e w' ⟨rfl, rfl⟩
    go_wp2_with fail
    refine (IC.out _).mono ?_
    rintro e w' ⟨rfl, rfl⟩
    go_wp2_with fail
    refine (IB.out _).mono ?_
    rintro e w' ⟨rfl, rfl⟩
    go_wp2
    go_ret
    exact ⟨by rw [HE.out]; rfl, HB.out.2⟩
  obtain ⟨k1, k2⟩ := HFA.out.1 rfl
  obtain ⟨k3, k4⟩ := HFC.out.1 rfl
  have hp0 : 0 ≤ A * C := Int.mul_nonneg (by omega) (by omega)
  have hp1 : A * C ≤ 144 * C := Int.mul_le_mul_of_nonneg_right k2 (by omega)
  have g1 : IntKind.i64.wrap (A * C) = A * C := IntWalk.i64_in _ ⟨by omega, by omega⟩
  have HR2 := HR.out
  simp only [Bool.true_eq_false, or_self, if_false] at HR2
  clear HR HFA HFC k1 k2 k3 k4 hp1
  by_cases hbig : 144 < A * C
  · have HE : Hid (R = 4) := Lib.hid (by rw [← HR2, if_pos hbig])
    clear HR2
    go_enter Tryz.func57, Tryz.ntmps57
    go_wp2_with fail
    refine (IA.out _).mono ?_
    rintro e w' ⟨rfl, rfl⟩
    go_wp2_with fail
    refine (IC.out _).mono ?_
    rintro e w' ⟨rfl, rfl⟩
    go_wp2_with fail
    refine (IB.out _).mono ?_
    rintro e w' ⟨rfl, rfl⟩
    go_wp2
    go_ret
    exact ⟨by rw [HE.out]; rfl, HB.out.2⟩
  have hp3 : A * C ≤ 144 := by omega
  rw [if_neg hbig] at HR2
  clear hbig
  by_cases hl : (cs.length : Int) = A * C
  · have h2 : R = if colB cs = false then 1 else 0 := by
      rw [← HR2]
      simp [hl]
    have HE := Lib.hid h2
    have hd : ((cs.length : Int) != A * C) = false := by rw [bne, beq_iff_eq.2 hl]; rfl
    have hd2 : ((cs.length : Int) == A * C) = true := beq_iff_eq.2 hl
    have HL := Lib.hid hl
    clear h2 HR2 hl
    go_enter Tryz.func57, Tryz.ntmps57
    go_wp2_with fail
    refine (IA.out _).mono ?_
    rintro e w' ⟨rfl, rfl⟩
    go_wp2_with fail
    refine (IC.out _).mono ?_
    rintro e w' ⟨rfl, rfl⟩
    go_wp2_with fail
    refine (IB.out _).mono ?_
    rintro e w' ⟨rfl, rfl⟩
    go_wp2
    go_loopw [3] (fun t wr => ∃ j : Nat, j ≤ cs.length ∧ t = .int .i64 j ∧ Hid ((∀ q, q < j → fromB 0 7 (cs.getD q 0) = true) ∧ Below w.heap.size w wr ∧ BlockAt wr w.heap.size #[.int .i64 A, .int .i64 B, .int .i64 C, .slice va cs.length vc] 24)) (fun t _ => cs.length - (intOf t).toNat)
    case atStart => exact ⟨0, Nat.zero_le _, rfl, Lib.hid ⟨fun j h => absurd h (Nat.not_lt_zero _), HB.out.2, HB.out.1⟩⟩
    case round =>
      obtain ⟨j, hj, rfl, hg⟩ := hrel
      have c3 : World.cell? _ _ = some (.slice va cs.length vc) := hg.out.2.2.cell 3
      by_cases hlt : j < cs.length
      · obtain ⟨b, off, rfl, hb, hcl⟩ := HK.out j hlt
        have hcl := (hg.out.2.1.cell (p := ⟨b, off + j, none⟩) hb).trans hcl
        have HH := Lib.hid (HHIT.out j hlt)
        have HG := Lib.hid hg.out
        have C1 := Lib.hid (fun W => WI.out (cs.getD j 0) W)
        generalize hx : fromB 0 7 (cs.getD j 0) = r at *
        have HX := Lib.hid hx
        clear hg hx
        generalize cs.getD j 0 = x at C1 hcl
        go_wp2_with fail
        refine (C1.out _).mono ?_
        rintro e w' ⟨rfl, rfl⟩
        clear C1 hcl
        cases r
        · have HL0 := Lib.hid (HH.out rfl)
          go_wp2
          go_ret
          exact ⟨by rw [HE.out, if_pos HL0.out]; rfl, HG.out.2.1⟩
        · clear HH
          go_wp2
          go_roundw
          case rel =>
            refine ⟨j + 1, by omega, by go_num, Lib.hid ⟨fun q hq => ?_, HG.out.2⟩⟩
            by_cases e : q = j
            · rw [e]; exact HX.out
            · exact HG.out.1 q (by omega)
          case measure => simp [intOf]; omega
      · obtain rfl : j = cs.length := by omega
        have HL0 := Lib.hid (HALL.out hg.out.1)
        have hw := Lib.hid hg.out.2.1
        clear hg
        go_wp2
        go_ret
        exact ⟨by rw [HE.out, HL0.out]; rfl, hw.out⟩
  · have HE : Hid (R = 1) := Lib.hid (by rw [← HR2]; simp [hl])
    have hd2 : ((cs.length : Int) == A * C) = false := beq_eq_false_iff_ne.2 hl
    have hd : ((cs.length : Int) != A * C) = true := by rw [bne, hd2]; rfl
    clear HR2
    go_enter Tryz.func57, Tryz.ntmps57
    go_wp2_with fail
    refine (IA.out _).mono ?_
    rintro e w' ⟨rfl, rfl⟩
    go_wp2_with fail
    refine (IC.out _).mono ?_
    rintro e w' ⟨rfl, rfl⟩
    go_wp2_with fail
    refine (IB.out _).mono ?_
    rintro e w' ⟨rfl, rfl⟩
    go_wp2
    go_ret
    exact ⟨by rw [HE.out]; rfl, HB.out.2⟩
end Go.Proofs.YtobolflgoljafaaGreatDoor
namespace Go.Proofs.YtobolflgoljafaaGreatDoor
open Go.RowKit

theorem place_bad {A B C : Int} {cs : List Int} {x y : Int} (h : validE A B C cs ≠ 0) : placeE A B C cs x y = validE A B C cs := if_neg h
theorem place_near {A B C : Int} {cs : List Int} {x y : Int} (h : validE A B C cs = 0) (hn : (fromB (-100000) 100000 x && fromB (-100000) 100000 y) = false) : placeE A B C cs x y = 1 := by
  unfold placeE
  rw [if_pos h, if_pos (Bool.and_eq_false_iff.1 hn)]
theorem place_in {A B C : Int} {cs : List Int} {x y : Int} (h : validE A B C cs = 0) (hn : (fromB (-100000) 100000 x && fromB (-100000) 100000 y) = true) : placeE A B C cs x y = 0 := by
  unfold placeE
  rw [if_pos h, if_neg (by rw [Bool.and_eq_true] at hn; rw [hn.1, hn.2]; decide)]

end Go.Proofs.YtobolflgoljafaaGreatDoor
