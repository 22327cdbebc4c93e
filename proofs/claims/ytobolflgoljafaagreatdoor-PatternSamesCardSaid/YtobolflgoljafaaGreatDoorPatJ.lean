/- The program's Turn and Mirror. Planes of patterns, and their least patterns as patterns again: plain. -/
import Derived.Test.YtobolflgoljafaaGreatDoorPatH
import Derived.Test.YtobolflgoljafaaGreatDoorPatI
namespace Go.Proofs.YtobolflgoljafaaGreatDoor
open Go.RowKit

/-- What a valid pattern's plane is. -/
theorem plane_of {A B C : Int} {cs : List Int} (h : validE A B C cs = 0) : (⟨A, B, C⟩ : Pt.Lat).ok ∧ small ⟨A, B, C⟩ ∧ A * C ≤ 144 ∧ 1 ≤ A * C ∧ (cs.length : Int) = A * C ∧ (∀ x y, 0 ≤ Pt.col ⟨A, B, C⟩ (csF cs) x y ∧ Pt.col ⟨A, B, C⟩ (csF cs) x y ≤ 1000) ∧ Pt.Plane (Pt.inL ⟨A, B, C⟩) (A * C).toNat (Pt.col ⟨A, B, C⟩ (csF cs)) := by
  obtain ⟨⟨a1, a2⟩, ⟨c1, c2⟩, ⟨b1, b2⟩, h1, h2, h3⟩ := valid_ok h
  have ok : (⟨A, B, C⟩ : Pt.Lat).ok := ⟨a1, b1, by show B < A; omega, c1⟩
  have hp := Int.mul_le_mul_of_nonneg_left c1 (show 0 ≤ A by omega)
  exact ⟨ok, ⟨ok, by show A ≤ 30000; omega, by show C ≤ 30000; omega⟩, h1, by omega, h2, fun x y => colB_at h3 _, Pt.Plane.ofLat ok (csF cs)⟩
theorem lat_small {l : Pt.Lat} (h : l.ok) {n : Int} (hn : l.a * l.c ≤ n) : l.a ≤ n ∧ l.c ≤ n ∧ 1 ≤ l.a * l.c := by
  obtain ⟨h1, h2, h3, h4⟩ := h
  have e1 := Int.mul_le_mul_of_nonneg_left h4 (show 0 ≤ l.a by omega)
  have e2 := Int.mul_le_mul_of_nonneg_right h1 (show 0 ≤ l.c by omega)
  omega

theorem turn_draw {A B C : Int} {cs : List Int} (h : validE A B C cs = 0) (v : Value) (Bk bp bf : Nat) (X : World) (hv : Ints X v cs) (hB : PatAt X Bk ⟨A, B, C⟩ v)
    (h1 : X.cell? ⟨bp, 1, none⟩ = some (.func (.func 93) #[latV ⟨A, B, C⟩] #[])) (h2 : X.cell? ⟨bp, 2, none⟩ = some (.func (.func 94) #[] #[.pointer (some ⟨Bk, 0, none⟩)]))
    (h3 : X.cell? ⟨bf, 0, none⟩ = some (.func (.func 56) #[] #[])) (hbp : bp < X.heap.size) (hbf : bf < X.heap.size) :
    Calls Tryz.prog 53 #[.agg #[.int .i64 (cs.length : Int), .func (.func 95) #[] #[.pointer (some ⟨bp, 0, none⟩), .pointer (some ⟨bf, 0, none⟩)], .func (.func 96) #[] #[.pointer (some ⟨bp, 0, none⟩), .pointer (some ⟨bf, 0, none⟩)]]] X (PatRes 0 (Pt.bas (Pt.Per (Pt.rotF (Pt.col ⟨A, B, C⟩ (csF cs))))) (Pt.rotF (Pt.col ⟨A, B, C⟩ (csF cs))) X) := by
  obtain ⟨ok, sm, hm, hp1, hlen, hcol, pl⟩ := plane_of h
  have hp := (valid_in h hv).1
  have pr := pl.rot
  have hk := pr.isG
  have hs := pr.sizeG
  have hs2 := pr.sizeP
  obtain ⟨k1, k2, k3⟩ := lat_small hk.ok (n := 144) (by omega)
  obtain ⟨z1, z2, z3⟩ := lat_small pr.isP.ok (n := 144) (by omega)
  refine (draw_seen bp bf cs.length _ _ (Pt.rotG (Pt.inL ⟨A, B, C⟩)) (fun x y => hasB ⟨A, B, C⟩ y (-x)) _ X pr.grp hk (fun x y => hasB_iff ok _ _) (by omega) (by omega) (by omega) (by omega) (by omega) pr.per (fun x y => hcol _ _) pr.isP (by omega) (by omega)
    (fun dx dy W e1 e2 e3 e4 hW => ?_) (fun x y W e1 e2 e3 e4 hW => ?_)).mono ?_
  · exact turn_has ⟨A, B, C⟩ bp bf dx dy W sm ((hW.cell (p := ⟨bp, 1, none⟩) hbp).trans h1) ((hW.cell (p := ⟨bf, 0, none⟩) hbf).trans h3) (Nat.lt_of_lt_of_le hbp hW.size) (Nat.lt_of_lt_of_le hbf hW.size) (by omega) (by omega) (by omega) (by omega)
  · exact turn_col ⟨A, B, C⟩ v cs Bk bp bf x y W (hp.all hW) (hB.all hW) ((hW.cell (p := ⟨bp, 2, none⟩) hbp).trans h2) ((hW.cell (p := ⟨bf, 0, none⟩) hbf).trans h3) (Nat.lt_of_lt_of_le hbp hW.size) (Nat.lt_of_lt_of_le hbf hW.size) (by omega) (by omega) (by omega) (by omega)
  · rintro e w' ⟨hy, _, hb⟩
    exact patRes_of (fun _ => hy (by omega)) (fun h => absurd rfl h) hb

set_option maxRecDepth 20000 in
set_option maxHeartbeats 2000000 in
theorem turn_seen (A B C : Int) (v : Value) (cs : List Int) (w : World) (hv : Ints w v cs) (hkl : cs.length ≤ 1000000000) (hA1 : -9223372036854775808 ≤ A) (hA2 : A ≤ 9223372036854775807) :
    Calls Tryz.prog 55 #[.agg #[.int .i64 A, .int .i64 B, .int .i64 C, v], .func (.func 56) #[] #[]] w (PatRes (validE A B C cs) (Pt.bas (Pt.Per (Pt.rotF (Pt.col ⟨A, B, C⟩ (csF cs))))) (Pt.rotF (Pt.col ⟨A, B, C⟩ (csF cs))) w) := by
  have hmf : ∀ (fn : Fn) (first cap : Array Value) (w : World), (Instr.makeFunc fn first cap).run Tryz.prog w = .ok (.func fn first cap) w := fun _ _ _ _ => rfl
  have VA := Lib.hid (fun W (hW : Below w.heap.size w W) => validate_any A B C v cs W (hv.all hW) hkl hA1 hA2)
  obtain ⟨va, vc, rfl, _⟩ := hv.look'
  have DR : Hid (validE A B C cs = 0 → ∀ (Bk bp bf : Nat) (X : World), Below w.heap.size w X → PatAt X Bk ⟨A, B, C⟩ (.slice va cs.length vc) → X.cell? ⟨bp, 1, none⟩ = some (.func (.func 93) #[latV ⟨A, B, C⟩] #[]) → X.cell? ⟨bp, 2, none⟩ = some (.func (.func 94) #[] #[.pointer (some ⟨Bk, 0, none⟩)]) → X.cell? ⟨bf, 0, none⟩ = some (.func (.func 56) #[] #[]) → bp < X.heap.size → bf < X.heap.size → _) := Lib.hid (fun h Bk bp bf X hX hB h1 h2 h3 hbp hbf => turn_draw h _ Bk bp bf X (hv.all hX) hB h1 h2 h3 hbp hbf)
  have HSM : Hid (validE A B C cs = 0 → cs.length ≤ 1000000) := Lib.hid fun h => by have := (plane_of h).2.2.1; have := (plane_of h).2.2.2.2.1; omega
  have b0 := ((BlockAt.new w #[.int .i64 A, .int .i64 B, .int .i64 C, .slice va cs.length vc] 24).alloc (.cells #[.func (.func 56) #[] #[]] 76)).alloc (.cells #[.int .i64 0, .int .i64 0, .int .i64 0, .slice none 0 0] 24)
  have b1 := (BlockAt.new (w.alloc (.cells #[.int .i64 A, .int .i64 B, .int .i64 C, .slice va cs.length vc] 24)) #[.func (.func 56) #[] #[]] 76).alloc (.cells #[.int .i64 0, .int .i64 0, .int .i64 0, .slice none 0 0] 24)
  have b2 := BlockAt.new ((w.alloc (.cells #[.int .i64 A, .int .i64 B, .int .i64 C, .slice va cs.length vc] 24)).alloc (.cells #[.func (.func 56) #[] #[]] 76)) #[.int .i64 0, .int .i64 0, .int .i64 0, .slice none 0 0] 24
  simp only [World.size_alloc] at b1 b2
  have hw := below_alloc (below_alloc (below_alloc (Below.refl w.heap.size w) (.cells #[.int .i64 A, .int .i64 B, .int .i64 C, .slice va cs.length vc] 24)) (.cells #[.func (.func 56) #[] #[]] 76)) (.cells #[.int .i64 0, .int .i64 0, .int .i64 0, .slice none 0 0] 24)
  have HB := Lib.hid (And.intro b0 (And.intro b1 (And.intro b2 hw)))
  clear b0 b1 b2 hw hv
  have HP : Hid (∀ e w', PatRes (validE A B C cs) (Pt.bas (Pt.Per (Pt.rotF (Pt.col ⟨A, B, C⟩ (csF cs))))) (Pt.rotF (Pt.col ⟨A, B, C⟩ (csF cs))) w e w' = (∃ u, e = .returned (.tuple #[patV (ansL (validE A B C cs) (Pt.bas (Pt.Per (Pt.rotF (Pt.col ⟨A, B, C⟩ (csF cs)))))) u, .int .i64 (validE A B C cs)]) ∧ OwnI w.heap.size w' u (ansC (validE A B C cs) (Pt.bas (Pt.Per (Pt.rotF (Pt.col ⟨A, B, C⟩ (csF cs))))) (Pt.rotF (Pt.col ⟨A, B, C⟩ (csF cs)))) ∧ Below w.heap.size w w')) := Lib.hid fun _ _ => rfl
  unfold PatRes at DR ⊢
  clear HP
  generalize Pt.rotF (Pt.col ⟨A, B, C⟩ (csF cs)) = F at *
  generalize Pt.bas (Pt.Per F) = L at *
  by_cases hz : validE A B C cs = 0
  · have D := Lib.hid (DR.out hz)
    have hlen := HSM.out hz
    have PO := Lib.hid (fun W => planeOf_any ⟨A, B, C⟩ cs.length va vc W hlen)
    rw [hz] at VA ⊢
    generalize ansC 0 L F = K at *
    generalize ansL 0 L = LL at *
    clear DR HSM hz hlen
    go_enter Tryz.func55, Tryz.ntmps55
    go_wp2_with fail
    refine (VA.out _ HB.out.2.2.2).mono ?_
    rintro e w1 ⟨rfl, hb1⟩
    have H1 := Lib.hid (And.intro (HB.out.1.below hb1 HB.out.1.lt) (And.intro (HB.out.2.1.below hb1 HB.out.2.1.lt) (And.intro (HB.out.2.2.1.below hb1 HB.out.2.2.1.lt) (below_step HB.out.2.2.2 hb1))))
    clear hb1 HB VA
    have c0 : World.cell? _ _ = some (.int .i64 A) := H1.out.1.cell 0
    have c1 : World.cell? _ _ = some (.int .i64 B) := H1.out.1.cell 1
    have c2 : World.cell? _ _ = some (.int .i64 C) := H1.out.1.cell 2
    have c3 : World.cell? _ _ = some (.slice va cs.length vc) := H1.out.1.cell 3
    go_wp2_with fail
    refine (PO.out _).mono ?_
    rintro e w2 ⟨rfl, hpa, hlt2, hb2⟩
    obtain ⟨X, hX⟩ : ∃ X, w2.alloc (.cells #[.int .i64 (cs.length : Int), .func (.func 93) #[latV ⟨A, B, C⟩] #[], .func (.func 94) #[] #[.pointer (some ⟨w1.heap.size, 0, none⟩)]] 73) = X := ⟨_, rfl⟩
    have H2 : Hid (BlockAt X w2.heap.size #[.int .i64 (cs.length : Int), .func (.func 93) #[latV ⟨A, B, C⟩] #[], .func (.func 94) #[] #[.pointer (some ⟨w1.heap.size, 0, none⟩)]] 73 ∧ BlockAt X (w.heap.size + 1) #[.func (.func 56) #[] #[]] 76 ∧ BlockAt X (w.heap.size + 1 + 1) #[.int .i64 0, .int .i64 0, .int .i64 0, .slice none 0 0] 24 ∧ PatAt X w1.heap.size ⟨A, B, C⟩ (.slice va cs.length vc) ∧ Below w.heap.size w X) := Lib.hid (by
      rw [← hX]
      exact ⟨BlockAt.new _ _ _, (H1.out.2.1.below hb2 H1.out.2.1.lt).alloc _, (H1.out.2.2.1.below hb2 H1.out.2.2.1.lt).alloc _, hpa.all ((Below.refl _ _).alloc (Nat.le_refl _) _), below_alloc (below_step H1.out.2.2.2 hb2) _⟩)
    clear hpa hb2 H1 PO c0 c1 c2 c3
    have DD := Lib.hid (D.out w1.heap.size w2.heap.size (w.heap.size + 1) X H2.out.2.2.2.2 H2.out.2.2.2.1 (H2.out.1.cell 1) (H2.out.1.cell 2) (H2.out.2.1.cell 0) H2.out.1.lt H2.out.2.1.lt)
    clear D
    have d0 : World.cell? _ _ = some (.int .i64 (cs.length : Int)) := H2.out.1.cell 0
    go_wp2_with (rw [hX])
    go_wp2_with fail
    refine DD.out.mono ?_
    rintro e w3 ⟨u, rfl, hown, hb3⟩
    obtain ⟨ua, uc, rfl⟩ := hown.form
    have hB3 := H2.out.2.2.1.below hb3 H2.out.2.2.1.lt
    have e0 : World.cell? _ _ = some (.int .i64 0) := hB3.cell 0
    have e1 : World.cell? _ _ = some (.int .i64 0) := hB3.cell 1
    have e2 : World.cell? _ _ = some (.int .i64 0) := hB3.cell 2
    have e3 : World.cell? _ _ = some (.slice none 0 0) := hB3.cell 3
    have r0 := hB3.frozen 0
    have r1 := hB3.frozen 1
    have r2 := hB3.frozen 2
    have r3 := hB3.frozen 3
    have hlt := hB3.lt
    have hlt3 := H2.out.2.2.1.lt
    have HZ := Lib.hid (And.intro hown (below_step H2.out.2.2.2.2 hb3))
    clear hown hb3 hB3 H2 DD d0 hX
    go_wp2
    refine bodyPost_ret (v := .tuple #[patV LL (.slice ua K.length uc), .int .i64 0]) (by simp [results, Tryz.results55, go_sem, e0, e1, e2, e3]) rfl ⟨_, rfl, ?_, ?_⟩
    · refine OwnI.mono (base := X.heap.size) ?_ (by omega)
      iterate 4 (refine OwnI.setOld ?_ (by dsimp only; omega) _)
      exact HZ.out.1
    · iterate 4 (refine Below.setCell ?_ (by dsimp only; omega) _)
      exact HZ.out.2
  · have e1 : ansC (validE A B C cs) L F = [] := if_neg hz
    have e2 : ansL (validE A B C cs) L = ⟨0, 0, 0⟩ := if_neg hz
    rw [e1, e2]
    generalize validE A B C cs = q at *
    have hd : (q == 0) = false := beq_eq_false_iff_ne.2 hz
    have hd2 : (q != 0) = true := by rw [bne, hd]; rfl
    clear hz DR HSM e1 e2
    go_enter Tryz.func55, Tryz.ntmps55
    go_wp2_with fail
    refine (VA.out _ HB.out.2.2.2).mono ?_
    rintro e w1 ⟨rfl, hb1⟩
    have hB1 := HB.out.2.2.1.below hb1 HB.out.2.2.1.lt
    have hw1 := below_step HB.out.2.2.2 hb1
    have e0 : World.cell? _ _ = some (.int .i64 0) := hB1.cell 0
    have e1 : World.cell? _ _ = some (.int .i64 0) := hB1.cell 1
    have e2 : World.cell? _ _ = some (.int .i64 0) := hB1.cell 2
    have e3 : World.cell? _ _ = some (.slice none 0 0) := hB1.cell 3
    have r0 := hB1.frozen 0
    have r1 := hB1.frozen 1
    have r2 := hB1.frozen 2
    have r3 := hB1.frozen 3
    have hlt := hB1.lt
    have HW := Lib.hid hw1
    clear hb1 hB1 hw1 VA HB
    go_wp2
    refine bodyPost_ret (v := .tuple #[.agg #[.int .i64 0, .int .i64 0, .int .i64 0, .slice none 0 0], .int .i64 q]) (by simp [results, Tryz.results55, go_sem, e0, e1, e2, e3]) rfl ⟨_, rfl, OwnI.nil _ _, ?_⟩
    iterate 4 (refine Below.setCell ?_ (by dsimp only; omega) _)
    exact HW.out

set_option maxRecDepth 20000 in
theorem turn_any (A B C : Int) (v : Value) (cs : List Int) (w : World) (hv : Ints w v cs) (hkl : cs.length ≤ 1000000000) (hA1 : -9223372036854775808 ≤ A) (hA2 : A ≤ 9223372036854775807) :
    Calls Tryz.prog 19 #[.agg #[.int .i64 A, .int .i64 B, .int .i64 C, v]] w (PatRes (validE A B C cs) (Pt.bas (Pt.Per (Pt.rotF (Pt.col ⟨A, B, C⟩ (csF cs))))) (Pt.rotF (Pt.col ⟨A, B, C⟩ (csF cs))) w) := by
  have SN := Lib.hid (fun W (hW : Below w.heap.size w W) => turn_seen A B C v cs W (hv.all hW) hkl hA1 hA2)
  obtain ⟨va, vc, rfl, _⟩ := hv.look'
  have b0 := (BlockAt.new w #[.int .i64 A, .int .i64 B, .int .i64 C, .slice va cs.length vc] 24).alloc (.cells #[.int .i64 0, .int .i64 0, .int .i64 0, .slice none 0 0] 24)
  have b1 := BlockAt.new (w.alloc (.cells #[.int .i64 A, .int .i64 B, .int .i64 C, .slice va cs.length vc] 24)) #[.int .i64 0, .int .i64 0, .int .i64 0, .slice none 0 0] 24
  simp only [World.size_alloc] at b1
  have hw := below_alloc (below_alloc (Below.refl w.heap.size w) (.cells #[.int .i64 A, .int .i64 B, .int .i64 C, .slice va cs.length vc] 24)) (.cells #[.int .i64 0, .int .i64 0, .int .i64 0, .slice none 0 0] 24)
  have HB := Lib.hid (And.intro b1 hw)
  clear b0 b1 hw hv
  unfold PatRes at SN ⊢
  generalize validE A B C cs = q at *
  generalize Pt.rotF (Pt.col ⟨A, B, C⟩ (csF cs)) = F at *
  generalize Pt.bas (Pt.Per F) = L at *
  generalize ansC q L F = K at *
  generalize ansL q L = LL at *
  go_enter Tryz.func19, Tryz.ntmps19
  go_wp2_with fail
  refine (SN.out _ HB.out.2).mono ?_
  rintro e w1 ⟨u, rfl, hown, hb1⟩
  obtain ⟨ua, uc, rfl⟩ := hown.form
  have hB1 := HB.out.1.below hb1 HB.out.1.lt
  have e0 : World.cell? _ _ = some (.int .i64 0) := hB1.cell 0
  have e1 : World.cell? _ _ = some (.int .i64 0) := hB1.cell 1
  have e2 : World.cell? _ _ = some (.int .i64 0) := hB1.cell 2
  have e3 : World.cell? _ _ = some (.slice none 0 0) := hB1.cell 3
  have r0 := hB1.frozen 0
  have r1 := hB1.frozen 1
  have r2 := hB1.frozen 2
  have r3 := hB1.frozen 3
  have hlt := hB1.lt
  have HZ := Lib.hid (And.intro hown (below_step HB.out.2 hb1))
  clear hown hb1 hB1 HB SN
  go_wp2
  refine bodyPost_ret (v := .tuple #[patV LL (.slice ua K.length uc), .int .i64 q]) (by simp [results, Tryz.results19, go_sem, e0, e1, e2, e3]) rfl ⟨_, rfl, ?_, ?_⟩
  · refine OwnI.mono (base := w.heap.size + 2) ?_ (by omega)
    iterate 4 (refine OwnI.setOld ?_ (by dsimp only; omega) _)
    have := HZ.out.1
    simpa using this
  · iterate 4 (refine Below.setCell ?_ (by dsimp only; omega) _)
    exact HZ.out.2

theorem mirror_draw {A B C : Int} {cs : List Int} (h : validE A B C cs = 0) (v : Value) (Bk bp bf : Nat) (X : World) (hv : Ints X v cs) (hB : PatAt X Bk ⟨A, B, C⟩ v)
    (h1 : X.cell? ⟨bp, 1, none⟩ = some (.func (.func 93) #[latV ⟨A, B, C⟩] #[])) (h2 : X.cell? ⟨bp, 2, none⟩ = some (.func (.func 94) #[] #[.pointer (some ⟨Bk, 0, none⟩)]))
    (h3 : X.cell? ⟨bf, 0, none⟩ = some (.func (.func 60) #[] #[])) (hbp : bp < X.heap.size) (hbf : bf < X.heap.size) :
    Calls Tryz.prog 53 #[.agg #[.int .i64 (cs.length : Int), .func (.func 95) #[] #[.pointer (some ⟨bp, 0, none⟩), .pointer (some ⟨bf, 0, none⟩)], .func (.func 96) #[] #[.pointer (some ⟨bp, 0, none⟩), .pointer (some ⟨bf, 0, none⟩)]]] X (PatRes 0 (Pt.bas (Pt.Per (Pt.mirF (Pt.col ⟨A, B, C⟩ (csF cs))))) (Pt.mirF (Pt.col ⟨A, B, C⟩ (csF cs))) X) := by
  obtain ⟨ok, sm, hm, hp1, hlen, hcol, pl⟩ := plane_of h
  have hp := (valid_in h hv).1
  have pr := pl.mir
  have hk := pr.isG
  have hs := pr.sizeG
  have hs2 := pr.sizeP
  obtain ⟨k1, k2, k3⟩ := lat_small hk.ok (n := 144) (by omega)
  obtain ⟨z1, z2, z3⟩ := lat_small pr.isP.ok (n := 144) (by omega)
  refine (draw_seen bp bf cs.length _ _ (Pt.mirG (Pt.inL ⟨A, B, C⟩)) (fun x y => hasB ⟨A, B, C⟩ (-x) y) _ X pr.grp hk (fun x y => hasB_iff ok _ _) (by omega) (by omega) (by omega) (by omega) (by omega) pr.per (fun x y => hcol _ _) pr.isP (by omega) (by omega)
    (fun dx dy W e1 e2 e3 e4 hW => ?_) (fun x y W e1 e2 e3 e4 hW => ?_)).mono ?_
  · exact mirror_has ⟨A, B, C⟩ bp bf dx dy W sm ((hW.cell (p := ⟨bp, 1, none⟩) hbp).trans h1) ((hW.cell (p := ⟨bf, 0, none⟩) hbf).trans h3) (Nat.lt_of_lt_of_le hbp hW.size) (Nat.lt_of_lt_of_le hbf hW.size) (by omega) (by omega) (by omega) (by omega)
  · exact mirror_col ⟨A, B, C⟩ v cs Bk bp bf x y W (hp.all hW) (hB.all hW) ((hW.cell (p := ⟨bp, 2, none⟩) hbp).trans h2) ((hW.cell (p := ⟨bf, 0, none⟩) hbf).trans h3) (Nat.lt_of_lt_of_le hbp hW.size) (Nat.lt_of_lt_of_le hbf hW.size) (by omega) (by omega) (by omega) (by omega)
  · rintro e w' ⟨hy, _, hb⟩
    exact patRes_of (fun _ => hy (by omega)) (fun h => absurd rfl h) hb

set_option maxRecDepth 20000 in
set_option maxHeartbeats 2000000 in
theorem mirror_seen (A B C : Int) (v : Value) (cs : List Int) (w : World) (hv : Ints w v cs) (hkl : cs.length ≤ 1000000000) (hA1 : -9223372036854775808 ≤ A) (hA2 : A ≤ 9223372036854775807) :
    Calls Tryz.prog 55 #[.agg #[.int .i64 A, .int .i64 B, .int .i64 C, v], .func (.func 60) #[] #[]] w (PatRes (validE A B C cs) (Pt.bas (Pt.Per (Pt.mirF (Pt.col ⟨A, B, C⟩ (csF cs))))) (Pt.mirF (Pt.col ⟨A, B, C⟩ (csF cs))) w) := by
  have hmf : ∀ (fn : Fn) (first cap : Array Value) (w : World), (Instr.makeFunc fn first cap).run Tryz.prog w = .ok (.func fn first cap) w := fun _ _ _ _ => rfl
  have VA := Lib.hid (fun W (hW : Below w.heap.size w W) => validate_any A B C v cs W (hv.all hW) hkl hA1 hA2)
  obtain ⟨va, vc, rfl, _⟩ := hv.look'
  have DR : Hid (validE A B C cs = 0 → ∀ (Bk bp bf : Nat) (X : World), Below w.heap.size w X → PatAt X Bk ⟨A, B, C⟩ (.slice va cs.length vc) → X.cell? ⟨bp, 1, none⟩ = some (.func (.func 93) #[latV ⟨A, B, C⟩] #[]) → X.cell? ⟨bp, 2, none⟩ = some (.func (.func 94) #[] #[.pointer (some ⟨Bk, 0, none⟩)]) → X.cell? ⟨bf, 0, none⟩ = some (.func (.func 60) #[] #[]) → bp < X.heap.size → bf < X.heap.size → _) := Lib.hid (fun h Bk bp bf X hX hB h1 h2 h3 hbp hbf => mirror_draw h _ Bk bp bf X (hv.all hX) hB h1 h2 h3 hbp hbf)
  have HSM : Hid (validE A B C cs = 0 → cs.length ≤ 1000000) := Lib.hid fun h => by have := (plane_of h).2.2.1; have := (plane_of h).2.2.2.2.1; omega
  have b0 := ((BlockAt.new w #[.int .i64 A, .int .i64 B, .int .i64 C, .slice va cs.length vc] 24).alloc (.cells #[.func (.func 60) #[] #[]] 76)).alloc (.cells #[.int .i64 0, .int .i64 0, .int .i64 0, .slice none 0 0] 24)
  have b1 := (BlockAt.new (w.alloc (.cells #[.int .i64 A, .int .i64 B, .int .i64 C, .slice va cs.length vc] 24)) #[.func (.func 60) #[] #[]] 76).alloc (.cells #[.int .i64 0, .int .i64 0, .int .i64 0, .slice none 0 0] 24)
  have b2 := BlockAt.new ((w.alloc (.cells #[.int .i64 A, .int .i64 B, .int .i64 C, .slice va cs.length vc] 24)).alloc (.cells #[.func (.func 60) #[] #[]] 76)) #[.int .i64 0, .int .i64 0, .int .i64 0, .slice none 0 0] 24
  simp only [World.size_alloc] at b1 b2
  have hw := below_alloc (below_alloc (below_alloc (Below.refl w.heap.size w) (.cells #[.int .i64 A, .int .i64 B, .int .i64 C, .slice va cs.length vc] 24)) (.cells #[.func (.func 60) #[] #[]] 76)) (.cells #[.int .i64 0, .int .i64 0, .int .i64 0, .slice none 0 0] 24)
  have HB := Lib.hid (And.intro b0 (And.intro b1 (And.intro b2 hw)))
  clear b0 b1 b2 hw hv
  have HP : Hid (∀ e w', PatRes (validE A B C cs) (Pt.bas (Pt.Per (Pt.mirF (Pt.col ⟨A, B, C⟩ (csF cs))))) (Pt.mirF (Pt.col ⟨A, B, C⟩ (csF cs))) w e w' = (∃ u, e = .returned (.tuple #[patV (ansL (validE A B C cs) (Pt.bas (Pt.Per (Pt.mirF (Pt.col ⟨A, B, C⟩ (csF cs)))))) u, .int .i64 (validE A B C cs)]) ∧ OwnI w.heap.size w' u (ansC (validE A B C cs) (Pt.bas (Pt.Per (Pt.mirF (Pt.col ⟨A, B, C⟩ (csF cs))))) (Pt.mirF (Pt.col ⟨A, B, C⟩ (csF cs)))) ∧ Below w.heap.size w w')) := Lib.hid fun _ _ => rfl
  unfold PatRes at DR ⊢
  clear HP
  generalize Pt.mirF (Pt.col ⟨A, B, C⟩ (csF cs)) = F at *
  generalize Pt.bas (Pt.Per F) = L at *
  by_cases hz : validE A B C cs = 0
  · have D := Lib.hid (DR.out hz)
    have hlen := HSM.out hz
    have PO := Lib.hid (fun W => planeOf_any ⟨A, B, C⟩ cs.length va vc W hlen)
    rw [hz] at VA ⊢
    generalize ansC 0 L F = K at *
    generalize ansL 0 L = LL at *
    clear DR HSM hz hlen
    go_enter Tryz.func55, Tryz.ntmps55
    go_wp2_with fail
    refine (VA.out _ HB.out.2.2.2).mono ?_
    rintro e w1 ⟨rfl, hb1⟩
    have H1 := Lib.hid (And.intro (HB.out.1.below hb1 HB.out.1.lt) (And.intro (HB.out.2.1.below hb1 HB.out.2.1.lt) (And.intro (HB.out.2.2.1.below hb1 HB.out.2.2.1.lt) (below_step HB.out.2.2.2 hb1))))
    clear hb1 HB VA
    have c0 : World.cell? _ _ = some (.int .i64 A) := H1.out.1.cell 0
    have c1 : World.cell? _ _ = some (.int .i64 B) := H1.out.1.cell 1
    have c2 : World.cell? _ _ = some (.int .i64 C) := H1.out.1.cell 2
    have c3 : World.cell? _ _ = some (.slice va cs.length vc) := H1.out.1.cell 3
    go_wp2_with fail
    refine (PO.out _).mono ?_
    rintro e w2 ⟨rfl, hpa, hlt2, hb2⟩
    obtain ⟨X, hX⟩ : ∃ X, w2.alloc (.cells #[.int .i64 (cs.length : Int), .func (.func 93) #[latV ⟨A, B, C⟩] #[], .func (.func 94) #[] #[.pointer (some ⟨w1.heap.size, 0, none⟩)]] 73) = X := ⟨_, rfl⟩
    have H2 : Hid (BlockAt X w2.heap.size #[.int .i64 (cs.length : Int), .func (.func 93) #[latV ⟨A, B, C⟩] #[], .func (.func 94) #[] #[.pointer (some ⟨w1.heap.size, 0, none⟩)]] 73 ∧ BlockAt X (w.heap.size + 1) #[.func (.func 60) #[] #[]] 76 ∧ BlockAt X (w.heap.size + 1 + 1) #[.int .i64 0, .int .i64 0, .int .i64 0, .slice none 0 0] 24 ∧ PatAt X w1.heap.size ⟨A, B, C⟩ (.slice va cs.length vc) ∧ Below w.heap.size w X) := Lib.hid (by
      rw [← hX]
      exact ⟨BlockAt.new _ _ _, (H1.out.2.1.below hb2 H1.out.2.1.lt).alloc _, (H1.out.2.2.1.below hb2 H1.out.2.2.1.lt).alloc _, hpa.all ((Below.refl _ _).alloc (Nat.le_refl _) _), below_alloc (below_step H1.out.2.2.2 hb2) _⟩)
    clear hpa hb2 H1 PO c0 c1 c2 c3
    have DD := Lib.hid (D.out w1.heap.size w2.heap.size (w.heap.size + 1) X H2.out.2.2.2.2 H2.out.2.2.2.1 (H2.out.1.cell 1) (H2.out.1.cell 2) (H2.out.2.1.cell 0) H2.out.1.lt H2.out.2.1.lt)
    clear D
    have d0 : World.cell? _ _ = some (.int .i64 (cs.length : Int)) := H2.out.1.cell 0
    go_wp2_with (rw [hX])
    go_wp2_with fail
    refine DD.out.mono ?_
    rintro e w3 ⟨u, rfl, hown, hb3⟩
    obtain ⟨ua, uc, rfl⟩ := hown.form
    have hB3 := H2.out.2.2.1.below hb3 H2.out.2.2.1.lt
    have e0 : World.cell? _ _ = some (.int .i64 0) := hB3.cell 0
    have e1 : World.cell? _ _ = some (.int .i64 0) := hB3.cell 1
    have e2 : World.cell? _ _ = some (.int .i64 0) := hB3.cell 2
    have e3 : World.cell? _ _ = some (.slice none 0 0) := hB3.cell 3
    have r0 := hB3.frozen 0
    have r1 := hB3.frozen 1
    have r2 := hB3.frozen 2
    have r3 := hB3.frozen 3
    have hlt := hB3.lt
    have hlt3 := H2.out.2.2.1.lt
    have HZ := Lib.hid (And.intro hown (below_step H2.out.2.2.2.2 hb3))
    clear hown hb3 hB3 H2 DD d0 hX
    go_wp2
    refine bodyPost_ret (v := .tuple #[patV LL (.slice ua K.length uc), .int .i64 0]) (by simp [results, Tryz.results55, go_sem, e0, e1, e2, e3]) rfl ⟨_, rfl, ?_, ?_⟩
    · refine OwnI.mono (base := X.heap.size) ?_ (by omega)
      iterate 4 (refine OwnI.setOld ?_ (by dsimp only; omega) _)
      exact HZ.out.1
    · iterate 4 (refine Below.setCell ?_ (by dsimp only; omega) _)
      exact HZ.out.2
  · have e1 : ansC (validE A B C cs) L F = [] := if_neg hz
    have e2 : ansL (validE A B C cs) L = ⟨0, 0, 0⟩ := if_neg hz
    rw [e1, e2]
    generalize validE A B C cs = q at *
    have hd : (q == 0) = false := beq_eq_false_iff_ne.2 hz
    have hd2 : (q != 0) = true := by rw [bne, hd]; rfl
    clear hz DR HSM e1 e2
    go_enter Tryz.func55, Tryz.ntmps55
    go_wp2_with fail
    refine (VA.out _ HB.out.2.2.2).mono ?_
    rintro e w1 ⟨rfl, hb1⟩
    have hB1 := HB.out.2.2.1.below hb1 HB.out.2.2.1.lt
    have hw1 := below_step HB.out.2.2.2 hb1
    have e0 : World.cell? _ _ = some (.int .i64 0) := hB1.cell 0
    have e1 : World.cell? _ _ = some (.int .i64 0) := hB1.cell 1
    have e2 : World.cell? _ _ = some (.int .i64 0) := hB1.cell 2
    have e3 : World.cell? _ _ = some (.slice none 0 0) := hB1.cell 3
    have r0 := hB1.frozen 0
    have r1 := hB1.frozen 1
    have r2 := hB1.frozen 2
    have r3 := hB1.frozen 3
    have hlt := hB1.lt
    have HW := Lib.hid hw1
    clear hb1 hB1 hw1 VA HB
    go_wp2
    refine bodyPost_ret (v := .tuple #[.agg #[.int .i64 0, .int .i64 0, .int .i64 0, .slice none 0 0], .int .i64 q]) (by simp [results, Tryz.results55, go_sem, e0, e1, e2, e3]) rfl ⟨_, rfl, OwnI.nil _ _, ?_⟩
    iterate 4 (refine Below.setCell ?_ (by dsimp only; omega) _)
    exact HW.out

set_option maxRecDepth 20000 in
theorem mirror_any (A B C : Int) (v : Value) (cs : List Int) (w : World) (hv : Ints w v cs) (hkl : cs.length ≤ 1000000000) (hA1 : -9223372036854775808 ≤ A) (hA2 : A ≤ 9223372036854775807) :
    Calls Tryz.prog 21 #[.agg #[.int .i64 A, .int .i64 B, .int .i64 C, v]] w (PatRes (validE A B C cs) (Pt.bas (Pt.Per (Pt.mirF (Pt.col ⟨A, B, C⟩ (csF cs))))) (Pt.mirF (Pt.col ⟨A, B, C⟩ (csF cs))) w) := by
  have SN := Lib.hid (fun W (hW : Below w.heap.size w W) => mirror_seen A B C v cs W (hv.all hW) hkl hA1 hA2)
  obtain ⟨va, vc, rfl, _⟩ := hv.look'
  have b0 := (BlockAt.new w #[.int .i64 A, .int .i64 B, .int .i64 C, .slice va cs.length vc] 24).alloc (.cells #[.int .i64 0, .int .i64 0, .int .i64 0, .slice none 0 0] 24)
  have b1 := BlockAt.new (w.alloc (.cells #[.int .i64 A, .int .i64 B, .int .i64 C, .slice va cs.length vc] 24)) #[.int .i64 0, .int .i64 0, .int .i64 0, .slice none 0 0] 24
  simp only [World.size_alloc] at b1
  have hw := below_alloc (below_alloc (Below.refl w.heap.size w) (.cells #[.int .i64 A, .int .i64 B, .int .i64 C, .slice va cs.length vc] 24)) (.cells #[.int .i64 0, .int .i64 0, .int .i64 0, .slice none 0 0] 24)
  have HB := Lib.hid (And.intro b1 hw)
  clear b0 b1 hw hv
  unfold PatRes at SN ⊢
  generalize validE A B C cs = q at *
  generalize Pt.mirF (Pt.col ⟨A, B, C⟩ (csF cs)) = F at *
  generalize Pt.bas (Pt.Per F) = L at *
  generalize ansC q L F = K at *
  generalize ansL q L = LL at *
  go_enter Tryz.func21, Tryz.ntmps21
  go_wp2_with fail
  refine (SN.out _ HB.out.2).mono ?_
  rintro e w1 ⟨u, rfl, hown, hb1⟩
  obtain ⟨ua, uc, rfl⟩ := hown.form
  have hB1 := HB.out.1.below hb1 HB.out.1.lt
  have e0 : World.cell? _ _ = some (.int .i64 0) := hB1.cell 0
  have e1 : World.cell? _ _ = some (.int .i64 0) := hB1.cell 1
  have e2 : World.cell? _ _ = some (.int .i64 0) := hB1.cell 2
  have e3 : World.cell? _ _ = some (.slice none 0 0) := hB1.cell 3
  have r0 := hB1.frozen 0
  have r1 := hB1.frozen 1
  have r2 := hB1.frozen 2
  have r3 := hB1.frozen 3
  have hlt := hB1.lt
  have HZ := Lib.hid (And.intro hown (below_step HB.out.2 hb1))
  clear hown hb1 hB1 HB SN
  go_wp2
  refine bodyPost_ret (v := .tuple #[patV LL (.slice ua K.length uc), .int .i64 q]) (by simp [results, Tryz.results21, go_sem, e0, e1, e2, e3]) rfl ⟨_, rfl, ?_, ?_⟩
  · refine OwnI.mono (base := w.heap.size + 2) ?_ (by omega)
    iterate 4 (refine OwnI.setOld ?_ (by dsimp only; omega) _)
    have := HZ.out.1
    simpa using this
  · iterate 4 (refine Below.setCell ?_ (by dsimp only; omega) _)
    exact HZ.out.2
end Go.Proofs.YtobolflgoljafaaGreatDoor
namespace Go.Proofs.YtobolflgoljafaaGreatDoor
open Go.RowKit

/-- A plane of few cells, in the colors of patterns. -/
def Pl (f : Int → Int → Int) : Prop := ∃ G n, n ≤ 144 ∧ Pt.Plane G n f ∧ ∀ x y, 0 ≤ f x y ∧ f x y ≤ 7
noncomputable def latF (f : Int → Int → Int) : Pt.Lat := Pt.bas (Pt.Per f)
noncomputable def cellsF (f : Int → Int → Int) : List Int := fnL ((latF f).a * (latF f).c).toNat (Pt.cellF (latF f) f)
theorem ansL_ok (l : Pt.Lat) : ansL 0 l = l := if_pos rfl
theorem ansC_ok (f : Int → Int → Int) : ansC 0 (latF f) f = cellsF f := if_pos rfl
theorem Pl.isB {f : Int → Int → Int} (h : Pl f) : Pt.IsB (Pt.Per f) (latF f) := by
  obtain ⟨G, n, _, hp, _⟩ := h
  exact hp.isP
theorem Pl.size {f : Int → Int → Int} (h : Pl f) : (latF f).a * (latF f).c ≤ 144 ∧ (latF f).a ≤ 144 ∧ (latF f).c ≤ 144 ∧ 1 ≤ (latF f).a * (latF f).c := by
  obtain ⟨G, n, hn, hp, _⟩ := id h
  have h1 := hp.sizeP
  have h2 := lat_small h.isB.ok (n := 144) (by unfold latF; omega)
  exact ⟨by unfold latF; omega, h2.1, h2.2.1, h2.2.2⟩
theorem Pl.len {f : Int → Int → Int} (h : Pl f) : ((cellsF f).length : Int) = (latF f).a * (latF f).c ∧ (cellsF f).length ≤ 144 := by
  have := h.size
  unfold cellsF
  rw [fnL_len]
  omega
theorem Pl.col {f : Int → Int → Int} (h : Pl f) : Pt.col (latF f) (csF (cellsF f)) = f := by
  refine Pt.col_cell h.isB.ok (fun x y hi => (h.isB.iff (Pt.per_grp f) x y).2 hi) fun i hi => ?_
  exact csF_fnL (by omega)
theorem Pl.valid {f : Int → Int → Int} (h : Pl f) : validE (latF f).a (latF f).b (latF f).c (cellsF f) = 0 := by
  obtain ⟨s1, s2, s3, s4⟩ := h.size
  obtain ⟨k1, k2, k3, k4⟩ := h.isB.ok
  have hl := h.len.1
  obtain ⟨G, n, _, _, hc⟩ := h
  unfold validE
  rw [if_neg (by
    rw [(fromB_iff 1 144 _).2 ⟨k1, s2⟩, (fromB_iff 1 144 _).2 ⟨k4, s3⟩, (fromB_iff 0 _ _).2 ⟨k2, by omega⟩]
    simp), if_neg (by omega), if_neg]
  rintro (h | h)
  · exact h hl
  · have : colB (cellsF f) = true := by
      refine colB_all fun q hq => ?_
      have e : (cellsF f).getD q 0 = Pt.cellF (latF f) f q := by
        have hq' : q < ((latF f).a * (latF f).c).toNat := by unfold cellsF at hq; rwa [fnL_len] at hq
        exact csF_fnL hq'
      rw [e]
      exact (fromB_iff 0 7 _).2 (hc _ _)
    rw [this] at h; cases h
theorem colB_at7 {ks : List Int} (h : colB ks = true) (i : Nat) : 0 ≤ csF ks i ∧ csF ks i ≤ 7 := by
  unfold csF
  by_cases hi : i < ks.length
  · rw [getD_at hi]
    exact (fromB_iff _ _ _).1 (List.all_eq_true.1 h _ (List.getElem_mem hi))
  · rw [List.getD_eq_getElem?_getD, List.getElem?_eq_none (by omega)]
    simp
theorem pl_of {A B C : Int} {cs : List Int} (h : validE A B C cs = 0) : Pl (Pt.col ⟨A, B, C⟩ (csF cs)) := by
  obtain ⟨ok, sm, hm, hp1, hlen, hcol, pl⟩ := plane_of h
  obtain ⟨_, _, _, _, _, h3⟩ := valid_ok h
  exact ⟨_, _, by omega, pl, fun x y => colB_at7 h3 _⟩
theorem Pl.rot {f : Int → Int → Int} (h : Pl f) : Pl (Pt.rotF f) := by
  obtain ⟨G, n, hn, hp, hc⟩ := h
  exact ⟨_, n, hn, hp.rot, fun x y => hc _ _⟩
theorem Pl.mir {f : Int → Int → Int} (h : Pl f) : Pl (Pt.mirF f) := by
  obtain ⟨G, n, hn, hp, hc⟩ := h
  exact ⟨_, n, hn, hp.mir, fun x y => hc _ _⟩
theorem Pl.shi {f : Int → Int → Int} (h : Pl f) (dx dy : Int) : Pl (Pt.shiF dx dy f) := by
  obtain ⟨G, n, hn, hp, hc⟩ := h
  exact ⟨_, n, hn, hp.shi dx dy, fun x y => hc _ _⟩
/-- Equal least patterns are those of one plane. -/
theorem Pl.inj {f g : Int → Int → Int} (hf : Pl f) (hg : Pl g) (hl : latF f = latF g) (hc : cellsF f = cellsF g) : f = g := by
  rw [← hf.col, ← hg.col, hl, hc]
theorem rot4 (f : Int → Int → Int) : Pt.rotF (Pt.rotF (Pt.rotF (Pt.rotF f))) = f := by funext x y; simp [Pt.rotF]
theorem mir2 (f : Int → Int → Int) : Pt.mirF (Pt.mirF f) = f := by funext x y; simp [Pt.mirF]
theorem rot_mir (f : Int → Int → Int) : Pt.rotF (Pt.mirF f) = Pt.mirF (Pt.rotF (Pt.rotF (Pt.rotF f))) := by funext x y; simp [Pt.rotF, Pt.mirF]

/-- What is told where a pattern of a plane is made. -/
def MakesF (f : Int → Int → Int) (w : World) (e : Ending) (w' : World) : Prop := ∃ u, e = .returned (.tuple #[patV (latF f) u, .int .i64 0]) ∧ OwnI w.heap.size w' u (cellsF f) ∧ Below w.heap.size w w'
theorem PatRes.makes {f : Int → Int → Int} {w w' : World} {e : Ending} (h : PatRes 0 (latF f) f w e w') : MakesF f w e w' := by
  unfold PatRes at h
  rw [ansL_ok, ansC_ok] at h
  exact h
theorem turn_pl {f : Int → Int → Int} (h : Pl f) (u : Value) (W : World) (hu : Ints W u (cellsF f)) : Calls Tryz.prog 19 #[patV (latF f) u] W (MakesF (Pt.rotF f) W) := by
  have hl := h.len.2
  have hs := h.size
  have := turn_any (latF f).a (latF f).b (latF f).c u (cellsF f) W hu (by omega) (by have := h.isB.ok.1; omega) (by omega)
  rw [h.valid, h.col] at this
  exact this.mono fun e w' h => PatRes.makes h
theorem mirror_pl {f : Int → Int → Int} (h : Pl f) (u : Value) (W : World) (hu : Ints W u (cellsF f)) : Calls Tryz.prog 21 #[patV (latF f) u] W (MakesF (Pt.mirF f) W) := by
  have hl := h.len.2
  have hs := h.size
  have := mirror_any (latF f).a (latF f).b (latF f).c u (cellsF f) W hu (by omega) (by have := h.isB.ok.1; omega) (by omega)
  rw [h.valid, h.col] at this
  exact this.mono fun e w' h => PatRes.makes h
end Go.Proofs.YtobolflgoljafaaGreatDoor
