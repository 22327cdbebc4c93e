/- The reference's Same; both where they refuse. -/
import Derived.Test.YtobolflgoljafaaGreatDoorPat43
namespace Go.Proofs.YtobolflgoljafaaGreatDoor
open Go.RowKit

set_option maxRecDepth 20000 in
set_option maxHeartbeats 1000000 in
theorem same_bad (A B C A' B' C' : Int) (v v' : Value) (cs ds : List Int) (w : World) (hz : bothE (validE A B C cs) (validE A' B' C' ds) ≠ 0) (hv : Ints w v cs) (hv' : Ints w v' ds) (hkl : cs.length ≤ 1000000000) (hkl' : ds.length ≤ 1000000000) (hA1 : -9223372036854775808 ≤ A) (hA2 : A ≤ 9223372036854775807) (hA1' : -9223372036854775808 ≤ A') (hA2' : A' ≤ 9223372036854775807) :
    Calls Tryz.prog 14 #[.agg #[.int .i64 A, .int .i64 B, .int .i64 C, v], .agg #[.int .i64 A', .int .i64 B', .int .i64 C', v']] w fun e w' => e = .returned (.tuple #[.bool false, .int .i64 (bothE (validE A B C cs) (validE A' B' C' ds))]) ∧ Below w.heap.size w w' := by
  have VB := Lib.hid (fun W (hW : Below w.heap.size w W) => validateBoth_any A B C A' B' C' v v' cs ds W (hv.all hW) (hv'.all hW) hkl hkl' hA1 hA2 hA1' hA2')
  obtain ⟨va, vc, rfl, _⟩ := hv.look'
  obtain ⟨va', vc', rfl, _⟩ := hv'.look'
  have b0 := (BlockAt.new w #[.int .i64 A, .int .i64 B, .int .i64 C, .slice va cs.length vc] 24).alloc (.cells #[.int .i64 A', .int .i64 B', .int .i64 C', .slice va' ds.length vc'] 24)
  have b1 := BlockAt.new (w.alloc (.cells #[.int .i64 A, .int .i64 B, .int .i64 C, .slice va cs.length vc] 24)) #[.int .i64 A', .int .i64 B', .int .i64 C', .slice va' ds.length vc'] 24
  simp only [World.size_alloc] at b1
  have hw := below_alloc (below_alloc (Below.refl w.heap.size w) (.cells #[.int .i64 A, .int .i64 B, .int .i64 C, .slice va cs.length vc] 24)) (.cells #[.int .i64 A', .int .i64 B', .int .i64 C', .slice va' ds.length vc'] 24)
  have HB := Lib.hid (And.intro b0 (And.intro b1 hw))
  clear b0 b1 hw hv hv'
  generalize bothE (validE A B C cs) (validE A' B' C' ds) = q at *
  have hd : (q == 0) = false := beq_eq_false_iff_ne.2 hz
  have hd2 : (q != 0) = true := by rw [bne, hd]; rfl
  clear hz
  go_enter Tryz.func14, Tryz.ntmps14
  have a0 : World.cell? _ _ = some (.int .i64 A) := HB.out.1.cell 0
  have a1 : World.cell? _ _ = some (.int .i64 B) := HB.out.1.cell 1
  have a2 : World.cell? _ _ = some (.int .i64 C) := HB.out.1.cell 2
  have a3 : World.cell? _ _ = some (.slice va cs.length vc) := HB.out.1.cell 3
  have c0 : World.cell? _ _ = some (.int .i64 A') := HB.out.2.1.cell 0
  have c1 : World.cell? _ _ = some (.int .i64 B') := HB.out.2.1.cell 1
  have c2 : World.cell? _ _ = some (.int .i64 C') := HB.out.2.1.cell 2
  have c3 : World.cell? _ _ = some (.slice va' ds.length vc') := HB.out.2.1.cell 3
  go_wp2_with fail
  refine (VB.out _ HB.out.2.2).mono ?_
  rintro e w1 ⟨rfl, hb1⟩
  have HW := Lib.hid (below_step HB.out.2.2 hb1)
  clear hb1 a0 a1 a2 a3 c0 c1 c2 c3 HB
  go_wp2
  exact bodyPost_ret (v := .tuple #[.bool false, .int .i64 q]) (by simp [results, Tryz.results14, go_sem]) rfl ⟨rfl, HW.out⟩

set_option maxRecDepth 20000 in
set_option maxHeartbeats 1000000 in
theorem refSame_bad (A B C A' B' C' : Int) (v v' : Value) (cs ds : List Int) (w : World) (hz : bothE (validE A B C cs) (validE A' B' C' ds) ≠ 0) (hv : Ints w v cs) (hv' : Ints w v' ds) (hkl : cs.length ≤ 1000000000) (hkl' : ds.length ≤ 1000000000) (hA1 : -9223372036854775808 ≤ A) (hA2 : A ≤ 9223372036854775807) (hA1' : -9223372036854775808 ≤ A') (hA2' : A' ≤ 9223372036854775807) :
    Calls Tryz.prog 15 #[.agg #[.int .i64 A, .int .i64 B, .int .i64 C, v], .agg #[.int .i64 A', .int .i64 B', .int .i64 C', v']] w fun e w' => e = .returned (.tuple #[.bool false, .int .i64 (bothE (validE A B C cs) (validE A' B' C' ds))]) ∧ Below w.heap.size w w' := by
  have VB := Lib.hid (fun W (hW : Below w.heap.size w W) => refBoth_any A B C A' B' C' v v' cs ds W (hv.all hW) (hv'.all hW) hkl hkl' hA1 hA2 hA1' hA2')
  obtain ⟨va, vc, rfl, _⟩ := hv.look'
  obtain ⟨va', vc', rfl, _⟩ := hv'.look'
  have b0 := (BlockAt.new w #[.int .i64 A, .int .i64 B, .int .i64 C, .slice va cs.length vc] 24).alloc (.cells #[.int .i64 A', .int .i64 B', .int .i64 C', .slice va' ds.length vc'] 24)
  have b1 := BlockAt.new (w.alloc (.cells #[.int .i64 A, .int .i64 B, .int .i64 C, .slice va cs.length vc] 24)) #[.int .i64 A', .int .i64 B', .int .i64 C', .slice va' ds.length vc'] 24
  simp only [World.size_alloc] at b1
  have hw := below_alloc (below_alloc (Below.refl w.heap.size w) (.cells #[.int .i64 A, .int .i64 B, .int .i64 C, .slice va cs.length vc] 24)) (.cells #[.int .i64 A', .int .i64 B', .int .i64 C', .slice va' ds.length vc'] 24)
  have HB := Lib.hid (And.intro b0 (And.intro b1 hw))
  clear b0 b1 hw hv hv'
  generalize bothE (validE A B C cs) (validE A' B' C' ds) = q at *
  have hd : (q == 0) = false := beq_eq_false_iff_ne.2 hz
  have hd2 : (q != 0) = true := by rw [bne, hd]; rfl
  clear hz
  go_enter Tryz.func15, Tryz.ntmps15
  have a0 : World.cell? _ _ = some (.int .i64 A) := HB.out.1.cell 0
  have a1 : World.cell? _ _ = some (.int .i64 B) := HB.out.1.cell 1
  have a2 : World.cell? _ _ = some (.int .i64 C) := HB.out.1.cell 2
  have a3 : World.cell? _ _ = some (.slice va cs.length vc) := HB.out.1.cell 3
  have c0 : World.cell? _ _ = some (.int .i64 A') := HB.out.2.1.cell 0
  have c1 : World.cell? _ _ = some (.int .i64 B') := HB.out.2.1.cell 1
  have c2 : World.cell? _ _ = some (.int .i64 C') := HB.out.2.1.cell 2
  have c3 : World.cell? _ _ = some (.slice va' ds.length vc') := HB.out.2.1.cell 3
  go_wp2_with fail
  refine (VB.out _ HB.out.2.2).mono ?_
  rintro e w1 ⟨rfl, hb1⟩
  have HW := Lib.hid (below_step HB.out.2.2 hb1)
  clear hb1 a0 a1 a2 a3 c0 c1 c2 c3 HB
  go_wp2
  exact bodyPost_ret (v := .tuple #[.bool false, .int .i64 q]) (by simp [results, Tryz.results15, go_sem]) rfl ⟨rfl, HW.out⟩

theorem plane_same {l : Pt.Lat} (h : l.ok) {f g : Int → Int → Int} (hf : ∀ x y, Pt.inL l x y → Pt.Per f x y) (hg : ∀ x y, Pt.inL l x y → Pt.Per g x y) (he : ∀ x y, 0 ≤ x → x < l.a → 0 ≤ y → y < l.c → f x y = g x y) : f = g := by
  funext x y
  have := Pt.on_repeat h hf hg 0 0 (fun x y h1 h2 h3 h4 => by rw [Int.add_zero, Int.add_zero]; exact he x y h1 h2 h3 h4) x y
  rwa [Int.add_zero, Int.add_zero] at this

set_option maxRecDepth 20000 in
set_option maxHeartbeats 4000000 in
theorem refSame_ok (A B C A' B' C' : Int) (v v' : Value) (cs ds : List Int) (w : World) (hz : validE A B C cs = 0) (hz' : validE A' B' C' ds = 0) (hv : Ints w v cs) (hv' : Ints w v' ds) (hkl : cs.length ≤ 1000000000) (hkl' : ds.length ≤ 1000000000) (hA1 : -9223372036854775808 ≤ A) (hA2 : A ≤ 9223372036854775807) (hA1' : -9223372036854775808 ≤ A') (hA2' : A' ≤ 9223372036854775807) (F F' : Int → Int → Int) (hF : F = Pt.col ⟨A, B, C⟩ (csF cs)) (hF' : F' = Pt.col ⟨A', B', C'⟩ (csF ds)) (R : Bool) (hR : R = true ↔ F = F') :
    Calls Tryz.prog 15 #[.agg #[.int .i64 A, .int .i64 B, .int .i64 C, v], .agg #[.int .i64 A', .int .i64 B', .int .i64 C', v']] w fun e w' => e = .returned (.tuple #[.bool R, .int .i64 0]) ∧ Below w.heap.size w w' := by
  have VB := Lib.hid (fun W (hW : Below w.heap.size w W) => refBoth_any A B C A' B' C' v v' cs ds W (hv.all hW) (hv'.all hW) hkl hkl' hA1 hA2 hA1' hA2')
  rw [hz, hz', show bothE 0 0 = 0 from rfl] at VB
  obtain ⟨ok, sm, hm, hp1, hlen, hcol, pl⟩ := plane_of hz
  obtain ⟨ok', sm', hm', hp1', hlen', hcol', pl'⟩ := plane_of hz'
  rw [← hF] at pl
  rw [← hF'] at pl'
  have hp := (valid_in hz hv).1
  have hp' := (valid_in hz' hv').1
  have po := pl.over pl'
  have hB := po.isG
  have hsz := po.sizeG
  have hbig : (A * C).toNat * (A' * C').toNat ≤ 144 * 144 := Nat.mul_le_mul (by omega) (by omega)
  obtain ⟨l0, hl0⟩ : ∃ l0, Pt.bas (Pt.bothG (Pt.inL ⟨A, B, C⟩) (Pt.inL ⟨A', B', C'⟩)) = l0 := ⟨_, rfl⟩
  rw [hl0] at hB hsz
  obtain ⟨z1, z2, z3⟩ := lat_small hB.ok (n := 20736) (by omega)
  have hper : ∀ x y, Pt.inL l0 x y → Pt.Per F x y := fun x y h => pl.per _ _ ((hB.iff po.grp x y).2 h).1
  have hper' : ∀ x y, Pt.inL l0 x y → Pt.Per F' x y := fun x y h => pl'.per _ _ ((hB.iff po.grp x y).2 h).2
  have HEND := Lib.hid (fun he => hR.2 (plane_same hB.ok hper hper' he))
  have HNE : Hid (∀ x y, F x y ≠ F' x y → R = false) := Lib.hid fun x y h => by
    apply Bool.eq_false_iff.2
    intro h2
    exact h (by rw [hR.1 h2])
  have CA := Lib.hid (fun (x y : Int) W (hW : Below w.heap.size w W) h1 h2 h3 h4 => refColor_any ⟨A, B, C⟩ v cs x y W (hp.all hW) h1 h2 h3 h4)
  have CB := Lib.hid (fun (x y : Int) W (hW : Below w.heap.size w W) h1 h2 h3 h4 => refColor_any ⟨A', B', C'⟩ v' ds x y W (hp'.all hW) h1 h2 h3 h4)
  rw [← hF] at CA
  rw [← hF'] at CB
  obtain ⟨va, vc, rfl, _⟩ := hv.look'
  obtain ⟨va', vc', rfl, _⟩ := hv'.look'
  have CM := Lib.hid (fun W => common_any ⟨A, B, C⟩ ⟨A', B', C'⟩ l0 va va' cs.length ds.length vc vc' W sm sm' hB (by omega) (by omega))
  obtain ⟨k1, k2, k3, k4⟩ := hB.ok
  have b0 := (BlockAt.new w #[.int .i64 A, .int .i64 B, .int .i64 C, .slice va cs.length vc] 24).alloc (.cells #[.int .i64 A', .int .i64 B', .int .i64 C', .slice va' ds.length vc'] 24)
  have b1 := BlockAt.new (w.alloc (.cells #[.int .i64 A, .int .i64 B, .int .i64 C, .slice va cs.length vc] 24)) #[.int .i64 A', .int .i64 B', .int .i64 C', .slice va' ds.length vc'] 24
  simp only [World.size_alloc] at b1
  have hw := below_alloc (below_alloc (Below.refl w.heap.size w) (.cells #[.int .i64 A, .int .i64 B, .int .i64 C, .slice va cs.length vc] 24)) (.cells #[.int .i64 A', .int .i64 B', .int .i64 C', .slice va' ds.length vc'] 24)
  have HB := Lib.hid (And.intro b0 (And.intro b1 hw))
  obtain ⟨P, hP⟩ : ∃ P : Nat, l0.a = P := ⟨l0.a.toNat, by omega⟩
  obtain ⟨D, hD⟩ : ∃ D : Nat, l0.c = D := ⟨l0.c.toNat, by omega⟩
  have HP := Lib.hid hP
  have HD := Lib.hid hD
  have hP3 : l0.a ≤ (P : Int) := by omega
  have hP4 : (P : Int) ≤ l0.a := by omega
  have hD3 : l0.c ≤ (D : Int) := by omega
  have hD4 : (D : Int) ≤ l0.c := by omega
  clear b0 b1 hw hv hv' hz hz' hF hF' hP hD hR pl pl' po hp hp' hB hper hper' hl0 ok ok' sm sm' hcol hcol' hlen hlen' hbig hsz
  go_enter Tryz.func15, Tryz.ntmps15
  have a0 : World.cell? _ _ = some (.int .i64 A) := HB.out.1.cell 0
  have a1 : World.cell? _ _ = some (.int .i64 B) := HB.out.1.cell 1
  have a2 : World.cell? _ _ = some (.int .i64 C) := HB.out.1.cell 2
  have a3 : World.cell? _ _ = some (.slice va cs.length vc) := HB.out.1.cell 3
  have c0 : World.cell? _ _ = some (.int .i64 A') := HB.out.2.1.cell 0
  have c1 : World.cell? _ _ = some (.int .i64 B') := HB.out.2.1.cell 1
  have c2 : World.cell? _ _ = some (.int .i64 C') := HB.out.2.1.cell 2
  have c3 : World.cell? _ _ = some (.slice va' ds.length vc') := HB.out.2.1.cell 3
  go_wp2_with fail
  refine (VB.out _ HB.out.2.2).mono ?_
  rintro e w1 ⟨rfl, hb1⟩
  have H1 := Lib.hid (And.intro (HB.out.1.below hb1 HB.out.1.lt) (And.intro (HB.out.2.1.below hb1 HB.out.2.1.lt) (below_step HB.out.2.2 hb1)))
  clear hb1 HB VB a0 a1 a2 a3 c0 c1 c2 c3
  have a0 : World.cell? _ _ = some (.int .i64 A) := H1.out.1.cell 0
  have a1 : World.cell? _ _ = some (.int .i64 B) := H1.out.1.cell 1
  have a2 : World.cell? _ _ = some (.int .i64 C) := H1.out.1.cell 2
  have a3 : World.cell? _ _ = some (.slice va cs.length vc) := H1.out.1.cell 3
  have c0 : World.cell? _ _ = some (.int .i64 A') := H1.out.2.1.cell 0
  have c1 : World.cell? _ _ = some (.int .i64 B') := H1.out.2.1.cell 1
  have c2 : World.cell? _ _ = some (.int .i64 C') := H1.out.2.1.cell 2
  have c3 : World.cell? _ _ = some (.slice va' ds.length vc') := H1.out.2.1.cell 3
  go_wp2_with fail
  refine (CM.out _).mono ?_
  rintro e w2 ⟨rfl, hb2⟩
  have HS := Lib.hid (And.intro ((H1.out.1.below hb2 H1.out.1.lt).alloc (.cells #[.int .i64 l0.a, .int .i64 l0.b, .int .i64 l0.c, .slice none 0 0] 24)) (And.intro ((H1.out.2.1.below hb2 H1.out.2.1.lt).alloc (.cells #[.int .i64 l0.a, .int .i64 l0.b, .int .i64 l0.c, .slice none 0 0] 24)) (And.intro (BlockAt.new w2 #[.int .i64 l0.a, .int .i64 l0.b, .int .i64 l0.c, .slice none 0 0] 24) (below_alloc (below_step H1.out.2.2 hb2) (.cells #[.int .i64 l0.a, .int .i64 l0.b, .int .i64 l0.c, .slice none 0 0] 24)))))
  clear hb2 H1 CM a0 a1 a2 a3 c0 c1 c2 c3
  go_wp2
  go_loopw [8] (fun t wr => ∃ y : Nat, y ≤ D ∧ t = .int .i64 (y : Int) ∧ Hid ((∀ y' : Nat, y' < y → ∀ x : Nat, x < P → F x y' = F' x y') ∧ BlockAt wr w.heap.size #[.int .i64 A, .int .i64 B, .int .i64 C, .slice va cs.length vc] 24 ∧ BlockAt wr (w.heap.size + 1) #[.int .i64 A', .int .i64 B', .int .i64 C', .slice va' ds.length vc'] 24 ∧ BlockAt wr w2.heap.size #[.int .i64 l0.a, .int .i64 l0.b, .int .i64 l0.c, .slice none 0 0] 24 ∧ Below w.heap.size w wr)) (fun t _ => D - (intOf t).toNat)
  case atStart => exact ⟨0, Nat.zero_le _, rfl, Lib.hid ⟨fun _ h => absurd h (by omega), HS.out⟩⟩
  case round =>
    obtain ⟨y, hyD, rfl, hg⟩ := hrel
    clear HS
    have r2 : World.cell? _ _ = some (.int .i64 l0.c) := hg.out.2.2.2.1.cell 2
    by_cases hlt : y < D
    · have hdy : decide ((y : Int) < l0.c) = true := decide_eq_true (by omega)
      go_wp2
      clear r2
      go_loopw [9] (fun t wx => ∃ x : Nat, x ≤ P ∧ t = .int .i64 (x : Int) ∧ Hid ((∀ x' : Nat, x' < x → F x' y = F' x' y) ∧ BlockAt wx w.heap.size #[.int .i64 A, .int .i64 B, .int .i64 C, .slice va cs.length vc] 24 ∧ BlockAt wx (w.heap.size + 1) #[.int .i64 A', .int .i64 B', .int .i64 C', .slice va' ds.length vc'] 24 ∧ BlockAt wx w2.heap.size #[.int .i64 l0.a, .int .i64 l0.b, .int .i64 l0.c, .slice none 0 0] 24 ∧ Below w.heap.size w wx)) (fun t _ => P - (intOf t).toNat)
      case atStart => exact ⟨0, Nat.zero_le _, rfl, Lib.hid ⟨fun _ h => absurd h (by omega), hg.out.2⟩⟩
      case round =>
        obtain ⟨x, hxP, rfl, hgx⟩ := hrel
        have r0 : World.cell? _ _ = some (.int .i64 l0.a) := hgx.out.2.2.2.1.cell 0
        by_cases hxlt : x < P
        · have hdx : decide ((x : Int) < l0.a) = true := decide_eq_true (by omega)
          have C1 := Lib.hid (CA.out (x : Int) (y : Int))
          have C2 := Lib.hid (CB.out (x : Int) (y : Int))
          have HN1 := Lib.hid (HNE.out (x : Int) (y : Int))
          have HRW := Lib.hid hgx.out.1
          have HG2 := Lib.hid hgx.out.2
          generalize hu : F (x : Int) (y : Int) = u1 at *
          generalize hv : F' (x : Int) (y : Int) = u2 at *
          have HU := Lib.hid hu
          have HV := Lib.hid hv
          clear hu hv hgx
          go_upto_region 11 with fail
          refine wp_region_seq [(0, true), (1, true), (2, true), (4, true), (5, true), (6, true), (3, false), (7, false), (8, true)] (fun W => BlockAt W w.heap.size #[.int .i64 A, .int .i64 B, .int .i64 C, .slice va cs.length vc] 24 ∧ BlockAt W (w.heap.size + 1) #[.int .i64 A', .int .i64 B', .int .i64 C', .slice va' ds.length vc'] 24 ∧ Hid (BlockAt W w2.heap.size #[.int .i64 l0.a, .int .i64 l0.b, .int .i64 l0.c, .slice none 0 0] 24 ∧ Below w.heap.size w W))
            (by kernel_rfl) (by kernel_rfl) (by kernel_rfl) (by kernel_rfl) (fun d _ _ _ _ h => by cases d <;> exact h) ⟨HG2.out.1.drew, HG2.out.2.1.drew, Lib.hid ⟨HG2.out.2.2.1.drew, HG2.out.2.2.2.drew⟩⟩ (fun hS => ?_)
          clear r0 HG2
          repeat (first
            | (refine SeqH.take (v := ?_) rfl (by rfl) ?_ ?_; rotate_left; (· intro w hSw; (try dsimp only at hSw); have c0 := hSw.1.cell 0; have c1 := hSw.1.cell 1; have c2 := hSw.1.cell 2; have c3 := hSw.1.cell 3; have d0 := hSw.2.1.cell 0; have d1 := hSw.2.1.cell 1; have d2 := hSw.2.1.cell 2; have d3 := hSw.2.1.cell 3; go_simp; (try with_reducible rfl)); simp only [Act.put, List.setIfInBounds_toArray, List.set_cons_zero, List.set_cons_succ]))
          refine SeqH.step rfl (by rfl) (fun K hK => ?_)
          go_simp
          go_at_call 51
          refine (C1.out _ hS.2.2.out.2 (by omega) (by omega) (by omega) (by omega)).mono ?_
          rintro e w3 ⟨rfl, hb1⟩
          try dsimp only
          have hS2 := And.intro (hS.1.below hb1 hS.1.lt) (And.intro (hS.2.1.below hb1 hS.2.1.lt) (Lib.hid (And.intro (hS.2.2.out.1.below hb1 hS.2.2.out.1.lt) (below_step hS.2.2.out.2 hb1))))
          refine hK.out _ _ hS2 (fun _ => ?_)
          clear hK K hb1 hS
          have hS := hS2
          clear hS2
          try simp only [Act.put, List.setIfInBounds_toArray, List.set_cons_zero, List.set_cons_succ]
          repeat (first
            | (refine SeqH.take (v := ?_) rfl (by rfl) ?_ ?_; rotate_left; (· intro w hSw; (try dsimp only at hSw); have c0 := hSw.1.cell 0; have c1 := hSw.1.cell 1; have c2 := hSw.1.cell 2; have c3 := hSw.1.cell 3; have d0 := hSw.2.1.cell 0; have d1 := hSw.2.1.cell 1; have d2 := hSw.2.1.cell 2; have d3 := hSw.2.1.cell 3; go_simp; (try with_reducible rfl)); simp only [Act.put, List.setIfInBounds_toArray, List.set_cons_zero, List.set_cons_succ]))
          refine SeqH.step rfl (by rfl) (fun K hK => ?_)
          go_simp
          go_at_call 51
          refine (C2.out _ hS.2.2.out.2 (by omega) (by omega) (by omega) (by omega)).mono ?_
          rintro e w3 ⟨rfl, hb1⟩
          try dsimp only
          have hS2 := And.intro (hS.1.below hb1 hS.1.lt) (And.intro (hS.2.1.below hb1 hS.2.1.lt) (Lib.hid (And.intro (hS.2.2.out.1.below hb1 hS.2.2.out.1.lt) (below_step hS.2.2.out.2 hb1))))
          refine hK.out _ _ hS2 (fun _ => ?_)
          clear hK K hb1 hS
          have hS := hS2
          clear hS2
          try simp only [Act.put, List.setIfInBounds_toArray, List.set_cons_zero, List.set_cons_succ]
          repeat (first
            | (refine SeqH.take (v := ?_) rfl (by rfl) ?_ ?_; rotate_left; (· intro w hSw; (try dsimp only at hSw); have c0 := hSw.1.cell 0; have c1 := hSw.1.cell 1; have c2 := hSw.1.cell 2; have c3 := hSw.1.cell 3; have d0 := hSw.2.1.cell 0; have d1 := hSw.2.1.cell 1; have d2 := hSw.2.1.cell 2; have d3 := hSw.2.1.cell 3; go_simp; (try with_reducible rfl)); simp only [Act.put, List.setIfInBounds_toArray, List.set_cons_zero, List.set_cons_succ]))
          refine SeqH.done ?_
          have HN := Lib.hid hS
          clear hS
          by_cases heq : u1 = u2
          · subst heq
            have hnn : (u1 != u1) = false := by simp
            clear HN1
            go_wp2
            go_roundw
            case rel =>
              refine ⟨x + 1, by omega, by go_num, Lib.hid ⟨fun x' hx' => ?_, HN.out.1, HN.out.2.1, HN.out.2.2.out.1, HN.out.2.2.out.2⟩⟩
              by_cases e : x' = x
              · rw [e]; exact HU.out.trans HV.out.symm
              · exact HRW.out x' (by omega)
            case measure => simp [intOf]; omega
          · have HR := Lib.hid (HN1.out heq)
            have hne : (u1 == u2) = false := beq_eq_false_iff_ne.2 heq
            have hne2 : (u1 != u2) = true := by rw [bne, hne]; rfl
            clear heq HN1
            go_wp2
            exact bodyPost_ret (v := .tuple #[.bool false, .int .i64 0]) (by simp [results, Tryz.results15, go_sem]) rfl ⟨by rw [HR.out], HN.out.2.2.out.2⟩
        · obtain rfl : x = P := by omega
          have hdx : decide ((x : Int) < l0.a) = false := decide_eq_false (by omega)
          have HRB := Lib.hid hgx.out.1
          have HN := Lib.hid hgx.out.2
          have hgy := Lib.hid hg.out.1
          clear hgx hg
          go_wp2
          go_roundw
          case rel =>
            refine ⟨y + 1, by omega, by go_num, Lib.hid ⟨fun y' hy' => ?_, HN.out⟩⟩
            by_cases e : y' = y
            · rw [e]; exact HRB.out
            · exact hgy.out y' (by omega)
          case measure => simp [intOf]; omega
    · obtain rfl : y = D := by omega
      have hdy : decide ((y : Int) < l0.c) = false := decide_eq_false (by omega)
      have HR := Lib.hid (HEND.out fun x' y' h1 h2 h3 h4 => by
        have := hg.out.1 y'.toNat (by rw [HD.out] at h4; omega) x'.toNat (by rw [HP.out] at h2; omega)
        rwa [show ((x'.toNat : Nat) : Int) = x' by omega, show ((y'.toNat : Nat) : Int) = y' by omega] at this)
      have HN := Lib.hid hg.out.2.2.2.2
      clear hg
      go_wp2
      exact bodyPost_ret (v := .tuple #[.bool true, .int .i64 0]) (by simp [results, Tryz.results15, go_sem]) rfl ⟨by rw [HR.out], HN.out⟩
end Go.Proofs.YtobolflgoljafaaGreatDoor
