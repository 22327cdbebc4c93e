/- The reference's both and common. -/
import Derived.Test.YtobolflgoljafaaGreatDoorPat42
namespace Go.Proofs.YtobolflgoljafaaGreatDoor
open Go.RowKit

set_option maxRecDepth 20000 in
set_option maxHeartbeats 1000000 in
theorem refBoth_any (A B C A' B' C' : Int) (v v' : Value) (cs ds : List Int) (w : World) (hv : Ints w v cs) (hv' : Ints w v' ds) (hkl : cs.length ≤ 1000000000) (hkl' : ds.length ≤ 1000000000) (hA1 : -9223372036854775808 ≤ A) (hA2 : A ≤ 9223372036854775807) (hA1' : -9223372036854775808 ≤ A') (hA2' : A' ≤ 9223372036854775807) :
    Calls Tryz.prog 49 #[.agg #[.int .i64 A, .int .i64 B, .int .i64 C, v], .agg #[.int .i64 A', .int .i64 B', .int .i64 C', v']] w fun e w' => e = .returned (.int .i64 (bothE (validE A B C cs) (validE A' B' C' ds))) ∧ Below w.heap.size w w' := by
  have VA := Lib.hid (fun W (hW : Below w.heap.size w W) => refValidate_any A B C v cs W (hv.all hW) hkl hA1 hA2)
  have VB := Lib.hid (fun W (hW : Below w.heap.size w W) => refValidate_any A' B' C' v' ds W (hv'.all hW) hkl' hA1' hA2')
  obtain ⟨va, vc, rfl, _⟩ := hv.look'
  obtain ⟨va', vc', rfl, _⟩ := hv'.look'
  have b0 := (BlockAt.new w #[.int .i64 A, .int .i64 B, .int .i64 C, .slice va cs.length vc] 24).alloc (.cells #[.int .i64 A', .int .i64 B', .int .i64 C', .slice va' ds.length vc'] 24)
  have b1 := BlockAt.new (w.alloc (.cells #[.int .i64 A, .int .i64 B, .int .i64 C, .slice va cs.length vc] 24)) #[.int .i64 A', .int .i64 B', .int .i64 C', .slice va' ds.length vc'] 24
  simp only [World.size_alloc] at b1
  have hw := below_alloc (below_alloc (Below.refl w.heap.size w) (.cells #[.int .i64 A, .int .i64 B, .int .i64 C, .slice va cs.length vc] 24)) (.cells #[.int .i64 A', .int .i64 B', .int .i64 C', .slice va' ds.length vc'] 24)
  have HB := Lib.hid (And.intro b0 (And.intro b1 hw))
  clear b0 b1 hw hv hv'
  have HE0 : Hid (validE A B C cs = 0 → bothE (validE A B C cs) (validE A' B' C' ds) = validE A' B' C' ds) := Lib.hid fun h => if_pos h
  have HE1 : Hid (validE A B C cs ≠ 0 → bothE (validE A B C cs) (validE A' B' C' ds) = validE A B C cs) := Lib.hid fun h => if_neg h
  generalize bothE (validE A B C cs) (validE A' B' C' ds) = R at *
  generalize validE A B C cs = q at *
  generalize validE A' B' C' ds = q' at *
  by_cases hz : q = 0
  · have hR := HE0.out hz
    subst hz
    subst hR
    clear HE0 HE1
    go_enter Tryz.func49, Tryz.ntmps49
    go_wp2_with fail
    refine (VA.out _ HB.out.2.2).mono ?_
    rintro e w1 ⟨rfl, hb1⟩
    have H1 := Lib.hid (And.intro (HB.out.2.1.below hb1 HB.out.2.1.lt) (below_step HB.out.2.2 hb1))
    clear hb1 HB VA
    have c0 : World.cell? _ _ = some (.int .i64 A') := H1.out.1.cell 0
    have c1 : World.cell? _ _ = some (.int .i64 B') := H1.out.1.cell 1
    have c2 : World.cell? _ _ = some (.int .i64 C') := H1.out.1.cell 2
    have c3 : World.cell? _ _ = some (.slice va' ds.length vc') := H1.out.1.cell 3
    go_wp2_with fail
    refine (VB.out _ H1.out.2).mono ?_
    rintro e w2 ⟨rfl, hb1⟩
    have HW := Lib.hid (below_step H1.out.2 hb1)
    clear hb1
    go_wp2
    go_ret
    exact ⟨rfl, HW.out⟩
  · have hR := HE1.out hz
    subst hR
    have hd : (R == 0) = false := beq_eq_false_iff_ne.2 hz
    have hd2 : (R != 0) = true := by rw [bne, hd]; rfl
    clear HE0 HE1 hz VB
    go_enter Tryz.func49, Tryz.ntmps49
    go_wp2_with fail
    refine (VA.out _ HB.out.2.2).mono ?_
    rintro e w1 ⟨rfl, hb1⟩
    have HW := Lib.hid (below_step HB.out.2.2 hb1)
    clear hb1
    go_wp2
    go_ret
    exact ⟨rfl, HW.out⟩


/-- What common holds: the two patterns, the result's place, the repeat that is sought. -/
def CSt (w W : World) (la : Pt.Lat) (v : Value) (lb : Pt.Lat) (v' : Value) (x y z : Int) : Prop :=
  BlockAt W w.heap.size #[.int .i64 la.a, .int .i64 la.b, .int .i64 la.c, v] 24 ∧ BlockAt W (w.heap.size + 1) #[.int .i64 lb.a, .int .i64 lb.b, .int .i64 lb.c, v'] 24 ∧
    BlockAt W (w.heap.size + 1 + 1) #[.int .i64 0, .int .i64 0, .int .i64 0, .slice none 0 0] 24 ∧ BlockAt W (w.heap.size + 1 + 1 + 1) #[.int .i64 x, .int .i64 y, .int .i64 z, .slice none 0 0] 24 ∧ Below w.heap.size w W
theorem CSt.below {w W W2 : World} {la lb : Pt.Lat} {v v' : Value} {x y z : Int} (h : CSt w W la v lb v' x y z) (hb : Below W.heap.size W W2) : CSt w W2 la v lb v' x y z :=
  ⟨h.1.below hb h.1.lt, h.2.1.below hb h.2.1.lt, h.2.2.1.below hb h.2.2.1.lt, h.2.2.2.1.below hb h.2.2.2.1.lt, below_step h.2.2.2.2 hb⟩
theorem CSt.set0 {w W : World} {la lb : Pt.Lat} {v v' : Value} {x y z : Int} (h : CSt w W la v lb v' x y z) (u : Int) : CSt w (W.setCell ⟨w.heap.size + 1 + 1 + 1, 0, none⟩ (.int .i64 u)) la v lb v' u y z :=
  ⟨h.1.other (by omega) _, h.2.1.other (by omega) _, h.2.2.1.other (by omega) _, h.2.2.2.1.set 0 _, h.2.2.2.2.setCell (by simp; omega) _⟩
theorem CSt.set1 {w W : World} {la lb : Pt.Lat} {v v' : Value} {x y z : Int} (h : CSt w W la v lb v' x y z) (u : Int) : CSt w (W.setCell ⟨w.heap.size + 1 + 1 + 1, 1, none⟩ (.int .i64 u)) la v lb v' x u z :=
  ⟨h.1.other (by omega) _, h.2.1.other (by omega) _, h.2.2.1.other (by omega) _, h.2.2.2.1.set 1 _, h.2.2.2.2.setCell (by simp; omega) _⟩
theorem CSt.set2 {w W : World} {la lb : Pt.Lat} {v v' : Value} {x y z : Int} (h : CSt w W la v lb v' x y z) (u : Int) : CSt w (W.setCell ⟨w.heap.size + 1 + 1 + 1, 2, none⟩ (.int .i64 u)) la v lb v' x y u :=
  ⟨h.1.other (by omega) _, h.2.1.other (by omega) _, h.2.2.1.other (by omega) _, h.2.2.2.1.set 2 _, h.2.2.2.2.setCell (by simp; omega) _⟩
theorem CSt.mem {w W : World} {la lb : Pt.Lat} {v v' : Value} {x y z : Int} (h : CSt w W la v lb v' x y z) : memI W (w.heap.size + 1 + 1 + 1) 0 = x ∧ memI W (w.heap.size + 1 + 1 + 1) 1 = y ∧ memI W (w.heap.size + 1 + 1 + 1) 2 = z := by
  unfold memI
  rw [h.2.2.2.1.cell 0, h.2.2.2.1.cell 1, h.2.2.2.1.cell 2]
  exact ⟨rfl, rfl, rfl⟩
theorem inL_zero {l : Pt.Lat} (h : l.ok) (a : Int) : Pt.inL l a 0 ↔ a % l.a = 0 := by
  rw [Pt.inL_iff h]
  unfold Pt.hx Pt.hy
  simp
theorem inL_dvd {l : Pt.Lat} {x y : Int} (h : Pt.inL l x y) : y % l.c = 0 := by
  obtain ⟨m, n, _, rfl⟩ := h
  simp
theorem step_le {x a n : Int} (h1 : x % a = 0) (h2 : n % a = 0) (h3 : x < n) (h4 : 1 ≤ a) : x + a ≤ n := by
  have e1 := Int.mul_ediv_add_emod x a
  have e2 := Int.mul_ediv_add_emod n a
  rw [h1] at e1
  rw [h2] at e2
  have hlt : x / a < n / a := by
    apply Int.lt_of_mul_lt_mul_left (a := a) (by omega) (by omega)
  have := Int.mul_le_mul_of_nonneg_left (show x / a + 1 ≤ n / a by omega) (show 0 ≤ a by omega)
  rw [Int.mul_add] at this
  omega

set_option maxRecDepth 20000 in
set_option maxHeartbeats 4000000 in
theorem common_any (la lb l0 : Pt.Lat) (va vb : Option Addr) (na nb ca cb : Nat) (w : World) (sa : small la) (sb : small lb) (h0 : Pt.IsB (Pt.bothG (Pt.inL la) (Pt.inL lb)) l0) (hA : l0.a ≤ 30000) (hC : l0.c ≤ 30000) :
    Calls Tryz.prog 50 #[patV la (.slice va na ca), patV lb (.slice vb nb cb)] w fun e w' => e = .returned (patV l0 (.slice none 0 0)) ∧ Below w.heap.size w w' := by
  have hG : Pt.Grp (Pt.bothG (Pt.inL la) (Pt.inL lb)) := Pt.both_grp (Pt.inL_grp la) (Pt.inL_grp lb)
  obtain ⟨_, _, f3, f4, f5⟩ := find_facts (gB := fun x y => hasB la x y && hasB lb x y) hG h0 (fun x y => by rw [Bool.and_eq_true, hasB_iff sa.1, hasB_iff sb.1]; rfl)
  obtain ⟨k1, k2, k3, k4⟩ := h0.ok
  have D1 : l0.a % la.a = 0 := (inL_zero sa.1 _).1 h0.ga.1
  have D2 : l0.a % lb.a = 0 := (inL_zero sb.1 _).1 h0.ga.2
  have D3 : l0.c % la.c = 0 := inL_dvd h0.gb.1
  have NA : Hid (∀ x, 1 ≤ x → x < l0.a → x % la.a = 0 → ¬ x % lb.a = 0) := Lib.hid fun x h1 h2 h3 h4 => h0.na x h1 h2 ⟨(inL_zero sa.1 x).2 h3, (inL_zero sb.1 x).2 h4⟩
  have IA := Lib.hid (fun (x y : Int) W h1 h2 h3 h4 => refIn_any la (.slice va na ca) x y W ⟨_, _, _, rfl⟩ sa h1 h2 h3 h4)
  have IB := Lib.hid (fun (x y : Int) W h1 h2 h3 h4 => refIn_any lb (.slice vb nb cb) x y W ⟨_, _, _, rfl⟩ sb h1 h2 h3 h4)
  obtain ⟨⟨a1, a2, a3, a4⟩, a5, a6⟩ := sa
  obtain ⟨⟨b1, b2, b3, b4⟩, b5, b6⟩ := sb
  have F3 := Lib.hid f3
  have F4 := Lib.hid f4
  have F5 := Lib.hid f5
  have HD1 := Lib.hid D1
  have HD2 := Lib.hid D2
  have HD3 := Lib.hid D3
  have hla : la.a ≤ l0.a := Int.le_of_dvd (by omega) (Int.dvd_of_emod_eq_zero D1)
  have hlc : la.c ≤ l0.c := Int.le_of_dvd (by omega) (Int.dvd_of_emod_eq_zero D3)
  have B0 := ((BlockAt.new w #[.int .i64 la.a, .int .i64 la.b, .int .i64 la.c, .slice va na ca] 24).alloc (.cells #[.int .i64 lb.a, .int .i64 lb.b, .int .i64 lb.c, .slice vb nb cb] 24)).alloc (.cells #[.int .i64 0, .int .i64 0, .int .i64 0, .slice none 0 0] 24)
  have B1 := (BlockAt.new (w.alloc (.cells #[.int .i64 la.a, .int .i64 la.b, .int .i64 la.c, .slice va na ca] 24)) #[.int .i64 lb.a, .int .i64 lb.b, .int .i64 lb.c, .slice vb nb cb] 24).alloc (.cells #[.int .i64 0, .int .i64 0, .int .i64 0, .slice none 0 0] 24)
  have B2 := BlockAt.new ((w.alloc (.cells #[.int .i64 la.a, .int .i64 la.b, .int .i64 la.c, .slice va na ca] 24)).alloc (.cells #[.int .i64 lb.a, .int .i64 lb.b, .int .i64 lb.c, .slice vb nb cb] 24)) #[.int .i64 0, .int .i64 0, .int .i64 0, .slice none 0 0] 24
  have B3 := BlockAt.new (((w.alloc (.cells #[.int .i64 la.a, .int .i64 la.b, .int .i64 la.c, .slice va na ca] 24)).alloc (.cells #[.int .i64 lb.a, .int .i64 lb.b, .int .i64 lb.c, .slice vb nb cb] 24)).alloc (.cells #[.int .i64 0, .int .i64 0, .int .i64 0, .slice none 0 0] 24)) #[.int .i64 la.a, .int .i64 0, .int .i64 la.c, .slice none 0 0] 24
  simp only [World.size_alloc] at B1 B2 B3
  have HW := below_alloc (below_alloc (below_alloc (below_alloc (Below.refl w.heap.size w) (.cells #[.int .i64 la.a, .int .i64 la.b, .int .i64 la.c, .slice va na ca] 24)) (.cells #[.int .i64 lb.a, .int .i64 lb.b, .int .i64 lb.c, .slice vb nb cb] 24)) (.cells #[.int .i64 0, .int .i64 0, .int .i64 0, .slice none 0 0] 24)) (.cells #[.int .i64 la.a, .int .i64 0, .int .i64 la.c, .slice none 0 0] 24)
  have H0 : Hid (CSt w _ la (.slice va na ca) lb (.slice vb nb cb) la.a 0 la.c) := Lib.hid ⟨B0.alloc _, B1.alloc _, B2.alloc _, B3, HW⟩
  have hself : la.a % la.a = 0 := Int.emod_self
  have hselfc : la.c % la.c = 0 := Int.emod_self
  have HSF := Lib.hid (And.intro hself hselfc)
  clear B0 B1 B2 B3 HW hself hselfc f3 f4 f5 D1 D2 D3 h0 hG
  go_enter Tryz.func50, Tryz.ntmps50
  go_wp2
  go_loopw [] (fun wr => ∃ x : Int, 1 ≤ x ∧ x ≤ l0.a ∧ Hid (x % la.a = 0) ∧ Hid (CSt w wr la (.slice va na ca) lb (.slice vb nb cb) x 0 la.c)) (fun wr => (l0.a - memI wr (w.heap.size + 1 + 1 + 1) 0).toNat)
  case atStart => exact ⟨la.a, by omega, by omega, Lib.hid HSF.out.1, H0⟩
  case round =>
    obtain ⟨x, hx1, hxA, hxd, hg⟩ := hrel
    clear H0
    have c0 : World.cell? _ _ = some (.int .i64 la.a) := hg.out.1.cell 0
    have d0 : World.cell? _ _ = some (.int .i64 lb.a) := hg.out.2.1.cell 0
    have o0 : World.cell? _ _ = some (.int .i64 x) := hg.out.2.2.2.1.cell 0
    have f0 := hg.out.2.2.2.1.frozen 0
    have hb0 : ¬ lb.a = 0 := by omega
    have hb0' : (lb.a == 0) = false := beq_eq_false_iff_ne.2 hb0
    by_cases hdv : x % lb.a = 0
    · have hxe : x = l0.a := by
        by_cases h : x < l0.a
        · exact absurd hdv (NA.out x hx1 h hxd.out)
        · omega
      have q1 : (x % lb.a == 0) = true := beq_iff_eq.2 hdv
      have q2 : (x % lb.a != 0) = false := by rw [bne, q1]; rfl
      have HN : Hid (CSt w wr la (.slice va na ca) lb (.slice vb nb cb) l0.a 0 la.c) := Lib.hid (by rw [← hxe]; exact hg.out)
      clear hdv hxe hg hxd NA
      go_wp2
      clear c0 d0 o0 f0 q1 q2
      go_loopw [] (fun wr => ∃ y z : Int, 1 ≤ z ∧ z ≤ l0.c ∧ Hid (z % la.c = 0) ∧ Hid (CSt w wr la (.slice va na ca) lb (.slice vb nb cb) l0.a y z)) (fun wr => (l0.c + 1 - memI wr (w.heap.size + 1 + 1 + 1) 2).toNat)
      case atStart => exact ⟨0, la.c, by omega, by omega, Lib.hid HSF.out.2, HN⟩
      case round =>
        obtain ⟨y0, z, hz1, hzC, hzd, hg⟩ := hrel
        clear HN
        have o1 : World.cell? _ _ = some (.int .i64 y0) := hg.out.2.2.2.1.cell 1
        have f1 := hg.out.2.2.2.1.frozen 1
        have HG := Lib.hid (hg.out.set1 0)
        have HM := Lib.hid hg.out.mem.2.2
        clear hg
        go_wp2
        go_loopw [] (fun wx => ∃ y : Int, 0 ≤ y ∧ y ≤ l0.a ∧ (z = l0.c → y ≤ l0.b) ∧ Hid (CSt w wx la (.slice va na ca) lb (.slice vb nb cb) l0.a y z)) (fun wx => (l0.a + 1 - memI wx (w.heap.size + 1 + 1 + 1) 1).toNat)
        case atStart => exact ⟨0, by omega, by omega, fun _ => k2, HG⟩
        case round =>
          clear HG
          obtain ⟨y, hy0, hyA, hyb, hg⟩ := hrel
          have o0 : World.cell? _ _ = some (.int .i64 l0.a) := hg.out.2.2.2.1.cell 0
          have o1 : World.cell? _ _ = some (.int .i64 y) := hg.out.2.2.2.1.cell 1
          have o2 : World.cell? _ _ = some (.int .i64 z) := hg.out.2.2.2.1.cell 2
          have f1 := hg.out.2.2.2.1.frozen 1
          by_cases hyl : y < l0.a
          · have hyd : decide (y < l0.a) = true := decide_eq_true hyl
            have c0 : World.cell? _ _ = some (.int .i64 la.a) := hg.out.1.cell 0
            have c1 : World.cell? _ _ = some (.int .i64 la.b) := hg.out.1.cell 1
            have c2 : World.cell? _ _ = some (.int .i64 la.c) := hg.out.1.cell 2
            have c3 : World.cell? _ _ = some (.slice va na ca) := hg.out.1.cell 3
            have CA := Lib.hid (fun W => IA.out y z W (by omega) (by omega) (by omega) (by omega))
            have HIT : Hid ((hasB la y z && hasB lb y z) = true → z = l0.c ∧ y = l0.b) := Lib.hid fun h => by
              by_cases hzc : z = l0.c
              · refine ⟨hzc, ?_⟩
                by_cases hyb2 : y < l0.b
                · have := F4.out y hy0 hyb2
                  rw [← hzc] at this
                  rw [h] at this; cases this
                · have := hyb hzc; omega
              · have := F3.out y z hz1 (by omega) hy0 hyl
                rw [h] at this; cases this
            have HMISS : Hid (z = l0.c → y = l0.b → (hasB la y z && hasB lb y z) = true) := Lib.hid fun h1 h2 => by rw [h1, h2]; exact F5.out
            have CB := Lib.hid (fun W => IB.out y z W (by omega) (by omega) (by omega) (by omega))
            generalize hasB la y z = r1 at *
            generalize hasB lb y z = r2 at *
            cases r1
            · have hnx : z = l0.c → y + 1 ≤ l0.b := fun e => by
                have h1 := hyb e
                by_cases h2 : y = l0.b
                · have := HMISS.out e h2; cases this
                · omega
              clear HIT HMISS CB
              go_wp2_with fail
              refine (CA.out _).mono ?_
              rintro e w1 ⟨rfl, hb⟩
              have HN := Lib.hid (hg.out.below hb)
              have HM1 := Lib.hid hg.out.mem.2.1
              clear hb CA hg c0 c1 c2 c3 o0 o1 o2 f1
              have o1 : World.cell? _ _ = some (.int .i64 y) := HN.out.2.2.2.1.cell 1
              have f1 := HN.out.2.2.2.1.frozen 1
              go_wp2
              go_roundw
              case rel => exact ⟨y + 1, by omega, by omega, hnx, Lib.hid (HN.out.set1 _)⟩
              case measure => rw [(HN.out.set1 (y + 1)).mem.2.1, HM1.out]; omega
            · go_wp2_with fail
              refine (CA.out _).mono ?_
              rintro e w1 ⟨rfl, hb⟩
              have HN := Lib.hid (hg.out.below hb)
              have HM1 := Lib.hid hg.out.mem.2.1
              clear hb CA hg c0 c1 c2 c3 o0 o1 o2 f1
              have d0 : World.cell? _ _ = some (.int .i64 lb.a) := HN.out.2.1.cell 0
              have d1 : World.cell? _ _ = some (.int .i64 lb.b) := HN.out.2.1.cell 1
              have d2 : World.cell? _ _ = some (.int .i64 lb.c) := HN.out.2.1.cell 2
              have d3 : World.cell? _ _ = some (.slice vb nb cb) := HN.out.2.1.cell 3
              have o1 : World.cell? _ _ = some (.int .i64 y) := HN.out.2.2.2.1.cell 1
              have o2 : World.cell? _ _ = some (.int .i64 z) := HN.out.2.2.2.1.cell 2
              go_wp2_with fail
              refine (CB.out _).mono ?_
              rintro e w2 ⟨rfl, hb⟩
              have HN2 := Lib.hid (HN.out.below hb)
              clear hb CB HN d0 d1 d2 d3 o1 o2
              cases r2
              · have hnx : z = l0.c → y + 1 ≤ l0.b := fun e => by
                  have h1 := hyb e
                  by_cases h2 : y = l0.b
                  · have := HMISS.out e h2; cases this
                  · omega
                clear HIT HMISS
                have o1 : World.cell? _ _ = some (.int .i64 y) := HN2.out.2.2.2.1.cell 1
                have f1 := HN2.out.2.2.2.1.frozen 1
                go_wp2
                go_roundw
                case rel => exact ⟨y + 1, by omega, by omega, hnx, Lib.hid (HN2.out.set1 _)⟩
                case measure => rw [(HN2.out.set1 (y + 1)).mem.2.1, HM1.out]; omega
              · obtain ⟨rfl, rfl⟩ := HIT.out rfl
                clear HIT HMISS
                have o0 : World.cell? _ _ = some (.int .i64 l0.a) := HN2.out.2.2.2.1.cell 0
                have o1 : World.cell? _ _ = some (.int .i64 l0.b) := HN2.out.2.2.2.1.cell 1
                have o2 : World.cell? _ _ = some (.int .i64 l0.c) := HN2.out.2.2.2.1.cell 2
                have o3 : World.cell? _ _ = some (.slice none 0 0) := HN2.out.2.2.2.1.cell 3
                have e0 : World.cell? _ _ = some (.int .i64 0) := HN2.out.2.2.1.cell 0
                have e1 : World.cell? _ _ = some (.int .i64 0) := HN2.out.2.2.1.cell 1
                have e2 : World.cell? _ _ = some (.int .i64 0) := HN2.out.2.2.1.cell 2
                have e3 : World.cell? _ _ = some (.slice none 0 0) := HN2.out.2.2.1.cell 3
                have r0 := HN2.out.2.2.1.frozen 0
                have r1 := HN2.out.2.2.1.frozen 1
                have r2 := HN2.out.2.2.1.frozen 2
                have r3 := HN2.out.2.2.1.frozen 3
                have hlt := HN2.out.2.2.1.lt
                have HZ := Lib.hid HN2.out.2.2.2.2
                clear HN2
                go_wp2
                refine bodyPost_ret (v := .agg #[.int .i64 l0.a, .int .i64 l0.b, .int .i64 l0.c, .slice none 0 0]) (by simp [results, Tryz.results50, go_sem, e0, e1, e2, e3]) rfl ⟨rfl, ?_⟩
                iterate 4 (refine Below.setCell ?_ (by dsimp only; omega) _)
                exact HZ.out
          · have hyd : decide (y < l0.a) = false := decide_eq_false hyl
            have hzl : z < l0.c := by
              by_cases e : z = l0.c
              · have := hyb e; omega
              · omega
            have hnx := step_le hzd.out HD3.out hzl (by omega)
            have HMD : Hid ((z + la.c) % la.c = 0) := Lib.hid (by rw [Int.add_emod, Int.emod_self, Int.add_zero, Int.emod_emod]; exact hzd.out)
            have c2 : World.cell? _ _ = some (.int .i64 la.c) := hg.out.1.cell 2
            have f2 := hg.out.2.2.2.1.frozen 2
            have HN := Lib.hid hg.out
            clear hg
            go_wp2
            go_roundw
            case rel => exact ⟨y, z + la.c, by omega, by omega, HMD, Lib.hid (HN.out.set2 _)⟩
            case measure => rw [(HN.out.set2 (z + la.c)).mem.2.2, HM.out]; omega
    · have q1 : (x % lb.a == 0) = false := beq_eq_false_iff_ne.2 hdv
      have q2 : (x % lb.a != 0) = true := by rw [bne, q1]; rfl
      have hlt : x < l0.a := by
        have hne : x ≠ l0.a := fun e => hdv (by rw [e]; exact HD2.out)
        omega
      have hnx := step_le hxd.out HD1.out hlt (by omega)
      have HMD : Hid ((x + la.a) % la.a = 0) := Lib.hid (by rw [Int.add_emod, Int.emod_self, Int.add_zero, Int.emod_emod]; exact hxd.out)
      have HO := Lib.hid hg.out.mem.1
      have HN := Lib.hid hg.out
      clear hdv hg
      go_wp2
      go_roundw
      case rel => exact ⟨x + la.a, by omega, by omega, HMD, Lib.hid (HN.out.set0 _)⟩
      case measure => rw [(HN.out.set0 (x + la.a)).mem.1, HO.out]; omega
end Go.Proofs.YtobolflgoljafaaGreatDoor
