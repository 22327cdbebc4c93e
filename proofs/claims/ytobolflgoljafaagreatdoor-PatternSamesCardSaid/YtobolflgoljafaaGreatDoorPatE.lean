/- The reference's least. The reference's Least. The reference's inLattice. -/
import Derived.Test.YtobolflgoljafaaGreatDoorPatD
namespace Go.Proofs.YtobolflgoljafaaGreatDoor
open Go.RowKit

def memI (w : World) (b o : Nat) : Int := intOf ((w.cell? ⟨b, o, none⟩).getD undef)
def foundM (t : Value) (n : Nat) : Nat := match t with | .bool true => 0 | _ => n
/-- The pattern, the answer's place, the pattern that is sought. -/
def LSt (w W : World) (l : Pt.Lat) (v : Value) (a b c : Int) : Prop :=
  BlockAt W w.heap.size #[.int .i64 l.a, .int .i64 l.b, .int .i64 l.c, v] 24 ∧ BlockAt W (w.heap.size + 1) #[.int .i64 0, .int .i64 0, .int .i64 0, .slice none 0 0] 24 ∧
    BlockAt W (w.heap.size + 2) #[.int .i64 a, .int .i64 b, .int .i64 c, .slice none 0 0] 24 ∧ Below w.heap.size w W
theorem LSt.below {w W W2 : World} {l : Pt.Lat} {v : Value} {a b c : Int} (h : LSt w W l v a b c) (hb : Below W.heap.size W W2) : LSt w W2 l v a b c :=
  ⟨h.1.below hb h.1.lt, h.2.1.below hb h.2.1.lt, h.2.2.1.below hb h.2.2.1.lt, below_step h.2.2.2 hb⟩
theorem LSt.set0 {w W : World} {l : Pt.Lat} {v : Value} {a b c : Int} (h : LSt w W l v a b c) (z : Int) : LSt w (W.setCell ⟨w.heap.size + 2, 0, none⟩ (.int .i64 z)) l v z b c :=
  ⟨h.1.other (by omega) _, h.2.1.other (by omega) _, h.2.2.1.set 0 _, h.2.2.2.setCell (by simp) _⟩
theorem LSt.set1 {w W : World} {l : Pt.Lat} {v : Value} {a b c : Int} (h : LSt w W l v a b c) (z : Int) : LSt w (W.setCell ⟨w.heap.size + 2, 1, none⟩ (.int .i64 z)) l v a z c :=
  ⟨h.1.other (by omega) _, h.2.1.other (by omega) _, h.2.2.1.set 1 _, h.2.2.2.setCell (by simp) _⟩
theorem LSt.set2 {w W : World} {l : Pt.Lat} {v : Value} {a b c : Int} (h : LSt w W l v a b c) (z : Int) : LSt w (W.setCell ⟨w.heap.size + 2, 2, none⟩ (.int .i64 z)) l v a b z :=
  ⟨h.1.other (by omega) _, h.2.1.other (by omega) _, h.2.2.1.set 2 _, h.2.2.2.setCell (by simp) _⟩
theorem LSt.mem {w W : World} {l : Pt.Lat} {v : Value} {a b c : Int} (h : LSt w W l v a b c) : memI W (w.heap.size + 2) 0 = a ∧ memI W (w.heap.size + 2) 1 = b ∧ memI W (w.heap.size + 2) 2 = c := by
  unfold memI
  rw [h.2.2.1.cell 0, h.2.2.1.cell 1, h.2.2.1.cell 2]
  exact ⟨rfl, rfl, rfl⟩
theorem LSt.start (w : World) (l : Pt.Lat) (v : Value) : LSt w (((w.alloc (.cells #[.int .i64 l.a, .int .i64 l.b, .int .i64 l.c, v] 24)).alloc (.cells #[.int .i64 0, .int .i64 0, .int .i64 0, .slice none 0 0] 24)).alloc (.cells #[.int .i64 1, .int .i64 0, .int .i64 1, .slice none 0 0] 24)) l v 1 0 1 := by
  have h1 := BlockAt.new w #[.int .i64 l.a, .int .i64 l.b, .int .i64 l.c, v] 24
  have h2 := BlockAt.new (w.alloc (.cells #[.int .i64 l.a, .int .i64 l.b, .int .i64 l.c, v] 24)) #[.int .i64 0, .int .i64 0, .int .i64 0, .slice none 0 0] 24
  have h3 := BlockAt.new ((w.alloc (.cells #[.int .i64 l.a, .int .i64 l.b, .int .i64 l.c, v] 24)).alloc (.cells #[.int .i64 0, .int .i64 0, .int .i64 0, .slice none 0 0] 24)) #[.int .i64 1, .int .i64 0, .int .i64 1, .slice none 0 0] 24
  simp only [World.size_alloc] at h2 h3
  exact ⟨(h1.alloc _).alloc _, h2.alloc _, h3, below_alloc (below_alloc (below_alloc (Below.refl _ _) _) _) _⟩

/-- What least holds while it writes cells. -/
def RSt (w W : World) (l : Pt.Lat) (v : Value) (l0 : Pt.Lat) (F : Nat → Int) (n : Nat) (u : Value) : Prop :=
  BlockAt W w.heap.size #[.int .i64 l.a, .int .i64 l.b, .int .i64 l.c, v] 24 ∧ BlockAt W (w.heap.size + 1) #[.int .i64 0, .int .i64 0, .int .i64 0, .slice none 0 0] 24 ∧
    BlockAt W (w.heap.size + 2) #[.int .i64 l0.a, .int .i64 l0.b, .int .i64 l0.c, u] 24 ∧ OwnF (w.heap.size + 3) W u n F ∧ Below w.heap.size w W
theorem RSt.below {w W W2 : World} {l l0 : Pt.Lat} {F : Nat → Int} {n : Nat} {v u : Value} (h : RSt w W l v l0 F n u) (hb : Below W.heap.size W W2) : RSt w W2 l v l0 F n u :=
  ⟨h.1.below hb h.1.lt, h.2.1.below hb h.2.1.lt, h.2.2.1.below hb h.2.2.1.lt, h.2.2.2.1.below hb, below_step h.2.2.2.2 hb⟩
theorem RSt.drew {w W : World} {l l0 : Pt.Lat} {F : Nat → Int} {n : Nat} {v u : Value} (h : RSt w W l v l0 F n u) : RSt w W.drew l v l0 F n u := ⟨h.1.drew, h.2.1.drew, h.2.2.1.drew, h.2.2.2.1.drew, h.2.2.2.2.drew⟩
theorem RSt.alloc {w W : World} {l l0 : Pt.Lat} {F : Nat → Int} {n : Nat} {v u : Value} (h : RSt w W l v l0 F n u) (o : Obj) : RSt w (W.alloc o) l v l0 F n u := h.below ((Below.refl _ _).alloc (Nat.le_refl _) o)
theorem RSt.next {w W w2 : World} {l l0 : Pt.Lat} {F : Nat → Int} {n : Nat} {v v' u : Value} (h : RSt w W l v l0 F n v') (hg : W.grownBy w2 v'.ownBlock) (hp : OwnF (w.heap.size + 3) w2 u (n + 1) F) : RSt w (w2.setCell ⟨w.heap.size + 2, 3, none⟩ u) l v l0 F (n + 1) u := by
  obtain ⟨h0, h1, h2, hown, hw⟩ := h
  have hne : ∀ B, B < w.heap.size + 3 → some B ≠ v'.ownBlock := fun B hB e => by have := (World.ownsRow.lt hown B e.symm).1; omega
  refine ⟨(h0.grown hg (hne _ (by omega))).other (by omega) _, (h1.grown hg (hne _ (by omega))).other (by omega) _, (h2.grown hg (hne _ (by omega))).set 3 _, hp.setOld (by simp) _, ?_⟩
  exact (hw.grown hg hw.size (fun k e => by have := (World.ownsRow.lt hown k e).1; omega)).setCell (by simp) _

set_option maxRecDepth 20000 in
set_option maxHeartbeats 4000000 in
theorem refLeast0_any (l l0 : Pt.Lat) (v : Value) (cs : List Int) (w : World) (hp : PatIn w l v cs) (h0 : Pt.IsB (Pt.Per (Pt.col l (csF cs))) l0) :
    Calls Tryz.prog 59 #[patV l v] w fun e w' => ∃ u, e = .returned (patV l0 u) ∧ OwnF w.heap.size w' u (l0.a * l0.c).toNat (Pt.cellF l0 (Pt.col l (csF cs))) ∧ Below w.heap.size w w' := by
  have hper : ∀ x y, Pt.inL l x y → Pt.Per (Pt.col l (csF cs)) x y := fun x y h => Pt.col_per hp.2.2.1.1 _ h
  obtain ⟨D1, D2⟩ := Pt.least_dvd (Pt.per_grp _) h0 (hper _ _ (Pt.inL_a l)) (hper _ _ (Pt.inL_b l))
  obtain ⟨f1, f2, f3, f4, f5⟩ := find_facts (gB := movedB l (Pt.col l (csF cs)) (Pt.col l (csF cs))) (Pt.per_grp _) h0 (fun x y => moved_per hp.2.2.1.1 hper x y)
  obtain ⟨⟨a1, a2, a3, a4⟩, a5, a6⟩ := hp.2.2.1
  obtain ⟨k1, k2, k3, k4⟩ := h0.ok
  have hla : l0.a ≤ l.a := Int.le_of_dvd (by omega) (Int.dvd_of_emod_eq_zero D1)
  have hlc : l0.c ≤ l.c := Int.le_of_dvd (by omega) (Int.dvd_of_emod_eq_zero D2)
  have PR := Lib.hid (fun (dx dy : Int) W (hW : Below w.heap.size w W) (h1 : 0 ≤ dx) (h2 : dx ≤ 30000) (h3 : 0 ≤ dy) (h4 : dy ≤ 30000) => refPeriod_any l v cs dx dy W (hp.all hW) (by omega) (by omega) (by omega) (by omega))
  have CR := Lib.hid (fun (x y : Int) W (hW : Below w.heap.size w W) (h1 : 0 ≤ x) (h2 : x ≤ 30000) (h3 : 0 ≤ y) (h4 : y ≤ 30000) => refColor_any l v cs x y W (hp.all hW) (by omega) (by omega) (by omega) (by omega))
  have hvp : ∃ a n c, v = .slice a n c := by
    obtain ⟨_, _, _, _, h, _⟩ := hp.at_ 0 0
    exact ⟨_, _, _, h⟩
  obtain ⟨va, vn, vc, rfl⟩ := hvp
  have F1 := Lib.hid f1
  have F2 := Lib.hid f2
  have F3 := Lib.hid f3
  have F4 := Lib.hid f4
  have F5 := Lib.hid f5
  have HD1 := Lib.hid D1
  have HD2 := Lib.hid D2
  have H0 := Lib.hid (LSt.start w l (.slice va vn vc))
  have FA := Lib.hid (fun (x y : Int) h1 h2 h3 => Pt.cellF_at (l := l0) (Pt.col l (csF cs)) (x := x) (y := y) h1 h2 h3)
  obtain ⟨i0, hi, hz0, hz1, hz2⟩ := info_parts infoInt
  obtain ⟨A, hA⟩ : ∃ A : Nat, l0.a = A := ⟨l0.a.toNat, by omega⟩
  obtain ⟨D, hD⟩ : ∃ D : Nat, l0.c = D := ⟨l0.c.toNat, by omega⟩
  have HTOT : Hid ((l0.a * l0.c).toNat = D * A) := Lib.hid (by rw [hA, hD, ← Int.natCast_mul, Int.toNat_natCast, Nat.mul_comm])
  have HA := Lib.hid hA
  have HD := Lib.hid hD
  have hA3 : l0.a ≤ (A : Int) := by omega
  have hA4 : (A : Int) ≤ l0.a := by omega
  have hD3 : l0.c ≤ (D : Int) := by omega
  have hD4 : (D : Int) ≤ l0.c := by omega
  have hA2 : A ≤ 30000 := by omega
  have hD2 : D ≤ 30000 := by omega
  clear f1 f2 f3 f4 f5 D1 D2 hp h0 hper hA hD
  generalize hF : Pt.cellF l0 (Pt.col l (csF cs)) = F at *
  clear hF
  generalize movedB l (Pt.col l (csF cs)) (Pt.col l (csF cs)) = mb at *
  go_enter Tryz.func59, Tryz.ntmps59
  go_wp2
  go_loopw [] (fun wr => ∃ a : Int, 1 ≤ a ∧ a ≤ l0.a ∧ Hid (LSt w wr l (.slice va vn vc) a 0 1)) (fun wr => (l0.a - memI wr (w.heap.size + 2) 0).toNat)
  case atStart => exact ⟨1, by omega, by omega, H0⟩
  case round =>
    obtain ⟨a, ha1, haA, hg⟩ := hrel
    clear H0
    have c0 : World.cell? _ _ = some (.int .i64 l.a) := hg.out.1.cell 0
    have c1 : World.cell? _ _ = some (.int .i64 l.b) := hg.out.1.cell 1
    have c2 : World.cell? _ _ = some (.int .i64 l.c) := hg.out.1.cell 2
    have c3 : World.cell? _ _ = some (.slice va vn vc) := hg.out.1.cell 3
    have d0 : World.cell? _ _ = some (.int .i64 a) := hg.out.2.2.1.cell 0
    have e0 := hg.out.2.2.1.frozen 0
    have PC := Lib.hid (PR.out a 0 _ hg.out.2.2.2 (by omega) (by omega) (by omega) (by omega))
    by_cases hdv : l.a % a = 0
    · have q1 : (l.a % a == 0) = true := beq_iff_eq.2 hdv
      have q2 : (l.a % a != 0) = false := by rw [bne, q1]; rfl
      clear hdv
      by_cases hlt : a < l0.a
      · have PC1 := PC.out
        rw [F1.out a ha1 hlt] at PC1
        have PC2 := Lib.hid PC1
        clear PC PC1
        go_wp2_with fail
        refine PC2.out.mono ?_
        rintro e w1 ⟨rfl, hb1⟩
        have HN := Lib.hid (hg.out.below hb1)
        have HO := Lib.hid hg.out.mem.1
        have d0 : World.cell? _ _ = some (.int .i64 a) := HN.out.2.2.1.cell 0
        have e0 := HN.out.2.2.1.frozen 0
        clear hb1 PC2 c0 c1 c2 c3 hg
        go_wp2
        go_roundw
        case rel => exact ⟨a + 1, by omega, by omega, Lib.hid (HN.out.set0 _)⟩
        case measure => rw [(HN.out.set0 (a + 1)).mem.1, HO.out]; omega
      · obtain rfl : a = l0.a := by omega
        have PC1 := PC.out
        rw [F2.out] at PC1
        have PC2 := Lib.hid PC1
        clear PC PC1
        go_wp2_with fail
        refine PC2.out.mono ?_
        rintro e w1 ⟨rfl, hb1⟩
        have HN := Lib.hid (hg.out.below hb1)
        clear hb1 PC2 c0 c1 c2 c3 hg d0 e0
        go_wp2
        have k3' : l0.b < l0.a := k3
        go_loopw [4] (fun t wr => (∃ b c : Int, t = .bool false ∧ 1 ≤ c ∧ c ≤ l0.c ∧ Hid (LSt w wr l (.slice va vn vc) l0.a b c)) ∨ (t = .bool true ∧ Hid (LSt w wr l (.slice va vn vc) l0.a l0.b l0.c))) (fun t wr => foundM t (l0.c + 1 - memI wr (w.heap.size + 2) 2).toNat)
        case atStart => exact .inl ⟨0, 1, rfl, by omega, by omega, HN⟩
        case round =>
          clear HN
          rcases hrel with ⟨b, c, rfl, hc1, hcC, hg⟩ | ⟨rfl, hg⟩
          · have d1 : World.cell? _ _ = some (.int .i64 b) := hg.out.2.2.1.cell 1
            have e1 := hg.out.2.2.1.frozen 1
            have HG := Lib.hid (hg.out.set1 0)
            have HM := Lib.hid hg.out.mem.2.2
            clear hg
            go_wp2
            go_loopw [4] (fun t wr => (∃ b : Int, t = .bool false ∧ 0 ≤ b ∧ b ≤ l0.a ∧ Hid ((c = l0.c → b ≤ l0.b) ∧ LSt w wr l (.slice va vn vc) l0.a b c)) ∨ (t = .bool true ∧ Hid (c = l0.c ∧ LSt w wr l (.slice va vn vc) l0.a l0.b l0.c))) (fun t wr => foundM t (l0.a + 1 - memI wr (w.heap.size + 2) 1).toNat)
            case atStart => exact .inl ⟨0, rfl, by omega, by omega, Lib.hid ⟨fun _ => k2, HG.out⟩⟩
            case round =>
              clear HG
              rcases hrel with ⟨b', rfl, hb0, hbA, hg⟩ | ⟨rfl, hg⟩
              · have d0 : World.cell? _ _ = some (.int .i64 l0.a) := hg.out.2.2.2.1.cell 0
                have d1 : World.cell? _ _ = some (.int .i64 b') := hg.out.2.2.2.1.cell 1
                have d2 : World.cell? _ _ = some (.int .i64 c) := hg.out.2.2.2.1.cell 2
                have e1 := hg.out.2.2.2.1.frozen 1
                by_cases hbl : b' < l0.a
                · have c0 : World.cell? _ _ = some (.int .i64 l.a) := hg.out.2.1.cell 0
                  have c1 : World.cell? _ _ = some (.int .i64 l.b) := hg.out.2.1.cell 1
                  have c2 : World.cell? _ _ = some (.int .i64 l.c) := hg.out.2.1.cell 2
                  have c3 : World.cell? _ _ = some (.slice va vn vc) := hg.out.2.1.cell 3
                  have PC := Lib.hid (PR.out b' c _ hg.out.2.2.2.2 (by omega) (by omega) (by omega) (by omega))
                  have HB1 := Lib.hid hg.out.1
                  have HMB := Lib.hid hg.out.2.mem.2.1
                  have HLS := Lib.hid hg.out.2
                  clear hg
                  by_cases hdv : l.c % c = 0
                  · have q1 : (l.c % c == 0) = true := beq_iff_eq.2 hdv
                    by_cases hhit : c = l0.c ∧ b' = l0.b
                    · obtain ⟨rfl, rfl⟩ := hhit
                      have PC1 := PC.out
                      rw [F5.out] at PC1
                      have PC2 := Lib.hid PC1
                      clear PC PC1 hdv
                      go_wp2_with fail
                      refine PC2.out.mono ?_
                      rintro e w2 ⟨rfl, hb2⟩
                      have HN := Lib.hid (HLS.out.below hb2)
                      clear hb2 PC2 HLS c0 c1 c2 c3 d0 d1 d2 e1
                      go_wp2
                      go_roundw
                      case rel => exact .inr ⟨rfl, Lib.hid ⟨by first | trivial | rfl, HN.out⟩⟩
                      case measure => rw [HMB.out]; simp [foundM]; omega
                    · have hno : mb b' c = false := by
                        by_cases hcC2 : c < l0.c
                        · exact F3.out b' c hc1 hcC2 hb0 hbl
                        · have e : c = l0.c := by omega
                          have := HB1.out e
                          rw [e]
                          exact F4.out b' hb0 (by omega)
                      have HCB : Hid (c = l0.c → b' + 1 ≤ l0.b) := Lib.hid fun e => by have := HB1.out e; omega
                      have PC1 := PC.out
                      rw [hno] at PC1
                      have PC2 := Lib.hid PC1
                      clear PC PC1 hdv hno hhit
                      go_wp2_with fail
                      refine PC2.out.mono ?_
                      rintro e w2 ⟨rfl, hb2⟩
                      have HN := Lib.hid (HLS.out.below hb2)
                      have d1 : World.cell? _ _ = some (.int .i64 b') := HN.out.2.2.1.cell 1
                      have e1 := HN.out.2.2.1.frozen 1
                      clear hb2 PC2 HLS c0 c1 c2 c3 d0 d2
                      go_wp2
                      go_roundw
                      case rel => exact .inl ⟨b' + 1, rfl, by omega, by omega, Lib.hid ⟨HCB.out, HN.out.set1 _⟩⟩
                      case measure => rw [(HN.out.set1 (b' + 1)).mem.2.1, HMB.out]; simp only [foundM]; omega
                  · have q1 : (l.c % c == 0) = false := beq_eq_false_iff_ne.2 hdv
                    have HCB : Hid (c = l0.c → b' + 1 ≤ l0.b) := Lib.hid fun e => absurd (by rw [e]; exact HD2.out) hdv
                    clear PC hdv
                    go_wp2
                    go_roundw
                    case rel => exact .inl ⟨b' + 1, rfl, by omega, by omega, Lib.hid ⟨HCB.out, HLS.out.set1 _⟩⟩
                    case measure => rw [(HLS.out.set1 (b' + 1)).mem.2.1, HMB.out]; simp only [foundM]; omega
                · obtain rfl : b' = l0.a := by omega
                  have hcl : c < l0.c := by
                    by_cases e : c = l0.c
                    · have := hg.out.1 e; omega
                    · omega
                  have HN := Lib.hid hg.out.2
                  have e2 := hg.out.2.2.2.1.frozen 2
                  clear hg
                  go_wp2
                  go_roundw
                  case rel => exact .inl ⟨l0.a, c + 1, rfl, by omega, by omega, Lib.hid (HN.out.set2 _)⟩
                  case measure => rw [(HN.out.set2 (c + 1)).mem.2.2, HM.out]; simp only [foundM]; omega
              · have d0 : World.cell? _ _ = some (.int .i64 l0.a) := hg.out.2.2.2.1.cell 0
                have d1 : World.cell? _ _ = some (.int .i64 l0.b) := hg.out.2.2.2.1.cell 1
                have HN := Lib.hid hg.out.2
                clear hg
                go_wp2
                go_roundw
                case rel => exact .inr ⟨rfl, HN⟩
                case measure => rw [HM.out]; simp [foundM]; omega
          · have HN := Lib.hid hg.out
            clear hg
            go_wp2
            have HN4 : Hid (∃ u, RSt w _ l (.slice va vn vc) l0 F (0 * A) u) := Lib.hid ⟨_, HN.out.1, HN.out.2.1, HN.out.2.2.1, by rw [Nat.zero_mul]; exact OwnF.nil _ _ _, HN.out.2.2.2⟩
            clear HN
            go_loopw [5] (fun t wr => ∃ y : Nat, y ≤ D ∧ t = .int .i64 (y : Int) ∧ Hid (∃ u, RSt w wr l (.slice va vn vc) l0 F (y * A) u)) (fun t _ => D - (intOf t).toNat)
            case atStart => exact ⟨0, Nat.zero_le _, rfl, HN4⟩
            case round =>
              obtain ⟨y, hyD, rfl, hg⟩ := hrel
              clear HN4
              obtain ⟨v0, hg⟩ := hg.out
              have HG := Lib.hid hg
              by_cases hlt : y < D
              · have d0 : World.cell? _ _ = some (.int .i64 l0.a) := hg.2.2.1.cell 0
                have d2 : World.cell? _ _ = some (.int .i64 l0.c) := hg.2.2.1.cell 2
                have hdy : decide ((y : Int) < l0.c) = true := decide_eq_true (by omega)
                clear hg
                go_wp2
                clear d0 d2
                go_loopw [6] (fun t wx => ∃ x : Nat, x ≤ A ∧ t = .int .i64 (x : Int) ∧ Hid (∃ u, RSt w wx l (.slice va vn vc) l0 F (y * A + x) u)) (fun t _ => A - (intOf t).toNat)
                case atStart => exact ⟨0, Nat.zero_le _, rfl, Lib.hid ⟨_, HG.out⟩⟩
                case round =>
                  obtain ⟨x, hxA, rfl, hgx⟩ := hrel
                  clear HG
                  obtain ⟨u0, hx⟩ := hgx.out
                  have d0 : World.cell? _ _ = some (.int .i64 l0.a) := hx.2.2.1.cell 0
                  by_cases hxlt : x < A
                  · have hform : ∃ a c, u0 = .slice a (y * A + x) c := by
                      rcases hx.2.2.2.1 with ⟨_, ⟨h1, h2⟩ | ⟨g, cap, cur, h1, _⟩⟩
                      · exact ⟨none, 0, by rw [h1, h2]⟩
                      · exact ⟨_, _, h1⟩
                    obtain ⟨sa, sc, rfl⟩ := hform
                    have HP := Lib.hid hx.drew
                    have CC := Lib.hid (fun W hW => CR.out (x : Int) (y : Int) W hW (by omega) (by omega) (by omega) (by omega))
                    have hfn := FA.out (x : Int) (y : Int) (by omega) (by rw [HA.out]; omega) (by omega)
                    rw [HA.out, ← Int.natCast_mul, ← Int.natCast_add, Int.toNat_natCast] at hfn
                    have hyA : y * A ≤ 900000000 := by
                      have := Nat.mul_le_mul (show y ≤ 30000 by omega) hA2
                      omega
                    have HFN := Lib.hid hfn
                    have c3 : World.cell? _ _ = some (.slice sa (y * A + x) sc) := hx.drew.2.2.1.cell 3
                    have hdx : decide ((x : Int) < l0.a) = true := decide_eq_true (by omega)
                    generalize Pt.col l (csF cs) (x : Int) (y : Int) = col at *
                    obtain ⟨n, hn⟩ : ∃ n, n = y * A + x := ⟨_, rfl⟩
                    rw [← hn] at HP HFN c3
                    have HNN := Lib.hid hn
                    have hnb : n ≤ 900030000 := by omega
                    clear hfn hx hg hgx hyA hn
                    go_upto_region 19 with fail
                    clear d0
                    refine wp_region_seq2 (.take 0 (.take 2 (.take 3 (.take 4 (.two 1 (.one 5 (.one 6 (.one 7 (.take 8 (.one 9 .done))))) 5 (.two 1 (.one 6 (.one 7 (.take 8 (.one 9 .done)))) 6 (.one 1 (.one 7 (.take 8 (.one 9 .done)))))))))) (fun W => PatAt W w.heap.size l (.slice va vn vc))
                      (by kernel_rfl) (by kernel_rfl) (by kernel_rfl) (by kernel_rfl) (fun d _ _ _ _ h => by cases d <;> exact h) HP.out.1.pat (fun _ => ?_)
                    repeat (first
                      | (refine SeqO.ld (v := ?_) rfl (by rfl) ?_ ?_; rotate_left; (· intro w hSw; (try dsimp only at hSw); obtain ⟨c0, c1, c2, c4, _⟩ := hSw; go_simp; (try with_reducible rfl)); simp only [Act.put, List.setIfInBounds_toArray, List.set_cons_zero, List.set_cons_succ]))
                    refine ⟨wpOp_stepS rfl (by rfl) (fun K hK => ?_), wpOp_stepS rfl (by rfl) (fun K hK => ?_)⟩
                    · go_simp
                      refine hK.out _ _ HP.out.1.pat (fun _ => ?_)
                      clear hK K
                      try simp only [Act.put, List.setIfInBounds_toArray, List.set_cons_zero, List.set_cons_succ]
                      refine SeqO.step rfl (by rfl) (fun K hK => ?_)
                      go_simp
                      go_at_call 51
                      refine (CC.out _ HP.out.2.2.2.2).mono ?_
                      rintro e w1 ⟨rfl, hb1⟩
                      try dsimp only
                      have HP1 := Lib.hid (HP.out.below hb1)
                      have c3 : World.cell? _ _ = some (.slice sa n sc) := HP1.out.2.2.1.cell 3
                      clear HP hb1
                      have HP := HP1
                      clear HP1
                      refine hK.out _ _ HP.out.1.pat (fun _ => ?_)
                      clear hK K
                      try simp only [Act.put, List.setIfInBounds_toArray, List.set_cons_zero, List.set_cons_succ]
                      refine SeqO.step rfl (by rfl) (fun K hK => ?_)
                      go_simp
                      have HP1 := Lib.hid (HP.out.alloc (.cells #[.int .i64 col] 3))
                      have c3 : World.cell? _ _ = some (.slice sa n sc) := HP1.out.2.2.1.cell 3
                      clear HP
                      have HP := HP1
                      clear HP1
                      refine hK.out _ _ HP.out.1.pat (fun _ => ?_)
                      clear hK K
                      try simp only [Act.put, List.setIfInBounds_toArray, List.set_cons_zero, List.set_cons_succ]
                      clear c3
                      refine SeqO.step rfl (by rfl) (fun K hK => ?_)
                      refine wp_append_own _ _ _ 22 rfl (w.heap.size + 3) 3 i0 (.int .i64 0) 1 8 Tryz.underlying22 hi hz0 hz1 hz2 rfl (by decide) _ n _ rfl HP.out.2.2.2.1 ⟨_, 0, none⟩ 1 1 (intL col) rfl rfl (intL_at _ _ _) (intL_one _) (by unfold maxLen; omega) (by omega) (by have := HP.out.2.2.1.lt; omega) ?_
                      intro v' w2 hown2 hgrow _
                      have hp2 := OwnF.pushed hown2 HFN.out
                      obtain ⟨g, cp, rfl, hg1, hg2⟩ := hp2.form (by omega)
                      have HN := Lib.hid (HP.out.next hgrow hp2)
                      have hB2 := HP.out.2.2.1.grown hgrow (fun e => by have := (World.ownsRow.lt HP.out.2.2.2.1 _ e.symm).1; omega)
                      have hPt := (HP.out.1.grown hgrow (fun e => by have := (World.ownsRow.lt HP.out.2.2.2.1 _ e.symm).1; omega)).pat
                      have c3 : World.cell? _ _ = some (.slice sa n sc) := hB2.cell 3
                      have f3 := hB2.frozen 3
                      clear HP hown2 hgrow hp2 hB2 hg1 hg2
                      refine hK.out _ _ hPt (fun _ => ?_)
                      clear hK K
                      try simp only [Act.put, List.setIfInBounds_toArray, List.set_cons_zero, List.set_cons_succ]
                      repeat (first
                        | (refine SeqO.ld (v := ?_) rfl (by rfl) ?_ ?_; rotate_left; (· intro w _; go_simp; (try with_reducible rfl)); simp only [Act.put, List.setIfInBounds_toArray, List.set_cons_zero, List.set_cons_succ]))
                      refine SeqO.step rfl (by rfl) (fun K hK => ?_)
                      go_simp
                      refine hK.out _ _ HN.out.1.pat (fun _ => ?_)
                      clear hK K c3 f3 hPt
                      try simp only [Act.put, List.setIfInBounds_toArray, List.set_cons_zero, List.set_cons_succ]
                      refine SeqO.fin ?_
                      go_wp2
                      go_roundw
                      case rel => exact ⟨x + 1, by omega, by go_num, Lib.hid ⟨_, by rw [show y * A + (x + 1) = n + 1 by rw [HNN.out]; omega]; exact HN.out⟩⟩
                      case measure => simp [intOf]; omega
                    · go_simp
                      go_at_call 51
                      refine (CC.out _ HP.out.2.2.2.2).mono ?_
                      rintro e w1 ⟨rfl, hb1⟩
                      try dsimp only
                      have HP1 := Lib.hid (HP.out.below hb1)
                      have c3 : World.cell? _ _ = some (.slice sa n sc) := HP1.out.2.2.1.cell 3
                      clear HP hb1
                      have HP := HP1
                      clear HP1
                      refine hK.out _ _ HP.out.1.pat (fun _ => ?_)
                      clear hK K
                      try simp only [Act.put, List.setIfInBounds_toArray, List.set_cons_zero, List.set_cons_succ]
                      refine ⟨wpOp_stepS rfl (by rfl) (fun K hK => ?_), wpOp_stepS rfl (by rfl) (fun K hK => ?_)⟩
                      · go_simp
                        refine hK.out _ _ HP.out.1.pat (fun _ => ?_)
                        clear hK K
                        try simp only [Act.put, List.setIfInBounds_toArray, List.set_cons_zero, List.set_cons_succ]
                        refine SeqO.step rfl (by rfl) (fun K hK => ?_)
                        go_simp
                        have HP1 := Lib.hid (HP.out.alloc (.cells #[.int .i64 col] 3))
                        have c3 : World.cell? _ _ = some (.slice sa n sc) := HP1.out.2.2.1.cell 3
                        clear HP
                        have HP := HP1
                        clear HP1
                        refine hK.out _ _ HP.out.1.pat (fun _ => ?_)
                        clear hK K
                        try simp only [Act.put, List.setIfInBounds_toArray, List.set_cons_zero, List.set_cons_succ]
                        clear c3
                        refine SeqO.step rfl (by rfl) (fun K hK => ?_)
                        refine wp_append_own _ _ _ 22 rfl (w.heap.size + 3) 3 i0 (.int .i64 0) 1 8 Tryz.underlying22 hi hz0 hz1 hz2 rfl (by decide) _ n _ rfl HP.out.2.2.2.1 ⟨_, 0, none⟩ 1 1 (intL col) rfl rfl (intL_at _ _ _) (intL_one _) (by unfold maxLen; omega) (by omega) (by have := HP.out.2.2.1.lt; omega) ?_
                        intro v' w2 hown2 hgrow _
                        have hp2 := OwnF.pushed hown2 HFN.out
                        obtain ⟨g, cp, rfl, hg1, hg2⟩ := hp2.form (by omega)
                        have HN := Lib.hid (HP.out.next hgrow hp2)
                        have hB2 := HP.out.2.2.1.grown hgrow (fun e => by have := (World.ownsRow.lt HP.out.2.2.2.1 _ e.symm).1; omega)
                        have hPt := (HP.out.1.grown hgrow (fun e => by have := (World.ownsRow.lt HP.out.2.2.2.1 _ e.symm).1; omega)).pat
                        have c3 : World.cell? _ _ = some (.slice sa n sc) := hB2.cell 3
                        have f3 := hB2.frozen 3
                        clear HP hown2 hgrow hp2 hB2 hg1 hg2
                        refine hK.out _ _ hPt (fun _ => ?_)
                        clear hK K
                        try simp only [Act.put, List.setIfInBounds_toArray, List.set_cons_zero, List.set_cons_succ]
                        repeat (first
                          | (refine SeqO.ld (v := ?_) rfl (by rfl) ?_ ?_; rotate_left; (· intro w _; go_simp; (try with_reducible rfl)); simp only [Act.put, List.setIfInBounds_toArray, List.set_cons_zero, List.set_cons_succ]))
                        refine SeqO.step rfl (by rfl) (fun K hK => ?_)
                        go_simp
                        refine hK.out _ _ HN.out.1.pat (fun _ => ?_)
                        clear hK K c3 f3 hPt
                        try simp only [Act.put, List.setIfInBounds_toArray, List.set_cons_zero, List.set_cons_succ]
                        refine SeqO.fin ?_
                        go_wp2
                        go_roundw
                        case rel => exact ⟨x + 1, by omega, by go_num, Lib.hid ⟨_, by rw [show y * A + (x + 1) = n + 1 by rw [HNN.out]; omega]; exact HN.out⟩⟩
                        case measure => simp [intOf]; omega
                      · go_simp
                        have HP1 := Lib.hid (HP.out.alloc (.cells #[.int .i64 col] 3))
                        have c3 : World.cell? _ _ = some (.slice sa n sc) := HP1.out.2.2.1.cell 3
                        clear HP
                        have HP := HP1
                        clear HP1
                        refine hK.out _ _ HP.out.1.pat (fun _ => ?_)
                        clear hK K
                        try simp only [Act.put, List.setIfInBounds_toArray, List.set_cons_zero, List.set_cons_succ]
                        refine SeqO.step rfl (by rfl) (fun K hK => ?_)
                        go_simp
                        refine hK.out _ _ HP.out.1.pat (fun _ => ?_)
                        clear hK K
                        try simp only [Act.put, List.setIfInBounds_toArray, List.set_cons_zero, List.set_cons_succ]
                        clear c3
                        refine SeqO.step rfl (by rfl) (fun K hK => ?_)
                        refine wp_append_own _ _ _ 22 rfl (w.heap.size + 3) 3 i0 (.int .i64 0) 1 8 Tryz.underlying22 hi hz0 hz1 hz2 rfl (by decide) _ n _ rfl HP.out.2.2.2.1 ⟨_, 0, none⟩ 1 1 (intL col) rfl rfl (intL_at _ _ _) (intL_one _) (by unfold maxLen; omega) (by omega) (by have := HP.out.2.2.1.lt; omega) ?_
                        intro v' w2 hown2 hgrow _
                        have hp2 := OwnF.pushed hown2 HFN.out
                        obtain ⟨g, cp, rfl, hg1, hg2⟩ := hp2.form (by omega)
                        have HN := Lib.hid (HP.out.next hgrow hp2)
                        have hB2 := HP.out.2.2.1.grown hgrow (fun e => by have := (World.ownsRow.lt HP.out.2.2.2.1 _ e.symm).1; omega)
                        have hPt := (HP.out.1.grown hgrow (fun e => by have := (World.ownsRow.lt HP.out.2.2.2.1 _ e.symm).1; omega)).pat
                        have c3 : World.cell? _ _ = some (.slice sa n sc) := hB2.cell 3
                        have f3 := hB2.frozen 3
                        clear HP hown2 hgrow hp2 hB2 hg1 hg2
                        refine hK.out _ _ hPt (fun _ => ?_)
                        clear hK K
                        try simp only [Act.put, List.setIfInBounds_toArray, List.set_cons_zero, List.set_cons_succ]
                        repeat (first
                          | (refine SeqO.ld (v := ?_) rfl (by rfl) ?_ ?_; rotate_left; (· intro w _; go_simp; (try with_reducible rfl)); simp only [Act.put, List.setIfInBounds_toArray, List.set_cons_zero, List.set_cons_succ]))
                        refine SeqO.step rfl (by rfl) (fun K hK => ?_)
                        go_simp
                        refine hK.out _ _ HN.out.1.pat (fun _ => ?_)
                        clear hK K c3 f3 hPt
                        try simp only [Act.put, List.setIfInBounds_toArray, List.set_cons_zero, List.set_cons_succ]
                        refine SeqO.fin ?_
                        go_wp2
                        go_roundw
                        case rel => exact ⟨x + 1, by omega, by go_num, Lib.hid ⟨_, by rw [show y * A + (x + 1) = n + 1 by rw [HNN.out]; omega]; exact HN.out⟩⟩
                        case measure => simp [intOf]; omega
                  · obtain rfl : x = A := by omega
                    have hdx : decide ((x : Int) < l0.a) = false := decide_eq_false (by omega)
                    have HN := Lib.hid hgx.out
                    clear hgx hx
                    go_wp2
                    go_roundw
                    case rel => exact ⟨y + 1, by omega, by go_num, Lib.hid (by obtain ⟨v, h⟩ := HN.out; exact ⟨v, by rw [Nat.add_mul, Nat.one_mul]; exact h⟩)⟩
                    case measure => simp [intOf]; omega
              · obtain rfl : y = D := by omega
                have hdy : decide ((y : Int) < l0.c) = false := decide_eq_false (by omega)
                obtain ⟨k0, k1, k2, hown, hw⟩ := hg
                have hform : ∃ a c, v0 = .slice a (y * A) c := by
                  rcases hown with ⟨_, ⟨h1, h2⟩ | ⟨g, cap, cur, h1, _⟩⟩
                  · exact ⟨none, 0, by rw [h1, h2]⟩
                  · exact ⟨_, _, h1⟩
                obtain ⟨sa, sc, rfl⟩ := hform
                have c0 : World.cell? _ _ = some (.int .i64 l0.a) := k2.cell 0
                have c1 : World.cell? _ _ = some (.int .i64 l0.b) := k2.cell 1
                have c2 : World.cell? _ _ = some (.int .i64 l0.c) := k2.cell 2
                have c3 : World.cell? _ _ = some (.slice sa (y * A) sc) := k2.cell 3
                have d0 : World.cell? _ _ = some (.int .i64 0) := k1.cell 0
                have d1 : World.cell? _ _ = some (.int .i64 0) := k1.cell 1
                have d2 : World.cell? _ _ = some (.int .i64 0) := k1.cell 2
                have d3 : World.cell? _ _ = some (.slice none 0 0) := k1.cell 3
                have f0 := k1.frozen 0
                have f1 := k1.frozen 1
                have f2 := k1.frozen 2
                have f3 := k1.frozen 3
                have HN := Lib.hid (And.intro hown hw)
                clear k0 k1 k2 hown hw HG
                go_wp2
                refine bodyPost_ret (v := .agg #[.int .i64 l0.a, .int .i64 l0.b, .int .i64 l0.c, .slice sa (y * A) sc]) (by simp [results, Tryz.results59, go_sem, d0, d1, d2, d3]) rfl ⟨_, rfl, ?_, ?_⟩
                · rw [HTOT.out]
                  exact ((((HN.out.1.setOld (by simp) _).setOld (by simp) _).setOld (by simp) _).setOld (by simp) _).mono (by omega)
                · exact (((HN.out.2.setCell (by simp) _).setCell (by simp) _).setCell (by simp) _).setCell (by simp) _
    · have q1 : (l.a % a == 0) = false := beq_eq_false_iff_ne.2 hdv
      have q2 : (l.a % a != 0) = true := by rw [bne, q1]; rfl
      have hlt : a < l0.a := by
        have hne : a ≠ l0.a := fun e => hdv (by rw [e]; exact HD1.out)
        omega
      have HO := Lib.hid hg.out.mem.1
      have HN := Lib.hid hg.out
      clear hdv PC hg
      go_wp2
      go_roundw
      case rel => exact ⟨a + 1, by omega, by omega, Lib.hid (HN.out.set0 _)⟩
      case measure => rw [(HN.out.set0 (a + 1)).mem.1, HO.out]; omega
end Go.Proofs.YtobolflgoljafaaGreatDoor
namespace Go.Proofs.YtobolflgoljafaaGreatDoor
open Go.RowKit

set_option maxRecDepth 20000 in
set_option maxHeartbeats 1000000 in
theorem refLeast_any (A B C : Int) (v : Value) (cs : List Int) (l0 : Pt.Lat) (w : World) (hv : Ints w v cs) (hkl : cs.length ≤ 1000000000) (hA1 : -9223372036854775808 ≤ A) (hA2 : A ≤ 9223372036854775807)
    (h0 : validE A B C cs = 0 → Pt.IsB (Pt.Per (Pt.col ⟨A, B, C⟩ (csF cs))) l0) :
    Calls Tryz.prog 88 #[.agg #[.int .i64 A, .int .i64 B, .int .i64 C, v]] w (LeastSays A B C cs l0 w) := by
  have VA := Lib.hid (fun W hW => refValidate_any A B C v cs W (hv.all hW) hkl hA1 hA2)
  obtain ⟨va, vc, rfl, _⟩ := hv.look'
  have hX : (validE A B C cs = 0 → 0 < (l0.a * l0.c).toNat ∧ ∀ W, Below w.heap.size w W → Calls Tryz.prog 59 #[.agg #[.int .i64 A, .int .i64 B, .int .i64 C, .slice va cs.length vc]] W fun e w' => ∃ u, e = .returned (patV l0 u) ∧ OwnF W.heap.size w' u (l0.a * l0.c).toNat (Pt.cellF l0 (Pt.col ⟨A, B, C⟩ (csF cs))) ∧ Below W.heap.size W w') := fun hz => by
    obtain ⟨hp, hm⟩ := valid_in hz hv
    have h1 := h0 hz
    refine ⟨?_, fun W hW => refLeast0_any ⟨A, B, C⟩ l0 _ cs W (hp.all hW) h1⟩
    have := Int.mul_le_mul_of_nonneg_left h1.ok.2.2.2 (show 0 ≤ l0.a by have := h1.ok.1; omega)
    have := h1.ok.1
    omega
  have DX := Lib.hid hX
  have HS : Hid (∀ e w', ((validE A B C cs = 0 → ∃ u, e = .returned (.tuple #[patV l0 u, .int .i64 0]) ∧ OwnF w.heap.size w' u (l0.a * l0.c).toNat (Pt.cellF l0 (Pt.col ⟨A, B, C⟩ (csF cs)))) ∧ (validE A B C cs ≠ 0 → e = .returned (.tuple #[patV ⟨0, 0, 0⟩ (.slice none 0 0), .int .i64 (validE A B C cs)])) ∧ Below w.heap.size w w') → LeastSays A B C cs l0 w e w') := Lib.hid fun _ _ h => h
  generalize hR : validE A B C cs = R at *
  generalize Pt.cellF l0 (Pt.col ⟨A, B, C⟩ (csF cs)) = F at *
  generalize LeastSays A B C cs l0 w = LS at *
  have b0 := (BlockAt.new w #[.int .i64 A, .int .i64 B, .int .i64 C, .slice va cs.length vc] 24).alloc (.cells #[.int .i64 0, .int .i64 0, .int .i64 0, .slice none 0 0] 24)
  have b1 := BlockAt.new (w.alloc (.cells #[.int .i64 A, .int .i64 B, .int .i64 C, .slice va cs.length vc] 24)) #[.int .i64 0, .int .i64 0, .int .i64 0, .slice none 0 0] 24
  simp only [World.size_alloc] at b1
  have hw := below_alloc (below_alloc (Below.refl w.heap.size w) (.cells #[.int .i64 A, .int .i64 B, .int .i64 C, .slice va cs.length vc] 24)) (.cells #[.int .i64 0, .int .i64 0, .int .i64 0, .slice none 0 0] 24)
  have HB := Lib.hid (And.intro b0 (And.intro b1 hw))
  clear b0 b1 hw hv h0 hX hR
  go_enter Tryz.func88, Tryz.ntmps88
  go_wp2_with fail
  refine (VA.out _ HB.out.2.2).mono ?_
  rintro e w1 ⟨rfl, hb1⟩
  have B0 := Lib.hid (HB.out.1.below hb1 HB.out.1.lt)
  have B1 := Lib.hid (HB.out.2.1.below hb1 HB.out.2.1.lt)
  have HW := Lib.hid (below_step HB.out.2.2 hb1)
  clear HB hb1 VA
  by_cases hz : R = 0
  · obtain ⟨hpos0, hDP⟩ := DX.out hz
    have D := Lib.hid (hDP _ HW.out)
    have c0 : World.cell? _ _ = some (.int .i64 A) := B0.out.cell 0
    have c1 : World.cell? _ _ = some (.int .i64 B) := B0.out.cell 1
    have c2 : World.cell? _ _ = some (.int .i64 C) := B0.out.cell 2
    have c3 : World.cell? _ _ = some (.slice va cs.length vc) := B0.out.cell 3
    subst hz
    clear DX hDP
    go_wp2_with fail
    refine D.out.mono ?_
    rintro e w3 ⟨u, rfl, hown, hb3⟩
    clear c0 c1 c2 c3 B0
    obtain ⟨g, cp, rfl, _, _⟩ := hown.form hpos0
    have B2 := Lib.hid (B1.out.below hb3 B1.out.lt)
    have HW3 := Lib.hid (below_step HW.out hb3)
    have hsz1 := B1.out.lt
    have HO := Lib.hid hown
    clear hown hb3 D HW B1
    have c0 : World.cell? _ _ = some (.int .i64 0) := B2.out.cell 0
    have c1 : World.cell? _ _ = some (.int .i64 0) := B2.out.cell 1
    have c2 : World.cell? _ _ = some (.int .i64 0) := B2.out.cell 2
    have c3 : World.cell? _ _ = some (.slice none 0 0) := B2.out.cell 3
    have f0 := B2.out.frozen 0
    have f1 := B2.out.frozen 1
    have f2 := B2.out.frozen 2
    have f3 := B2.out.frozen 3
    have hlt := B2.out.lt
    go_wp2
    refine bodyPost_ret (v := .tuple #[.agg #[.int .i64 l0.a, .int .i64 l0.b, .int .i64 l0.c, .slice (some ⟨g, 0, none⟩) (l0.a * l0.c).toNat cp], .int .i64 0]) (by simp [results, Tryz.results88, go_sem, c0, c1, c2, c3]) rfl (HS.out _ _ ⟨fun _ => ⟨_, rfl, ?_⟩, fun h => absurd rfl h, ?_⟩)
    · exact OwnF.mono ((((HO.out.setOld (by simp; omega) _).setOld (by simp; omega) _).setOld (by simp; omega) _).setOld (by simp; omega) _) (by omega)
    · exact (((HW3.out.setCell (by simp) _).setCell (by simp) _).setCell (by simp) _).setCell (by simp) _
  · have hd : (R == 0) = false := beq_eq_false_iff_ne.2 hz
    have hd2 : (R != 0) = true := by rw [bne, hd]; rfl
    have HZ := Lib.hid hz
    have c0 : World.cell? _ _ = some (.int .i64 0) := B1.out.cell 0
    have c1 : World.cell? _ _ = some (.int .i64 0) := B1.out.cell 1
    have c2 : World.cell? _ _ = some (.int .i64 0) := B1.out.cell 2
    have c3 : World.cell? _ _ = some (.slice none 0 0) := B1.out.cell 3
    have f0 := B1.out.frozen 0
    have f1 := B1.out.frozen 1
    have f2 := B1.out.frozen 2
    have f3 := B1.out.frozen 3
    have hlt := B1.out.lt
    clear hz DX
    go_wp2
    refine bodyPost_ret (v := .tuple #[.agg #[.int .i64 0, .int .i64 0, .int .i64 0, .slice none 0 0], .int .i64 R]) (by simp [results, Tryz.results88, go_sem, c0, c1, c2, c3]) rfl (HS.out _ _ ⟨fun h => absurd h HZ.out, fun _ => rfl, ?_⟩)
    exact (((HW.out.setCell (by simp) _).setCell (by simp) _).setCell (by simp) _).setCell (by simp) _
end Go.Proofs.YtobolflgoljafaaGreatDoor
namespace Go.Proofs.YtobolflgoljafaaGreatDoor
open Go.RowKit

theorem tmod_zero (y n : Int) (_hn : 1 ≤ n) : (y.tmod n = 0 ↔ y % n = 0) ∧ (y % n = 0 → y.tdiv n = y / n) := by
  constructor
  · exact ⟨fun h => Int.emod_eq_zero_of_dvd (Int.dvd_of_tmod_eq_zero h), fun h => Int.tmod_eq_zero_of_dvd (Int.dvd_of_emod_eq_zero h)⟩
  · intro h
    exact Int.tdiv_eq_ediv_of_dvd (Int.dvd_of_emod_eq_zero h)
set_option maxRecDepth 20000 in
set_option maxHeartbeats 1000000 in
theorem refIn_any (l : Pt.Lat) (v : Value) (dx dy : Int) (w : World) (hv : ∃ a n c, v = .slice a n c) (h : small l) (hx : -1000000 ≤ dx) (hx2 : dx ≤ 1000000) (hy : -1000000 ≤ dy) (hy2 : dy ≤ 1000000) :
    Calls Tryz.prog 58 #[patV l v, .int .i64 dx, .int .i64 dy] w fun e w' => e = .returned (.bool (hasB l dx dy)) ∧ Below w.heap.size w w' := by
  obtain ⟨va, vn, vc, rfl⟩ := hv
  obtain ⟨t1, t2, t3, t4, t5, t6, t7⟩ := home_in_bd l h dx dy hx hx2 hy hy2
  obtain ⟨⟨a1, b1, b2, c1⟩, a2, c2⟩ := h
  obtain ⟨z1, z2⟩ := tmod_zero dy l.c c1
  have MX := Lib.hid (fun W => refModulo_any (dx - dy / l.c * l.b) l.a W a1 (by omega) (by omega) (by omega))
  have H6 : Hid ((dx - dy / l.c * l.b) % l.a = Pt.hx l dx dy) := Lib.hid rfl
  rw [H6.out] at MX
  have hE : Hid (hasB l dx dy = ((Pt.hx l dx dy == 0) && (dy % l.c == 0))) := Lib.hid rfl
  have P0 := PatAt.fresh w l (.slice va vn vc) 24
  have hw := Lib.hid ((Below.refl w.heap.size w).alloc (Nat.le_refl _) (.cells #[.int .i64 l.a, .int .i64 l.b, .int .i64 l.c, .slice va vn vc] 24))
  generalize hasB l dx dy = r at *
  generalize Pt.hx l dx dy = rx at *
  clear H6 t5
  obtain ⟨a, b, c⟩ := l
  dsimp only at *
  have hc0 : ¬ c = 0 := by omega
  have hc1 : (c == 0) = false := beq_eq_false_iff_ne.2 hc0
  by_cases hz : dy % c = 0
  · have z3 := z2 hz
    have hr : r = (rx == 0) := by rw [hE.out, hz]; simp
    have HR := Lib.hid hr
    have q0 : (dy % c == 0) = true := beq_iff_eq.2 hz
    have q1 : (dy.tmod c == 0) = true := beq_iff_eq.2 (z1.2 hz)
    have HT := Lib.hid z3
    generalize dy / c = q at *
    have g0 : IntKind.i64.wrap q = q := IntWalk.i64_in _ ⟨by omega, by omega⟩
    have g1 : IntKind.i64.wrap (q * b) = q * b := IntWalk.i64_in _ ⟨by omega, by omega⟩
    have g2 : IntKind.i64.wrap (dx - q * b) = dx - q * b := IntWalk.i64_in _ ⟨by omega, by omega⟩
    clear hz hr z1 z2 hE
    by_cases hp : 0 ≤ dy
    all_goals
      go_enter Tryz.func58, Tryz.ntmps58
      go_upto_region 1 with fail
      refine wp_region_seq [(0, true), (1, true), (2, true), (3, true), (4, true), (5, true), (6, true), (7, true), (8, true), (9, true), (10, true), (11, true), (12, true), (13, true), (14, true), (15, true), (16, true), (17, false), (18, true), (19, true), (20, true)] (fun W => PatAt W w.heap.size ⟨a, b, c⟩ (.slice va vn vc))
        (by kernel_rfl) (by kernel_rfl) (by kernel_rfl) (by kernel_rfl) (fun d _ _ _ _ h => by cases d <;> exact h) P0 (fun hS => ?_)
      repeat (first
        | (refine SeqH.take (v := ?_) rfl (by rfl) ?_ ?_; rotate_left; (· intro w hSw; (try dsimp only at hSw); obtain ⟨c0, c1, c2, c3, _⟩ := hSw; go_simp; (try with_reducible rfl)); simp only [Act.put, List.setIfInBounds_toArray, List.set_cons_zero, List.set_cons_succ])
        | (refine SeqH.skip rfl (by rfl) ?_; simp only [Act.put, List.setIfInBounds_toArray, List.set_cons_zero, List.set_cons_succ]))
      refine SeqH.step rfl (by rfl) (fun K hK => ?_)
      go_simp
      go_at_call 61
      refine (MX.out _).mono ?_
      rintro e w1 ⟨rfl, rfl⟩
      try dsimp only
      refine hK.out _ _ hS (fun _ => ?_)
      clear hK K
      try simp only [Act.put, List.setIfInBounds_toArray, List.set_cons_zero, List.set_cons_succ]
      repeat (first
        | (refine SeqH.take (v := ?_) rfl (by rfl) ?_ ?_; rotate_left; (· intro w hSw; (try dsimp only at hSw); obtain ⟨c0, c1, c2, c3, _⟩ := hSw; go_simp; (try with_reducible rfl)); simp only [Act.put, List.setIfInBounds_toArray, List.set_cons_zero, List.set_cons_succ])
        | (refine SeqH.skip rfl (by rfl) ?_; simp only [Act.put, List.setIfInBounds_toArray, List.set_cons_zero, List.set_cons_succ]))
      refine SeqH.done ?_
      go_wp2
      go_ret
      exact ⟨by rw [HR.out]; rfl, below_drewN hw.out _⟩
  · have hr : r = false := by rw [hE.out, beq_eq_false_iff_ne.2 hz]; simp
    have HR := Lib.hid hr
    have q0 : (dy % c == 0) = false := beq_eq_false_iff_ne.2 hz
    have q1 : (dy.tmod c == 0) = false := beq_eq_false_iff_ne.2 (fun e => hz (z1.1 e))
    clear hz hr z1 z2 hE MX
    by_cases hp : 0 ≤ dy
    all_goals
      go_enter Tryz.func58, Tryz.ntmps58
      go_upto_region 1 with fail
      refine wp_region_seq [(0, true), (1, true), (2, true), (3, true), (4, true), (5, true), (6, true), (7, true), (8, true), (9, true), (10, true), (11, true), (12, true), (13, true), (14, true), (15, true), (16, true), (17, false), (18, true), (19, true), (20, true)] (fun W => PatAt W w.heap.size ⟨a, b, c⟩ (.slice va vn vc))
        (by kernel_rfl) (by kernel_rfl) (by kernel_rfl) (by kernel_rfl) (fun d _ _ _ _ h => by cases d <;> exact h) P0 (fun hS => ?_)
      repeat (first
        | (refine SeqH.take (v := ?_) rfl (by rfl) ?_ ?_; rotate_left; (· intro w hSw; (try dsimp only at hSw); obtain ⟨c0, c1, c2, c3, _⟩ := hSw; go_simp; (try with_reducible rfl)); simp only [Act.put, List.setIfInBounds_toArray, List.set_cons_zero, List.set_cons_succ])
        | (refine SeqH.skip rfl (by rfl) ?_; simp only [Act.put, List.setIfInBounds_toArray, List.set_cons_zero, List.set_cons_succ]))
      refine SeqH.pass rfl (by rfl) hS ?_
      try simp only [Act.put, List.setIfInBounds_toArray, List.set_cons_zero, List.set_cons_succ]
      repeat (first
        | (refine SeqH.take (v := ?_) rfl (by rfl) ?_ ?_; rotate_left; (· intro w hSw; (try dsimp only at hSw); obtain ⟨c0, c1, c2, c3, _⟩ := hSw; go_simp; (try with_reducible rfl)); simp only [Act.put, List.setIfInBounds_toArray, List.set_cons_zero, List.set_cons_succ])
        | (refine SeqH.skip rfl (by rfl) ?_; simp only [Act.put, List.setIfInBounds_toArray, List.set_cons_zero, List.set_cons_succ]))
      refine SeqH.done ?_
      go_wp2
      go_ret
      exact ⟨by rw [HR.out]; rfl, below_drewN hw.out _⟩
end Go.Proofs.YtobolflgoljafaaGreatDoor
