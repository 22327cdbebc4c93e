/- Whether a seam lies in a doorway: of the reference. -/
import Derived.Test.YtpobkdbnldogcaaFl24
import Derived.Test.YtpobkdbnldogcaaFlRooms
namespace Go.Proofs.Ytpobkdbnldogcaa
open Go.RowKit

/-- What a round of the search looks at. -/
def InS (B0 : Nat) (u v : Value) (BD : Nat) (d : Fl.D) (b o : Nat) (X : Int) (W : World) : Prop :=
  RmB B0 u v W ∧ ((W.cell? ⟨BD, 0, none⟩ = some (.int .i64 d.a) ∧ W.cell? ⟨BD, 1, none⟩ = some (.int .i64 d.b) ∧ W.cell? ⟨BD, 2, none⟩ = some (.int .i64 d.y)) ∧ BD < W.heap.size) ∧ (W.cell? ⟨b, o, none⟩ = some (.int .i64 X) ∧ b < W.heap.size)
theorem InS.below {B0 BD b o : Nat} {u v : Value} {d : Fl.D} {X : Int} {W W2 : World} (h : InS B0 u v BD d b o X W) (hb : Below W.heap.size W W2) : InS B0 u v BD d b o X W2 :=
  ⟨h.1.below hb h.1.2, ⟨⟨(hb.cell (p := ⟨BD, 0, none⟩) h.2.1.2).trans h.2.1.1.1, (hb.cell (p := ⟨BD, 1, none⟩) h.2.1.2).trans h.2.1.1.2.1, (hb.cell (p := ⟨BD, 2, none⟩) h.2.1.2).trans h.2.1.1.2.2⟩, Nat.lt_of_lt_of_le h.2.1.2 hb.size⟩,
    (hb.cell (p := ⟨b, o, none⟩) h.2.2.2).trans h.2.2.1, Nat.lt_of_lt_of_le h.2.2.2 hb.size⟩
set_option maxRecDepth 20000 in
set_option maxHeartbeats 8000000 in
theorem rinDoor_any (rv dv : Value) (rs : List Fl.R) (ds : List Fl.D) (n o : Int) (w : World) (hv : Rects w rv rs) (hd : Doors w dv ds) (hl : rs.length ≤ 1000) (hl2 : ds.length ≤ 1000) (hok : ∀ k (hk : k < rs.length), Fl.okR rs[k] = true) (hdo : ∀ k (hk : k < ds.length), Fl.okD ds[k] = true) (hn0 : 1 ≤ n) (hn1 : n ≤ 20) (ho0 : 0 ≤ o) (ho1 : o < n) :
    Calls Try.prog 70 #[roomV rv dv, .int .i64 n, .int .i64 o] w fun e w' => e = .returned (.bool (Fl.indoor rs ds (Fl.smL rs n o))) ∧ Below w.heap.size w w' := by
  have HW := Lib.hid (And.intro (BlockAt.new w #[rv, dv] RoomT) (below_alloc2 (Below.refl w.heap.size w) (.cells #[rv, dv] RoomT)))
  have CS := Lib.hid (rseams_any rv dv rs n o _ (hv.all HW.out.2) hl hok hn0 hn1 ho0 ho1)
  have FI := Lib.hid (fun x y W (hW : Below w.heap.size w W) h0 h1 => rcross_any rv dv rs x y W (hv.all hW) hl hok h0 h1)
  have HX := Lib.hid (fun k (hk : k < (Fl.smL rs n o).length) => Fl.smL_x (rs := rs) hn0 ho0 ho1 (List.getElem_mem hk))
  have hLL := Fl.smL_len (rs := rs) hn0 hn1 ho0 ho1
  have HYES := Lib.hid (fun i k (hi : i < (Fl.smL rs n o).length) (hk : k < ds.length) h => Fl.indoor_yes (rs := rs) (ds := ds) (l := Fl.smL rs n o) hi hk h)
  have HNO := Lib.hid (Fl.indoor_no (rs := rs) (ds := ds) (l := Fl.smL rs n o))
  have HOD := Lib.hid (fun k (hk : k < ds.length) => Fl.okD_iff.1 (hdo k hk))
  obtain ⟨ra, rc, rfl⟩ := hv.form
  obtain ⟨da, dc, rfl, _, hdk⟩ := hd
  have HDK := Lib.hid hdk
  have x0 : World.cell? _ _ = some (.slice ra rs.length rc) := HW.out.1.cell 0
  have x1 : World.cell? _ _ = some (.slice da ds.length dc) := HW.out.1.cell 1
  generalize Fl.smL rs n o = L at *
  generalize Fl.indoor rs ds L = E at *
  clear hv hok hdo hdk
  go_enter Try.func70, Try.ntmps70
  go_wp2_with fail
  refine CS.out.mono ?_
  rintro e w1 ⟨ua, uc, rfl, ho, hb1⟩
  obtain ⟨ua', uc', hu, huc, huk⟩ := OwnG.rows (cs := intL) (fun _ => rfl) ho
  simp only [Value.slice.injEq, true_and] at hu
  obtain ⟨hua, huc2⟩ := hu
  subst hua
  subst huc2
  have HSK := Lib.hid huk
  have HB1 := Lib.hid (And.intro (HW.out.1.below hb1 HW.out.1.lt) (below_step HW.out.2 hb1))
  have HI1 := Lib.hid (Below.refl w1.heap.size w1)
  clear ho hb1 huk x0 x1 CS HW
  go_wp2
  go_loopw [8] (fun t wr => ∃ k : Nat, k ≤ L.length ∧ t = .int .i64 k ∧ Hid ((∀ i (hi : i < L.length), i < k → ∀ m (hm : m < ds.length), Fl.indoorX rs L[i] ds[m] = false) ∧ Below w1.heap.size w1 wr)) (fun t _ => L.length - (intOf t).toNat)
  case atStart => exact ⟨0, Nat.zero_le _, rfl, Lib.hid ⟨fun i _ h => absurd h (Nat.not_lt_zero _), HI1.out⟩⟩
  case round =>
    obtain ⟨k, hk, rfl, hg⟩ := hrel
    clear HI1
    by_cases hlt : k < L.length
    · have HSKk := Lib.hid (HSK.out k hlt)
      have hX := HX.out k hlt
      have HYk := Lib.hid (fun m (hm : m < ds.length) h => HYES.out k m hlt hm h)
      have HNk : Hid ((∀ m (hm : m < ds.length), Fl.indoorX rs L[k] ds[m] = false) → ∀ i (hi : i < L.length), i < k + 1 → ∀ m (hm : m < ds.length), Fl.indoorX rs L[i] ds[m] = false) := Lib.hid fun h i hi h2 m hm => by
        by_cases e : i = k
        · subst e; exact h m hm
        · exact hg.out.1 i hi (by omega) m hm
      have HG0 := Lib.hid hg.out.2
      have hdk1 : decide ((k : Int) < (L.length : Int)) = true := decide_eq_true (by omega)
      have hdk2 : decide (k < L.length) = true := decide_eq_true hlt
      clear hg
      generalize L[k] = X at *
      go_wp2
      go_loopw [9] (fun t wr => ∃ m : Nat, m ≤ ds.length ∧ t = .int .i64 m ∧ Hid ((∀ i (hi : i < ds.length), i < m → Fl.indoorX rs X ds[i] = false) ∧ Below w1.heap.size w1 wr)) (fun t _ => ds.length - (intOf t).toNat)
      case atStart => exact ⟨0, Nat.zero_le _, rfl, Lib.hid ⟨fun i _ h => absurd h (Nat.not_lt_zero _), HG0.out⟩⟩
      case round =>
        obtain ⟨m, hm, rfl, hg⟩ := hrel
        clear HG0
        have hRB := HB1.out.1.below hg.out.2 HB1.out.1.lt
        have x1 : World.cell? _ _ = some (.slice da ds.length dc) := hRB.cell 1
        by_cases hml : m < ds.length
        · obtain ⟨b, off, hua, hb, hr⟩ := HSKk.out
          subst hua
          obtain ⟨b2, off2, hda, hb2, hr2⟩ := HDK.out m hml
          subst hda
          obtain ⟨c0, c1, c2⟩ := door_at (hr2.below (below_step HB1.out.2 hg.out.2) hb2)
          obtain ⟨d1, d2, d3, d4, d5⟩ := HOD.out m hml
          have HI : Hid (Fl.indoorX rs X ds[m] = false → ∀ i (hi : i < ds.length), i < m + 1 → Fl.indoorX rs X ds[i] = false) := Lib.hid fun h i hi h2 => by
            by_cases e : i = m
            · subst e; exact h
            · exact hg.out.1 i hi (by omega)
          have HY1 := Lib.hid (HYk.out m hml)
          have HG := Lib.hid (below_drewN (below_alloc2 hg.out.2 (.cells (doorA ds[m]) DoorT)) 1)
          have hL0 := int_at (hr.below (below_alloc2 hg.out.2 (.cells (doorA ds[m]) DoorT)) hb)
          rw [Nat.mul_one] at hL0
          have HSx := Lib.hid (show InS w.heap.size (.slice ra rs.length rc) (.slice (some ⟨b2, off2, none⟩) ds.length dc) wr.heap.size ds[m] b (off + k) X (wr.alloc (.cells (doorA ds[m]) DoorT)).drew from
            ⟨⟨⟨((HB1.out.1.below (below_alloc2 hg.out.2 (.cells (doorA ds[m]) DoorT)) HB1.out.1.lt)).cell 0, ((HB1.out.1.below (below_alloc2 hg.out.2 (.cells (doorA ds[m]) DoorT)) HB1.out.1.lt)).cell 1⟩, (HB1.out.1.below (below_alloc2 hg.out.2 (.cells (doorA ds[m]) DoorT)) HB1.out.1.lt).lt⟩,
             ⟨⟨(BlockAt.new wr (doorA ds[m]) DoorT).cell 0, (BlockAt.new wr (doorA ds[m]) DoorT).cell 1, (BlockAt.new wr (doorA ds[m]) DoorT).cell 2⟩, (BlockAt.new wr (doorA ds[m]) DoorT).lt⟩, hL0, Nat.lt_of_lt_of_le hb (below_alloc2 hg.out.2 (.cells (doorA ds[m]) DoorT)).size⟩)
          have HXA := Lib.hid (Fl.inx_a (rs := rs) (x := X) (d := ds[m]))
          have HXB := Lib.hid (Fl.inx_b (rs := rs) (x := X) (d := ds[m]))
          have HXC := Lib.hid (Fl.inx_c (rs := rs) (x := X) (d := ds[m]))
          clear hr hr2 hg hL0 hRB
          generalize Fl.indoorX rs X ds[m] = o at *
          generalize ds[m] = d at *
          have hwy : IntKind.i64.wrap (d.y - 1) = d.y - 1 := IntWalk.i64_in _ ⟨by omega, by omega⟩
          have hdm1 : decide ((m : Int) < (ds.length : Int)) = true := decide_eq_true (by omega)
          have hdm2 : decide (m < ds.length) = true := decide_eq_true hml
          have hk0 : (0 : Int) ≤ k := by omega
          have HC1 := Lib.hid (fun W hW => FI.out X d.y W hW (by omega) (by omega))
          by_cases q1 : d.a < X
          case neg =>
            have HJ := Lib.hid (HI.out (HXA.out q1))
            have hq1 : decide (d.a < X) = false := decide_eq_false q1
            clear HXA HXB HXC HI HY1 q1
            go_upto_region 9 with fail
            refine wp_region_seq [(0, true), (1, true), (2, true), (3, true), (4, true), (5, true), (6, true), (7, true), (8, true), (9, true), (10, true), (11, true), (12, true), (13, true), (14, true), (15, true), (16, true), (17, true), (18, true), (19, true), (20, true), (21, true), (22, true), (23, true), (24, false), (25, true), (26, true), (27, true), (28, true), (29, true), (30, true), (31, true), (32, true), (33, true), (34, false), (35, true), (36, true)] (InS w.heap.size (.slice ra rs.length rc) (.slice (some ⟨b2, off2, none⟩) ds.length dc) wr.heap.size d b (off + k) X)
              (by kernel_rfl) (by kernel_rfl) (by kernel_rfl) (by kernel_rfl) (fun d _ _ _ _ h => by cases d <;> exact h) HSx.out (fun _ => ?_)
            repeat (first | (refine SeqH.take (v := ?_) rfl (by rfl) ?_ ?_; rotate_left; (· intro w hSw; (try dsimp only at hSw); obtain ⟨⟨⟨e0, e1⟩, _⟩, ⟨⟨g0, g1, g2⟩, _⟩, ⟨f0, _⟩⟩ := hSw; go_simp; (try with_reducible rfl)); simp only [Act.put, List.setIfInBounds_toArray, List.set_cons_zero, List.set_cons_succ]) | (refine SeqH.skip rfl (by rfl) ?_; simp only [Act.put, List.setIfInBounds_toArray, List.set_cons_zero, List.set_cons_succ]))
            try (refine SeqH.pass rfl (by rfl) HSx.out ?_; simp only [Act.put, List.setIfInBounds_toArray, List.set_cons_zero, List.set_cons_succ])
            repeat (first | (refine SeqH.take (v := ?_) rfl (by rfl) ?_ ?_; rotate_left; (· intro w hSw; (try dsimp only at hSw); obtain ⟨⟨⟨e0, e1⟩, _⟩, ⟨⟨g0, g1, g2⟩, _⟩, ⟨f0, _⟩⟩ := hSw; go_simp; (try with_reducible rfl)); simp only [Act.put, List.setIfInBounds_toArray, List.set_cons_zero, List.set_cons_succ]) | (refine SeqH.skip rfl (by rfl) ?_; simp only [Act.put, List.setIfInBounds_toArray, List.set_cons_zero, List.set_cons_succ]))
            try (refine SeqH.pass rfl (by rfl) HSx.out ?_; simp only [Act.put, List.setIfInBounds_toArray, List.set_cons_zero, List.set_cons_succ])
            repeat (first | (refine SeqH.take (v := ?_) rfl (by rfl) ?_ ?_; rotate_left; (· intro w hSw; (try dsimp only at hSw); obtain ⟨⟨⟨e0, e1⟩, _⟩, ⟨⟨g0, g1, g2⟩, _⟩, ⟨f0, _⟩⟩ := hSw; go_simp; (try with_reducible rfl)); simp only [Act.put, List.setIfInBounds_toArray, List.set_cons_zero, List.set_cons_succ]) | (refine SeqH.skip rfl (by rfl) ?_; simp only [Act.put, List.setIfInBounds_toArray, List.set_cons_zero, List.set_cons_succ]))
            refine SeqH.done ?_
            have HGZ := Lib.hid HG.out
            clear HSx HG
            go_wp2
            go_roundw
            case rel => exact ⟨m + 1, by omega, by go_num, Lib.hid ⟨HJ.out, HGZ.out⟩⟩
            case measure => simp [intOf]; omega
          have hq1 : decide (d.a < X) = true := decide_eq_true q1
          by_cases q2 : X < d.b
          case neg =>
            have HJ := Lib.hid (HI.out (HXB.out q2))
            have hq2 : decide (X < d.b) = false := decide_eq_false q2
            clear HXA HXB HXC HI HY1 q2
            go_upto_region 9 with fail
            refine wp_region_seq [(0, true), (1, true), (2, true), (3, true), (4, true), (5, true), (6, true), (7, true), (8, true), (9, true), (10, true), (11, true), (12, true), (13, true), (14, true), (15, true), (16, true), (17, true), (18, true), (19, true), (20, true), (21, true), (22, true), (23, true), (24, false), (25, true), (26, true), (27, true), (28, true), (29, true), (30, true), (31, true), (32, true), (33, true), (34, false), (35, true), (36, true)] (InS w.heap.size (.slice ra rs.length rc) (.slice (some ⟨b2, off2, none⟩) ds.length dc) wr.heap.size d b (off + k) X)
              (by kernel_rfl) (by kernel_rfl) (by kernel_rfl) (by kernel_rfl) (fun d _ _ _ _ h => by cases d <;> exact h) HSx.out (fun _ => ?_)
            repeat (first | (refine SeqH.take (v := ?_) rfl (by rfl) ?_ ?_; rotate_left; (· intro w hSw; (try dsimp only at hSw); obtain ⟨⟨⟨e0, e1⟩, _⟩, ⟨⟨g0, g1, g2⟩, _⟩, ⟨f0, _⟩⟩ := hSw; go_simp; (try with_reducible rfl)); simp only [Act.put, List.setIfInBounds_toArray, List.set_cons_zero, List.set_cons_succ]) | (refine SeqH.skip rfl (by rfl) ?_; simp only [Act.put, List.setIfInBounds_toArray, List.set_cons_zero, List.set_cons_succ]))
            try (refine SeqH.pass rfl (by rfl) HSx.out ?_; simp only [Act.put, List.setIfInBounds_toArray, List.set_cons_zero, List.set_cons_succ])
            repeat (first | (refine SeqH.take (v := ?_) rfl (by rfl) ?_ ?_; rotate_left; (· intro w hSw; (try dsimp only at hSw); obtain ⟨⟨⟨e0, e1⟩, _⟩, ⟨⟨g0, g1, g2⟩, _⟩, ⟨f0, _⟩⟩ := hSw; go_simp; (try with_reducible rfl)); simp only [Act.put, List.setIfInBounds_toArray, List.set_cons_zero, List.set_cons_succ]) | (refine SeqH.skip rfl (by rfl) ?_; simp only [Act.put, List.setIfInBounds_toArray, List.set_cons_zero, List.set_cons_succ]))
            try (refine SeqH.pass rfl (by rfl) HSx.out ?_; simp only [Act.put, List.setIfInBounds_toArray, List.set_cons_zero, List.set_cons_succ])
            repeat (first | (refine SeqH.take (v := ?_) rfl (by rfl) ?_ ?_; rotate_left; (· intro w hSw; (try dsimp only at hSw); obtain ⟨⟨⟨e0, e1⟩, _⟩, ⟨⟨g0, g1, g2⟩, _⟩, ⟨f0, _⟩⟩ := hSw; go_simp; (try with_reducible rfl)); simp only [Act.put, List.setIfInBounds_toArray, List.set_cons_zero, List.set_cons_succ]) | (refine SeqH.skip rfl (by rfl) ?_; simp only [Act.put, List.setIfInBounds_toArray, List.set_cons_zero, List.set_cons_succ]))
            refine SeqH.done ?_
            have HGZ := Lib.hid HG.out
            clear HSx HG
            go_wp2
            go_roundw
            case rel => exact ⟨m + 1, by omega, by go_num, Lib.hid ⟨HJ.out, HGZ.out⟩⟩
            case measure => simp [intOf]; omega
          have hq2 : decide (X < d.b) = true := decide_eq_true q2
          have HO := Lib.hid (HXC.out q1 q2)
          clear HXA HXB HXC
          cases hj : Fl.jn rs X d.y
          case true =>
            rw [hj] at HC1 HO
            have HE := Lib.hid (HY1.out HO.out)
            clear hj HI HY1 HO
            go_upto_region 9 with fail
            refine wp_region_seq [(0, true), (1, true), (2, true), (3, true), (4, true), (5, true), (6, true), (7, true), (8, true), (9, true), (10, true), (11, true), (12, true), (13, true), (14, true), (15, true), (16, true), (17, true), (18, true), (19, true), (20, true), (21, true), (22, true), (23, true), (24, false), (25, true), (26, true), (27, true), (28, true), (29, true), (30, true), (31, true), (32, true), (33, true), (34, false), (35, true), (36, true)] (InS w.heap.size (.slice ra rs.length rc) (.slice (some ⟨b2, off2, none⟩) ds.length dc) wr.heap.size d b (off + k) X)
              (by kernel_rfl) (by kernel_rfl) (by kernel_rfl) (by kernel_rfl) (fun d _ _ _ _ h => by cases d <;> exact h) HSx.out (fun _ => ?_)
            repeat (first | (refine SeqH.take (v := ?_) rfl (by rfl) ?_ ?_; rotate_left; (· intro w hSw; (try dsimp only at hSw); obtain ⟨⟨⟨e0, e1⟩, _⟩, ⟨⟨g0, g1, g2⟩, _⟩, ⟨f0, _⟩⟩ := hSw; go_simp; (try with_reducible rfl)); simp only [Act.put, List.setIfInBounds_toArray, List.set_cons_zero, List.set_cons_succ]) | (refine SeqH.skip rfl (by rfl) ?_; simp only [Act.put, List.setIfInBounds_toArray, List.set_cons_zero, List.set_cons_succ]))
            refine SeqH.step rfl (by rfl) (fun K hK => ?_)
            go_simp
            go_at_call 116
            refine (HC1.out _ (below_step HB1.out.2 HG.out)).mono ?_
            rintro e w3 ⟨rfl, hb3⟩
            try dsimp only
            refine hK.out _ _ (HSx.out.below hb3) (fun _ => ?_)
            have HSx1 := Lib.hid (HSx.out.below hb3)
            have HG1 := Lib.hid (below_step HG.out hb3)
            clear hK K hb3 HSx HG
            try simp only [Act.put, List.setIfInBounds_toArray, List.set_cons_zero, List.set_cons_succ]
            repeat (first | (refine SeqH.take (v := ?_) rfl (by rfl) ?_ ?_; rotate_left; (· intro w hSw; (try dsimp only at hSw); obtain ⟨⟨⟨e0, e1⟩, _⟩, ⟨⟨g0, g1, g2⟩, _⟩, ⟨f0, _⟩⟩ := hSw; go_simp; (try with_reducible rfl)); simp only [Act.put, List.setIfInBounds_toArray, List.set_cons_zero, List.set_cons_succ]) | (refine SeqH.skip rfl (by rfl) ?_; simp only [Act.put, List.setIfInBounds_toArray, List.set_cons_zero, List.set_cons_succ]))
            try (refine SeqH.pass rfl (by rfl) HSx1.out ?_; simp only [Act.put, List.setIfInBounds_toArray, List.set_cons_zero, List.set_cons_succ])
            repeat (first | (refine SeqH.take (v := ?_) rfl (by rfl) ?_ ?_; rotate_left; (· intro w hSw; (try dsimp only at hSw); obtain ⟨⟨⟨e0, e1⟩, _⟩, ⟨⟨g0, g1, g2⟩, _⟩, ⟨f0, _⟩⟩ := hSw; go_simp; (try with_reducible rfl)); simp only [Act.put, List.setIfInBounds_toArray, List.set_cons_zero, List.set_cons_succ]) | (refine SeqH.skip rfl (by rfl) ?_; simp only [Act.put, List.setIfInBounds_toArray, List.set_cons_zero, List.set_cons_succ]))
            refine SeqH.done ?_
            have HGZ := Lib.hid HG1.out
            clear HSx1 HG1
            go_wp2
            go_ret
            exact ⟨by rw [HE.out]; rfl, below_step HB1.out.2 HGZ.out⟩
          rw [hj] at HC1 HO
          clear hj
          have HOf : Hid (o = Fl.jn rs X (d.y - 1)) := Lib.hid HO.out
          have HF2 := Lib.hid (fun W hW => FI.out X (d.y - 1) W hW (by omega) (by omega))
          generalize Fl.jn rs X (d.y - 1) = o2 at *
          clear HO
          have hoo : o2 = true ∨ o2 = false := by cases o2 <;> simp
          rcases hoo with h | h
          · have HE := Lib.hid (HY1.out (HOf.out.trans h))
            rw [h] at HF2
            clear h HI HY1 HOf
            go_upto_region 9 with fail
            refine wp_region_seq [(0, true), (1, true), (2, true), (3, true), (4, true), (5, true), (6, true), (7, true), (8, true), (9, true), (10, true), (11, true), (12, true), (13, true), (14, true), (15, true), (16, true), (17, true), (18, true), (19, true), (20, true), (21, true), (22, true), (23, true), (24, false), (25, true), (26, true), (27, true), (28, true), (29, true), (30, true), (31, true), (32, true), (33, true), (34, false), (35, true), (36, true)] (InS w.heap.size (.slice ra rs.length rc) (.slice (some ⟨b2, off2, none⟩) ds.length dc) wr.heap.size d b (off + k) X)
              (by kernel_rfl) (by kernel_rfl) (by kernel_rfl) (by kernel_rfl) (fun d _ _ _ _ h => by cases d <;> exact h) HSx.out (fun _ => ?_)
            repeat (first | (refine SeqH.take (v := ?_) rfl (by rfl) ?_ ?_; rotate_left; (· intro w hSw; (try dsimp only at hSw); obtain ⟨⟨⟨e0, e1⟩, _⟩, ⟨⟨g0, g1, g2⟩, _⟩, ⟨f0, _⟩⟩ := hSw; go_simp; (try with_reducible rfl)); simp only [Act.put, List.setIfInBounds_toArray, List.set_cons_zero, List.set_cons_succ]) | (refine SeqH.skip rfl (by rfl) ?_; simp only [Act.put, List.setIfInBounds_toArray, List.set_cons_zero, List.set_cons_succ]))
            refine SeqH.step rfl (by rfl) (fun K hK => ?_)
            go_simp
            go_at_call 116
            refine (HC1.out _ (below_step HB1.out.2 HG.out)).mono ?_
            rintro e w3 ⟨rfl, hb3⟩
            try dsimp only
            refine hK.out _ _ (HSx.out.below hb3) (fun _ => ?_)
            have HSx1 := Lib.hid (HSx.out.below hb3)
            have HG1 := Lib.hid (below_step HG.out hb3)
            clear hK K hb3 HSx HG
            try simp only [Act.put, List.setIfInBounds_toArray, List.set_cons_zero, List.set_cons_succ]
            repeat (first | (refine SeqH.take (v := ?_) rfl (by rfl) ?_ ?_; rotate_left; (· intro w hSw; (try dsimp only at hSw); obtain ⟨⟨⟨e0, e1⟩, _⟩, ⟨⟨g0, g1, g2⟩, _⟩, ⟨f0, _⟩⟩ := hSw; go_simp; (try with_reducible rfl)); simp only [Act.put, List.setIfInBounds_toArray, List.set_cons_zero, List.set_cons_succ]) | (refine SeqH.skip rfl (by rfl) ?_; simp only [Act.put, List.setIfInBounds_toArray, List.set_cons_zero, List.set_cons_succ]))
            refine SeqH.step rfl (by rfl) (fun K hK => ?_)
            go_simp
            go_at_call 116
            refine (HF2.out _ (below_step HB1.out.2 HG1.out)).mono ?_
            rintro e w4 ⟨rfl, hb3⟩
            try dsimp only
            refine hK.out _ _ (HSx1.out.below hb3) (fun _ => ?_)
            have HSx2 := Lib.hid (HSx1.out.below hb3)
            have HG2 := Lib.hid (below_step HG1.out hb3)
            clear hK K hb3 HSx1 HG1
            try simp only [Act.put, List.setIfInBounds_toArray, List.set_cons_zero, List.set_cons_succ]
            repeat (first | (refine SeqH.take (v := ?_) rfl (by rfl) ?_ ?_; rotate_left; (· intro w hSw; (try dsimp only at hSw); obtain ⟨⟨⟨e0, e1⟩, _⟩, ⟨⟨g0, g1, g2⟩, _⟩, ⟨f0, _⟩⟩ := hSw; go_simp; (try with_reducible rfl)); simp only [Act.put, List.setIfInBounds_toArray, List.set_cons_zero, List.set_cons_succ]) | (refine SeqH.skip rfl (by rfl) ?_; simp only [Act.put, List.setIfInBounds_toArray, List.set_cons_zero, List.set_cons_succ]))
            refine SeqH.done ?_
            have HGZ := Lib.hid HG2.out
            clear HSx2 HG2
            go_wp2
            go_ret
            exact ⟨by rw [HE.out]; rfl, below_step HB1.out.2 HGZ.out⟩
          · have HJ := Lib.hid (HI.out (HOf.out.trans h))
            rw [h] at HF2
            clear h HI HY1 HOf
            go_upto_region 9 with fail
            refine wp_region_seq [(0, true), (1, true), (2, true), (3, true), (4, true), (5, true), (6, true), (7, true), (8, true), (9, true), (10, true), (11, true), (12, true), (13, true), (14, true), (15, true), (16, true), (17, true), (18, true), (19, true), (20, true), (21, true), (22, true), (23, true), (24, false), (25, true), (26, true), (27, true), (28, true), (29, true), (30, true), (31, true), (32, true), (33, true), (34, false), (35, true), (36, true)] (InS w.heap.size (.slice ra rs.length rc) (.slice (some ⟨b2, off2, none⟩) ds.length dc) wr.heap.size d b (off + k) X)
              (by kernel_rfl) (by kernel_rfl) (by kernel_rfl) (by kernel_rfl) (fun d _ _ _ _ h => by cases d <;> exact h) HSx.out (fun _ => ?_)
            repeat (first | (refine SeqH.take (v := ?_) rfl (by rfl) ?_ ?_; rotate_left; (· intro w hSw; (try dsimp only at hSw); obtain ⟨⟨⟨e0, e1⟩, _⟩, ⟨⟨g0, g1, g2⟩, _⟩, ⟨f0, _⟩⟩ := hSw; go_simp; (try with_reducible rfl)); simp only [Act.put, List.setIfInBounds_toArray, List.set_cons_zero, List.set_cons_succ]) | (refine SeqH.skip rfl (by rfl) ?_; simp only [Act.put, List.setIfInBounds_toArray, List.set_cons_zero, List.set_cons_succ]))
            refine SeqH.step rfl (by rfl) (fun K hK => ?_)
            go_simp
            go_at_call 116
            refine (HC1.out _ (below_step HB1.out.2 HG.out)).mono ?_
            rintro e w3 ⟨rfl, hb3⟩
            try dsimp only
            refine hK.out _ _ (HSx.out.below hb3) (fun _ => ?_)
            have HSx1 := Lib.hid (HSx.out.below hb3)
            have HG1 := Lib.hid (below_step HG.out hb3)
            clear hK K hb3 HSx HG
            try simp only [Act.put, List.setIfInBounds_toArray, List.set_cons_zero, List.set_cons_succ]
            repeat (first | (refine SeqH.take (v := ?_) rfl (by rfl) ?_ ?_; rotate_left; (· intro w hSw; (try dsimp only at hSw); obtain ⟨⟨⟨e0, e1⟩, _⟩, ⟨⟨g0, g1, g2⟩, _⟩, ⟨f0, _⟩⟩ := hSw; go_simp; (try with_reducible rfl)); simp only [Act.put, List.setIfInBounds_toArray, List.set_cons_zero, List.set_cons_succ]) | (refine SeqH.skip rfl (by rfl) ?_; simp only [Act.put, List.setIfInBounds_toArray, List.set_cons_zero, List.set_cons_succ]))
            refine SeqH.step rfl (by rfl) (fun K hK => ?_)
            go_simp
            go_at_call 116
            refine (HF2.out _ (below_step HB1.out.2 HG1.out)).mono ?_
            rintro e w4 ⟨rfl, hb3⟩
            try dsimp only
            refine hK.out _ _ (HSx1.out.below hb3) (fun _ => ?_)
            have HSx2 := Lib.hid (HSx1.out.below hb3)
            have HG2 := Lib.hid (below_step HG1.out hb3)
            clear hK K hb3 HSx1 HG1
            try simp only [Act.put, List.setIfInBounds_toArray, List.set_cons_zero, List.set_cons_succ]
            repeat (first | (refine SeqH.take (v := ?_) rfl (by rfl) ?_ ?_; rotate_left; (· intro w hSw; (try dsimp only at hSw); obtain ⟨⟨⟨e0, e1⟩, _⟩, ⟨⟨g0, g1, g2⟩, _⟩, ⟨f0, _⟩⟩ := hSw; go_simp; (try with_reducible rfl)); simp only [Act.put, List.setIfInBounds_toArray, List.set_cons_zero, List.set_cons_succ]) | (refine SeqH.skip rfl (by rfl) ?_; simp only [Act.put, List.setIfInBounds_toArray, List.set_cons_zero, List.set_cons_succ]))
            refine SeqH.done ?_
            have HGZ := Lib.hid HG2.out
            clear HSx2 HG2
            go_wp2
            go_roundw
            case rel => exact ⟨m + 1, by omega, by go_num, Lib.hid ⟨HJ.out, HGZ.out⟩⟩
            case measure => simp [intOf]; omega
        · have HJ := Lib.hid (HNk.out fun i hi => hg.out.1 i hi (by omega))
          have HG := Lib.hid hg.out.2
          clear hg hRB
          go_wp2
          go_roundw
          case rel => exact ⟨k + 1, by omega, by go_num, Lib.hid ⟨HJ.out, HG.out⟩⟩
          case measure => simp [intOf]; omega
    · have HE := Lib.hid (HNO.out fun i hi m hm => hg.out.1 i hi (by omega) m hm)
      have HG := Lib.hid (below_step HB1.out.2 hg.out.2)
      clear hg
      go_wp2
      go_ret
      exact ⟨by rw [HE.out]; rfl, HG.out⟩
end Go.Proofs.Ytpobkdbnldogcaa
