/- Whether a seam lies in a doorway: of the program; Seams and InDoor of the program. -/
import Derived.Test.YtpobkdbnldogcaaFl21
namespace Go.Proofs.Ytpobkdbnldogcaa
open Go.RowKit

theorem Fl.inx_a {rs : List Fl.R} {x : Int} {d : Fl.D} (h : ¬ d.a < x) : Fl.indoorX rs x d = false := by unfold Fl.indoorX; rw [decide_eq_false h]; rfl
theorem Fl.inx_b {rs : List Fl.R} {x : Int} {d : Fl.D} (h : ¬ x < d.b) : Fl.indoorX rs x d = false := by unfold Fl.indoorX; rw [decide_eq_false h]; simp
theorem Fl.inx_c {rs : List Fl.R} {x : Int} {d : Fl.D} (h1 : d.a < x) (h2 : x < d.b) : Fl.indoorX rs x d = (Fl.jn rs x d.y || Fl.jn rs x (d.y - 1)) := by unfold Fl.indoorX; rw [decide_eq_true h1, decide_eq_true h2]; rfl
abbrev doorA (d : Fl.D) : Array Value := #[.int .i64 d.a, .int .i64 d.b, .int .i64 d.y]
abbrev DoorT : TypeId := 107
set_option maxRecDepth 20000 in
set_option maxHeartbeats 4000000 in
theorem inDoor_any (rv dv : Value) (rs : List Fl.R) (ds : List Fl.D) (n o : Int) (w : World) (hv : Rects w rv rs) (hd : Doors w dv ds) (hl : rs.length ≤ 1000) (hl2 : ds.length ≤ 1000) (hok : ∀ k (hk : k < rs.length), Fl.okR rs[k] = true) (hdo : ∀ k (hk : k < ds.length), Fl.okD ds[k] = true) (hn0 : 1 ≤ n) (hn1 : n ≤ 20) (ho0 : 0 ≤ o) (ho1 : o < n) :
    Calls Try.prog 69 #[roomV rv dv, .int .i64 n, .int .i64 o] w fun e w' => e = .returned (.bool (Fl.indoor rs ds (Fl.smL rs n o))) ∧ Below w.heap.size w w' := by
  have HW := Lib.hid (And.intro (BlockAt.new w #[rv, dv] RoomT) (below_alloc2 (Below.refl w.heap.size w) (.cells #[rv, dv] RoomT)))
  have CS := Lib.hid (seams_any rv dv rs n o _ (hv.all HW.out.2) hl hok hn0 hn1 ho0 ho1)
  have FI := Lib.hid (fun x y W (hW : Below w.heap.size w W) h0 h1 => joins_any rv dv rs x y W (hv.all hW) hl hok h0 h1)
  have HX := Lib.hid (fun k (hk : k < (Fl.smL rs n o).length) => Fl.smL_x (rs := rs) hn0 ho0 ho1 (List.getElem_mem hk))
  have hLL := Fl.smL_len (rs := rs) hn0 hn1 ho0 ho1
  have HYES := Lib.hid (fun i k (hi : i < (Fl.smL rs n o).length) (hk : k < ds.length) h => Fl.indoor_yes (rs := rs) (ds := ds) (l := Fl.smL rs n o) hi hk h)
  have HNO := Lib.hid (Fl.indoor_no (rs := rs) (ds := ds) (l := Fl.smL rs n o))
  have HOD := Lib.hid (fun k (hk : k < ds.length) => Fl.okD_iff.1 (hdo k hk))
  obtain ⟨ra, rc, rfl⟩ := hv.form
  obtain ⟨da, dc, rfl, _, hdk⟩ := hd
  have HDK := Lib.hid hdk
  have x0 : World.cell? _ _ = some (.slice ra rs.length rc) := HW.out.1.cell 0
  have x1 : World.cell? _ _ = some (.slice da ds.length dc) := HW.out.1.cell 1
  generalize Fl.smL rs n o = L at *
  generalize Fl.indoor rs ds L = E at *
  clear hv hok hdo hdk
  go_enter Try.func69, Try.ntmps69
  go_wp2_with fail
  refine CS.out.mono ?_
  rintro e w1 ⟨ua, uc, rfl, ho, hb1⟩
  obtain ⟨ua', uc', hu, huc, huk⟩ := OwnG.rows (cs := intL) (fun _ => rfl) ho
  simp only [Value.slice.injEq, true_and] at hu
  obtain ⟨hua, huc2⟩ := hu
  subst hua
  subst huc2
  have HSK := Lib.hid huk
  have HB1 := Lib.hid (And.intro (HW.out.1.below hb1 HW.out.1.lt) (below_step HW.out.2 hb1))
  have HI1 := Lib.hid (Below.refl w1.heap.size w1)
  clear ho hb1 huk x0 x1 CS HW
  go_wp2
  go_loopw [16] (fun t wr => ∃ k : Nat, k ≤ L.length ∧ t = .int .i64 k ∧ Hid ((∀ i (hi : i < L.length), i < k → ∀ m (hm : m < ds.length), Fl.indoorX rs L[i] ds[m] = false) ∧ Below w1.heap.size w1 wr)) (fun t _ => L.length - (intOf t).toNat)
  case atStart => exact ⟨0, Nat.zero_le _, rfl, Lib.hid ⟨fun i _ h => absurd h (Nat.not_lt_zero _), HI1.out⟩⟩
  case round =>
    obtain ⟨k, hk, rfl, hg⟩ := hrel
    clear HI1
    by_cases hlt : k < L.length
    · obtain ⟨b, off, rfl, hb, hr⟩ := HSK.out k hlt
      have c0 := int_at (hr.below hg.out.2 hb)
      rw [Nat.mul_one] at c0
      have hX := HX.out k hlt
      have HYk := Lib.hid (fun m (hm : m < ds.length) h => HYES.out k m hlt hm h)
      have HNk : Hid ((∀ m (hm : m < ds.length), Fl.indoorX rs L[k] ds[m] = false) → ∀ i (hi : i < L.length), i < k + 1 → ∀ m (hm : m < ds.length), Fl.indoorX rs L[i] ds[m] = false) := Lib.hid fun h i hi h2 m hm => by
        by_cases e : i = k
        · subst e; exact h m hm
        · exact hg.out.1 i hi (by omega) m hm
      have HG0 := Lib.hid hg.out.2
      have hRB := HB1.out.1.below hg.out.2 HB1.out.1.lt
      have x1 : World.cell? _ _ = some (.slice da ds.length dc) := hRB.cell 1
      have hdk1 : decide ((k : Int) < (L.length : Int)) = true := decide_eq_true (by omega)
      have hdk2 : decide (k < L.length) = true := decide_eq_true hlt
      clear hr hg hRB
      generalize L[k] = X at *
      go_wp2
      clear x1 c0
      go_loopw [23] (fun t wr => ∃ m : Nat, m ≤ ds.length ∧ t = .int .i64 m ∧ Hid ((∀ i (hi : i < ds.length), i < m → Fl.indoorX rs X ds[i] = false) ∧ Below w1.heap.size w1 wr)) (fun t _ => ds.length - (intOf t).toNat)
      case atStart => exact ⟨0, Nat.zero_le _, rfl, Lib.hid ⟨fun i _ h => absurd h (Nat.not_lt_zero _), HG0.out⟩⟩
      case round =>
        obtain ⟨m, hm, rfl, hg⟩ := hrel
        clear HG0
        by_cases hml : m < ds.length
        · obtain ⟨b2, off2, rfl, hb2, hr2⟩ := HDK.out m hml
          obtain ⟨c0, c1, c2⟩ := door_at (hr2.below (below_step HB1.out.2 hg.out.2) hb2)
          obtain ⟨d1, d2, d3, d4, d5⟩ := HOD.out m hml
          have HI : Hid (Fl.indoorX rs X ds[m] = false → ∀ i (hi : i < ds.length), i < m + 1 → Fl.indoorX rs X ds[i] = false) := Lib.hid fun h i hi h2 => by
            by_cases e : i = m
            · subst e; exact h
            · exact hg.out.1 i hi (by omega)
          have HY1 := Lib.hid (HYk.out m hml)
          have HG := Lib.hid (below_alloc2 hg.out.2 (.cells (doorA ds[m]) DoorT))
          have HDB := Lib.hid (BlockAt.new wr (doorA ds[m]) DoorT)
          have HRB := Lib.hid (HB1.out.1.below HG.out HB1.out.1.lt)
          have HXA := Lib.hid (Fl.inx_a (rs := rs) (x := X) (d := ds[m]))
          have HXB := Lib.hid (Fl.inx_b (rs := rs) (x := X) (d := ds[m]))
          have HXC := Lib.hid (Fl.inx_c (rs := rs) (x := X) (d := ds[m]))
          clear hr2 hg
          generalize Fl.indoorX rs X ds[m] = o at *
          generalize ds[m] = d at *
          have HC1 := Lib.hid (FI.out X d.y _ (below_step HB1.out.2 HG.out) (by omega) (by omega))
          by_cases q1 : d.a < X
          case neg =>
            have HJ := Lib.hid (HI.out (HXA.out q1))
            have hq1 : decide (d.a < X) = false := decide_eq_false q1
            clear HXA HXB HXC HI HY1 q1
            go_wp2
            go_roundw
            case rel => exact ⟨m + 1, by omega, by go_num, Lib.hid ⟨HJ.out, HG.out⟩⟩
            case measure => simp [intOf]; omega
          have hq1 : decide (d.a < X) = true := decide_eq_true q1
          by_cases q2 : X < d.b
          case neg =>
            have HJ := Lib.hid (HI.out (HXB.out q2))
            have hq2 : decide (X < d.b) = false := decide_eq_false q2
            clear HXA HXB HXC HI HY1 q2
            go_wp2
            go_roundw
            case rel => exact ⟨m + 1, by omega, by go_num, Lib.hid ⟨HJ.out, HG.out⟩⟩
            case measure => simp [intOf]; omega
          have hq2 : decide (X < d.b) = true := decide_eq_true q2
          have HO := Lib.hid (HXC.out q1 q2)
          have x0 : World.cell? _ _ = some (.slice (ra) rs.length rc) := HRB.out.cell 0
          have x1 : World.cell? _ _ = some (.slice (some ⟨b2, off2, none⟩) ds.length dc) := HRB.out.cell 1
          clear HXA HXB HXC
          cases hj : Fl.jn rs X d.y
          case true =>
            rw [hj] at HC1 HO
            have HE := Lib.hid (HY1.out HO.out)
            clear hj HI HY1 HO
            go_wp2_with fail
            refine HC1.out.mono ?_
            rintro e w3 ⟨rfl, hb3⟩
            have HB := Lib.hid (below_step HB1.out.2 (below_step HG.out hb3))
            clear hb3 x0 x1 c0 c1 c2
            go_wp2
            go_ret
            exact ⟨by rw [HE.out]; rfl, HB.out⟩
          rw [hj] at HC1 HO
          clear hj
          have HOf : Hid (o = Fl.jn rs X (d.y - 1)) := Lib.hid HO.out
          have HF2 := Lib.hid (fun W hW => FI.out X (d.y - 1) W hW (by omega) (by omega))
          generalize Fl.jn rs X (d.y - 1) = o2 at *
          clear HO
          have hoo : o2 = true ∨ o2 = false := by cases o2 <;> simp
          rcases hoo with h | h
          · have HE := Lib.hid (HY1.out (HOf.out.trans h))
            rw [h] at HF2
            clear h HI HY1 HOf
            go_wp2_with fail
            refine HC1.out.mono ?_
            rintro e w3 ⟨rfl, hb3⟩
            have HG3 := Lib.hid (below_step HG.out hb3)
            have hRB3 := HRB.out.below hb3 HRB.out.lt
            have y0 : World.cell? _ _ = some (.slice ra rs.length rc) := hRB3.cell 0
            have y1 : World.cell? _ _ = some (.slice (some ⟨b2, off2, none⟩) ds.length dc) := hRB3.cell 1
            have y2 : World.cell? _ _ = some (.int .i64 d.y) := (HDB.out.below hb3 HDB.out.lt).cell 2
            have HC2 := Lib.hid (HF2.out _ (below_step HB1.out.2 HG3.out))
            clear hb3 x0 x1 c0 c1 c2 hRB3
            go_wp2_with fail
            refine HC2.out.mono ?_
            rintro e w4 ⟨rfl, hb4⟩
            have HB := Lib.hid (below_step HB1.out.2 (below_step HG3.out hb4))
            clear hb4 y0 y1 y2
            go_wp2
            go_ret
            exact ⟨by rw [HE.out]; rfl, HB.out⟩
          · have HJ := Lib.hid (HI.out (HOf.out.trans h))
            rw [h] at HF2
            clear h HI HY1 HOf
            go_wp2_with fail
            refine HC1.out.mono ?_
            rintro e w3 ⟨rfl, hb3⟩
            have HG3 := Lib.hid (below_step HG.out hb3)
            have hRB3 := HRB.out.below hb3 HRB.out.lt
            have y0 : World.cell? _ _ = some (.slice ra rs.length rc) := hRB3.cell 0
            have y1 : World.cell? _ _ = some (.slice (some ⟨b2, off2, none⟩) ds.length dc) := hRB3.cell 1
            have y2 : World.cell? _ _ = some (.int .i64 d.y) := (HDB.out.below hb3 HDB.out.lt).cell 2
            have HC2 := Lib.hid (HF2.out _ (below_step HB1.out.2 HG3.out))
            clear hb3 x0 x1 c0 c1 c2 hRB3
            go_wp2_with fail
            refine HC2.out.mono ?_
            rintro e w4 ⟨rfl, hb4⟩
            have HB := Lib.hid (below_step HG3.out hb4)
            clear hb4 y0 y1 y2
            go_wp2
            go_roundw
            case rel => exact ⟨m + 1, by omega, by go_num, Lib.hid ⟨HJ.out, HB.out⟩⟩
            case measure => simp [intOf]; omega
        · have HJ := Lib.hid (HNk.out fun i hi => hg.out.1 i hi (by omega))
          have HG := Lib.hid hg.out.2
          clear hg
          go_wp2
          go_roundw
          case rel => exact ⟨k + 1, by omega, by go_num, Lib.hid ⟨HJ.out, HG.out⟩⟩
          case measure => simp [intOf]; omega
    · have HE := Lib.hid (HNO.out fun i hi m hm => hg.out.1 i hi (by omega) m hm)
      have HG := Lib.hid (below_step HB1.out.2 hg.out.2)
      clear hg
      go_wp2
      go_ret
      exact ⟨by rw [HE.out]; rfl, HG.out⟩
end Go.Proofs.Ytpobkdbnldogcaa
