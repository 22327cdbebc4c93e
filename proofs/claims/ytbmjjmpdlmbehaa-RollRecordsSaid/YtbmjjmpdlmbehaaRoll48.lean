/- Records of the reference. -/
import Derived.Test.YtbmjjmpdlmbehaaRoll47
namespace Go.Proofs.Ytbmjjmpdlmbehaa
open Go.RowKit

set_option maxRecDepth 20000 in
set_option maxHeartbeats 8000000 in
theorem refRecords_any (v u x : Value) (rs : List Bd.R) (al : List Ro.A) (xs : List Ro.X) (ph rep : Int) (w : World) (hv : Runs w v rs) (hu : Arts w u al) (hx : Pcs w x xs) (hl : rs.length ≤ 1000) (hal : al.length ≤ 1000) (hxl : xs.length ≤ 1000) :
    Calls Try.prog 14 #[v, u, x, .int .i64 ph, .int .i64 rep] w fun e w' => ∃ y cs, e = .returned (.tuple #[y, .int .i64 (Ro.recE rs al xs ph rep)]) ∧ OwnK 47 w.heap.size w' y cs ∧ cs.map Ro.C.k = Ro.recR rs al xs ph rep ∧ Below w.heap.size w w' := by
  obtain ⟨i0, hi, hz0, hz1, hz2⟩ := info_parts (infoRec 47 (.inr rfl))
  have CK := Lib.hid (refCheckE_any v u x rs al xs w hv hu hx hl hal hxl)
  by_cases hz : Ro.chkE rs al xs = 0
  case neg =>
    have hE : Ro.recE rs al xs ph rep = Ro.chkE rs al xs := if_neg hz
    have hR : Ro.recR rs al xs ph rep = [] := if_neg (by rw [hE]; exact hz)
    rw [hR, hE]
    obtain ⟨va, vc, rfl⟩ := hv.form
    obtain ⟨ua, uc, rfl, _⟩ := hu
    obtain ⟨xa, xc, rfl, _⟩ := hx
    generalize Ro.chkE rs al xs = q at *
    have hd : (q == 0) = false := beq_eq_false_iff_ne.2 hz
    have hd2 : (q != 0) = true := by rw [bne, hd]; rfl
    clear hv hz hR hE
    go_enter Try.func14, Try.ntmps14
    go_wp2_with fail
    refine CK.out.mono ?_
    rintro e w1 ⟨rfl, hb1⟩
    have HB := Lib.hid hb1
    clear hb1 CK
    go_wp2
    go_ret2
    exact ⟨_, [], rfl, OwnK.nil _ _ _, rfl, HB.out⟩
  by_cases hb : Ro.recOk ph rep = true
  case neg =>
    have hE : Ro.recE rs al xs ph rep = 1 := (if_pos hz).trans (if_neg hb)
    have hR : Ro.recR rs al xs ph rep = [] := if_neg (by rw [hE]; decide)
    rw [hz] at CK
    rw [hR, hE]
    have FA := Lib.hid (fun W => rollWithin_any rep 1 144 W)
    unfold Ro.recOk at hb
    obtain ⟨va, vc, rfl⟩ := hv.form
    obtain ⟨ua, uc, rfl, _⟩ := hu
    obtain ⟨xa, xc, rfl, _⟩ := hx
    clear hv hz hR hE
    obtain ⟨vl, hvl⟩ : ∃ y, y = rs.length := ⟨_, rfl⟩
    rw [← hvl] at CK ⊢
    clear hvl hl
    by_cases h1 : (decide (1 ≤ rep) && decide (rep ≤ 144)) = true
    · rw [h1, Bool.true_and] at hb
      have h2 : (decide (0 ≤ ph) && decide (ph ≤ rep - 1)) = false := by simpa using hb
      rw [h1] at FA
      simp only [Bool.and_eq_false_iff, decide_eq_false_iff_not] at h2
      clear hb h1
      by_cases h3 : ph < 0
      · have d1 : decide (ph < 0) = true := decide_eq_true h3
        clear h2 h3
        go_enter Try.func14, Try.ntmps14
        go_wp2_with fail
        refine CK.out.mono ?_
        rintro e w1 ⟨rfl, hb1⟩
        have HB := Lib.hid hb1
        clear hb1 CK
        go_wp2_with fail
        refine (FA.out _).mono ?_
        rintro e w2 ⟨rfl, rfl⟩
        go_wp2
        go_ret2
        exact ⟨_, [], rfl, OwnK.nil _ _ _, rfl, HB.out⟩
      · have d1 : decide (ph < 0) = false := decide_eq_false h3
        have d2 : decide (rep ≤ ph) = true := decide_eq_true (by omega)
        clear h2 h3
        go_enter Try.func14, Try.ntmps14
        go_wp2_with fail
        refine CK.out.mono ?_
        rintro e w1 ⟨rfl, hb1⟩
        have HB := Lib.hid hb1
        clear hb1 CK
        go_wp2_with fail
        refine (FA.out _).mono ?_
        rintro e w2 ⟨rfl, rfl⟩
        go_wp2
        go_ret2
        exact ⟨_, [], rfl, OwnK.nil _ _ _, rfl, HB.out⟩
    · rw [Bool.not_eq_true] at h1
      rw [h1] at FA
      clear hb h1
      go_enter Try.func14, Try.ntmps14
      go_wp2_with fail
      refine CK.out.mono ?_
      rintro e w1 ⟨rfl, hb1⟩
      have HB := Lib.hid hb1
      clear hb1 CK
      go_wp2_with fail
      refine (FA.out _).mono ?_
      rintro e w2 ⟨rfl, rfl⟩
      go_wp2
      go_ret2
      exact ⟨_, [], rfl, OwnK.nil _ _ _, rfl, HB.out⟩
  have hE : Ro.recE rs al xs ph rep = 0 := (if_pos hz).trans (if_pos hb)
  have hR : Ro.recR rs al xs ph rep = xs.map (Ro.rec1 rs al ph rep) := if_pos hE
  rw [hz] at CK
  rw [hR, hE]
  have FA := Lib.hid (fun W => rollWithin_any rep 1 144 W)
  unfold Ro.recOk at hb
  rw [Bool.and_eq_true] at hb
  rw [hb.1] at FA
  simp only [Bool.and_eq_true, decide_eq_true_eq] at hb
  obtain ⟨⟨r1, r2⟩, p1, p2⟩ := hb
  have d1 : decide (ph < 0) = false := decide_eq_false (by omega)
  have d2 : decide (rep ≤ ph) = false := decide_eq_false (by omega)
  have HS := Lib.hid (Ro.rec_ok hz)
  have SL := Lib.hid (fun (fr to : Int) W (hW : Below w.heap.size w W) => ref_slice_any v rs fr to W (hv.all hW) hl)
  have HNX := Lib.hid (fun cs j hj h c hc => Ro.recs_next (rs := rs) (al := al) (xs := xs) (ph := ph) (rep := rep) (cs := cs) (j := j) hj h (c := c) hc)
  have HN0 : Hid (([] : List Ro.C).map Ro.C.k = (xs.take 0).map (Ro.rec1 rs al ph rep)) := Lib.hid rfl
  have HNE : Hid (∀ cs : List Ro.C, cs.map Ro.C.k = (xs.take xs.length).map (Ro.rec1 rs al ph rep) → cs.map Ro.C.k = xs.map (Ro.rec1 rs al ph rep)) := Lib.hid (fun cs h => by rw [List.take_length] at h; exact h)
  obtain ⟨va, vc, rfl⟩ := hv.form
  obtain ⟨ua, uc, rfl, hka⟩ := hu
  obtain ⟨xa, xc, rfl, hkx⟩ := hx
  have HX := Lib.hid hkx
  have HA := Lib.hid hka
  clear hv hz hR hE hka hkx
  obtain ⟨vl, hvl⟩ : ∃ y, y = rs.length := ⟨_, rfl⟩
  rw [← hvl] at CK SL ⊢
  clear hvl hl
  go_enter Try.func14, Try.ntmps14
  go_wp2_with fail
  refine CK.out.mono ?_
  rintro e w1 ⟨rfl, hb1⟩
  have H1 := Lib.hid hb1
  clear hb1 CK
  go_wp2_with fail
  refine (FA.out _).mono ?_
  rintro e w2 ⟨rfl, rfl⟩
  clear FA
  go_wp2
  clear d1 d2
  have HSZ := Lib.hid H1.out.size
  go_loopw [13, 14] (fun s t wr => ∃ (j : Nat) (cs : List Ro.C), j ≤ xs.length ∧ cs.length = j ∧ t = .int .i64 j ∧ Hid (cs.map Ro.C.k = (xs.take j).map (Ro.rec1 rs al ph rep)) ∧ Hid (OwnK 47 w1.heap.size wr s cs ∧ Below w1.heap.size w1 wr)) (fun _ t _ => xs.length - (intOf t).toNat)
  case atStart => exact ⟨0, [], Nat.zero_le _, rfl, rfl, HN0, Lib.hid ⟨OwnK.nil _ _ _, Below.refl _ _⟩⟩
  case round =>
    obtain ⟨j, cs, hj, hcl, rfl, hh, hg⟩ := hrel
    clear HN0
    obtain ⟨ra, rc, hre⟩ := hg.out.1.form
    subst hre
    by_cases hlt : j < xs.length
    · obtain ⟨b, off, rfl, hb, hr⟩ := HX.out j hlt
      obtain ⟨c0, c1⟩ := hr.below (below_step H1.out hg.out.2) hb
      obtain ⟨k, hk, hxk, y1, y2, y3, hart, hsl⟩ := HS.out j hlt
      obtain ⟨bu, offu, rfl, hbu, hru⟩ := HA.out k hk
      have HNJ := Lib.hid (fun c hc => HNX.out cs j hlt hh.out c hc)
      have HRC : Hid (Ro.rec1 rs al ph rep xs[j] = ⟨xs[j].a, (ph + xs[j].f).tmod rep, Bd.sliR rs xs[j].f (xs[j].f + al[k].l)⟩) := Lib.hid (by unfold Ro.rec1; rw [hart])
      have HSL := Lib.hid (fun W hW => SL.out xs[j].f (xs[j].f + al[k].l) W hW)
      have HAL : Hid (∀ W, Below w.heap.size w W → W.cell? ⟨bu, offu + k * 6, none⟩ = some (.int .i64 al[k].l)) := Lib.hid (fun W hW => (hru.below hW hbu).1)
      rw [hsl] at HSL
      clear hr hb hart hsl SL HNX HX HS HA hh hru hbu
      generalize Bd.sliR rs xs[j].f (xs[j].f + al[k].l) = bs at *
      generalize Ro.rec1 rs al ph rep xs[j] = rj at *
      generalize xs[j] = y at *
      generalize al[k] = a at *
      obtain ⟨f, ya⟩ := y
      obtain rfl : ya = k := hxk
      dsimp only at c0 c1 y1 y2 HRC HSL
      have HG : Hid (OwnK 47 w1.heap.size (wr.alloc (.cells #[.int .i64 f, .int .i64 (k : Int)] PcT)).drew (.slice ra cs.length rc) cs ∧ BlockAt (wr.alloc (.cells #[.int .i64 f, .int .i64 (k : Int)] PcT)).drew wr.heap.size #[.int .i64 f, .int .i64 (k : Int)] PcT ∧ Below w1.heap.size w1 (wr.alloc (.cells #[.int .i64 f, .int .i64 (k : Int)] PcT)).drew) :=
        Lib.hid ⟨(hg.out.1.alloc _).all (below_drewN (Below.refl _ _) 1), BlockAt.new wr _ _, below_drewN (below_alloc2 hg.out.2 _) 1⟩
      have HBL : Hid (∀ d ∈ cs, ∀ g, d.v.ownBlock = some g → g < wr.heap.size) := Lib.hid hg.out.1.below
      have HSA : Hid (∀ W, Below w1.heap.size w1 W → BlockAt W wr.heap.size #[.int .i64 f, .int .i64 (k : Int)] PcT → (fun W => W.cell? ⟨wr.heap.size, 0, none⟩ = some (.int .i64 f) ∧ W.cell? ⟨wr.heap.size, 1, none⟩ = some (.int .i64 (k : Int)) ∧ W.cell? ⟨bu, offu + k * 6, none⟩ = some (.int .i64 a.l)) W) := Lib.hid (fun W hW hB => ⟨hB.cell 0, hB.cell 1, HAL.out _ (below_step H1.out hW)⟩)
      have HS11 : Hid ((fun W => W.cell? ⟨wr.heap.size, 0, none⟩ = some (.int .i64 f) ∧ W.cell? ⟨wr.heap.size, 1, none⟩ = some (.int .i64 (k : Int)) ∧ W.cell? ⟨bu, offu + k * 6, none⟩ = some (.int .i64 a.l)) (wr.alloc (.cells #[.int .i64 f, .int .i64 (k : Int)] PcT)).drew) := Lib.hid (HSA.out _ HG.out.2.2 HG.out.2.1)
      have g1 : IntKind.i64.wrap (f + a.l) = f + a.l := IntWalk.i64_in _ ⟨by omega, by omega⟩
      have hkd : decide (k < al.length) = true := decide_eq_true hk
      clear hg
      go_wp2
      refine wp_region_seq [(0, true), (1, true), (2, true), (3, true), (4, true), (5, true), (6, true), (7, true), (8, true), (9, true), (10, true), (11, true), (12, false), (13, true), (14, true), (15, true), (16, true), (17, true)] (fun W => W.cell? ⟨wr.heap.size, 0, none⟩ = some (.int .i64 f) ∧ W.cell? ⟨wr.heap.size, 1, none⟩ = some (.int .i64 (k : Int)) ∧ W.cell? ⟨bu, offu + k * 6, none⟩ = some (.int .i64 a.l))
        (by kernel_rfl) (by kernel_rfl) (by kernel_rfl) (by kernel_rfl) (fun d _ _ _ _ h => by cases d <;> exact h) HS11.out (fun _ => ?_)
      repeat (first | (refine SeqH.take (v := ?_) rfl (by rfl) ?_ ?_; rotate_left; (· intro w hSw; (try dsimp only at hSw); obtain ⟨q0, q1, q2⟩ := hSw; go_simp; (try rw [if_pos (by omega)]); (try with_reducible rfl)); simp only [Act.put, List.setIfInBounds_toArray, List.set_cons_zero, List.set_cons_succ]) | (refine SeqH.skip rfl (by rfl) ?_; simp only [Act.put, List.setIfInBounds_toArray, List.set_cons_zero, List.set_cons_succ]))
      refine SeqH.step rfl (by rfl) (fun K hK => ?_)
      go_simp
      refine (HSL.out _ (below_step H1.out HG.out.2.2)).mono ?_
      rintro e w3 ⟨z, rfl, hz3, hb3⟩
      obtain ⟨za, zc, hzf⟩ := hz3.runs.form
      subst hzf
      try dsimp only
      have H3 := Lib.hid (And.intro (HG.out.1.all hb3) (And.intro (HG.out.2.1.below hb3 HG.out.2.1.lt) (And.intro hz3 (below_step HG.out.2.2 hb3))))
      have hs2 : wr.heap.size ≤ (wr.alloc (.cells #[.int .i64 f, .int .i64 (k : Int)] PcT)).drew.heap.size := Nat.le_of_lt HG.out.2.1.lt
      have hs3 := HG.out.2.2.size
      refine hK.out _ _ (HSA.out _ H3.out.2.2.2 H3.out.2.1) (fun _ => ?_)
      clear hK K HG HSL HSA HS11 hb3 hz3
      try simp only [Act.put, List.setIfInBounds_toArray, List.set_cons_zero, List.set_cons_succ]
      repeat (first | (refine SeqH.take (v := ?_) rfl (by rfl) ?_ ?_; rotate_left; (· intro w hSw; (try dsimp only at hSw); obtain ⟨q0, q1, q2⟩ := hSw; go_simp; (try rw [if_pos (by omega)]); (try with_reducible rfl)); simp only [Act.put, List.setIfInBounds_toArray, List.set_cons_zero, List.set_cons_succ]) | (refine SeqH.skip rfl (by rfl) ?_; simp only [Act.put, List.setIfInBounds_toArray, List.set_cons_zero, List.set_cons_succ]))
      refine SeqH.done ?_
      go_wp2
      have g2 : IntKind.i64.wrap (ph + f) = ph + f := IntWalk.i64_in _ ⟨by omega, by omega⟩
      have g3 : (rep == 0) = false := beq_eq_false_iff_ne.2 (by omega)
      have g4 : ¬ rep = 0 := by omega
      have HS12 : Hid ((fun W => W.cell? ⟨wr.heap.size, 0, none⟩ = some (.int .i64 f) ∧ W.cell? ⟨wr.heap.size, 1, none⟩ = some (.int .i64 (k : Int))) w3.drew) := Lib.hid ⟨H3.out.2.1.cell 0, H3.out.2.1.cell 1⟩
      refine wp_region_seq [(0, true), (1, true), (2, true), (3, true), (4, true), (5, true), (6, true), (7, true), (8, true), (9, true), (10, true), (11, false), (12, false), (13, true)] (fun W => W.cell? ⟨wr.heap.size, 0, none⟩ = some (.int .i64 f) ∧ W.cell? ⟨wr.heap.size, 1, none⟩ = some (.int .i64 (k : Int)))
        (by kernel_rfl) (by kernel_rfl) (by kernel_rfl) (by kernel_rfl) (fun d _ _ _ _ h => by cases d <;> exact h) HS12.out (fun _ => ?_)
      repeat (first | (refine SeqH.take (v := ?_) rfl (by rfl) ?_ ?_; rotate_left; (· intro w hSw; (try dsimp only at hSw); obtain ⟨q0, q1⟩ := hSw; go_simp; (try rw [if_pos (by omega)]); (try with_reducible rfl)); simp only [Act.put, List.setIfInBounds_toArray, List.set_cons_zero, List.set_cons_succ]) | (refine SeqH.skip rfl (by rfl) ?_; simp only [Act.put, List.setIfInBounds_toArray, List.set_cons_zero, List.set_cons_succ]))
      refine SeqH.step rfl (by rfl) (fun K hK => ?_)
      go_simp
      try dsimp only
      refine hK.out _ _ ⟨(H3.out.2.1.alloc _).cell 0, (H3.out.2.1.alloc _).cell 1⟩ (fun _ => ?_)
      clear hK K
      try simp only [Act.put, List.setIfInBounds_toArray, List.set_cons_zero, List.set_cons_succ]
      repeat (first | (refine SeqH.take (v := ?_) rfl (by rfl) ?_ ?_; rotate_left; (· intro w hSw; (try dsimp only at hSw); obtain ⟨q0, q1⟩ := hSw; go_simp; (try rw [if_pos (by omega)]); (try with_reducible rfl)); simp only [Act.put, List.setIfInBounds_toArray, List.set_cons_zero, List.set_cons_succ]) | (refine SeqH.skip rfl (by rfl) ?_; simp only [Act.put, List.setIfInBounds_toArray, List.set_cons_zero, List.set_cons_succ]))
      refine SeqH.step rfl (by rfl) (fun K hK => ?_)
      have hown3 := H3.out.1.row
      rw [hcl] at hown3
      have hb3d := below_drewN H3.out.2.2.2 1
      have hsz3 : w1.heap.size ≤ w3.heap.size := H3.out.2.2.2.size
      have hca := recC_at w3.drew (⟨⟨(k : Int), (ph + f).tmod rep, bs⟩, za, zc⟩ : Ro.C) 47
      refine wp_append_own _ _ _ 42 rfl w1.heap.size 47 i0 (.agg #[.int .i64 0, .int .i64 0, .slice none 0 0]) 3 40 Try.underlying42 hi hz0 hz1 hz2 rfl (by decide) _ _ _ rfl (World.ownsRow.alloc hown3 _) _ 1 1 (recC ⟨⟨(k : Int), (ph + f).tmod rep, bs⟩, za, zc⟩) rfl rfl hca (recC_one _) (by unfold maxLen; omega) (by omega) (by first | omega | (simp; omega)) ?_
      intro v8 w8 hr8 hg8 _
      have hw8 := (below_alloc2 hb3d (.cells #[.int .i64 (k : Int), .int .i64 ((ph + f).tmod rep), .slice za bs.length zc] 47)).grown hg8 (by first | omega | (simp; omega)) (fun j e => (World.ownsRow.lt hown3 j e).1)
      have hbx8 : BlockAt w8 wr.heap.size #[.int .i64 f, .int .i64 (k : Int)] PcT := BlockAt.grown (W := (w3.alloc (.cells #[.int .i64 (k : Int), .int .i64 ((ph + f).tmod rep), .slice za bs.length zc] 47)).drew) (H3.out.2.1.alloc (.cells #[.int .i64 (k : Int), .int .i64 ((ph + f).tmod rep), .slice za bs.length zc] 47)) hg8 (BlockAt.not_row H3.out.2.1 (by decide) hown3)
      have hg8' : World.grownBy (w3.alloc (.cells #[.int .i64 (k : Int), .int .i64 ((ph + f).tmod rep), .slice za bs.length zc] 47)).drew w8 (Value.slice ra j rc).ownBlock := hg8
      rw [← hcl] at hg8'
      have hp8 : OwnK 47 w1.heap.size w8 v8 (cs ++ [⟨⟨(k : Int), (ph + f).tmod rep, bs⟩, za, zc⟩]) := OwnK.push (by decide) (B := (wr.alloc (.cells #[.int .i64 f, .int .i64 (k : Int)] PcT)).drew.heap.size) (W := (w3.alloc (.cells #[.int .i64 (k : Int), .int .i64 ((ph + f).tmod rep), .slice za bs.length zc] 47)).drew) (c := ⟨⟨(k : Int), (ph + f).tmod rep, bs⟩, za, zc⟩) ((H3.out.1.alloc (.cells #[.int .i64 (k : Int), .int .i64 ((ph + f).tmod rep), .slice za bs.length zc] 47)).all (below_drewN (Below.refl _ _) 1)) (H3.out.2.2.1.alloc (.cells #[.int .i64 (k : Int), .int .i64 ((ph + f).tmod rep), .slice za bs.length zc] 47)) hs3 (fun d hd g hg => Nat.lt_of_lt_of_le (HBL.out d hd g hg) hs2) hg8' (by rw [hcl]; exact hr8)
      try dsimp only
      refine hK.out _ _ ⟨hbx8.cell 0, hbx8.cell 1⟩ (fun _ => ?_)
      clear hK K
      try simp only [Act.put, List.setIfInBounds_toArray, List.set_cons_zero, List.set_cons_succ]
      have HO := Lib.hid (And.intro hp8 hw8)
      clear hr8 hg8 hg8' hw8 hbx8 hp8 hca hown3 hb3d H3 HS12
      repeat (first | (refine SeqH.take (v := ?_) rfl (by rfl) ?_ ?_; rotate_left; (· intro w hSw; (try dsimp only at hSw); obtain ⟨q0, q1⟩ := hSw; go_simp; (try rw [if_pos (by omega)]); (try with_reducible rfl)); simp only [Act.put, List.setIfInBounds_toArray, List.set_cons_zero, List.set_cons_succ]) | (refine SeqH.skip rfl (by rfl) ?_; simp only [Act.put, List.setIfInBounds_toArray, List.set_cons_zero, List.set_cons_succ]))
      refine SeqH.done ?_
      go_wp2
      go_roundw
      case rel => exact ⟨j + 1, cs ++ [⟨⟨(k : Int), (ph + f).tmod rep, bs⟩, za, zc⟩], by omega, by rw [List.length_append, List.length_singleton]; omega, by go_num, Lib.hid (HNJ.out _ HRC.out.symm), Lib.hid HO.out⟩
      case measure => simp [intOf]; omega
    · obtain rfl : j = xs.length := by omega
      have HF := Lib.hid (HNE.out cs hh.out)
      have HG4 := Lib.hid (And.intro (hg.out.1.mono HSZ.out) (below_step H1.out hg.out.2))
      have hkd : decide (xs.length < xs.length) = false := decide_eq_false (Nat.lt_irrefl _)
      clear hh hg
      go_wp2
      go_ret2
      exact ⟨_, cs, rfl, HG4.out.1, HF.out, HG4.out.2⟩
end Go.Proofs.Ytbmjjmpdlmbehaa
