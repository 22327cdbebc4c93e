/- RollRecords returns true, whatever the band, the articles, the cutting, the phase and the repeat. -/
import Derived.Test.YtbmjjmpdlmbehaaRoll48
import Derived.Test.YtbmjjmpdlmbehaaBand7
import Derived.Test.YtbmjjmpdlmbehaaBand8
import Derived.Test.YtbmjjmpdlmbehaaRoll8
namespace Go.Proofs.Ytbmjjmpdlmbehaa
open Go.RowKit

theorem OwnK.far {T : TypeId} {base B : Nat} {w : World} {v : Value} {cs : List Ro.C} (h : OwnK T base w v cs) (hB : B < base) (i : Nat) (x : Value) : OwnK T base (w.setCell ⟨B, i, none⟩ x) v cs :=
  ⟨ownsRow_far h.row (fun e => by have := (World.ownsRow.lt h.row B e).1; omega) i x, fun c hc => ownsRow_far (h.bands c hc) (fun e => by have := (World.ownsRow.lt (h.bands c hc) B e).1; omega) i x, h.apart⟩
/-- A record's cells in its row. -/
theorem recs_row {T : TypeId} {base : Nat} {w : World} {v : Value} {cs : List Ro.C} (h : w.ownsRow base T 3 v cs.length (cs.flatMap recC)) : (v = .slice none 0 0 ∧ cs = []) ∨ ∃ g cap, v = .slice (some ⟨g, 0, none⟩) cs.length cap := by
  obtain ⟨h0, ⟨h1, h2⟩ | ⟨g, cap, cur, h1, h2, h3, h4, h5⟩⟩ := id h
  · exact .inl ⟨h1, List.length_eq_zero_iff.1 h2⟩
  · exact .inr ⟨g, cap, h1⟩
theorem recs_cells {T : TypeId} {base : Nat} {w : World} {cs : List Ro.C} {g cap : Nat} (h : w.ownsRow base T 3 (.slice (some ⟨g, 0, none⟩) cs.length cap) cs.length (cs.flatMap recC)) (k : Nat) (hk : k < cs.length) :
    w.cell? ⟨g, k * 3, none⟩ = some (.int .i64 cs[k].k.a) ∧ w.cell? ⟨g, k * 3 + 1, none⟩ = some (.int .i64 cs[k].k.p) ∧ w.cell? ⟨g, k * 3 + 2, none⟩ = some cs[k].v := by
  have hlt : k * 3 + 3 ≤ cs.length * 3 := by
    have := Nat.mul_le_mul_right 3 (show k + 1 ≤ cs.length by omega)
    rw [Nat.succ_mul] at this; omega
  exact ⟨(World.ownsRow.cellAt h (k * 3) (by omega)).trans ((recs_at cs k hk 0 (by decide)).trans rfl), (World.ownsRow.cellAt h (k * 3 + 1) (by omega)).trans ((recs_at cs k hk 1 (by decide)).trans rfl), (World.ownsRow.cellAt h (k * 3 + 2) (by omega)).trans ((recs_at cs k hk 2 (by decide)).trans rfl)⟩
/-- The law's state in a round: the program's records from i on are as they were told, those of the reference all. -/
def LawK (B1 B2 : Nat) (y z : Value) (cs ds : List Ro.C) (i : Nat) (W0 W : World) : Prop :=
  W.ownsRow B1 46 3 y cs.length (cs.flatMap recC) ∧ (∀ k (hk : k < cs.length), i ≤ k → Own B1 W cs[k].v cs[k].k.b) ∧ OwnK 47 B2 W z ds ∧ Below B1 W0 W
theorem LawK.next {B1 B2 : Nat} {y z : Value} {cs ds : List Ro.C} {i : Nat} {W0 W : World} (h : LawK B1 B2 y z cs ds i W0 W) : LawK B1 B2 y z cs ds (i + 1) W0 W := ⟨h.1, fun k hk hi => h.2.1 k hk (by omega), h.2.2⟩
theorem LawK.all {B1 B2 : Nat} {y z : Value} {cs ds : List Ro.C} {i : Nat} {W0 W W2 : World} (h : LawK B1 B2 y z cs ds i W0 W) (hb : Below W.heap.size W W2) (hB : B1 ≤ W.heap.size) : LawK B1 B2 y z cs ds i W0 W2 :=
  ⟨ownsRow_all h.1 hb, fun k hk hi => (h.2.1 k hk hi).all hb, h.2.2.1.all hb, h.2.2.2.trans (hb.mono hB)⟩
theorem LawK.set {B1 B2 : Nat} {y z : Value} {cs ds : List Ro.C} {i : Nat} {W0 W : World} (h : LawK B1 B2 y z cs ds (i + 1) W0 W) (hi : i < cs.length) {qs : List Bd.R} {g : Nat} (hg : cs[i].v.ownBlock = some g) (hq : Own B1 W cs[i].v qs) (h2 : g < B2)
    (hap : cs.Pairwise (fun c d => ∀ g, c.v.ownBlock = some g → d.v.ownBlock ≠ some g)) (j : Nat) (x : Value) : LawK B1 B2 y z cs ds (i + 1) W0 (W.setCell ⟨g, j, none⟩ x) := by
  refine ⟨ownsRow_far h.1 (ownsRow_apart (by decide) hq h.1 g hg) j x, fun k hk hik => ?_, h.2.2.1.far h2 j x, h.2.2.2.setCell (p := ⟨g, j, none⟩) (World.ownsRow.lt hq g hg).1 x⟩
  exact ownsRow_far (h.2.1 k hk hik) ((List.pairwise_iff_getElem.1 hap) i k hi hk (by omega) g hg) j x
abbrev RcT : TypeId := 38

set_option maxRecDepth 20000 in
set_option maxHeartbeats 8000000 in
theorem records0 (v u x : Value) (ph rep : Int) (rs : List Bd.R) (al : List Ro.A) (xs : List Ro.X) (w : World) (hv : Runs w v rs) (hu : Arts w u al) (hx : Pcs w x xs) (hrs : Hid (rs = [])) (hvf : Hid (v = .slice none 0 0)) :
    Calls Try.prog 4 #[v, u, .agg #[x, .int .i64 ph, .int .i64 rep]] w fun e w' => e = .returned (.bool true) ∧ Below w.heap.size w w' := by
  obtain ⟨i0, hi, hz0, hz1, hz2⟩ := info_parts infoRun
  have bX := BlockAt.new w #[x, .int .i64 ph, .int .i64 rep] RcT
  have hw := below_alloc2 (Below.refl w.heap.size w) (.cells #[x, .int .i64 ph, .int .i64 rep] RcT)
  have LO := Lib.hid (rollLong_any v u x rs al.length xs.length _ (hv.all hw) (by obtain ⟨a, c, h, _⟩ := hu; exact ⟨a, c, h⟩) (by obtain ⟨a, c, h, _⟩ := hx; exact ⟨a, c, h⟩))
  have KN := Lib.hid (fun W => rollKnown_any W)
  cases hL : (decide (100 < rs.length) || (decide (40 < al.length) || decide (400 < xs.length)))
  case true =>
    rw [hL] at LO
    obtain ⟨va, vc, rfl⟩ := hv.form
    obtain ⟨ua, uc, rfl, _⟩ := hu
    obtain ⟨xa, xc, rfl, _⟩ := hx
    have HX := Lib.hid (And.intro bX hw)
    have x0 : World.cell? _ _ = some (.slice xa xs.length xc) := bX.cell 0
    clear bX hw hv hL
    go_enter Try.func4, Try.ntmps4
    go_wp2_with fail
    refine LO.out.mono ?_
    rintro e w1 ⟨rfl, hb1⟩
    have HB1 := Lib.hid (below_step HX.out.2 hb1)
    clear hb1 LO HX x0
    go_wp2_with fail
    refine (KN.out _).mono ?_
    rintro e w2 ⟨rfl, hb2⟩
    have HB2 := Lib.hid (below_step HB1.out hb2)
    clear hb2 HB1 KN
    go_wp2
    go_ret
    exact ⟨rfl, HB2.out⟩
  rw [hL] at LO
  simp only [Bool.or_eq_false_iff, decide_eq_false_iff_not] at hL
  have hl : rs.length ≤ 1000 := by omega
  have hal : al.length ≤ 1000 := by omega
  have hxl : xs.length ≤ 1000 := by omega
  have NF := Lib.hid (fun o W (hW : Below w.heap.size w W) (ho : Runs W o rs) => numRecords_any o u x rs al xs ph rep W ho (hu.all hW) (hx.all hW) hl hal hxl)
  have RF := Lib.hid (fun W (hW : Below w.heap.size w W) => refRecords_any v u x rs al xs ph rep W (hv.all hW) (hu.all hW) (hx.all hW) hl hal hxl)
  have SR := Lib.hid (fun a b qs W (ha : Runs W a qs) (hb : Runs W b qs) hq => same_runs_true a b qs W ha hb hq)
  have HRB : Hid (∀ k ∈ Ro.recR rs al xs ph rep, k.b.length ≤ 1000) := Lib.hid (fun k hk => Nat.le_trans (Ro.recR_band k hk) hl)
  have hRl : (Ro.recR rs al xs ph rep).length ≤ 1000 := Nat.le_trans Ro.recR_len hxl
  have HV := Lib.hid (fun W (hW : Below w.heap.size w W) => hv.all hW)
  generalize Ro.recE rs al xs ph rep = er at *
  generalize Ro.recR rs al xs ph rep = R at *
  have e1 : (er == er) = true := beq_self_eq_true _
  have e2 : (er != er) = false := by rw [bne, e1]; rfl
  obtain ⟨ua, uc, rfl, _⟩ := hu
  obtain ⟨xa, xc, rfl, _⟩ := hx
  have HX := Lib.hid (And.intro bX hw)
  have x0 : World.cell? _ _ = some (.slice xa xs.length xc) := bX.cell 0
  clear bX hw hL hal hxl
  obtain ⟨va, vl, vc, hvg⟩ : ∃ va vl vc, v = .slice va vl vc := ⟨_, _, _, hvf.out⟩
  rw [hvg] at hvf
  subst hvg
  have HVF := Lib.hid hvf.out
  clear hvf hv
  go_enter Try.func4, Try.ntmps4
  go_wp2_with fail
  refine LO.out.mono ?_
  rintro e w1 ⟨rfl, hb1⟩
  have H1 := Lib.hid (And.intro (HX.out.1.below hb1 HX.out.1.lt) (below_step HX.out.2 hb1))
  have hs1 := H1.out.2.size
  have hown := World.ownsRow_made (base := w.heap.size) (e := 52) (size := 4) w1 #[] 0 hs1 (by unfold maxLen; omega) rfl
  have hwo := below_alloc2 H1.out.2 (.cells #[] 52)
  have hbx := H1.out.1.alloc (.cells #[] 52)
  clear hb1 LO HX x0
  have hvf := HVF.out
  simp only [Value.slice.injEq] at hvf
  obtain ⟨rfl, rfl, rfl⟩ := hvf
  clear HVF
  have z0 : World.cell? _ _ = some (.slice xa xs.length xc) := hbx.cell 0
  have z1 : World.cell? _ _ = some (.int .i64 ph) := hbx.cell 1
  have z2 : World.cell? _ _ = some (.int .i64 rep) := hbx.cell 2
  go_wp2_with (at_builtin; refine wpList_append_own_none rfl _ _ 22 rfl w.heap.size 52 i0 4 Try.underlying22 hi _ _ _ rfl hown rfl ?_)
  have ho2 : Own w.heap.size (w1.alloc (.cells #[] 52)) (.slice (some ⟨w1.heap.size, 0, none⟩) 0 0) rs := by
    rw [hrs.out]
    exact hown
  obtain ⟨w2, hW2⟩ : ∃ W, W = w1.alloc (.cells #[] 52) := ⟨_, rfl⟩
  rw [← hW2] at ho2 hwo hbx ⊢
  have hw2 := hwo
  have hbx2 := hbx
  clear hwo hbx hW2 hown H1 z0 z1 z2
  have H2 := Lib.hid (And.intro ho2 (And.intro hbx2 hw2))
  have x0 : World.cell? _ _ = some (.slice xa xs.length xc) := H2.out.2.1.cell 0
  have x1 : World.cell? _ _ = some (.int .i64 ph) := H2.out.2.1.cell 1
  have x2 : World.cell? _ _ = some (.int .i64 rep) := H2.out.2.1.cell 2
  clear ho2 hbx2 hw2
  try go_wp2_with fail
  refine (NF.out _ _ H2.out.2.2 H2.out.1.runs).mono ?_
  rintro e w3 ⟨y, cs, rfl, hy, hcs, hb3⟩
  obtain ⟨ya, yc, rfl⟩ := hy.form
  have H3 := Lib.hid (And.intro (H2.out.2.1.below hb3 H2.out.2.1.lt) (And.intro hy (And.intro (below_step H2.out.2.2 hb3) hb3)))
  have HCS := Lib.hid hcs
  clear hy hb3 hcs NF x0 x1 x2
  have x0 : World.cell? _ _ = some (.slice xa xs.length xc) := H3.out.1.cell 0
  have x1 : World.cell? _ _ = some (.int .i64 ph) := H3.out.1.cell 1
  have x2 : World.cell? _ _ = some (.int .i64 rep) := H3.out.1.cell 2
  go_wp2_with fail
  refine (RF.out _ H3.out.2.2.1).mono ?_
  rintro e w4 ⟨z, ds, rfl, hz, hds, hb4⟩
  obtain ⟨za, zc, rfl⟩ := hz.form
  have hlen : ds.length = cs.length := by
    have h1 := congrArg List.length HCS.out
    have h2 := congrArg List.length hds
    rw [List.length_map] at h1 h2
    omega
  have hcl : cs.length ≤ 1000 := by rw [← HCS.out, List.length_map] at hRl; exact hRl
  have HCD : Hid (∀ i (h : i < cs.length) (h2 : i < ds.length), ds[i].k = cs[i].k) := Lib.hid (fun i h h2 => by
    have e3 : (ds.map Ro.C.k)[i]? = (cs.map Ro.C.k)[i]? := by rw [hds, HCS.out]
    simpa [h, h2] using e3)
  have HBD : Hid (∀ i (h : i < cs.length), cs[i].k.b.length ≤ 1000) := Lib.hid (fun i h => HRB.out _ (by rw [← HCS.out]; exact List.mem_map_of_mem (List.getElem_mem h)))
  have HLT : Hid (∀ i (h : i < cs.length) g, cs[i].v.ownBlock = some g → g < w3.heap.size) := Lib.hid (fun i h g hg => H3.out.2.1.below _ (List.getElem_mem h) g hg)
  have HAP := Lib.hid H3.out.2.1.apart
  have HL0 : Hid (LawK w2.heap.size w3.heap.size (.slice ya cs.length yc) (.slice za ds.length zc) cs ds 0 w2 w4) := Lib.hid ⟨ownsRow_all H3.out.2.1.row hb4, fun k hk _ => (H3.out.2.1.bands _ (List.getElem_mem hk)).all hb4, hz, H3.out.2.2.2.trans (hb4.mono H3.out.2.2.2.size)⟩
  have hs24 : w2.heap.size ≤ w3.heap.size := H3.out.2.2.2.size
  have q7 : ((cs.length : Int) == (ds.length : Int)) = true := by rw [hlen]; exact beq_self_eq_true _
  have q8 : ((cs.length : Int) != (ds.length : Int)) = false := by rw [bne, q7]; rfl
  clear hz hds hb4 RF H3 HCS HRB x0 x1 x2
  go_wp2
  clear q7 q8 e1 e2
  go_loopw [12] (fun t wr => ∃ i : Nat, i ≤ cs.length ∧ t = .int .i64 i ∧ Hid (LawK w2.heap.size w3.heap.size (.slice ya cs.length yc) (.slice za ds.length zc) cs ds i w2 wr)) (fun t _ => cs.length - (intOf t).toNat)
  case atStart => exact ⟨0, Nat.zero_le _, rfl, HL0⟩
  case round =>
    obtain ⟨i, hi, rfl, hg⟩ := hrel
    clear HL0
    by_cases hlt : i < cs.length
    · have hltd : i < ds.length := by omega
      rcases recs_row hg.out.1 with ⟨_, h⟩ | ⟨yb, ycap, hye⟩
      · rw [h] at hlt; simp at hlt
      rcases recs_row hg.out.2.2.1.row with ⟨_, h⟩ | ⟨zb, zcap, hze⟩
      · rw [h] at hltd; simp at hltd
      simp only [Value.slice.injEq, true_and] at hye hze
      obtain ⟨rfl, rfl⟩ := hye
      obtain ⟨rfl, rfl⟩ := hze
      have HC1 := Lib.hid (fun W m (h : LawK w2.heap.size w3.heap.size (.slice (some ⟨yb, 0, none⟩) cs.length yc) (.slice (some ⟨zb, 0, none⟩) ds.length zc) cs ds m w2 W) => And.intro (recs_cells h.1 i hlt) (recs_cells h.2.2.1.row i hltd))
      have HSET := Lib.hid (fun W (h : LawK w2.heap.size w3.heap.size (.slice (some ⟨yb, 0, none⟩) cs.length yc) (.slice (some ⟨zb, 0, none⟩) ds.length zc) cs ds (i + 1) w2 W) qs g (hg : cs[i].v.ownBlock = some g) (hq : Own w2.heap.size W cs[i].v qs) j x => LawK.set h hlt hg hq (HLT.out i hlt g hg) HAP.out j x)
      have hck := HCD.out i hlt hltd
      have hbl := HBD.out i hlt
      have HBB : Hid (Own w2.heap.size wr cs[i].v cs[i].k.b ∧ Own w3.heap.size wr ds[i].v ds[i].k.b) := Lib.hid ⟨hg.out.2.1 i hlt (Nat.le_refl _), hg.out.2.2.1.bands _ (List.getElem_mem hltd)⟩
      have hszr : w2.heap.size ≤ wr.heap.size := hg.out.2.2.2.size
      have HG := Lib.hid hg.out
      clear hg HLT HAP HCD HBD
      generalize cs[i] = c at *
      generalize ds[i] = d at *
      obtain ⟨⟨ka, kp, bs⟩, ba, bc⟩ := c
      obtain ⟨dk, da, dc⟩ := d
      dsimp only at hck
      subst hck
      dsimp only [Ro.C.v] at HC1 HSET HBB hbl
      have hrf := below_drewN (Below.refl wr.heap.size wr) 1
      have HS11 : Hid ((fun W => (W.cell? ⟨yb, i * 3, none⟩ = some (.int .i64 ka) ∧ W.cell? ⟨yb, i * 3 + 1, none⟩ = some (.int .i64 kp) ∧ W.cell? ⟨yb, i * 3 + 2, none⟩ = some (.slice ba bs.length bc)) ∧ (W.cell? ⟨zb, i * 3, none⟩ = some (.int .i64 ka) ∧ W.cell? ⟨zb, i * 3 + 1, none⟩ = some (.int .i64 kp) ∧ W.cell? ⟨zb, i * 3 + 2, none⟩ = some (.slice da bs.length dc))) wr.drew) := Lib.hid (HC1.out _ _ (HG.out.all hrf hszr))
      have hcd : decide (i < cs.length) = true := decide_eq_true hlt
      have hdd : decide (i < ds.length) = true := decide_eq_true hltd
      have g1 : (ka == ka) = true := beq_self_eq_true _
      have g2 : (kp == kp) = true := beq_self_eq_true _
      have g3 : (ka != ka) = false := by rw [bne, g1]; rfl
      have g4 : (kp != kp) = false := by rw [bne, g2]; rfl
      go_wp2
      refine wp_region_seq [(0, true), (1, true), (2, true), (3, true), (4, true), (5, true), (6, true), (7, true), (8, true), (9, true), (10, true), (11, true), (12, true), (13, true), (14, true), (15, true), (16, true), (17, true), (18, true), (19, true), (20, true), (21, true), (22, true), (23, true), (24, true), (25, true), (26, true), (27, true), (28, true), (29, true), (30, true), (31, true), (32, true), (33, true), (34, true), (35, false), (36, true), (37, true)] (fun W => (W.cell? ⟨yb, i * 3, none⟩ = some (.int .i64 ka) ∧ W.cell? ⟨yb, i * 3 + 1, none⟩ = some (.int .i64 kp) ∧ W.cell? ⟨yb, i * 3 + 2, none⟩ = some (.slice ba bs.length bc)) ∧ (W.cell? ⟨zb, i * 3, none⟩ = some (.int .i64 ka) ∧ W.cell? ⟨zb, i * 3 + 1, none⟩ = some (.int .i64 kp) ∧ W.cell? ⟨zb, i * 3 + 2, none⟩ = some (.slice da bs.length dc)))
        (by kernel_rfl) (by kernel_rfl) (by kernel_rfl) (by kernel_rfl) (fun d _ _ _ _ h => by cases d <;> exact h) HS11.out (fun _ => ?_)
      repeat (first | (refine SeqH.take (v := ?_) rfl (by rfl) ?_ ?_; rotate_left; (· intro w hSw; (try dsimp only at hSw); obtain ⟨⟨q0, q1, q2⟩, q3, q4, q5⟩ := hSw; go_simp; (try rw [if_pos (by omega)]); (try with_reducible rfl)); simp only [Act.put, List.setIfInBounds_toArray, List.set_cons_zero, List.set_cons_succ]) | (refine SeqH.skip rfl (by rfl) ?_; simp only [Act.put, List.setIfInBounds_toArray, List.set_cons_zero, List.set_cons_succ]))
      refine SeqH.step rfl (by rfl) (fun K hK => ?_)
      go_simp
      refine (SR.out _ _ bs _ (HBB.out.1.drewN 1).runs (HBB.out.2.drewN 1).runs hbl).mono ?_
      rintro e w5 ⟨rfl, hb5⟩
      try dsimp only
      have HB5 := Lib.hid (And.intro ((HBB.out.1.all hrf).all hb5) ((HG.out.all hrf hszr).all hb5 (by exact hszr)))
      refine hK.out _ _ (HC1.out _ _ HB5.out.2) (fun _ => ?_)
      clear hK K hrf HBB HG HS11 hb5
      try simp only [Act.put, List.setIfInBounds_toArray, List.set_cons_zero, List.set_cons_succ]
      repeat (first | (refine SeqH.take (v := ?_) rfl (by rfl) ?_ ?_; rotate_left; (· intro w hSw; (try dsimp only at hSw); obtain ⟨⟨q0, q1, q2⟩, q3, q4, q5⟩ := hSw; go_simp; (try rw [if_pos (by omega)]); (try with_reducible rfl)); simp only [Act.put, List.setIfInBounds_toArray, List.set_cons_zero, List.set_cons_succ]) | (refine SeqH.skip rfl (by rfl) ?_; simp only [Act.put, List.setIfInBounds_toArray, List.set_cons_zero, List.set_cons_succ]))
      refine SeqH.done ?_
      go_wp2
      clear g1 g2 g3 g4
      go_loopw [13] (fun t wi => ∃ k : Nat, k ≤ bs.length ∧ t = .int .i64 k ∧ Hid (LawK w2.heap.size w3.heap.size (.slice (some ⟨yb, 0, none⟩) cs.length yc) (.slice (some ⟨zb, 0, none⟩) ds.length zc) cs ds (i + 1) w2 wi ∧ ∃ qs : List Bd.R, qs.length = bs.length ∧ Own w2.heap.size wi (.slice ba bs.length bc) qs)) (fun t _ => bs.length - (intOf t).toNat)
      case atStart => exact ⟨0, Nat.zero_le _, rfl, Lib.hid ⟨HB5.out.2.next, bs, rfl, HB5.out.1⟩⟩
      case round =>
        obtain ⟨k, hk, rfl, hin⟩ := hrel
        clear HB5
        have c2 := (HC1.out _ _ hin.out.1).1.2.2
        by_cases hkl : k < bs.length
        · obtain ⟨qs, hq1, hq2⟩ := hin.out.2
          rcases hq2.form with ⟨h, _⟩ | ⟨g, cap2, h, hg1, hg2, _, hf, hr⟩
          · simp only [Value.slice.injEq] at h; omega
          · simp only [Value.slice.injEq] at h
            obtain ⟨rfl, _, rfl⟩ := h
            have c0 := (hr k (by omega)).1
            have f0 := hf (k * 4)
            have hq3 : Own w2.heap.size wr (.slice (some ⟨g, 0, none⟩) qs.length bc) qs := by rw [hq1]; exact hq2
            have hq4 := hq3.setK k (-1) (by omega)
            rw [hq1] at hq4
            have HS := Lib.hid (And.intro (HSET.out wr hin.out.1 qs g rfl hq2 (k * 4) (.int .i64 (-1))) hq4)
            have HQ := Lib.hid hq1
            have hkd : decide (k < bs.length) = true := decide_eq_true hkl
            clear hin hq1 hq2 hq3 hq4 hf hr
            go_wp2
            go_roundw
            case rel => exact ⟨k + 1, by omega, by go_num, Lib.hid ⟨HS.out.1, qs.set k ⟨-1, (qs.getD k default).m⟩, by rw [List.length_set]; exact HQ.out, HS.out.2⟩⟩
            case measure => simp [intOf]; omega
        · obtain rfl : k = bs.length := by omega
          have HN := Lib.hid hin.out.1
          have hkd : decide (bs.length < bs.length) = false := decide_eq_false (Nat.lt_irrefl _)
          clear hin
          go_wp2
          go_roundw
          case rel => exact ⟨i + 1, by omega, by go_num, Lib.hid HN.out⟩
          case measure => simp [intOf]; omega
    · obtain rfl : i = cs.length := by omega
      have HW := Lib.hid hg.out.2.2.2
      have hcd : decide (cs.length < cs.length) = false := decide_eq_false (Nat.lt_irrefl _)
      clear hg HLT HAP HCD HBD
      go_wp2_with fail
      refine (SR.out _ _ rs _ (H2.out.1.all HW.out).runs (HV.out _ (below_step H2.out.2.2 HW.out)) hl).mono ?_
      rintro e w6 ⟨rfl, hb6⟩
      have HW6 := Lib.hid (below_step (below_step H2.out.2.2 HW.out) hb6)
      clear hb6 HW H2
      go_wp2_with fail
      refine (KN.out _).mono ?_
      rintro e w7 ⟨rfl, hb7⟩
      have HW7 := Lib.hid (below_step HW6.out hb7)
      clear hb7 HW6
      go_wp2
      go_ret
      exact ⟨rfl, HW7.out⟩

set_option maxRecDepth 20000 in
set_option maxHeartbeats 8000000 in
theorem records1 (v u x : Value) (ph rep : Int) (rs : List Bd.R) (al : List Ro.A) (xs : List Ro.X) (w : World) (hv : Runs w v rs) (hu : Arts w u al) (hx : Pcs w x xs) (ad : Addr) (c0 : Nat) (hrs : Hid (rs = [])) (hvf : Hid (v = .slice (some ad) 0 c0)) :
    Calls Try.prog 4 #[v, u, .agg #[x, .int .i64 ph, .int .i64 rep]] w fun e w' => e = .returned (.bool true) ∧ Below w.heap.size w w' := by
  obtain ⟨i0, hi, hz0, hz1, hz2⟩ := info_parts infoRun
  have bX := BlockAt.new w #[x, .int .i64 ph, .int .i64 rep] RcT
  have hw := below_alloc2 (Below.refl w.heap.size w) (.cells #[x, .int .i64 ph, .int .i64 rep] RcT)
  have LO := Lib.hid (rollLong_any v u x rs al.length xs.length _ (hv.all hw) (by obtain ⟨a, c, h, _⟩ := hu; exact ⟨a, c, h⟩) (by obtain ⟨a, c, h, _⟩ := hx; exact ⟨a, c, h⟩))
  have KN := Lib.hid (fun W => rollKnown_any W)
  cases hL : (decide (100 < rs.length) || (decide (40 < al.length) || decide (400 < xs.length)))
  case true =>
    rw [hL] at LO
    obtain ⟨va, vc, rfl⟩ := hv.form
    obtain ⟨ua, uc, rfl, _⟩ := hu
    obtain ⟨xa, xc, rfl, _⟩ := hx
    have HX := Lib.hid (And.intro bX hw)
    have x0 : World.cell? _ _ = some (.slice xa xs.length xc) := bX.cell 0
    clear bX hw hv hL
    go_enter Try.func4, Try.ntmps4
    go_wp2_with fail
    refine LO.out.mono ?_
    rintro e w1 ⟨rfl, hb1⟩
    have HB1 := Lib.hid (below_step HX.out.2 hb1)
    clear hb1 LO HX x0
    go_wp2_with fail
    refine (KN.out _).mono ?_
    rintro e w2 ⟨rfl, hb2⟩
    have HB2 := Lib.hid (below_step HB1.out hb2)
    clear hb2 HB1 KN
    go_wp2
    go_ret
    exact ⟨rfl, HB2.out⟩
  rw [hL] at LO
  simp only [Bool.or_eq_false_iff, decide_eq_false_iff_not] at hL
  have hl : rs.length ≤ 1000 := by omega
  have hal : al.length ≤ 1000 := by omega
  have hxl : xs.length ≤ 1000 := by omega
  have NF := Lib.hid (fun o W (hW : Below w.heap.size w W) (ho : Runs W o rs) => numRecords_any o u x rs al xs ph rep W ho (hu.all hW) (hx.all hW) hl hal hxl)
  have RF := Lib.hid (fun W (hW : Below w.heap.size w W) => refRecords_any v u x rs al xs ph rep W (hv.all hW) (hu.all hW) (hx.all hW) hl hal hxl)
  have SR := Lib.hid (fun a b qs W (ha : Runs W a qs) (hb : Runs W b qs) hq => same_runs_true a b qs W ha hb hq)
  have HRB : Hid (∀ k ∈ Ro.recR rs al xs ph rep, k.b.length ≤ 1000) := Lib.hid (fun k hk => Nat.le_trans (Ro.recR_band k hk) hl)
  have hRl : (Ro.recR rs al xs ph rep).length ≤ 1000 := Nat.le_trans Ro.recR_len hxl
  have HV := Lib.hid (fun W (hW : Below w.heap.size w W) => hv.all hW)
  generalize Ro.recE rs al xs ph rep = er at *
  generalize Ro.recR rs al xs ph rep = R at *
  have e1 : (er == er) = true := beq_self_eq_true _
  have e2 : (er != er) = false := by rw [bne, e1]; rfl
  obtain ⟨ua, uc, rfl, _⟩ := hu
  obtain ⟨xa, xc, rfl, _⟩ := hx
  have HX := Lib.hid (And.intro bX hw)
  have x0 : World.cell? _ _ = some (.slice xa xs.length xc) := bX.cell 0
  clear bX hw hL hal hxl
  obtain ⟨va, vl, vc, hvg⟩ : ∃ va vl vc, v = .slice va vl vc := ⟨_, _, _, hvf.out⟩
  rw [hvg] at hvf
  subst hvg
  have HVF := Lib.hid hvf.out
  clear hvf hv
  go_enter Try.func4, Try.ntmps4
  go_wp2_with fail
  refine LO.out.mono ?_
  rintro e w1 ⟨rfl, hb1⟩
  have H1 := Lib.hid (And.intro (HX.out.1.below hb1 HX.out.1.lt) (below_step HX.out.2 hb1))
  have hs1 := H1.out.2.size
  have hown := World.ownsRow_made (base := w.heap.size) (e := 52) (size := 4) w1 #[] 0 hs1 (by unfold maxLen; omega) rfl
  clear hb1 LO HX x0
  have hvf := HVF.out
  simp only [Value.slice.injEq] at hvf
  obtain ⟨rfl, rfl, rfl⟩ := hvf
  clear HVF
  go_wp2_with (at_builtin; refine wpList_append_own _ rfl _ _ 22 rfl w.heap.size 52 i0 (.agg #[.int .i64 0, .int .i64 0, .int .i64 0, .int .i64 0]) 4 32 Try.underlying22 hi hz0 hz1 hz2 rfl (by decide) _ _ _ rfl hown ad 0 _ [] rfl rfl (by intro j u h; simp at h) (by intro u h; cases h) (by unfold maxLen; omega) (by omega) (by simp; omega) ?_)
  intro ov w2 hown1 hgrow _
  have hw2 := (below_alloc2 H1.out.2 (.cells #[] 52)).grown hgrow (by rw [World.size_alloc]; omega) (fun j e => (World.ownsRow.lt hown j e).1)
  have ho2 : Own w.heap.size w2 ov rs := by
    unfold Own
    rw [hrs.out]
    exact hown1
  have hbx2 := (H1.out.1.alloc (.cells #[] 52)).grown hgrow (fun e => by
    have e2 : w1.heap.size = w.heap.size := by simpa [Value.ownBlock] using e.symm
    have := H1.out.1.lt
    omega)
  obtain ⟨oa, oc, hof⟩ := ho2.runs.form
  subst hof
  clear hown hown1 hgrow H1
  have H2 := Lib.hid (And.intro ho2 (And.intro hbx2 hw2))
  have x0 : World.cell? _ _ = some (.slice xa xs.length xc) := H2.out.2.1.cell 0
  have x1 : World.cell? _ _ = some (.int .i64 ph) := H2.out.2.1.cell 1
  have x2 : World.cell? _ _ = some (.int .i64 rep) := H2.out.2.1.cell 2
  clear ho2 hbx2 hw2
  try go_wp2_with fail
  refine (NF.out _ _ H2.out.2.2 H2.out.1.runs).mono ?_
  rintro e w3 ⟨y, cs, rfl, hy, hcs, hb3⟩
  obtain ⟨ya, yc, rfl⟩ := hy.form
  have H3 := Lib.hid (And.intro (H2.out.2.1.below hb3 H2.out.2.1.lt) (And.intro hy (And.intro (below_step H2.out.2.2 hb3) hb3)))
  have HCS := Lib.hid hcs
  clear hy hb3 hcs NF x0 x1 x2
  have x0 : World.cell? _ _ = some (.slice xa xs.length xc) := H3.out.1.cell 0
  have x1 : World.cell? _ _ = some (.int .i64 ph) := H3.out.1.cell 1
  have x2 : World.cell? _ _ = some (.int .i64 rep) := H3.out.1.cell 2
  go_wp2_with fail
  refine (RF.out _ H3.out.2.2.1).mono ?_
  rintro e w4 ⟨z, ds, rfl, hz, hds, hb4⟩
  obtain ⟨za, zc, rfl⟩ := hz.form
  have hlen : ds.length = cs.length := by
    have h1 := congrArg List.length HCS.out
    have h2 := congrArg List.length hds
    rw [List.length_map] at h1 h2
    omega
  have hcl : cs.length ≤ 1000 := by rw [← HCS.out, List.length_map] at hRl; exact hRl
  have HCD : Hid (∀ i (h : i < cs.length) (h2 : i < ds.length), ds[i].k = cs[i].k) := Lib.hid (fun i h h2 => by
    have e3 : (ds.map Ro.C.k)[i]? = (cs.map Ro.C.k)[i]? := by rw [hds, HCS.out]
    simpa [h, h2] using e3)
  have HBD : Hid (∀ i (h : i < cs.length), cs[i].k.b.length ≤ 1000) := Lib.hid (fun i h => HRB.out _ (by rw [← HCS.out]; exact List.mem_map_of_mem (List.getElem_mem h)))
  have HLT : Hid (∀ i (h : i < cs.length) g, cs[i].v.ownBlock = some g → g < w3.heap.size) := Lib.hid (fun i h g hg => H3.out.2.1.below _ (List.getElem_mem h) g hg)
  have HAP := Lib.hid H3.out.2.1.apart
  have HL0 : Hid (LawK w2.heap.size w3.heap.size (.slice ya cs.length yc) (.slice za ds.length zc) cs ds 0 w2 w4) := Lib.hid ⟨ownsRow_all H3.out.2.1.row hb4, fun k hk _ => (H3.out.2.1.bands _ (List.getElem_mem hk)).all hb4, hz, H3.out.2.2.2.trans (hb4.mono H3.out.2.2.2.size)⟩
  have hs24 : w2.heap.size ≤ w3.heap.size := H3.out.2.2.2.size
  have q7 : ((cs.length : Int) == (ds.length : Int)) = true := by rw [hlen]; exact beq_self_eq_true _
  have q8 : ((cs.length : Int) != (ds.length : Int)) = false := by rw [bne, q7]; rfl
  clear hz hds hb4 RF H3 HCS HRB x0 x1 x2
  go_wp2
  clear q7 q8 e1 e2
  go_loopw [12] (fun t wr => ∃ i : Nat, i ≤ cs.length ∧ t = .int .i64 i ∧ Hid (LawK w2.heap.size w3.heap.size (.slice ya cs.length yc) (.slice za ds.length zc) cs ds i w2 wr)) (fun t _ => cs.length - (intOf t).toNat)
  case atStart => exact ⟨0, Nat.zero_le _, rfl, HL0⟩
  case round =>
    obtain ⟨i, hi, rfl, hg⟩ := hrel
    clear HL0
    by_cases hlt : i < cs.length
    · have hltd : i < ds.length := by omega
      rcases recs_row hg.out.1 with ⟨_, h⟩ | ⟨yb, ycap, hye⟩
      · rw [h] at hlt; simp at hlt
      rcases recs_row hg.out.2.2.1.row with ⟨_, h⟩ | ⟨zb, zcap, hze⟩
      · rw [h] at hltd; simp at hltd
      simp only [Value.slice.injEq, true_and] at hye hze
      obtain ⟨rfl, rfl⟩ := hye
      obtain ⟨rfl, rfl⟩ := hze
      have HC1 := Lib.hid (fun W m (h : LawK w2.heap.size w3.heap.size (.slice (some ⟨yb, 0, none⟩) cs.length yc) (.slice (some ⟨zb, 0, none⟩) ds.length zc) cs ds m w2 W) => And.intro (recs_cells h.1 i hlt) (recs_cells h.2.2.1.row i hltd))
      have HSET := Lib.hid (fun W (h : LawK w2.heap.size w3.heap.size (.slice (some ⟨yb, 0, none⟩) cs.length yc) (.slice (some ⟨zb, 0, none⟩) ds.length zc) cs ds (i + 1) w2 W) qs g (hg : cs[i].v.ownBlock = some g) (hq : Own w2.heap.size W cs[i].v qs) j x => LawK.set h hlt hg hq (HLT.out i hlt g hg) HAP.out j x)
      have hck := HCD.out i hlt hltd
      have hbl := HBD.out i hlt
      have HBB : Hid (Own w2.heap.size wr cs[i].v cs[i].k.b ∧ Own w3.heap.size wr ds[i].v ds[i].k.b) := Lib.hid ⟨hg.out.2.1 i hlt (Nat.le_refl _), hg.out.2.2.1.bands _ (List.getElem_mem hltd)⟩
      have hszr : w2.heap.size ≤ wr.heap.size := hg.out.2.2.2.size
      have HG := Lib.hid hg.out
      clear hg HLT HAP HCD HBD
      generalize cs[i] = c at *
      generalize ds[i] = d at *
      obtain ⟨⟨ka, kp, bs⟩, ba, bc⟩ := c
      obtain ⟨dk, da, dc⟩ := d
      dsimp only at hck
      subst hck
      dsimp only [Ro.C.v] at HC1 HSET HBB hbl
      have hrf := below_drewN (Below.refl wr.heap.size wr) 1
      have HS11 : Hid ((fun W => (W.cell? ⟨yb, i * 3, none⟩ = some (.int .i64 ka) ∧ W.cell? ⟨yb, i * 3 + 1, none⟩ = some (.int .i64 kp) ∧ W.cell? ⟨yb, i * 3 + 2, none⟩ = some (.slice ba bs.length bc)) ∧ (W.cell? ⟨zb, i * 3, none⟩ = some (.int .i64 ka) ∧ W.cell? ⟨zb, i * 3 + 1, none⟩ = some (.int .i64 kp) ∧ W.cell? ⟨zb, i * 3 + 2, none⟩ = some (.slice da bs.length dc))) wr.drew) := Lib.hid (HC1.out _ _ (HG.out.all hrf hszr))
      have hcd : decide (i < cs.length) = true := decide_eq_true hlt
      have hdd : decide (i < ds.length) = true := decide_eq_true hltd
      have g1 : (ka == ka) = true := beq_self_eq_true _
      have g2 : (kp == kp) = true := beq_self_eq_true _
      have g3 : (ka != ka) = false := by rw [bne, g1]; rfl
      have g4 : (kp != kp) = false := by rw [bne, g2]; rfl
      go_wp2
      refine wp_region_seq [(0, true), (1, true), (2, true), (3, true), (4, true), (5, true), (6, true), (7, true), (8, true), (9, true), (10, true), (11, true), (12, true), (13, true), (14, true), (15, true), (16, true), (17, true), (18, true), (19, true), (20, true), (21, true), (22, true), (23, true), (24, true), (25, true), (26, true), (27, true), (28, true), (29, true), (30, true), (31, true), (32, true), (33, true), (34, true), (35, false), (36, true), (37, true)] (fun W => (W.cell? ⟨yb, i * 3, none⟩ = some (.int .i64 ka) ∧ W.cell? ⟨yb, i * 3 + 1, none⟩ = some (.int .i64 kp) ∧ W.cell? ⟨yb, i * 3 + 2, none⟩ = some (.slice ba bs.length bc)) ∧ (W.cell? ⟨zb, i * 3, none⟩ = some (.int .i64 ka) ∧ W.cell? ⟨zb, i * 3 + 1, none⟩ = some (.int .i64 kp) ∧ W.cell? ⟨zb, i * 3 + 2, none⟩ = some (.slice da bs.length dc)))
        (by kernel_rfl) (by kernel_rfl) (by kernel_rfl) (by kernel_rfl) (fun d _ _ _ _ h => by cases d <;> exact h) HS11.out (fun _ => ?_)
      repeat (first | (refine SeqH.take (v := ?_) rfl (by rfl) ?_ ?_; rotate_left; (· intro w hSw; (try dsimp only at hSw); obtain ⟨⟨q0, q1, q2⟩, q3, q4, q5⟩ := hSw; go_simp; (try rw [if_pos (by omega)]); (try with_reducible rfl)); simp only [Act.put, List.setIfInBounds_toArray, List.set_cons_zero, List.set_cons_succ]) | (refine SeqH.skip rfl (by rfl) ?_; simp only [Act.put, List.setIfInBounds_toArray, List.set_cons_zero, List.set_cons_succ]))
      refine SeqH.step rfl (by rfl) (fun K hK => ?_)
      go_simp
      refine (SR.out _ _ bs _ (HBB.out.1.drewN 1).runs (HBB.out.2.drewN 1).runs hbl).mono ?_
      rintro e w5 ⟨rfl, hb5⟩
      try dsimp only
      have HB5 := Lib.hid (And.intro ((HBB.out.1.all hrf).all hb5) ((HG.out.all hrf hszr).all hb5 (by exact hszr)))
      refine hK.out _ _ (HC1.out _ _ HB5.out.2) (fun _ => ?_)
      clear hK K hrf HBB HG HS11 hb5
      try simp only [Act.put, List.setIfInBounds_toArray, List.set_cons_zero, List.set_cons_succ]
      repeat (first | (refine SeqH.take (v := ?_) rfl (by rfl) ?_ ?_; rotate_left; (· intro w hSw; (try dsimp only at hSw); obtain ⟨⟨q0, q1, q2⟩, q3, q4, q5⟩ := hSw; go_simp; (try rw [if_pos (by omega)]); (try with_reducible rfl)); simp only [Act.put, List.setIfInBounds_toArray, List.set_cons_zero, List.set_cons_succ]) | (refine SeqH.skip rfl (by rfl) ?_; simp only [Act.put, List.setIfInBounds_toArray, List.set_cons_zero, List.set_cons_succ]))
      refine SeqH.done ?_
      go_wp2
      clear g1 g2 g3 g4
      go_loopw [13] (fun t wi => ∃ k : Nat, k ≤ bs.length ∧ t = .int .i64 k ∧ Hid (LawK w2.heap.size w3.heap.size (.slice (some ⟨yb, 0, none⟩) cs.length yc) (.slice (some ⟨zb, 0, none⟩) ds.length zc) cs ds (i + 1) w2 wi ∧ ∃ qs : List Bd.R, qs.length = bs.length ∧ Own w2.heap.size wi (.slice ba bs.length bc) qs)) (fun t _ => bs.length - (intOf t).toNat)
      case atStart => exact ⟨0, Nat.zero_le _, rfl, Lib.hid ⟨HB5.out.2.next, bs, rfl, HB5.out.1⟩⟩
      case round =>
        obtain ⟨k, hk, rfl, hin⟩ := hrel
        clear HB5
        have c2 := (HC1.out _ _ hin.out.1).1.2.2
        by_cases hkl : k < bs.length
        · obtain ⟨qs, hq1, hq2⟩ := hin.out.2
          rcases hq2.form with ⟨h, _⟩ | ⟨g, cap2, h, hg1, hg2, _, hf, hr⟩
          · simp only [Value.slice.injEq] at h; omega
          · simp only [Value.slice.injEq] at h
            obtain ⟨rfl, _, rfl⟩ := h
            have c0 := (hr k (by omega)).1
            have f0 := hf (k * 4)
            have hq3 : Own w2.heap.size wr (.slice (some ⟨g, 0, none⟩) qs.length bc) qs := by rw [hq1]; exact hq2
            have hq4 := hq3.setK k (-1) (by omega)
            rw [hq1] at hq4
            have HS := Lib.hid (And.intro (HSET.out wr hin.out.1 qs g rfl hq2 (k * 4) (.int .i64 (-1))) hq4)
            have HQ := Lib.hid hq1
            have hkd : decide (k < bs.length) = true := decide_eq_true hkl
            clear hin hq1 hq2 hq3 hq4 hf hr
            go_wp2
            go_roundw
            case rel => exact ⟨k + 1, by omega, by go_num, Lib.hid ⟨HS.out.1, qs.set k ⟨-1, (qs.getD k default).m⟩, by rw [List.length_set]; exact HQ.out, HS.out.2⟩⟩
            case measure => simp [intOf]; omega
        · obtain rfl : k = bs.length := by omega
          have HN := Lib.hid hin.out.1
          have hkd : decide (bs.length < bs.length) = false := decide_eq_false (Nat.lt_irrefl _)
          clear hin
          go_wp2
          go_roundw
          case rel => exact ⟨i + 1, by omega, by go_num, Lib.hid HN.out⟩
          case measure => simp [intOf]; omega
    · obtain rfl : i = cs.length := by omega
      have HW := Lib.hid hg.out.2.2.2
      have hcd : decide (cs.length < cs.length) = false := decide_eq_false (Nat.lt_irrefl _)
      clear hg HLT HAP HCD HBD
      go_wp2_with fail
      refine (SR.out _ _ rs _ (H2.out.1.all HW.out).runs (HV.out _ (below_step H2.out.2.2 HW.out)) hl).mono ?_
      rintro e w6 ⟨rfl, hb6⟩
      have HW6 := Lib.hid (below_step (below_step H2.out.2.2 HW.out) hb6)
      clear hb6 HW H2
      go_wp2_with fail
      refine (KN.out _).mono ?_
      rintro e w7 ⟨rfl, hb7⟩
      have HW7 := Lib.hid (below_step HW6.out hb7)
      clear hb7 HW6
      go_wp2
      go_ret
      exact ⟨rfl, HW7.out⟩

set_option maxRecDepth 20000 in
set_option maxHeartbeats 8000000 in
theorem records2 (v u x : Value) (ph rep : Int) (rs : List Bd.R) (al : List Ro.A) (xs : List Ro.X) (w : World) (hv : Runs w v rs) (hu : Arts w u al) (hx : Pcs w x xs) (b off cap : Nat) (hvf : Hid (v = .slice (some ⟨b, off, none⟩) rs.length cap)) (hcap : rs.length ≤ cap) (hb : b < w.heap.size) (hc : ∀ k, k < rs.length → RunAt w b (off + k * 4) (rs.getD k default)) :
    Calls Try.prog 4 #[v, u, .agg #[x, .int .i64 ph, .int .i64 rep]] w fun e w' => e = .returned (.bool true) ∧ Below w.heap.size w w' := by
  obtain ⟨i0, hi, hz0, hz1, hz2⟩ := info_parts infoRun
  have bX := BlockAt.new w #[x, .int .i64 ph, .int .i64 rep] RcT
  have hw := below_alloc2 (Below.refl w.heap.size w) (.cells #[x, .int .i64 ph, .int .i64 rep] RcT)
  have LO := Lib.hid (rollLong_any v u x rs al.length xs.length _ (hv.all hw) (by obtain ⟨a, c, h, _⟩ := hu; exact ⟨a, c, h⟩) (by obtain ⟨a, c, h, _⟩ := hx; exact ⟨a, c, h⟩))
  have KN := Lib.hid (fun W => rollKnown_any W)
  cases hL : (decide (100 < rs.length) || (decide (40 < al.length) || decide (400 < xs.length)))
  case true =>
    rw [hL] at LO
    obtain ⟨va, vc, rfl⟩ := hv.form
    obtain ⟨ua, uc, rfl, _⟩ := hu
    obtain ⟨xa, xc, rfl, _⟩ := hx
    have HX := Lib.hid (And.intro bX hw)
    have x0 : World.cell? _ _ = some (.slice xa xs.length xc) := bX.cell 0
    clear bX hw hv hL
    go_enter Try.func4, Try.ntmps4
    go_wp2_with fail
    refine LO.out.mono ?_
    rintro e w1 ⟨rfl, hb1⟩
    have HB1 := Lib.hid (below_step HX.out.2 hb1)
    clear hb1 LO HX x0
    go_wp2_with fail
    refine (KN.out _).mono ?_
    rintro e w2 ⟨rfl, hb2⟩
    have HB2 := Lib.hid (below_step HB1.out hb2)
    clear hb2 HB1 KN
    go_wp2
    go_ret
    exact ⟨rfl, HB2.out⟩
  rw [hL] at LO
  simp only [Bool.or_eq_false_iff, decide_eq_false_iff_not] at hL
  have hl : rs.length ≤ 1000 := by omega
  have hal : al.length ≤ 1000 := by omega
  have hxl : xs.length ≤ 1000 := by omega
  have NF := Lib.hid (fun o W (hW : Below w.heap.size w W) (ho : Runs W o rs) => numRecords_any o u x rs al xs ph rep W ho (hu.all hW) (hx.all hW) hl hal hxl)
  have RF := Lib.hid (fun W (hW : Below w.heap.size w W) => refRecords_any v u x rs al xs ph rep W (hv.all hW) (hu.all hW) (hx.all hW) hl hal hxl)
  have SR := Lib.hid (fun a b qs W (ha : Runs W a qs) (hb : Runs W b qs) hq => same_runs_true a b qs W ha hb hq)
  have HRB : Hid (∀ k ∈ Ro.recR rs al xs ph rep, k.b.length ≤ 1000) := Lib.hid (fun k hk => Nat.le_trans (Ro.recR_band k hk) hl)
  have hRl : (Ro.recR rs al xs ph rep).length ≤ 1000 := Nat.le_trans Ro.recR_len hxl
  have HV := Lib.hid (fun W (hW : Below w.heap.size w W) => hv.all hW)
  generalize Ro.recE rs al xs ph rep = er at *
  generalize Ro.recR rs al xs ph rep = R at *
  have e1 : (er == er) = true := beq_self_eq_true _
  have e2 : (er != er) = false := by rw [bne, e1]; rfl
  obtain ⟨ua, uc, rfl, _⟩ := hu
  obtain ⟨xa, xc, rfl, _⟩ := hx
  have HX := Lib.hid (And.intro bX hw)
  have x0 : World.cell? _ _ = some (.slice xa xs.length xc) := bX.cell 0
  clear bX hw hL hal hxl
  obtain ⟨va, vl, vc, hvg⟩ : ∃ va vl vc, v = .slice va vl vc := ⟨_, _, _, hvf.out⟩
  rw [hvg] at hvf
  subst hvg
  have HVF := Lib.hid hvf.out
  clear hvf hv
  go_enter Try.func4, Try.ntmps4
  go_wp2_with fail
  refine LO.out.mono ?_
  rintro e w1 ⟨rfl, hb1⟩
  have H1 := Lib.hid (And.intro (HX.out.1.below hb1 HX.out.1.lt) (below_step HX.out.2 hb1))
  have hs1 := H1.out.2.size
  have hown := World.ownsRow_made (base := w.heap.size) (e := 52) (size := 4) w1 #[] 0 hs1 (by unfold maxLen; omega) rfl
  have hc1 : ∀ k, k < rs.length → RunAt w1 b (off + k * 4) (rs.getD k default) := fun k hk => (hc k hk).below H1.out.2 hb
  have hcells : ∀ (j : Nat) (u : Value), (cellsR rs)[j]? = some u → (w1.alloc (.cells #[] 52)).cell? ((⟨b, off, none⟩ : Addr).add j) = some u := runs_cells (Nat.lt_of_lt_of_le hb hs1) hc1
  clear hb1 LO HX x0 hc1
  have hvf := HVF.out
  simp only [Value.slice.injEq] at hvf
  obtain ⟨rfl, rfl, rfl⟩ := hvf
  clear HVF
  go_wp2_with (at_builtin; refine wpList_append_own _ rfl _ _ 22 rfl w.heap.size 52 i0 (.agg #[.int .i64 0, .int .i64 0, .int .i64 0, .int .i64 0]) 4 32 Try.underlying22 hi hz0 hz1 hz2 rfl (by decide) _ _ _ rfl hown ⟨b, off, none⟩ rs.length _ (cellsR rs) rfl (cellsR_length rs) hcells (cellsR_one rs) (by unfold maxLen; omega) (by omega) (by simp; omega) ?_)
  intro ov w2 hown1 hgrow _
  have hw2 := (below_alloc2 H1.out.2 (.cells #[] 52)).grown hgrow (by rw [World.size_alloc]; omega) (fun j e => (World.ownsRow.lt hown j e).1)
  have ho2 : Own w.heap.size w2 ov rs := by
    unfold Own
    simpa using hown1
  have hbx2 := (H1.out.1.alloc (.cells #[] 52)).grown hgrow (fun e => by
    have e2 : w1.heap.size = w.heap.size := by simpa [Value.ownBlock] using e.symm
    have := H1.out.1.lt
    omega)
  obtain ⟨oa, oc, hof⟩ := ho2.runs.form
  subst hof
  clear hown hown1 hgrow H1
  have H2 := Lib.hid (And.intro ho2 (And.intro hbx2 hw2))
  have x0 : World.cell? _ _ = some (.slice xa xs.length xc) := H2.out.2.1.cell 0
  have x1 : World.cell? _ _ = some (.int .i64 ph) := H2.out.2.1.cell 1
  have x2 : World.cell? _ _ = some (.int .i64 rep) := H2.out.2.1.cell 2
  clear ho2 hbx2 hw2
  try go_wp2_with fail
  refine (NF.out _ _ H2.out.2.2 H2.out.1.runs).mono ?_
  rintro e w3 ⟨y, cs, rfl, hy, hcs, hb3⟩
  obtain ⟨ya, yc, rfl⟩ := hy.form
  have H3 := Lib.hid (And.intro (H2.out.2.1.below hb3 H2.out.2.1.lt) (And.intro hy (And.intro (below_step H2.out.2.2 hb3) hb3)))
  have HCS := Lib.hid hcs
  clear hy hb3 hcs NF x0 x1 x2
  have x0 : World.cell? _ _ = some (.slice xa xs.length xc) := H3.out.1.cell 0
  have x1 : World.cell? _ _ = some (.int .i64 ph) := H3.out.1.cell 1
  have x2 : World.cell? _ _ = some (.int .i64 rep) := H3.out.1.cell 2
  go_wp2_with fail
  refine (RF.out _ H3.out.2.2.1).mono ?_
  rintro e w4 ⟨z, ds, rfl, hz, hds, hb4⟩
  obtain ⟨za, zc, rfl⟩ := hz.form
  have hlen : ds.length = cs.length := by
    have h1 := congrArg List.length HCS.out
    have h2 := congrArg List.length hds
    rw [List.length_map] at h1 h2
    omega
  have hcl : cs.length ≤ 1000 := by rw [← HCS.out, List.length_map] at hRl; exact hRl
  have HCD : Hid (∀ i (h : i < cs.length) (h2 : i < ds.length), ds[i].k = cs[i].k) := Lib.hid (fun i h h2 => by
    have e3 : (ds.map Ro.C.k)[i]? = (cs.map Ro.C.k)[i]? := by rw [hds, HCS.out]
    simpa [h, h2] using e3)
  have HBD : Hid (∀ i (h : i < cs.length), cs[i].k.b.length ≤ 1000) := Lib.hid (fun i h => HRB.out _ (by rw [← HCS.out]; exact List.mem_map_of_mem (List.getElem_mem h)))
  have HLT : Hid (∀ i (h : i < cs.length) g, cs[i].v.ownBlock = some g → g < w3.heap.size) := Lib.hid (fun i h g hg => H3.out.2.1.below _ (List.getElem_mem h) g hg)
  have HAP := Lib.hid H3.out.2.1.apart
  have HL0 : Hid (LawK w2.heap.size w3.heap.size (.slice ya cs.length yc) (.slice za ds.length zc) cs ds 0 w2 w4) := Lib.hid ⟨ownsRow_all H3.out.2.1.row hb4, fun k hk _ => (H3.out.2.1.bands _ (List.getElem_mem hk)).all hb4, hz, H3.out.2.2.2.trans (hb4.mono H3.out.2.2.2.size)⟩
  have hs24 : w2.heap.size ≤ w3.heap.size := H3.out.2.2.2.size
  have q7 : ((cs.length : Int) == (ds.length : Int)) = true := by rw [hlen]; exact beq_self_eq_true _
  have q8 : ((cs.length : Int) != (ds.length : Int)) = false := by rw [bne, q7]; rfl
  clear hz hds hb4 RF H3 HCS HRB x0 x1 x2
  go_wp2
  clear q7 q8 e1 e2
  go_loopw [12] (fun t wr => ∃ i : Nat, i ≤ cs.length ∧ t = .int .i64 i ∧ Hid (LawK w2.heap.size w3.heap.size (.slice ya cs.length yc) (.slice za ds.length zc) cs ds i w2 wr)) (fun t _ => cs.length - (intOf t).toNat)
  case atStart => exact ⟨0, Nat.zero_le _, rfl, HL0⟩
  case round =>
    obtain ⟨i, hi, rfl, hg⟩ := hrel
    clear HL0
    by_cases hlt : i < cs.length
    · have hltd : i < ds.length := by omega
      rcases recs_row hg.out.1 with ⟨_, h⟩ | ⟨yb, ycap, hye⟩
      · rw [h] at hlt; simp at hlt
      rcases recs_row hg.out.2.2.1.row with ⟨_, h⟩ | ⟨zb, zcap, hze⟩
      · rw [h] at hltd; simp at hltd
      simp only [Value.slice.injEq, true_and] at hye hze
      obtain ⟨rfl, rfl⟩ := hye
      obtain ⟨rfl, rfl⟩ := hze
      have HC1 := Lib.hid (fun W m (h : LawK w2.heap.size w3.heap.size (.slice (some ⟨yb, 0, none⟩) cs.length yc) (.slice (some ⟨zb, 0, none⟩) ds.length zc) cs ds m w2 W) => And.intro (recs_cells h.1 i hlt) (recs_cells h.2.2.1.row i hltd))
      have HSET := Lib.hid (fun W (h : LawK w2.heap.size w3.heap.size (.slice (some ⟨yb, 0, none⟩) cs.length yc) (.slice (some ⟨zb, 0, none⟩) ds.length zc) cs ds (i + 1) w2 W) qs g (hg : cs[i].v.ownBlock = some g) (hq : Own w2.heap.size W cs[i].v qs) j x => LawK.set h hlt hg hq (HLT.out i hlt g hg) HAP.out j x)
      have hck := HCD.out i hlt hltd
      have hbl := HBD.out i hlt
      have HBB : Hid (Own w2.heap.size wr cs[i].v cs[i].k.b ∧ Own w3.heap.size wr ds[i].v ds[i].k.b) := Lib.hid ⟨hg.out.2.1 i hlt (Nat.le_refl _), hg.out.2.2.1.bands _ (List.getElem_mem hltd)⟩
      have hszr : w2.heap.size ≤ wr.heap.size := hg.out.2.2.2.size
      have HG := Lib.hid hg.out
      clear hg HLT HAP HCD HBD
      generalize cs[i] = c at *
      generalize ds[i] = d at *
      obtain ⟨⟨ka, kp, bs⟩, ba, bc⟩ := c
      obtain ⟨dk, da, dc⟩ := d
      dsimp only at hck
      subst hck
      dsimp only [Ro.C.v] at HC1 HSET HBB hbl
      have hrf := below_drewN (Below.refl wr.heap.size wr) 1
      have HS11 : Hid ((fun W => (W.cell? ⟨yb, i * 3, none⟩ = some (.int .i64 ka) ∧ W.cell? ⟨yb, i * 3 + 1, none⟩ = some (.int .i64 kp) ∧ W.cell? ⟨yb, i * 3 + 2, none⟩ = some (.slice ba bs.length bc)) ∧ (W.cell? ⟨zb, i * 3, none⟩ = some (.int .i64 ka) ∧ W.cell? ⟨zb, i * 3 + 1, none⟩ = some (.int .i64 kp) ∧ W.cell? ⟨zb, i * 3 + 2, none⟩ = some (.slice da bs.length dc))) wr.drew) := Lib.hid (HC1.out _ _ (HG.out.all hrf hszr))
      have hcd : decide (i < cs.length) = true := decide_eq_true hlt
      have hdd : decide (i < ds.length) = true := decide_eq_true hltd
      have g1 : (ka == ka) = true := beq_self_eq_true _
      have g2 : (kp == kp) = true := beq_self_eq_true _
      have g3 : (ka != ka) = false := by rw [bne, g1]; rfl
      have g4 : (kp != kp) = false := by rw [bne, g2]; rfl
      go_wp2
      refine wp_region_seq [(0, true), (1, true), (2, true), (3, true), (4, true), (5, true), (6, true), (7, true), (8, true), (9, true), (10, true), (11, true), (12, true), (13, true), (14, true), (15, true), (16, true), (17, true), (18, true), (19, true), (20, true), (21, true), (22, true), (23, true), (24, true), (25, true), (26, true), (27, true), (28, true), (29, true), (30, true), (31, true), (32, true), (33, true), (34, true), (35, false), (36, true), (37, true)] (fun W => (W.cell? ⟨yb, i * 3, none⟩ = some (.int .i64 ka) ∧ W.cell? ⟨yb, i * 3 + 1, none⟩ = some (.int .i64 kp) ∧ W.cell? ⟨yb, i * 3 + 2, none⟩ = some (.slice ba bs.length bc)) ∧ (W.cell? ⟨zb, i * 3, none⟩ = some (.int .i64 ka) ∧ W.cell? ⟨zb, i * 3 + 1, none⟩ = some (.int .i64 kp) ∧ W.cell? ⟨zb, i * 3 + 2, none⟩ = some (.slice da bs.length dc)))
        (by kernel_rfl) (by kernel_rfl) (by kernel_rfl) (by kernel_rfl) (fun d _ _ _ _ h => by cases d <;> exact h) HS11.out (fun _ => ?_)
      repeat (first | (refine SeqH.take (v := ?_) rfl (by rfl) ?_ ?_; rotate_left; (· intro w hSw; (try dsimp only at hSw); obtain ⟨⟨q0, q1, q2⟩, q3, q4, q5⟩ := hSw; go_simp; (try rw [if_pos (by omega)]); (try with_reducible rfl)); simp only [Act.put, List.setIfInBounds_toArray, List.set_cons_zero, List.set_cons_succ]) | (refine SeqH.skip rfl (by rfl) ?_; simp only [Act.put, List.setIfInBounds_toArray, List.set_cons_zero, List.set_cons_succ]))
      refine SeqH.step rfl (by rfl) (fun K hK => ?_)
      go_simp
      refine (SR.out _ _ bs _ (HBB.out.1.drewN 1).runs (HBB.out.2.drewN 1).runs hbl).mono ?_
      rintro e w5 ⟨rfl, hb5⟩
      try dsimp only
      have HB5 := Lib.hid (And.intro ((HBB.out.1.all hrf).all hb5) ((HG.out.all hrf hszr).all hb5 (by exact hszr)))
      refine hK.out _ _ (HC1.out _ _ HB5.out.2) (fun _ => ?_)
      clear hK K hrf HBB HG HS11 hb5
      try simp only [Act.put, List.setIfInBounds_toArray, List.set_cons_zero, List.set_cons_succ]
      repeat (first | (refine SeqH.take (v := ?_) rfl (by rfl) ?_ ?_; rotate_left; (· intro w hSw; (try dsimp only at hSw); obtain ⟨⟨q0, q1, q2⟩, q3, q4, q5⟩ := hSw; go_simp; (try rw [if_pos (by omega)]); (try with_reducible rfl)); simp only [Act.put, List.setIfInBounds_toArray, List.set_cons_zero, List.set_cons_succ]) | (refine SeqH.skip rfl (by rfl) ?_; simp only [Act.put, List.setIfInBounds_toArray, List.set_cons_zero, List.set_cons_succ]))
      refine SeqH.done ?_
      go_wp2
      clear g1 g2 g3 g4
      go_loopw [13] (fun t wi => ∃ k : Nat, k ≤ bs.length ∧ t = .int .i64 k ∧ Hid (LawK w2.heap.size w3.heap.size (.slice (some ⟨yb, 0, none⟩) cs.length yc) (.slice (some ⟨zb, 0, none⟩) ds.length zc) cs ds (i + 1) w2 wi ∧ ∃ qs : List Bd.R, qs.length = bs.length ∧ Own w2.heap.size wi (.slice ba bs.length bc) qs)) (fun t _ => bs.length - (intOf t).toNat)
      case atStart => exact ⟨0, Nat.zero_le _, rfl, Lib.hid ⟨HB5.out.2.next, bs, rfl, HB5.out.1⟩⟩
      case round =>
        obtain ⟨k, hk, rfl, hin⟩ := hrel
        clear HB5
        have c2 := (HC1.out _ _ hin.out.1).1.2.2
        by_cases hkl : k < bs.length
        · obtain ⟨qs, hq1, hq2⟩ := hin.out.2
          rcases hq2.form with ⟨h, _⟩ | ⟨g, cap2, h, hg1, hg2, _, hf, hr⟩
          · simp only [Value.slice.injEq] at h; omega
          · simp only [Value.slice.injEq] at h
            obtain ⟨rfl, _, rfl⟩ := h
            have c0 := (hr k (by omega)).1
            have f0 := hf (k * 4)
            have hq3 : Own w2.heap.size wr (.slice (some ⟨g, 0, none⟩) qs.length bc) qs := by rw [hq1]; exact hq2
            have hq4 := hq3.setK k (-1) (by omega)
            rw [hq1] at hq4
            have HS := Lib.hid (And.intro (HSET.out wr hin.out.1 qs g rfl hq2 (k * 4) (.int .i64 (-1))) hq4)
            have HQ := Lib.hid hq1
            have hkd : decide (k < bs.length) = true := decide_eq_true hkl
            clear hin hq1 hq2 hq3 hq4 hf hr
            go_wp2
            go_roundw
            case rel => exact ⟨k + 1, by omega, by go_num, Lib.hid ⟨HS.out.1, qs.set k ⟨-1, (qs.getD k default).m⟩, by rw [List.length_set]; exact HQ.out, HS.out.2⟩⟩
            case measure => simp [intOf]; omega
        · obtain rfl : k = bs.length := by omega
          have HN := Lib.hid hin.out.1
          have hkd : decide (bs.length < bs.length) = false := decide_eq_false (Nat.lt_irrefl _)
          clear hin
          go_wp2
          go_roundw
          case rel => exact ⟨i + 1, by omega, by go_num, Lib.hid HN.out⟩
          case measure => simp [intOf]; omega
    · obtain rfl : i = cs.length := by omega
      have HW := Lib.hid hg.out.2.2.2
      have hcd : decide (cs.length < cs.length) = false := decide_eq_false (Nat.lt_irrefl _)
      clear hg HLT HAP HCD HBD
      go_wp2_with fail
      refine (SR.out _ _ rs _ (H2.out.1.all HW.out).runs (HV.out _ (below_step H2.out.2.2 HW.out)) hl).mono ?_
      rintro e w6 ⟨rfl, hb6⟩
      have HW6 := Lib.hid (below_step (below_step H2.out.2.2 HW.out) hb6)
      clear hb6 HW H2
      go_wp2_with fail
      refine (KN.out _).mono ?_
      rintro e w7 ⟨rfl, hb7⟩
      have HW7 := Lib.hid (below_step HW6.out hb7)
      clear hb7 HW6
      go_wp2
      go_ret
      exact ⟨rfl, HW7.out⟩

theorem records_walk (v u x : Value) (ph rep : Int) (rs : List Bd.R) (al : List Ro.A) (xs : List Ro.X) (w : World) (hv : Runs w v rs) (hu : Arts w u al) (hx : Pcs w x xs) :
    Calls Try.prog 4 #[v, u, .agg #[x, .int .i64 ph, .int .i64 rep]] w fun e w' => e = .returned (.bool true) ∧ Below w.heap.size w w' := by
  rcases id hv with ⟨a0, c0, hvf, hrs, hn0⟩ | ⟨b, off, cap, hvf, hcap, hb, hc⟩
  · cases a0 with
    | none =>
      obtain rfl := hn0 rfl
      exact records0 v u x ph rep rs al xs w hv hu hx (Lib.hid hrs) (Lib.hid hvf)
    | some ad => exact records1 v u x ph rep rs al xs w hv hu hx ad c0 (Lib.hid hrs) (Lib.hid hvf)
  · exact records2 v u x ph rep rs al xs w hv hu hx b off cap (Lib.hid hvf) hcap hb hc
end Go.Proofs.Ytbmjjmpdlmbehaa
