/- Records of the program. -/
import Derived.Test.YtbmjjmpdlmbehaaRoll46
import Derived.Test.YtbmjjmpdlmbehaaSeq
namespace Go.Proofs.Ytbmjjmpdlmbehaa
open Go.RowKit

theorem Ro.rec_ok {rs : List Bd.R} {al : List Ro.A} {xs : List Ro.X} (hz : Ro.chkE rs al xs = 0) : ∀ j (hj : j < xs.length), ∃ k : Nat, ∃ hk : k < al.length, xs[j].a = k ∧ 0 ≤ xs[j].f ∧ xs[j].f ≤ 300 ∧ (1 ≤ al[k].l ∧ al[k].l ≤ 300) ∧ Ro.art al xs[j].a = al[k] ∧ Bd.sliE rs xs[j].f (xs[j].f + al[k].l) = 0 := by
  intro j hj
  obtain ⟨hz1, hz2⟩ := Ro.chkE_zero hz
  obtain ⟨h1, h2, h3, h4, h5, h6⟩ := Ro.lay_facts hz1
  obtain ⟨k, hk, h, g1, g2⟩ := Ro.fitX_split (Ro.chk_each hz2 j hj)
  have ho := (Ro.okA_iff.1 (h6 _ (List.getElem_mem hk))).1
  exact ⟨k, hk, h, g1, by omega, ho, by rw [h, Ro.art_at hk], Bd.sliE_ok h1 g1 (by omega) (by rw [h3]; exact g2)⟩
theorem Ro.recs_next {rs : List Bd.R} {al : List Ro.A} {xs : List Ro.X} {ph rep : Int} {cs : List Ro.C} {j : Nat} (hj : j < xs.length) (h : cs.map Ro.C.k = (xs.take j).map (Ro.rec1 rs al ph rep)) {c : Ro.C} (hc : c.k = Ro.rec1 rs al ph rep xs[j]) : (cs ++ [c]).map Ro.C.k = (xs.take (j + 1)).map (Ro.rec1 rs al ph rep) := by
  rw [List.map_append, h, List.take_succ_eq_append_getElem hj, List.map_append, List.map_singleton, List.map_singleton, hc]

set_option maxRecDepth 20000 in
set_option maxHeartbeats 8000000 in
theorem numRecords_any (v u x : Value) (rs : List Bd.R) (al : List Ro.A) (xs : List Ro.X) (ph rep : Int) (w : World) (hv : Runs w v rs) (hu : Arts w u al) (hx : Pcs w x xs) (hl : rs.length ≤ 1000) (hal : al.length ≤ 1000) (hxl : xs.length ≤ 1000) :
    Calls Try.prog 13 #[v, u, x, .int .i64 ph, .int .i64 rep] w fun e w' => ∃ y cs, e = .returned (.tuple #[y, .int .i64 (Ro.recE rs al xs ph rep)]) ∧ OwnK 46 w.heap.size w' y cs ∧ cs.map Ro.C.k = Ro.recR rs al xs ph rep ∧ Below w.heap.size w w' := by
  obtain ⟨i0, hi, hz0, hz1, hz2⟩ := info_parts (infoRec 46 (.inl rfl))
  by_cases hz : Ro.chkE rs al xs = 0
  case neg =>
    have LY := Lib.hid (layFor_bad v u x rs al xs w hv hu hx hl hal hxl hz)
    have hE : Ro.recE rs al xs ph rep = Ro.chkE rs al xs := if_neg hz
    have hR : Ro.recR rs al xs ph rep = [] := if_neg (by rw [hE]; exact hz)
    rw [hR, hE]
    obtain ⟨va, vc, rfl⟩ := hv.form
    obtain ⟨ua, uc, rfl, _⟩ := hu
    obtain ⟨xa, xc, rfl, _⟩ := hx
    generalize Ro.chkE rs al xs = q at *
    have hd : (q == 0) = false := beq_eq_false_iff_ne.2 hz
    have hd2 : (q != 0) = true := by rw [bne, hd]; rfl
    clear hv hz hR hE
    go_enter Try.func13, Try.ntmps13
    go_wp2_with fail
    refine LY.out.mono ?_
    rintro e w1 ⟨rfl, hb1⟩
    have HB := Lib.hid (below_alloc2 hb1 (.cells (tabA (.slice none 0 0) 0 (.slice none 0 0)) TabT))
    clear hb1 LY
    go_wp2
    go_ret2
    exact ⟨_, [], rfl, OwnK.nil _ _ _, rfl, HB.out⟩
  have LY := Lib.hid (layFor_ok v u x rs al xs w hv hu hx hl hal hxl hz)
  by_cases hb : Ro.recOk ph rep = true
  case neg =>
    have hE : Ro.recE rs al xs ph rep = 1 := (if_pos hz).trans (if_neg hb)
    have hR : Ro.recR rs al xs ph rep = [] := if_neg (by rw [hE]; decide)
    rw [hR, hE]
    have FA := Lib.hid (fun W => rollFrom_any 1 144 rep W)
    have FB := Lib.hid (fun W => rollFrom_any 0 (rep - 1) ph W)
    unfold Ro.recOk at hb
    obtain ⟨va, vc, rfl⟩ := hv.form
    obtain ⟨ua, uc, rfl, _⟩ := hu
    obtain ⟨xa, xc, rfl, _⟩ := hx
    clear hv hz hR hE
    generalize ((Bd.exp rs).length : Int) = N at *
    obtain ⟨vl, hvl⟩ : ∃ y, y = rs.length := ⟨_, rfl⟩
    rw [← hvl] at LY ⊢
    clear hvl hl
    by_cases h1 : (decide (1 ≤ rep) && decide (rep ≤ 144)) = true
    · rw [h1, Bool.true_and] at hb
      have h2 : (decide (0 ≤ ph) && decide (ph ≤ rep - 1)) = false := by simpa using hb
      rw [h1] at FA
      rw [h2] at FB
      simp only [Bool.and_eq_true, decide_eq_true_eq] at h1
      clear hb h2
      have g1 : IntKind.i64.wrap (rep - 1) = rep - 1 := IntWalk.i64_in _ ⟨by omega, by omega⟩
      go_enter Try.func13, Try.ntmps13
      go_wp2_with fail
      refine LY.out.mono ?_
      rintro e w1 ⟨oa, oc, us, rfl, ho, hb1⟩
      have HB := Lib.hid (below_alloc2 hb1 (.cells (tabA (.slice va vl vc) N (.slice oa al.length oc)) TabT))
      clear hb1 LY ho
      go_wp2_with fail
      refine (FA.out _).mono ?_
      rintro e w2 ⟨rfl, rfl⟩
      go_wp2_with fail
      refine (FB.out _).mono ?_
      rintro e w2 ⟨rfl, rfl⟩
      go_wp2
      go_ret2
      exact ⟨_, [], rfl, OwnK.nil _ _ _, rfl, HB.out⟩
    · rw [Bool.not_eq_true] at h1
      rw [h1] at FA
      clear hb h1 FB
      go_enter Try.func13, Try.ntmps13
      go_wp2_with fail
      refine LY.out.mono ?_
      rintro e w1 ⟨oa, oc, us, rfl, ho, hb1⟩
      have HB := Lib.hid (below_alloc2 hb1 (.cells (tabA (.slice va vl vc) N (.slice oa al.length oc)) TabT))
      clear hb1 LY ho
      go_wp2_with fail
      refine (FA.out _).mono ?_
      rintro e w2 ⟨rfl, rfl⟩
      go_wp2
      go_ret2
      exact ⟨_, [], rfl, OwnK.nil _ _ _, rfl, HB.out⟩
  have hE : Ro.recE rs al xs ph rep = 0 := (if_pos hz).trans (if_pos hb)
  have hR : Ro.recR rs al xs ph rep = xs.map (Ro.rec1 rs al ph rep) := if_pos hE
  rw [hR, hE]
  have FA := Lib.hid (fun W => rollFrom_any 1 144 rep W)
  have FB := Lib.hid (fun W => rollFrom_any 0 (rep - 1) ph W)
  unfold Ro.recOk at hb
  rw [Bool.and_eq_true] at hb
  rw [hb.1] at FA
  rw [hb.2] at FB
  simp only [Bool.and_eq_true, decide_eq_true_eq] at hb
  obtain ⟨⟨r1, r2⟩, p1, p2⟩ := hb
  have HS := Lib.hid (Ro.rec_ok hz)
  have EN := Lib.hid (fun (bv ov : Value) (n : Int) (y : Ro.X) (k : Nat) (hk : k < al.length) hx W (ho : Offs W ov rs al) g1 g2 g3 => end_any bv ov n rs al y k hk hx W ho g1 g2 g3)
  have SL := Lib.hid (fun (fr to : Int) W (hW : Below w.heap.size w W) => num_slice_any v rs fr to W (hv.all hW) hl)
  have HNX := Lib.hid (fun cs j hj h c hc => Ro.recs_next (rs := rs) (al := al) (xs := xs) (ph := ph) (rep := rep) (cs := cs) (j := j) hj h (c := c) hc)
  have HN0 : Hid (([] : List Ro.C).map Ro.C.k = (xs.take 0).map (Ro.rec1 rs al ph rep)) := Lib.hid rfl
  have HNE : Hid (∀ cs : List Ro.C, cs.map Ro.C.k = (xs.take xs.length).map (Ro.rec1 rs al ph rep) → cs.map Ro.C.k = xs.map (Ro.rec1 rs al ph rep)) := Lib.hid (fun cs h => by rw [List.take_length] at h; exact h)
  obtain ⟨va, vc, rfl⟩ := hv.form
  obtain ⟨ua, uc, rfl, hka⟩ := hu
  obtain ⟨xa, xc, rfl, hkx⟩ := hx
  have HX := Lib.hid hkx
  clear hv hz hR hE hka hkx
  generalize ((Bd.exp rs).length : Int) = N at *
  obtain ⟨vl, hvl⟩ : ∃ y, y = rs.length := ⟨_, rfl⟩
  rw [← hvl] at LY SL ⊢
  clear hvl hl
  have g1 : IntKind.i64.wrap (rep - 1) = rep - 1 := IntWalk.i64_in _ ⟨by omega, by omega⟩
  go_enter Try.func13, Try.ntmps13
  go_wp2_with fail
  refine LY.out.mono ?_
  rintro e w1 ⟨oa, oc, us, rfl, ho, hb1⟩
  have H1 : Hid (BlockAt (w1.alloc (.cells (tabA (.slice va vl vc) N (.slice oa al.length oc)) TabT)) w1.heap.size (tabA (.slice va vl vc) N (.slice oa al.length oc)) TabT ∧ Offs (w1.alloc (.cells (tabA (.slice va vl vc) N (.slice oa al.length oc)) TabT)) (.slice oa al.length oc) rs al ∧ Below w.heap.size w (w1.alloc (.cells (tabA (.slice va vl vc) N (.slice oa al.length oc)) TabT))) :=
    Lib.hid ⟨BlockAt.new _ _ _, ho.offs.all ((Below.refl _ _).alloc (Nat.le_refl _) _), below_alloc2 hb1 _⟩
  clear hb1 LY ho
  go_wp2_with fail
  refine (FA.out _).mono ?_
  rintro e w2 ⟨rfl, rfl⟩
  go_wp2_with fail
  refine (FB.out _).mono ?_
  rintro e w2 ⟨rfl, rfl⟩
  clear FA FB g1
  go_wp2
  obtain ⟨W0, hW0⟩ : ∃ W0, W0 = w1.alloc (.cells (tabA (.slice va vl vc) N (.slice oa al.length oc)) TabT) := ⟨_, rfl⟩
  rw [← hW0] at H1 ⊢
  clear hW0
  have HLT1 := Lib.hid H1.out.1.lt
  have HSZ := Lib.hid H1.out.2.2.size
  go_loopw [14, 41] (fun s t wr => ∃ (j : Nat) (cs : List Ro.C), j ≤ xs.length ∧ cs.length = j ∧ t = .int .i64 j ∧ Hid (cs.map Ro.C.k = (xs.take j).map (Ro.rec1 rs al ph rep)) ∧ Hid (OwnK 46 W0.heap.size wr s cs ∧ Below W0.heap.size W0 wr)) (fun _ t _ => xs.length - (intOf t).toNat)
  case atStart => exact ⟨0, [], Nat.zero_le _, rfl, rfl, HN0, Lib.hid ⟨OwnK.nil _ _ _, Below.refl _ _⟩⟩
  case round =>
    obtain ⟨j, cs, hj, hcl, rfl, hh, hg⟩ := hrel
    clear HN0
    obtain ⟨ra, rc, hre⟩ := hg.out.1.form
    subst hre
    by_cases hlt : j < xs.length
    · obtain ⟨b, off, rfl, hb, hr⟩ := HX.out j hlt
      obtain ⟨c0, c1⟩ := hr.below (below_step H1.out.2.2 hg.out.2) hb
      obtain ⟨k, hk, hxk, y1, y2, y3, hart, hsl⟩ := HS.out j hlt
      have HNJ := Lib.hid (fun c hc => HNX.out cs j hlt hh.out c hc)
      have HRC : Hid (Ro.rec1 rs al ph rep xs[j] = ⟨xs[j].a, (ph + xs[j].f).tmod rep, Bd.sliR rs xs[j].f (xs[j].f + al[k].l)⟩) := Lib.hid (by unfold Ro.rec1; rw [hart])
      have HEE := Lib.hid (fun bv ov n W ho => EN.out bv ov n xs[j] k hk hxk W ho y1 y2 y3)
      have HSL := Lib.hid (fun W hW => SL.out xs[j].f (xs[j].f + al[k].l) W hW)
      rw [hsl] at HSL
      clear hr hb hxk hart hsl EN SL HNX HX HS hh
      generalize Bd.sliR rs xs[j].f (xs[j].f + al[k].l) = bs at *
      generalize Ro.rec1 rs al ph rep xs[j] = rj at *
      generalize xs[j] = y at *
      generalize al[k] = a at *
      have HG : Hid (OwnK 46 W0.heap.size (wr.alloc (.cells #[.int .i64 y.f, .int .i64 y.a] PcT)) (.slice ra cs.length rc) cs ∧ BlockAt (wr.alloc (.cells #[.int .i64 y.f, .int .i64 y.a] PcT)) wr.heap.size #[.int .i64 y.f, .int .i64 y.a] PcT ∧ BlockAt (wr.alloc (.cells #[.int .i64 y.f, .int .i64 y.a] PcT)) w1.heap.size (tabA (.slice va vl vc) N (.slice oa al.length oc)) TabT ∧ Below W0.heap.size W0 (wr.alloc (.cells #[.int .i64 y.f, .int .i64 y.a] PcT))) :=
        Lib.hid ⟨hg.out.1.alloc _, BlockAt.new _ _ _, (H1.out.1.below hg.out.2 HLT1.out).alloc _, below_alloc2 hg.out.2 _⟩
      have HBL : Hid (∀ d ∈ cs, ∀ g, d.v.ownBlock = some g → g < wr.heap.size) := Lib.hid hg.out.1.below
      have hszr := hg.out.2.size
      have HSA : Hid (∀ W, Below W0.heap.size W0 W → BlockAt W wr.heap.size #[.int .i64 y.f, .int .i64 y.a] PcT → (fun W => W.cell? ⟨w1.heap.size, 0, none⟩ = some (.slice va vl vc) ∧ W.cell? ⟨w1.heap.size, 1, none⟩ = some (.int .i64 N) ∧ W.cell? ⟨w1.heap.size, 2, none⟩ = some (.slice oa al.length oc) ∧ W.cell? ⟨wr.heap.size, 0, none⟩ = some (.int .i64 y.f) ∧ W.cell? ⟨wr.heap.size, 1, none⟩ = some (.int .i64 y.a)) W) := Lib.hid (fun W hW hB => by
        have hT := H1.out.1.below hW HLT1.out
        exact ⟨hT.cell 0, hT.cell 1, hT.cell 2, hB.cell 0, hB.cell 1⟩)
      have HS10 : Hid ((fun W => W.cell? ⟨w1.heap.size, 0, none⟩ = some (.slice va vl vc) ∧ W.cell? ⟨w1.heap.size, 1, none⟩ = some (.int .i64 N) ∧ W.cell? ⟨w1.heap.size, 2, none⟩ = some (.slice oa al.length oc) ∧ W.cell? ⟨wr.heap.size, 0, none⟩ = some (.int .i64 y.f) ∧ W.cell? ⟨wr.heap.size, 1, none⟩ = some (.int .i64 y.a)) (wr.alloc (.cells #[.int .i64 y.f, .int .i64 y.a] PcT)).drew) := Lib.hid (HSA.out _ (below_drewN HG.out.2.2.2 1) HG.out.2.1)
      clear hg hszr
      go_wp2
      refine wp_region_seq [(0, true), (1, true), (2, true), (3, true), (4, true), (5, true), (6, false), (7, false), (8, true), (9, true), (10, true), (11, true), (12, true)] (fun W => W.cell? ⟨w1.heap.size, 0, none⟩ = some (.slice va vl vc) ∧ W.cell? ⟨w1.heap.size, 1, none⟩ = some (.int .i64 N) ∧ W.cell? ⟨w1.heap.size, 2, none⟩ = some (.slice oa al.length oc) ∧ W.cell? ⟨wr.heap.size, 0, none⟩ = some (.int .i64 y.f) ∧ W.cell? ⟨wr.heap.size, 1, none⟩ = some (.int .i64 y.a))
        (by kernel_rfl) (by kernel_rfl) (by kernel_rfl) (by kernel_rfl) (fun d _ _ _ _ h => by cases d <;> exact h) HS10.out (fun _ => ?_)
      repeat (first | (refine SeqH.take (v := ?_) rfl (by rfl) ?_ ?_; rotate_left; (· intro w hSw; (try dsimp only at hSw); obtain ⟨q0, q1, q2, q3, q4⟩ := hSw; go_simp; (try rw [if_pos (by omega)]); (try with_reducible rfl)); simp only [Act.put, List.setIfInBounds_toArray, List.set_cons_zero, List.set_cons_succ]) | (refine SeqH.skip rfl (by rfl) ?_; simp only [Act.put, List.setIfInBounds_toArray, List.set_cons_zero, List.set_cons_succ]))
      refine SeqH.step rfl (by rfl) (fun K hK => ?_)
      go_simp
      have hbd := below_drewN HG.out.2.2.2 1
      refine (HEE.out (.slice va vl vc) (.slice oa al.length oc) N _ (H1.out.2.1.all hbd)).mono ?_
      rintro e w2 ⟨rfl, hb2⟩
      try dsimp only
      have hrf := below_drewN (Below.refl (wr.alloc (.cells #[.int .i64 y.f, .int .i64 y.a] PcT)).heap.size (wr.alloc (.cells #[.int .i64 y.f, .int .i64 y.a] PcT))) 1
      have HD := Lib.hid (And.intro (HG.out.1.all hrf) (HG.out.2.1.below hrf HG.out.2.1.lt))
      have H2 := Lib.hid (And.intro (HD.out.1.all hb2) (And.intro (HD.out.2.below hb2 HD.out.2.lt) (below_step hbd hb2)))
      refine hK.out _ _ (HSA.out _ H2.out.2.2 H2.out.2.1) (fun _ => ?_)
      clear hK K hbd hrf HD HEE HG HS10
      try simp only [Act.put, List.setIfInBounds_toArray, List.set_cons_zero, List.set_cons_succ]
      repeat (first | (refine SeqH.take (v := ?_) rfl (by rfl) ?_ ?_; rotate_left; (· intro w hSw; (try dsimp only at hSw); obtain ⟨q0, q1, q2, q3, q4⟩ := hSw; go_simp; (try rw [if_pos (by omega)]); (try with_reducible rfl)); simp only [Act.put, List.setIfInBounds_toArray, List.set_cons_zero, List.set_cons_succ]) | (refine SeqH.skip rfl (by rfl) ?_; simp only [Act.put, List.setIfInBounds_toArray, List.set_cons_zero, List.set_cons_succ]))
      refine SeqH.step rfl (by rfl) (fun K hK => ?_)
      go_simp
      refine (HSL.out _ (below_step H1.out.2.2 H2.out.2.2)).mono ?_
      rintro e w3 ⟨z, rfl, hz3, hb3⟩
      obtain ⟨za, zc, hzf⟩ := hz3.runs.form
      subst hzf
      try dsimp only
      have H3 := Lib.hid (And.intro (H2.out.1.all hb3) (And.intro (H2.out.2.1.below hb3 H2.out.2.1.lt) (And.intro hz3 (below_step H2.out.2.2 hb3))))
      have hs2 : wr.heap.size ≤ w2.heap.size := by have := H2.out.2.1.lt; omega
      have hs3 := H2.out.2.2.size
      refine hK.out _ _ (HSA.out _ H3.out.2.2.2 H3.out.2.1) (fun _ => ?_)
      clear hK K H2 HSL HSA
      try simp only [Act.put, List.setIfInBounds_toArray, List.set_cons_zero, List.set_cons_succ]
      repeat (first | (refine SeqH.take (v := ?_) rfl (by rfl) ?_ ?_; rotate_left; (· intro w hSw; (try dsimp only at hSw); obtain ⟨q0, q1, q2, q3, q4⟩ := hSw; go_simp; (try rw [if_pos (by omega)]); (try with_reducible rfl)); simp only [Act.put, List.setIfInBounds_toArray, List.set_cons_zero, List.set_cons_succ]) | (refine SeqH.skip rfl (by rfl) ?_; simp only [Act.put, List.setIfInBounds_toArray, List.set_cons_zero, List.set_cons_succ]))
      refine SeqH.done ?_
      clear hb2 hb3 hz3
      go_wp2
      have g2 : IntKind.i64.wrap (ph + y.f) = ph + y.f := IntWalk.i64_in _ ⟨by omega, by omega⟩
      have g3 : (rep == 0) = false := beq_eq_false_iff_ne.2 (by omega)
      have g4 : ¬ rep = 0 := by omega
      have HS13 : Hid ((fun W => W.cell? ⟨wr.heap.size, 0, none⟩ = some (.int .i64 y.f) ∧ W.cell? ⟨wr.heap.size, 1, none⟩ = some (.int .i64 y.a)) w3.drew) := Lib.hid ⟨H3.out.2.1.cell 0, H3.out.2.1.cell 1⟩
      refine wp_region_seq [(0, true), (1, true), (2, true), (3, true), (4, true), (5, true), (6, true), (7, true), (8, true), (9, true), (10, true), (11, false), (12, false), (13, true)] (fun W => W.cell? ⟨wr.heap.size, 0, none⟩ = some (.int .i64 y.f) ∧ W.cell? ⟨wr.heap.size, 1, none⟩ = some (.int .i64 y.a))
        (by kernel_rfl) (by kernel_rfl) (by kernel_rfl) (by kernel_rfl) (fun d _ _ _ _ h => by cases d <;> exact h) HS13.out (fun _ => ?_)
      repeat (first | (refine SeqH.take (v := ?_) rfl (by rfl) ?_ ?_; rotate_left; (· intro w hSw; (try dsimp only at hSw); obtain ⟨q0, q1⟩ := hSw; go_simp; (try rw [if_pos (by omega)]); (try with_reducible rfl)); simp only [Act.put, List.setIfInBounds_toArray, List.set_cons_zero, List.set_cons_succ]) | (refine SeqH.skip rfl (by rfl) ?_; simp only [Act.put, List.setIfInBounds_toArray, List.set_cons_zero, List.set_cons_succ]))
      refine SeqH.step rfl (by rfl) (fun K hK => ?_)
      go_simp
      try dsimp only
      refine hK.out _ _ ⟨(H3.out.2.1.alloc _).cell 0, (H3.out.2.1.alloc _).cell 1⟩ (fun _ => ?_)
      clear hK K
      try simp only [Act.put, List.setIfInBounds_toArray, List.set_cons_zero, List.set_cons_succ]
      repeat (first | (refine SeqH.take (v := ?_) rfl (by rfl) ?_ ?_; rotate_left; (· intro w hSw; (try dsimp only at hSw); obtain ⟨q0, q1⟩ := hSw; go_simp; (try rw [if_pos (by omega)]); (try with_reducible rfl)); simp only [Act.put, List.setIfInBounds_toArray, List.set_cons_zero, List.set_cons_succ]) | (refine SeqH.skip rfl (by rfl) ?_; simp only [Act.put, List.setIfInBounds_toArray, List.set_cons_zero, List.set_cons_succ]))
      refine SeqH.step rfl (by rfl) (fun K hK => ?_)
      have hown3 := H3.out.1.row
      rw [hcl] at hown3
      have hb3d := below_drewN H3.out.2.2.2 1
      have hsz3 : W0.heap.size ≤ w3.heap.size := H3.out.2.2.2.size
      have hca := recC_at w3.drew (⟨⟨y.a, (ph + y.f).tmod rep, bs⟩, za, zc⟩ : Ro.C) 46
      refine wp_append_own _ _ _ 39 rfl W0.heap.size 46 i0 (.agg #[.int .i64 0, .int .i64 0, .slice none 0 0]) 3 40 Try.underlying39 hi hz0 hz1 hz2 rfl (by decide) _ _ _ rfl (World.ownsRow.alloc hown3 _) _ 1 1 (recC ⟨⟨y.a, (ph + y.f).tmod rep, bs⟩, za, zc⟩) rfl rfl hca (recC_one _) (by unfold maxLen; omega) (by omega) (by first | omega | (simp; omega)) ?_
      intro v8 w8 hr8 hg8 _
      have hw8 := (below_alloc2 hb3d (.cells #[.int .i64 y.a, .int .i64 ((ph + y.f).tmod rep), .slice za bs.length zc] 46)).grown hg8 (by first | omega | (simp; omega)) (fun j e => (World.ownsRow.lt hown3 j e).1)
      have hbx8 : BlockAt w8 wr.heap.size #[.int .i64 y.f, .int .i64 y.a] PcT := BlockAt.grown (W := (w3.alloc (.cells #[.int .i64 y.a, .int .i64 ((ph + y.f).tmod rep), .slice za bs.length zc] 46)).drew) (H3.out.2.1.alloc (.cells #[.int .i64 y.a, .int .i64 ((ph + y.f).tmod rep), .slice za bs.length zc] 46)) hg8 (BlockAt.not_row H3.out.2.1 (by decide) hown3)
      have hg8' : World.grownBy (w3.alloc (.cells #[.int .i64 y.a, .int .i64 ((ph + y.f).tmod rep), .slice za bs.length zc] 46)).drew w8 (Value.slice ra j rc).ownBlock := hg8
      rw [← hcl] at hg8'
      have hp8 : OwnK 46 W0.heap.size w8 v8 (cs ++ [⟨⟨y.a, (ph + y.f).tmod rep, bs⟩, za, zc⟩]) := OwnK.push (by decide) (B := w2.heap.size) (W := (w3.alloc (.cells #[.int .i64 y.a, .int .i64 ((ph + y.f).tmod rep), .slice za bs.length zc] 46)).drew) (c := ⟨⟨y.a, (ph + y.f).tmod rep, bs⟩, za, zc⟩) ((H3.out.1.alloc (.cells #[.int .i64 y.a, .int .i64 ((ph + y.f).tmod rep), .slice za bs.length zc] 46)).all (below_drewN (Below.refl _ _) 1)) (H3.out.2.2.1.alloc (.cells #[.int .i64 y.a, .int .i64 ((ph + y.f).tmod rep), .slice za bs.length zc] 46)) hs3 (fun d hd g hg => Nat.lt_of_lt_of_le (HBL.out d hd g hg) hs2) hg8' (by rw [hcl]; exact hr8)
      try dsimp only
      refine hK.out _ _ ⟨hbx8.cell 0, hbx8.cell 1⟩ (fun _ => ?_)
      clear hK K
      try simp only [Act.put, List.setIfInBounds_toArray, List.set_cons_zero, List.set_cons_succ]
      have HO := Lib.hid (And.intro hp8 hw8)
      clear hr8 hg8 hg8' hw8 hbx8 hp8 hca hown3 hb3d H3 HS13
      repeat (first | (refine SeqH.take (v := ?_) rfl (by rfl) ?_ ?_; rotate_left; (· intro w hSw; (try dsimp only at hSw); obtain ⟨q0, q1⟩ := hSw; go_simp; (try rw [if_pos (by omega)]); (try with_reducible rfl)); simp only [Act.put, List.setIfInBounds_toArray, List.set_cons_zero, List.set_cons_succ]) | (refine SeqH.skip rfl (by rfl) ?_; simp only [Act.put, List.setIfInBounds_toArray, List.set_cons_zero, List.set_cons_succ]))
      refine SeqH.done ?_
      go_wp2
      go_roundw
      case rel => exact ⟨j + 1, cs ++ [⟨⟨y.a, (ph + y.f).tmod rep, bs⟩, za, zc⟩], by omega, by rw [List.length_append, List.length_singleton]; omega, by go_num, Lib.hid (HNJ.out _ HRC.out.symm), Lib.hid HO.out⟩
      case measure => simp [intOf]; omega
    · obtain rfl : j = xs.length := by omega
      have HF := Lib.hid (HNE.out cs hh.out)
      have HG4 := Lib.hid (And.intro (hg.out.1.mono HSZ.out) (below_step H1.out.2.2 hg.out.2))
      clear hh hg
      go_wp2
      go_ret2
      exact ⟨_, cs, rfl, HG4.out.1, HF.out, HG4.out.2⟩
end Go.Proofs.Ytbmjjmpdlmbehaa
