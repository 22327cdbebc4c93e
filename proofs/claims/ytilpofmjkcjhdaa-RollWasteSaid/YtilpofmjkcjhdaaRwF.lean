/- Cuttings and their values of the program; RollChecks returns true, whatever the band, the articles and the cutting. RollChecks returns true, whatever the band, the articles and the cutting. -/
import Derived.Test.YtilpofmjkcjhdaaRwE
namespace Go.Proofs.Ytilpofmjkcjhdaa
open Go.RowKit

theorem lay_own (v u : Value) (rs : List Bd.R) (al : List Ro.A) (w : World) (hv : Runs w v rs) (hu : Arts w u al) (hl : rs.length ≤ 1000) (hal : al.length ≤ 1000) (hz : Ro.layE rs al = 0) :
    Calls Try.prog 50 #[v, u] w fun e w' => ∃ oa oc us, e = .returned (.tuple #[tabV v ((Bd.exp rs).length : Int) (.slice oa al.length oc), .int .i64 0]) ∧ OwnO w.heap.size w' (.slice oa al.length oc) rs al us ∧ Below w.heap.size w w' := by
  refine (lay_ok v u rs al w hv hu hl hal hz).mono ?_
  rintro e w' ⟨ov, us, rfl, ho, hb⟩
  obtain ⟨oa, oc, rfl⟩ := ho.form
  exact ⟨oa, oc, us, by rw [(Ro.lay_facts hz).2.2.1], ho, hb⟩
set_option maxRecDepth 20000 in
set_option maxHeartbeats 4000000 in
theorem layFor_ok (v u x : Value) (rs : List Bd.R) (al : List Ro.A) (xs : List Ro.X) (w : World) (hv : Runs w v rs) (hu : Arts w u al) (hx : Pcs w x xs) (hl : rs.length ≤ 1000) (hal : al.length ≤ 1000) (hxl : xs.length ≤ 1000) (hz : Ro.chkE rs al xs = 0) :
    Calls Try.prog 58 #[v, u, x] w fun e w' => ∃ oa oc us, e = .returned (.tuple #[tabV v ((Bd.exp rs).length : Int) (.slice oa al.length oc), .int .i64 0]) ∧ OwnO w.heap.size w' (.slice oa al.length oc) rs al us ∧ Below w.heap.size w w' := by
  obtain ⟨hz1, hz2⟩ := Ro.chkE_zero hz
  obtain ⟨h1, h2, h3, h4, h5, h6⟩ := Ro.lay_facts hz1
  have b6 := BlockAt.new w #[.slice none 0 0, .int .i64 0, .slice none 0 0] TabT
  have hw0 := below_alloc2 (Below.refl w.heap.size w) (.cells #[.slice none 0 0, .int .i64 0, .slice none 0 0] TabT)
  have HB0 := Lib.hid (And.intro b6 hw0)
  have LY := Lib.hid (lay_own v u rs al _ (hv.all hw0) (hu.all hw0) hl hal hz1)
  have CK := Lib.hid (fun (bv ov : Value) (n : Int) W (hW : Below w.heap.size w W) (ho : Offs W ov rs al) => tcheck_any bv ov n rs al x xs W ho h2 h6 h5 h4 (hx.all hW) hxl)
  rw [hz2] at CK
  obtain ⟨va, vc, rfl⟩ := hv.form
  obtain ⟨ua, uc, rfl, _⟩ := hu
  obtain ⟨xa, xc, rfl, _⟩ := hx
  clear hv hz hz1 hz2 h1 h2 h3 h4 h6 b6 hw0
  generalize ((Bd.exp rs).length : Int) = n at *
  obtain ⟨vl, hvl⟩ : ∃ y, y = rs.length := ⟨_, rfl⟩
  rw [← hvl] at LY ⊢
  clear hvl hl
  go_enter Try.func58, Try.ntmps58
  go_wp2_with fail
  refine LY.out.mono ?_
  rintro e w1 ⟨oa, oc, us, rfl, ho, hb1⟩
  simp only [World.size_alloc] at ho
  have H1 : Hid (BlockAt (w1.alloc (.cells (tabA (.slice va vl vc) n (.slice oa al.length oc)) TabT)) w.heap.size #[.slice none 0 0, .int .i64 0, .slice none 0 0] TabT ∧ BlockAt (w1.alloc (.cells (tabA (.slice va vl vc) n (.slice oa al.length oc)) TabT)) w1.heap.size (tabA (.slice va vl vc) n (.slice oa al.length oc)) TabT ∧ OwnO (w.heap.size + 1) (w1.alloc (.cells (tabA (.slice va vl vc) n (.slice oa al.length oc)) TabT)) (.slice oa al.length oc) rs al us ∧ Below w.heap.size w (w1.alloc (.cells (tabA (.slice va vl vc) n (.slice oa al.length oc)) TabT))) :=
    Lib.hid ⟨(HB0.out.1.below hb1 HB0.out.1.lt).alloc _, BlockAt.new _ _ _, ho.all ((Below.refl _ _).alloc (Nat.le_refl _) _), below_alloc2 (below_step HB0.out.2 hb1) _⟩
  have hs1 := hb1.size
  clear ho hb1 LY HB0
  have C := Lib.hid (CK.out (.slice va vl vc) _ n _ H1.out.2.2.2 H1.out.2.2.1.offs)
  go_wp2_with fail
  refine C.out.mono ?_
  rintro e w2 ⟨rfl, hb2⟩
  have H2 := Lib.hid (And.intro (H1.out.1.below hb2 H1.out.1.lt) (And.intro (H1.out.2.1.below hb2 H1.out.2.1.lt) (And.intro (H1.out.2.2.1.all hb2) (below_step H1.out.2.2.2 hb2))))
  clear hb2 H1 C CK
  have q0 : World.cell? _ _ = some (.slice va vl vc) := H2.out.2.1.cell 0
  have q1 : World.cell? _ _ = some (.int .i64 n) := H2.out.2.1.cell 1
  have q2 : World.cell? _ _ = some (.slice oa al.length oc) := H2.out.2.1.cell 2
  have c0 : World.cell? _ _ = some (.slice none 0 0) := H2.out.1.cell 0
  have c1 : World.cell? _ _ = some (.int .i64 0) := H2.out.1.cell 1
  have c2 : World.cell? _ _ = some (.slice none 0 0) := H2.out.1.cell 2
  have f0 := H2.out.1.frozen 0
  have f1 := H2.out.1.frozen 1
  have f2 := H2.out.1.frozen 2
  have hltw := H2.out.1.lt
  go_wp2
  refine bodyPost_ret (v := .tuple #[.agg #[.slice va vl vc, .int .i64 n, .slice oa al.length oc], .int .i64 0]) (by simp [results, Try.results58, go_sem, c0, c1, c2, hltw]) rfl ⟨oa, oc, us, rfl, ?_, ?_⟩
  · exact OwnO.mono (((H2.out.2.2.1.setTab H2.out.1 (by omega) 0 _).setTab (H2.out.1.set 0 _) (by omega) 1 _).setTab ((H2.out.1.set 0 _).set 1 _) (by omega) 2 _) (by omega)
  · iterate 3 (refine Below.setCell ?_ (by dsimp only; omega) _)
    exact H2.out.2.2.2

set_option maxRecDepth 20000 in
set_option maxHeartbeats 4000000 in
theorem layFor_bad (v u x : Value) (rs : List Bd.R) (al : List Ro.A) (xs : List Ro.X) (w : World) (hv : Runs w v rs) (hu : Arts w u al) (hx : Pcs w x xs) (hl : rs.length ≤ 1000) (hal : al.length ≤ 1000) (hxl : xs.length ≤ 1000) (hz : Ro.chkE rs al xs ≠ 0) :
    Calls Try.prog 58 #[v, u, x] w fun e w' => e = .returned (.tuple #[tabV (.slice none 0 0) 0 (.slice none 0 0), .int .i64 (Ro.chkE rs al xs)]) ∧ Below w.heap.size w w' := by
  have b6 := BlockAt.new w #[.slice none 0 0, .int .i64 0, .slice none 0 0] TabT
  have hw0 := below_alloc2 (Below.refl w.heap.size w) (.cells #[.slice none 0 0, .int .i64 0, .slice none 0 0] TabT)
  have HB0 := Lib.hid (And.intro b6 hw0)
  by_cases hz1 : Ro.layE rs al = 0
  · obtain ⟨h1, h2, h3, h4, h5, h6⟩ := Ro.lay_facts hz1
    have LY := Lib.hid (lay_good v u rs al _ (hv.all hw0) (hu.all hw0) hl hal hz1)
    have CK := Lib.hid (fun (bv ov : Value) (n : Int) W (hW : Below w.heap.size w W) (ho : Offs W ov rs al) => tcheck_any bv ov n rs al x xs W ho h2 h6 h5 h4 (hx.all hW) hxl)
    have hR : Ro.chkE rs al xs = Ro.chk (Bd.exp rs) al 0 xs := if_pos hz1
    rw [hR] at hz ⊢
    obtain ⟨va, vc, rfl⟩ := hv.form
    obtain ⟨ua, uc, rfl, _⟩ := hu
    obtain ⟨xa, xc, rfl, _⟩ := hx
    generalize Ro.chk (Bd.exp rs) al 0 xs = q at *
    generalize ((Bd.exp rs).length : Int) = n at *
    have hd : (q == 0) = false := beq_eq_false_iff_ne.2 hz
    have hd2 : (q != 0) = true := by rw [bne, hd]; rfl
    clear hv hz hz1 h1 h2 h3 h4 h6 b6 hw0 hR
    obtain ⟨vl, hvl⟩ : ∃ y, y = rs.length := ⟨_, rfl⟩
    rw [← hvl] at LY ⊢
    clear hvl hl
    go_enter Try.func58, Try.ntmps58
    go_wp2_with fail
    refine LY.out.mono ?_
    rintro e w1 ⟨oa, oc, rfl, ho, hb1⟩
    have H1 : Hid (BlockAt (w1.alloc (.cells (tabA (.slice va vl vc) n (.slice oa al.length oc)) TabT)) w.heap.size #[.slice none 0 0, .int .i64 0, .slice none 0 0] TabT ∧ BlockAt (w1.alloc (.cells (tabA (.slice va vl vc) n (.slice oa al.length oc)) TabT)) w1.heap.size (tabA (.slice va vl vc) n (.slice oa al.length oc)) TabT ∧ Offs (w1.alloc (.cells (tabA (.slice va vl vc) n (.slice oa al.length oc)) TabT)) (.slice oa al.length oc) rs al ∧ Below w.heap.size w (w1.alloc (.cells (tabA (.slice va vl vc) n (.slice oa al.length oc)) TabT))) :=
      Lib.hid ⟨(HB0.out.1.below hb1 HB0.out.1.lt).alloc _, BlockAt.new _ _ _, ho.all ((Below.refl _ _).alloc (Nat.le_refl _) _), below_alloc2 (below_step HB0.out.2 hb1) _⟩
    clear ho hb1 LY HB0
    have C := Lib.hid (CK.out (.slice va vl vc) _ n _ H1.out.2.2.2 H1.out.2.2.1)
    go_wp2_with fail
    refine C.out.mono ?_
    rintro e w2 ⟨rfl, hb2⟩
    have H2 := Lib.hid (And.intro (H1.out.1.below hb2 H1.out.1.lt) (below_step H1.out.2.2.2 hb2))
    clear hb2 H1 C CK
    have c0 : World.cell? _ _ = some (.slice none 0 0) := H2.out.1.cell 0
    have c1 : World.cell? _ _ = some (.int .i64 0) := H2.out.1.cell 1
    have c2 : World.cell? _ _ = some (.slice none 0 0) := H2.out.1.cell 2
    have f0 := H2.out.1.frozen 0
    have f1 := H2.out.1.frozen 1
    have f2 := H2.out.1.frozen 2
    have hltw := H2.out.1.lt
    go_wp2
    refine bodyPost_ret (v := .tuple #[.agg #[.slice none 0 0, .int .i64 0, .slice none 0 0], .int .i64 q]) (by simp [results, Try.results58, go_sem, c0, c1, c2, hltw]) rfl ⟨rfl, ?_⟩
    iterate 3 (refine Below.setCell ?_ (by dsimp only; omega) _)
    exact H2.out.2
  · have LY := Lib.hid (lay_bad v u rs al _ (hv.all hw0) (hu.all hw0) hl hal hz1)
    have hR : Ro.chkE rs al xs = Ro.layE rs al := if_neg hz1
    rw [hR]
    obtain ⟨va, vc, rfl⟩ := hv.form
    obtain ⟨ua, uc, rfl, _⟩ := hu
    obtain ⟨xa, xc, rfl, _⟩ := hx
    generalize Ro.layE rs al = q at *
    have hd : (q == 0) = false := beq_eq_false_iff_ne.2 hz1
    have hd2 : (q != 0) = true := by rw [bne, hd]; rfl
    clear hv hz hz1 b6 hw0 hR
    go_enter Try.func58, Try.ntmps58
    go_wp2_with fail
    refine LY.out.mono ?_
    rintro e w1 ⟨rfl, hb1⟩
    have H2 : Hid (BlockAt (w1.alloc (.cells (tabA (.slice none 0 0) 0 (.slice none 0 0)) TabT)) w.heap.size #[.slice none 0 0, .int .i64 0, .slice none 0 0] TabT ∧ Below w.heap.size w (w1.alloc (.cells (tabA (.slice none 0 0) 0 (.slice none 0 0)) TabT))) :=
      Lib.hid ⟨(HB0.out.1.below hb1 HB0.out.1.lt).alloc _, below_alloc2 (below_step HB0.out.2 hb1) _⟩
    clear hb1 LY HB0
    have c0 : World.cell? _ _ = some (.slice none 0 0) := H2.out.1.cell 0
    have c1 : World.cell? _ _ = some (.int .i64 0) := H2.out.1.cell 1
    have c2 : World.cell? _ _ = some (.slice none 0 0) := H2.out.1.cell 2
    have f0 := H2.out.1.frozen 0
    have f1 := H2.out.1.frozen 1
    have f2 := H2.out.1.frozen 2
    have hltw := H2.out.1.lt
    go_wp2
    refine bodyPost_ret (v := .tuple #[.agg #[.slice none 0 0, .int .i64 0, .slice none 0 0], .int .i64 q]) (by simp [results, Try.results58, go_sem, c0, c1, c2, hltw]) rfl ⟨rfl, ?_⟩
    iterate 3 (refine Below.setCell ?_ (by dsimp only; omega) _)
    exact H2.out.2

set_option maxRecDepth 20000 in
set_option maxHeartbeats 2000000 in
theorem numCheck_any (v u x : Value) (rs : List Bd.R) (al : List Ro.A) (xs : List Ro.X) (w : World) (hv : Runs w v rs) (hu : Arts w u al) (hx : Pcs w x xs) (hl : rs.length ≤ 1000) (hal : al.length ≤ 1000) (hxl : xs.length ≤ 1000) :
    Calls Try.prog 27 #[v, u, x] w fun e w' => e = .returned (.int .i64 (Ro.chkE rs al xs)) ∧ Below w.heap.size w w' := by
  have key : Calls Try.prog 58 #[v, u, x] w fun e w' => ∃ (ba : Option Addr) (bl bc : Nat) (n : Int) (oa : Option Addr) (ol oc : Nat), e = .returned (.tuple #[tabV (.slice ba bl bc) n (.slice oa ol oc), .int .i64 (Ro.chkE rs al xs)]) ∧ Below w.heap.size w w' := by
    by_cases hz : Ro.chkE rs al xs = 0
    · rw [hz]
      obtain ⟨va, vc, hve⟩ := hv.form
      exact (layFor_ok v u x rs al xs w hv hu hx hl hal hxl hz).mono fun e w' ⟨oa, oc, us, h1, _, h3⟩ => ⟨va, rs.length, vc, _, oa, _, oc, h1.trans (by rw [hve]), h3⟩
    · exact (layFor_bad v u x rs al xs w hv hu hx hl hal hxl hz).mono fun e w' ⟨h1, h3⟩ => ⟨_, _, _, _, _, _, _, h1, h3⟩
  have C := Lib.hid key
  obtain ⟨va, vc, rfl⟩ := hv.form
  obtain ⟨ua, uc, rfl, _⟩ := hu
  obtain ⟨xa, xc, rfl, _⟩ := hx
  generalize Ro.chkE rs al xs = q at *
  clear key hv
  go_enter Try.func27, Try.ntmps27
  go_wp2_with fail
  refine C.out.mono ?_
  rintro e w1 ⟨ba, bl, bc, n, oa, ol, oc, rfl, hb1⟩
  have HB := Lib.hid (below_alloc2 hb1 (.cells (tabA (.slice ba bl bc) n (.slice oa ol oc)) TabT))
  clear hb1 C
  go_wp2
  go_ret
  exact ⟨rfl, HB.out⟩

set_option maxRecDepth 20000 in
set_option maxHeartbeats 4000000 in
theorem numValue_any (v u x : Value) (rs : List Bd.R) (al : List Ro.A) (xs : List Ro.X) (w : World) (hv : Runs w v rs) (hu : Arts w u al) (hx : Pcs w x xs) (hl : rs.length ≤ 1000) (hal : al.length ≤ 1000) (hxl : xs.length ≤ 1000) :
    Calls Try.prog 25 #[v, u, x] w fun e w' => e = .returned (.tuple #[.int .i64 (Ro.valV rs al xs), .int .i64 (Ro.chkE rs al xs)]) ∧ Below w.heap.size w w' := by
  by_cases hz : Ro.chkE rs al xs = 0
  · obtain ⟨hz1, hz2⟩ := Ro.chkE_zero hz
    obtain ⟨h1, h2, h3, h4, h5, h6⟩ := Ro.lay_facts hz1
    have LY := Lib.hid (layFor_ok v u x rs al xs w hv hu hx hl hal hxl hz)
    have HE := Lib.hid (Ro.chk_each hz2)
    have HV := Lib.hid (Ro.val_bound h6 (Ro.chk_each hz2))
    have HT := Lib.hid (fun j (hj : j < xs.length) => Ro.val_take (al := al) hj)
    have HL := Lib.hid (fun (k : Nat) (hk : k < al.length) => (Ro.okA_iff.1 (h6 _ (List.getElem_mem hk))).2)
    have hR : Ro.valV rs al xs = Ro.val al xs := if_pos hz
    rw [hR, hz]
    obtain ⟨va, vc, rfl⟩ := hv.form
    obtain ⟨ua, uc, rfl, hka⟩ := hu
    obtain ⟨xa, xc, rfl, hkx⟩ := hx
    have HX := Lib.hid hkx
    have HALL : Hid (Ro.val al (xs.take xs.length) = Ro.val al xs) := Lib.hid (by rw [List.take_length])
    have HS : Hid (∀ j (hj : j < xs.length), ∃ k : Nat, k < al.length ∧ xs[j].a = k) := Lib.hid fun j hj => by
      obtain ⟨k, hk, h, _⟩ := Ro.fitX_split (HE.out j hj)
      exact ⟨k, hk, h⟩
    clear hv hz hz1 hz2 h1 h2 h3 h6 hR hka hkx HE
    generalize Ro.val al xs = R at *
    generalize ((Bd.exp rs).length : Int) = n at *
    obtain ⟨vl, hvl⟩ : ∃ y, y = rs.length := ⟨_, rfl⟩
    rw [← hvl] at LY ⊢
    clear hvl hl
    go_enter Try.func25, Try.ntmps25
    go_wp2_with fail
    refine LY.out.mono ?_
    rintro e w1 ⟨oa, oc, us, rfl, ho, hb1⟩
    have H1 : Hid (BlockAt (w1.alloc (.cells (tabA (.slice va vl vc) n (.slice oa al.length oc)) TabT)) w1.heap.size (tabA (.slice va vl vc) n (.slice oa al.length oc)) TabT ∧ Offs (w1.alloc (.cells (tabA (.slice va vl vc) n (.slice oa al.length oc)) TabT)) (.slice oa al.length oc) rs al ∧ Below w.heap.size w (w1.alloc (.cells (tabA (.slice va vl vc) n (.slice oa al.length oc)) TabT))) :=
      Lib.hid ⟨BlockAt.new _ _ _, ho.offs.all ((Below.refl _ _).alloc (Nat.le_refl _) _), below_alloc2 hb1 _⟩
    clear hb1 LY ho
    go_wp2
    go_loopw [10, 25] (fun s t wr => ∃ j : Nat, j ≤ xs.length ∧ t = .int .i64 j ∧ s = .int .i64 (Ro.val al (xs.take j)) ∧ Hid (BlockAt wr w1.heap.size (tabA (.slice va vl vc) n (.slice oa al.length oc)) TabT ∧ Offs wr (.slice oa al.length oc) rs al ∧ Below w.heap.size w wr)) (fun _ t _ => xs.length - (intOf t).toNat)
    case atStart => exact ⟨0, Nat.zero_le _, rfl, by rw [List.take_zero]; rfl, H1⟩
    case round =>
      obtain ⟨j, hj, rfl, rfl, hg⟩ := hrel
      clear H1
      by_cases hlt : j < xs.length
      · obtain ⟨b, off, rfl, hb, hr⟩ := HX.out j hlt
        obtain ⟨c0, c1⟩ := hr.below hg.out.2.2 hb
        obtain ⟨k, hk, hxk⟩ := HS.out j hlt
        have hT := HT.out j hlt
        rw [hxk] at hT c1
        rw [Ro.art_at hk] at hT
        have HTT := Lib.hid hT
        have b1 := HV.out j (by omega)
        have hp := HL.out k hk
        obtain ⟨oa2, oc2, heq, hoff⟩ := hg.out.2.1
        simp only [Value.slice.injEq, true_and] at heq
        obtain ⟨rfl, rfl⟩ := heq
        obtain ⟨bo, offo, uo, rfl, hbo, ⟨⟨d0, d1, d2, d3, d4, d5⟩, d6, d7⟩, _⟩ := hoff k hk
        have t2 : World.cell? wr ⟨w1.heap.size, 2, none⟩ = some (.slice (some ⟨bo, offo, none⟩) al.length oc) := hg.out.1.cell 2
        have hlt1 := hg.out.1.lt
        have HN : Hid (BlockAt (wr.alloc (.cells #[.int .i64 xs[j].f, .int .i64 (k : Int)] PcT)) w1.heap.size (tabA (.slice va vl vc) n (.slice (some ⟨bo, offo, none⟩) al.length oc)) TabT ∧ Offs (wr.alloc (.cells #[.int .i64 xs[j].f, .int .i64 (k : Int)] PcT)) (.slice (some ⟨bo, offo, none⟩) al.length oc) rs al ∧ Below w.heap.size w (wr.alloc (.cells #[.int .i64 xs[j].f, .int .i64 (k : Int)] PcT))) :=
          Lib.hid ⟨hg.out.1.alloc _, hg.out.2.1.all ((Below.refl _ _).alloc (Nat.le_refl _) _), below_alloc2 hg.out.2.2 _⟩
        clear hT hxk hr hg hoff
        generalize Ro.val al (xs.take j) = s at *
        generalize al[k] = a at *
        generalize xs[j] = y at *
        have hwr : IntKind.i64.wrap (s + a.p) = s + a.p := IntWalk.i64_in _ ⟨by omega, by omega⟩
        go_wp2
        go_roundw
        case rel => exact ⟨j + 1, by omega, by go_num, by rw [HTT.out], HN⟩
        case measure => simp [intOf]; omega
      · obtain rfl : j = xs.length := by omega
        have HW := Lib.hid hg.out.2.2
        clear hg
        rw [HALL.out]
        go_wp2
        go_ret2
        exact ⟨rfl, HW.out⟩
  · have LY := Lib.hid (layFor_bad v u x rs al xs w hv hu hx hl hal hxl hz)
    have hR : Ro.valV rs al xs = 0 := if_neg hz
    rw [hR]
    obtain ⟨va, vc, rfl⟩ := hv.form
    obtain ⟨ua, uc, rfl, _⟩ := hu
    obtain ⟨xa, xc, rfl, _⟩ := hx
    generalize Ro.chkE rs al xs = q at *
    have hd : (q == 0) = false := beq_eq_false_iff_ne.2 hz
    have hd2 : (q != 0) = true := by rw [bne, hd]; rfl
    clear hv hz hR
    go_enter Try.func25, Try.ntmps25
    go_wp2_with fail
    refine LY.out.mono ?_
    rintro e w1 ⟨rfl, hb1⟩
    have HB := Lib.hid (below_alloc2 hb1 (.cells (tabA (.slice none 0 0) 0 (.slice none 0 0)) TabT))
    clear hb1 LY
    go_wp2
    go_ret2
    exact ⟨rfl, HB.out⟩
end Go.Proofs.Ytilpofmjkcjhdaa
namespace Go.Proofs.Ytilpofmjkcjhdaa
open Go.RowKit

set_option maxRecDepth 20000 in
set_option maxHeartbeats 4000000 in
theorem checks_walk (v u x : Value) (rs : List Bd.R) (al : List Ro.A) (xs : List Ro.X) (w : World) (hv : Runs w v rs) (hu : Arts w u al) (hx : Pcs w x xs) :
    Calls Try.prog 5 #[v, u, x] w fun e w' => e = .returned (.bool true) ∧ Below w.heap.size w w' := by
  have LO := Lib.hid (rollLong_any v u x rs al.length xs.length _ hv (by obtain ⟨a, c, h, _⟩ := hu; exact ⟨a, c, h⟩) (by obtain ⟨a, c, h, _⟩ := hx; exact ⟨a, c, h⟩))
  have KN := Lib.hid (fun W => rollKnown_any W)
  cases hL : (decide (100 < rs.length) || (decide (40 < al.length) || decide (400 < xs.length)))
  case true =>
    rw [hL] at LO
    obtain ⟨va, vc, rfl⟩ := hv.form
    obtain ⟨ua, uc, rfl, _⟩ := hu
    obtain ⟨xa, xc, rfl, _⟩ := hx
    clear hv hL
    go_enter Try.func5, Try.ntmps5
    go_wp2_with fail
    refine LO.out.mono ?_
    rintro e w1 ⟨rfl, hb1⟩
    have HB1 := Lib.hid hb1
    clear hb1 LO
    go_wp2_with fail
    refine (KN.out _).mono ?_
    rintro e w2 ⟨rfl, hb2⟩
    have HB2 := Lib.hid (below_step HB1.out hb2)
    clear hb2 HB1 KN
    go_wp2
    go_ret
    exact ⟨rfl, HB2.out⟩
  case false =>
    rw [hL] at LO
    simp only [Bool.or_eq_false_iff, decide_eq_false_iff_not] at hL
    have hl : rs.length ≤ 1000 := by omega
    have hal : al.length ≤ 1000 := by omega
    have hxl : xs.length ≤ 1000 := by omega
    have NF := Lib.hid (fun W (hW : Below w.heap.size w W) => numValue_any v u x rs al xs W (hv.all hW) (hu.all hW) (hx.all hW) hl hal hxl)
    have RF := Lib.hid (fun W (hW : Below w.heap.size w W) => refValue_any v u x rs al xs W (hv.all hW) (hu.all hW) (hx.all hW) hl hal hxl)
    have NV := Lib.hid (fun W (hW : Below w.heap.size w W) => numCheck_any v u x rs al xs W (hv.all hW) (hu.all hW) (hx.all hW) hl hal hxl)
    have RV := Lib.hid (fun W (hW : Below w.heap.size w W) => refCheckE_any v u x rs al xs W (hv.all hW) (hu.all hW) (hx.all hW) hl hal hxl)
    generalize Ro.valV rs al xs = r at *
    generalize Ro.chkE rs al xs = q at *
    have e2 : (q == q) = true := beq_self_eq_true _
    have e3 : (r == r) = true := beq_self_eq_true _
    obtain ⟨va, vc, rfl⟩ := hv.form
    obtain ⟨ua, uc, rfl, _⟩ := hu
    obtain ⟨xa, xc, rfl, _⟩ := hx
    clear hv hL hl hal hxl
    go_enter Try.func5, Try.ntmps5
    go_wp2_with fail
    refine LO.out.mono ?_
    rintro e w1 ⟨rfl, hb1⟩
    have H1 := Lib.hid hb1
    clear hb1 LO
    go_wp2_with fail
    refine (NF.out _ H1.out).mono ?_
    rintro e w2 ⟨rfl, hb2⟩
    have H2 := Lib.hid (below_step H1.out hb2)
    clear hb2 H1 NF
    go_wp2_with fail
    refine (RF.out _ H2.out).mono ?_
    rintro e w3 ⟨rfl, hb3⟩
    have H3 := Lib.hid (below_step H2.out hb3)
    clear hb3 H2 RF
    go_wp2_with fail
    refine (NV.out _ H3.out).mono ?_
    rintro e w4 ⟨rfl, hb4⟩
    have H4 := Lib.hid (below_step H3.out hb4)
    clear hb4 H3 NV
    go_wp2_with fail
    refine (RV.out _ H4.out).mono ?_
    rintro e w5 ⟨rfl, hb5⟩
    have H5 := Lib.hid (below_step H4.out hb5)
    clear hb5 H4 RV
    go_wp2_with fail
    refine (KN.out _).mono ?_
    rintro e w6 ⟨rfl, hb6⟩
    have H6 := Lib.hid (below_step H5.out hb6)
    clear hb6 H5 KN
    go_wp2
    go_ret
    exact ⟨rfl, H6.out⟩
end Go.Proofs.Ytilpofmjkcjhdaa
