/- Which cuttings are accepted: of the program and of the reference. Cuttings and their values: of both. Cuttings and their values of the program; RollChecks returns true, whatever the band, the articles and the cutting. -/
import Derived.Test.YtbmjjmpdlmbehaaRoll8
namespace Go.Proofs.Ytbmjjmpdlmbehaa
open Go.RowKit

/-- The error of a cutting, told piece by piece. -/
theorem Ro.chk_bad {ms : List Bd.M} {al : List Ro.A} {lo : Int} {x : Ro.X} {xs : List Ro.X} (h : Ro.fitX ms al x = false) : Ro.chk ms al lo (x :: xs) = 11 := by rw [Ro.chk, if_neg (by rw [h]; simp)]
theorem Ro.chk_early {ms : List Bd.M} {al : List Ro.A} {lo : Int} {x : Ro.X} {xs : List Ro.X} (h : Ro.fitX ms al x = true) (h2 : x.f < lo) : Ro.chk ms al lo (x :: xs) = 7 := by rw [Ro.chk, if_pos h, if_pos h2]
theorem Ro.chk_next {ms : List Bd.M} {al : List Ro.A} {lo : Int} {x : Ro.X} {xs : List Ro.X} (h : Ro.fitX ms al x = true) (h2 : ¬ x.f < lo) : Ro.chk ms al lo (x :: xs) = Ro.chk ms al (x.f + (Ro.art al x.a).l) xs := by rw [Ro.chk, if_pos h, if_neg h2]
theorem Ro.art_at {al : List Ro.A} {k : Nat} (hk : k < al.length) : Ro.art al (k : Int) = al[k] := by unfold Ro.art; simp [hk]
theorem Ro.fitX_split {ms : List Bd.M} {al : List Ro.A} {x : Ro.X} (h : Ro.fitX ms al x = true) : ∃ k : Nat, ∃ hk : k < al.length, x.a = k ∧ 0 ≤ x.f ∧ x.f + al[k].l ≤ ms.length := by
  obtain ⟨h1, h2, h3⟩ := Ro.fitX_iff.1 h
  refine ⟨x.a.toNat, by omega, by omega, ?_⟩
  obtain ⟨h4, h5, _⟩ := Ro.fit_iff.1 h3
  have e : Ro.art al x.a = al[x.a.toNat]'(by omega) := by
    have := Ro.art_at (al := al) (k := x.a.toNat) (by omega)
    rwa [show ((x.a.toNat : Nat) : Int) = x.a by omega] at this
  rw [e] at h5
  exact ⟨h4, h5⟩

set_option maxRecDepth 20000 in
set_option maxHeartbeats 2000000 in
theorem end_any (bv ov : Value) (n : Int) (rs : List Bd.R) (al : List Ro.A) (x : Ro.X) (k : Nat) (hk : k < al.length) (hx : x.a = k) (w : World) (ho : Offs w ov rs al) (h1 : 0 ≤ x.f) (h2 : x.f ≤ 300) (h3 : 1 ≤ al[k].l ∧ al[k].l ≤ 300) :
    Calls Try.prog 40 #[tabV bv n ov, pcV x] w fun e w' => e = .returned (.int .i64 (x.f + al[k].l)) ∧ Below w.heap.size w w' := by
  obtain ⟨oa, oc, rfl, hok2⟩ := ho
  obtain ⟨f, n2⟩ := x
  obtain rfl : n2 = k := hx
  obtain ⟨b, off, u, rfl, hb, hr, hsp⟩ := hok2 k hk
  have b0 := (BlockAt.new w (tabA bv n (.slice (some ⟨b, off, none⟩) al.length oc)) TabT).alloc (.cells #[.int .i64 f, .int .i64 k] PcT)
  have b1 := BlockAt.new (w.alloc (.cells (tabA bv n (.slice (some ⟨b, off, none⟩) al.length oc)) TabT)) #[.int .i64 f, .int .i64 k] PcT
  simp only [World.size_alloc] at b1
  have hw := below_alloc2 (below_alloc2 (Below.refl w.heap.size w) (.cells (tabA bv n (.slice (some ⟨b, off, none⟩) al.length oc)) TabT)) (.cells #[.int .i64 f, .int .i64 k] PcT)
  obtain ⟨⟨c0, _, _, _, _, _⟩, _, _⟩ := hr.below hw hb
  have t2 : World.cell? _ _ = some (.slice (some ⟨b, off, none⟩) al.length oc) := b0.cell 2
  have x0 : World.cell? _ _ = some (.int .i64 f) := b1.cell 0
  have x1 : World.cell? _ _ = some (.int .i64 (k : Int)) := b1.cell 1
  have HB := Lib.hid hw
  dsimp only at h1 h2
  have hwr : IntKind.i64.wrap (f + al[k].l) = f + al[k].l := IntWalk.i64_in _ ⟨by omega, by omega⟩
  clear b0 b1 hw hok2 hr hsp
  generalize al[k] = a at *
  go_enter Try.func40, Try.ntmps40
  go_wp2_with fail
  go_quiet (fail)
  go_wp2
  go_ret
  exact ⟨rfl, below_drewN HB.out _⟩

set_option maxRecDepth 20000 in
set_option maxHeartbeats 4000000 in
theorem tcheck_any (bv ov : Value) (n : Int) (rs : List Bd.R) (al : List Ro.A) (v : Value) (xs : List Ro.X) (w : World) (ho : Offs w ov rs al) (hf : Bd.fine rs) (hok : Ro.okAs al) (hal : al.length ≤ 5) (hN : (Bd.exp rs).length ≤ 300) (hv : Pcs w v xs) (hxl : xs.length ≤ 1000) :
    Calls Try.prog 61 #[tabV bv n ov, v] w fun e w' => e = .returned (.int .i64 (Ro.chk (Bd.exp rs) al 0 xs)) ∧ Below w.heap.size w w' := by
  have TF := Lib.hid (fun x W (hW : Below w.heap.size w W) => tfits_any bv ov n rs al x W (ho.all hW) hf hok hal)
  have TE := Lib.hid (fun x k (hk : k < al.length) (hx : x.a = (k : Int)) W (hW : Below w.heap.size w W) h1 h2 h3 => end_any bv ov n rs al x k hk hx W (ho.all hW) h1 h2 h3)
  have HL := Lib.hid (fun (k : Nat) (hk : k < al.length) => (Ro.okA_iff.1 (hok _ (List.getElem_mem hk))).1)
  obtain ⟨oa, oc, rfl, _⟩ := ho
  obtain ⟨va, vc, rfl, hk⟩ := hv
  have HK := Lib.hid hk
  clear hk hf hok
  generalize Bd.exp rs = ms at *
  have HS : Hid (∀ x, Ro.fitX ms al x = true → ∃ k : Nat, ∃ hk : k < al.length, x.a = k ∧ 0 ≤ x.f ∧ x.f + al[k].l ≤ 300) := Lib.hid fun x h => by
    obtain ⟨k, hk, h1, h2, h3⟩ := Ro.fitX_split h
    exact ⟨k, hk, h1, h2, by omega⟩
  have HB : Hid (BlockAt (w.alloc (.cells (tabA bv n (.slice oa al.length oc)) TabT)) w.heap.size (tabA bv n (.slice oa al.length oc)) TabT ∧ Below w.heap.size w (w.alloc (.cells (tabA bv n (.slice oa al.length oc)) TabT))) := Lib.hid ⟨BlockAt.new _ _ _, below_alloc2 (Below.refl _ _) _⟩
  clear hN
  go_enter Try.func61, Try.ntmps61
  go_wp2
  go_loopw [5, 10] (fun s t wr => ∃ (j : Nat) (lo : Int), j ≤ xs.length ∧ t = .int .i64 j ∧ s = .int .i64 lo ∧ Hid (Ro.chk ms al lo (xs.drop j) = Ro.chk ms al 0 xs ∧ BlockAt wr w.heap.size (tabA bv n (.slice oa al.length oc)) TabT ∧ Below w.heap.size w wr)) (fun _ t _ => xs.length - (intOf t).toNat)
  case atStart => exact ⟨0, 0, Nat.zero_le _, rfl, rfl, Lib.hid ⟨by rw [List.drop_zero], HB.out⟩⟩
  case round =>
    obtain ⟨j, lo, hj, rfl, rfl, hg⟩ := hrel
    clear HB
    by_cases hlt : j < xs.length
    · obtain ⟨b, off, rfl, hb, hr⟩ := HK.out j hlt
      obtain ⟨c0, c1⟩ := hr.below hg.out.2.2 hb
      have hd := hg.out.1
      rw [List.drop_eq_getElem_cons hlt] at hd
      have HD := Lib.hid hd
      have t0 : World.cell? wr ⟨w.heap.size, 0, none⟩ = some bv := hg.out.2.1.cell 0
      have hlt0 := hg.out.2.1.lt
      have HG : Hid (BlockAt (wr.alloc (.cells #[.int .i64 xs[j].f, .int .i64 xs[j].a] PcT)) w.heap.size (tabA bv n (.slice oa al.length oc)) TabT ∧ BlockAt (wr.alloc (.cells #[.int .i64 xs[j].f, .int .i64 xs[j].a] PcT)) wr.heap.size #[.int .i64 xs[j].f, .int .i64 xs[j].a] PcT ∧ Below w.heap.size w (wr.alloc (.cells #[.int .i64 xs[j].f, .int .i64 xs[j].a] PcT))) := Lib.hid ⟨hg.out.2.1.alloc _, BlockAt.new _ _ _, below_alloc2 hg.out.2.2 _⟩
      have C1 := Lib.hid (TF.out xs[j] _ HG.out.2.2)
      have HFS := Lib.hid (HS.out xs[j])
      clear hg hd hr t0
      generalize hfx : Ro.fitX ms al xs[j] = r at *
      have HFX := Lib.hid hfx
      clear hfx
      generalize xs[j] = x at *
      obtain ⟨f, n2⟩ := x
      try dsimp only at *
      have t0 : World.cell? _ _ = some bv := HG.out.1.cell 0
      have t1 : World.cell? _ _ = some (.int .i64 n) := HG.out.1.cell 1
      have t2 : World.cell? _ _ = some (.slice oa al.length oc) := HG.out.1.cell 2
      go_wp2_with fail
      refine C1.out.mono ?_
      rintro e w1 ⟨rfl, hb1⟩
      have HG1 := Lib.hid (And.intro (HG.out.1.below hb1 HG.out.1.lt) (And.intro (HG.out.2.1.below hb1 HG.out.2.1.lt) (below_step HG.out.2.2 hb1)))
      clear hb1 HG C1 t0 t1 t2 c0 c1
      have x0 : World.cell? _ _ = some (.int .i64 f) := HG1.out.2.1.cell 0
      have x1 : World.cell? _ _ = some (.int .i64 n2) := HG1.out.2.1.cell 1
      have t0 : World.cell? _ _ = some bv := HG1.out.1.cell 0
      have t1 : World.cell? _ _ = some (.int .i64 n) := HG1.out.1.cell 1
      have t2 : World.cell? _ _ = some (.slice oa al.length oc) := HG1.out.1.cell 2
      cases r
      · have HE := Lib.hid (HD.out.symm.trans (Ro.chk_bad HFX.out))
        clear HD HFX HFS
        go_wp2
        go_ret
        exact ⟨by rw [HE.out]; rfl, HG1.out.2.2⟩
      · obtain ⟨k, hk, hxa, hf0, hf1⟩ := HFS.out rfl
        obtain rfl : n2 = k := hxa
        have hla := HL.out k hk
        by_cases hlo : f < lo
        · have hdl : decide (f < lo) = true := decide_eq_true hlo
          have HE := Lib.hid (HD.out.symm.trans (Ro.chk_early HFX.out hlo))
          clear HD HFX HFS hlo
          go_wp2
          go_ret
          exact ⟨by rw [HE.out]; rfl, HG1.out.2.2⟩
        · have hdl : decide (f < lo) = false := decide_eq_false hlo
          have HE := Lib.hid ((Ro.chk_next HFX.out hlo).symm.trans HD.out)
          have hat := Ro.art_at hk
          try dsimp only at hf0 hf1
          have C2 := Lib.hid (TE.out ⟨f, k⟩ k hk rfl _ HG1.out.2.2 hf0 (by dsimp only; omega) hla)
          clear HD HFX HFS hlo
          try dsimp only at HE
          rw [hat] at HE
          clear hat
          generalize al[k] = a at *
          go_wp2_with fail
          refine C2.out.mono ?_
          rintro e w2 ⟨rfl, hb2⟩
          have HG2 := Lib.hid (And.intro (HG1.out.1.below hb2 HG1.out.1.lt) (below_step HG1.out.2.2 hb2))
          clear hb2 C2 HG1 t0 t1 t2 x0 x1
          go_wp2
          go_roundw
          case rel => exact ⟨j + 1, f + a.l, by omega, by go_num, rfl, Lib.hid ⟨HE.out, HG2.out⟩⟩
          case measure => simp [intOf]; omega
    · obtain rfl : j = xs.length := by omega
      have hd := hg.out.1
      rw [List.drop_length] at hd
      have HE := Lib.hid hd.symm
      have HW := Lib.hid hg.out.2.2
      clear hg hd
      go_wp2
      go_ret
      exact ⟨by rw [HE.out]; rfl, HW.out⟩
end Go.Proofs.Ytbmjjmpdlmbehaa
namespace Go.Proofs.Ytbmjjmpdlmbehaa
open Go.RowKit

def Ro.chkE (rs : List Bd.R) (al : List Ro.A) (xs : List Ro.X) : Int := if Ro.layE rs al = 0 then Ro.chk (Bd.exp rs) al 0 xs else Ro.layE rs al
def Ro.valV (rs : List Bd.R) (al : List Ro.A) (xs : List Ro.X) : Int := if Ro.chkE rs al xs = 0 then Ro.val al xs else 0
theorem Ro.chkE_zero {rs : List Bd.R} {al : List Ro.A} {xs : List Ro.X} (h : Ro.chkE rs al xs = 0) : Ro.layE rs al = 0 ∧ Ro.chk (Bd.exp rs) al 0 xs = 0 := by
  unfold Ro.chkE at h
  by_cases hz : Ro.layE rs al = 0
  · rw [if_pos hz] at h; exact ⟨hz, h⟩
  · rw [if_neg hz] at h; exact absurd h hz

set_option maxRecDepth 20000 in
set_option maxHeartbeats 4000000 in
theorem refCheck_any (mv u v : Value) (ms : List Bd.M) (al : List Ro.A) (xs : List Ro.X) (w : World) (hm : Mks w mv ms) (hu : Arts w u al) (hv : Pcs w v xs) (hok : Ro.okAs al) (hal : al.length ≤ 5) (hN : ms.length ≤ 300) (hxl : xs.length ≤ 1000) :
    Calls Try.prog 64 #[mv, u, v] w fun e w' => e = .returned (.int .i64 (Ro.chk ms al 0 xs)) ∧ Below w.heap.size w w' := by
  have TF := Lib.hid (fun x W (hW : Below w.heap.size w W) => refFits_any mv u ms al x W (hm.all hW) (hu.all hW) hok hN hal)
  have HL := Lib.hid (fun (k : Nat) (hk : k < al.length) => (Ro.okA_iff.1 (hok _ (List.getElem_mem hk))).1)
  obtain ⟨ma, mc, rfl, _⟩ := hm
  obtain ⟨ua, uc, rfl, hka⟩ := hu
  obtain ⟨va, vc, rfl, hk⟩ := hv
  have HK := Lib.hid hk
  have HA := Lib.hid hka
  have HS : Hid (∀ x, Ro.fitX ms al x = true → ∃ k : Nat, ∃ hk : k < al.length, x.a = k ∧ 0 ≤ x.f ∧ x.f + al[k].l ≤ 300) := Lib.hid fun x h => by
    obtain ⟨k, hk, h1, h2, h3⟩ := Ro.fitX_split h
    exact ⟨k, hk, h1, h2, by omega⟩
  have HB := Lib.hid (Below.refl w.heap.size w)
  clear hk hka hok hN
  go_enter Try.func64, Try.ntmps64
  go_wp2
  go_loopw [7, 8] (fun s t wr => ∃ (j : Nat) (lo : Int), j ≤ xs.length ∧ t = .int .i64 j ∧ s = .int .i64 lo ∧ Hid (Ro.chk ms al lo (xs.drop j) = Ro.chk ms al 0 xs ∧ Below w.heap.size w wr)) (fun _ t _ => xs.length - (intOf t).toNat)
  case atStart => exact ⟨0, 0, Nat.zero_le _, rfl, rfl, Lib.hid ⟨by rw [List.drop_zero], HB.out⟩⟩
  case round =>
    obtain ⟨j, lo, hj, rfl, rfl, hg⟩ := hrel
    clear HB
    by_cases hlt : j < xs.length
    · obtain ⟨b, off, rfl, hb, hr⟩ := HK.out j hlt
      obtain ⟨c0, c1⟩ := hr.below hg.out.2 hb
      have hd := hg.out.1
      rw [List.drop_eq_getElem_cons hlt] at hd
      have HD := Lib.hid hd
      have HG := Lib.hid hg.out.2
      have HR := Lib.hid hr
      have C1 := Lib.hid (TF.out xs[j] _ HG.out)
      have HFS := Lib.hid (HS.out xs[j])
      clear hg hd hr
      generalize hfx : Ro.fitX ms al xs[j] = r at *
      have HFX := Lib.hid hfx
      clear hfx
      generalize xs[j] = x at *
      obtain ⟨f, n2⟩ := x
      try dsimp only at *
      go_wp2_with fail
      refine C1.out.mono ?_
      rintro e w1 ⟨rfl, hb1⟩
      have HG1 := Lib.hid (below_step HG.out hb1)
      clear hb1 HG C1 c0 c1
      cases r
      · have HE := Lib.hid (HD.out.symm.trans (Ro.chk_bad HFX.out))
        clear HD HFX HFS
        go_wp2
        go_ret
        exact ⟨by rw [HE.out]; rfl, HG1.out⟩
      · obtain ⟨k, hk, hxa, hf0, hf1⟩ := HFS.out rfl
        obtain rfl : n2 = k := hxa
        obtain ⟨c0, c1⟩ := HR.out.below HG1.out hb
        try dsimp only at c0 c1
        by_cases hlo : f < lo
        · have hdl : decide (f < lo) = true := decide_eq_true hlo
          have HE := Lib.hid (HD.out.symm.trans (Ro.chk_early HFX.out hlo))
          clear HD HFX HFS hlo
          go_wp2
          go_ret
          exact ⟨by rw [HE.out]; rfl, HG1.out⟩
        · have hdl : decide (f < lo) = false := decide_eq_false hlo
          have HE := Lib.hid ((Ro.chk_next HFX.out hlo).symm.trans HD.out)
          have hat := Ro.art_at hk
          try dsimp only at hf0 hf1
          obtain ⟨ba, offa, rfl, hba, hra⟩ := HA.out k hk
          obtain ⟨d0, _, _, _, _, _⟩ := hra.below HG1.out hba
          have hla := HL.out k hk
          have hwr : IntKind.i64.wrap (f + al[k].l) = f + al[k].l := IntWalk.i64_in _ ⟨by omega, by omega⟩
          clear HD HFX HFS hlo hra
          try dsimp only at HE
          rw [hat] at HE
          clear hat
          generalize al[k] = a at *
          go_wp2_with fail
          go_quiet (fail)
          clear d0 c0 c1
          go_wp2
          go_roundw
          case rel => exact ⟨j + 1, f + a.l, by omega, by go_num, rfl, Lib.hid ⟨HE.out, below_drewN HG1.out _⟩⟩
          case measure => simp [intOf]; omega
    · obtain rfl : j = xs.length := by omega
      have hd := hg.out.1
      rw [List.drop_length] at hd
      have HE := Lib.hid hd.symm
      have HW := Lib.hid hg.out.2
      clear hg hd
      go_wp2
      go_ret
      exact ⟨by rw [HE.out]; rfl, HW.out⟩

set_option maxRecDepth 20000 in
set_option maxHeartbeats 2000000 in
theorem refCheckE_any (v u x : Value) (rs : List Bd.R) (al : List Ro.A) (xs : List Ro.X) (w : World) (hv : Runs w v rs) (hu : Arts w u al) (hx : Pcs w x xs) (hl : rs.length ≤ 1000) (hal : al.length ≤ 1000) (hxl : xs.length ≤ 1000) :
    Calls Try.prog 41 #[v, u, x] w fun e w' => e = .returned (.int .i64 (Ro.chkE rs al xs)) ∧ Below w.heap.size w w' := by
  by_cases hz : Ro.layE rs al = 0
  · obtain ⟨h1, h2, h3, h4, h5, h6⟩ := Ro.lay_facts hz
    have LY := Lib.hid (marks_ok v u rs al _ hv hu hl hal hz)
    have WO := Lib.hid (fun (mv : Value) W (hW : Below w.heap.size w W) (ho : Mks W mv (Bd.exp rs)) => refCheck_any mv u x (Bd.exp rs) al xs W ho (hu.all hW) (hx.all hW) h6 h5 h4 hxl)
    have hR : Ro.chkE rs al xs = Ro.chk (Bd.exp rs) al 0 xs := if_pos hz
    rw [hR]
    obtain ⟨va, vc, rfl⟩ := hv.form
    obtain ⟨ua, uc, rfl, _⟩ := hu
    obtain ⟨xa, xc, rfl, _⟩ := hx
    clear hv hz h1 h2 h3 h6 hR
    generalize Ro.chk (Bd.exp rs) al 0 xs = r at *
    generalize Bd.exp rs = ms at *
    go_enter Try.func41, Try.ntmps41
    go_wp2_with fail
    refine LY.out.mono ?_
    rintro e w1 ⟨mv, rfl, ho, hb1⟩
    have hm := ho.mks
    obtain ⟨ma, mc, hmv, _⟩ := ho.mks
    subst hmv
    have HB := Lib.hid hb1
    have C := Lib.hid (WO.out _ _ HB.out hm)
    clear ho hm hb1 LY WO
    go_wp2_with fail
    refine C.out.mono ?_
    rintro e w2 ⟨rfl, hb2⟩
    have HW := Lib.hid (below_step HB.out hb2)
    clear hb2 HB C
    go_wp2
    go_ret
    exact ⟨rfl, HW.out⟩
  · have LY := Lib.hid (marks_bad v u rs al _ hv hu hl hal hz)
    have hR : Ro.chkE rs al xs = Ro.layE rs al := if_neg hz
    rw [hR]
    obtain ⟨va, vc, rfl⟩ := hv.form
    obtain ⟨ua, uc, rfl, _⟩ := hu
    obtain ⟨xa, xc, rfl, _⟩ := hx
    generalize Ro.layE rs al = q at *
    have hd : (q == 0) = false := beq_eq_false_iff_ne.2 hz
    have hd2 : (q != 0) = true := by rw [bne, hd]; rfl
    clear hv hz hR
    go_enter Try.func41, Try.ntmps41
    go_wp2_with fail
    refine LY.out.mono ?_
    rintro e w1 ⟨rfl, hb1⟩
    have HB := Lib.hid hb1
    clear hb1 LY
    go_wp2
    go_ret
    exact ⟨rfl, HB.out⟩

theorem Ro.val_take {al : List Ro.A} {xs : List Ro.X} {j : Nat} (hj : j < xs.length) : Ro.val al (xs.take (j + 1)) = Ro.val al (xs.take j) + (Ro.art al xs[j].a).p := by
  rw [List.take_succ_eq_append_getElem hj, Ro.val_append]
  simp [Ro.val]
theorem Ro.chk_each {ms : List Bd.M} {al : List Ro.A} : ∀ {xs : List Ro.X} {lo : Int}, Ro.chk ms al lo xs = 0 → ∀ j (hj : j < xs.length), Ro.fitX ms al xs[j] = true
  | x :: xs, lo, h, 0, _ => (Ro.chk_cons.1 h).1
  | x :: xs, lo, h, j + 1, hj => Ro.chk_each (Ro.chk_cons.1 h).2.2 j (by simpa using hj)
  | [], _, _, j, hj => by simp at hj
theorem Ro.val_bound {ms : List Bd.M} {al : List Ro.A} {xs : List Ro.X} (ho : Ro.okAs al) (h : ∀ j (hj : j < xs.length), Ro.fitX ms al xs[j] = true) : ∀ j, j ≤ xs.length → 0 ≤ Ro.val al (xs.take j) ∧ Ro.val al (xs.take j) ≤ j * 10000
  | 0, _ => by simp [Ro.val]
  | j + 1, hj => by
    have ih := Ro.val_bound ho h j (by omega)
    obtain ⟨h1, h2, h3⟩ := Ro.fitX_iff.1 (h j (by omega))
    have h4 := Ro.okA_iff.1 (ho _ (Ro.art_mem h1 h2))
    rw [Ro.val_take (by omega)]
    omega

end Go.Proofs.Ytbmjjmpdlmbehaa
namespace Go.Proofs.Ytbmjjmpdlmbehaa
open Go.RowKit

theorem lay_own (v u : Value) (rs : List Bd.R) (al : List Ro.A) (w : World) (hv : Runs w v rs) (hu : Arts w u al) (hl : rs.length ≤ 1000) (hal : al.length ≤ 1000) (hz : Ro.layE rs al = 0) :
    Calls Try.prog 29 #[v, u] w fun e w' => ∃ oa oc us, e = .returned (.tuple #[tabV v ((Bd.exp rs).length : Int) (.slice oa al.length oc), .int .i64 0]) ∧ OwnO w.heap.size w' (.slice oa al.length oc) rs al us ∧ Below w.heap.size w w' := by
  refine (lay_ok v u rs al w hv hu hl hal hz).mono ?_
  rintro e w' ⟨ov, us, rfl, ho, hb⟩
  obtain ⟨oa, oc, rfl⟩ := ho.form
  exact ⟨oa, oc, us, by rw [(Ro.lay_facts hz).2.2.1], ho, hb⟩
set_option maxRecDepth 20000 in
set_option maxHeartbeats 4000000 in
theorem layFor_ok (v u x : Value) (rs : List Bd.R) (al : List Ro.A) (xs : List Ro.X) (w : World) (hv : Runs w v rs) (hu : Arts w u al) (hx : Pcs w x xs) (hl : rs.length ≤ 1000) (hal : al.length ≤ 1000) (hxl : xs.length ≤ 1000) (hz : Ro.chkE rs al xs = 0) :
    Calls Try.prog 36 #[v, u, x] w fun e w' => ∃ oa oc us, e = .returned (.tuple #[tabV v ((Bd.exp rs).length : Int) (.slice oa al.length oc), .int .i64 0]) ∧ OwnO w.heap.size w' (.slice oa al.length oc) rs al us ∧ Below w.heap.size w w' := by
  obtain ⟨hz1, hz2⟩ := Ro.chkE_zero hz
  obtain ⟨h1, h2, h3, h4, h5, h6⟩ := Ro.lay_facts hz1
  have b6 := BlockAt.new w #[.slice none 0 0, .int .i64 0, .slice none 0 0] TabT
  have hw0 := below_alloc2 (Below.refl w.heap.size w) (.cells #[.slice none 0 0, .int .i64 0, .slice none 0 0] TabT)
  have HB0 := Lib.hid (And.intro b6 hw0)
  have LY := Lib.hid (lay_own v u rs al _ (hv.all hw0) (hu.all hw0) hl hal hz1)
  have CK := Lib.hid (fun (bv ov : Value) (n : Int) W (hW : Below w.heap.size w W) (ho : Offs W ov rs al) => tcheck_any bv ov n rs al x xs W ho h2 h6 h5 h4 (hx.all hW) hxl)
  rw [hz2] at CK
  obtain ⟨va, vc, rfl⟩ := hv.form
  obtain ⟨ua, uc, rfl, _⟩ := hu
  obtain ⟨xa, xc, rfl, _⟩ := hx
  clear hv hz hz1 hz2 h1 h2 h3 h4 h6 b6 hw0
  generalize ((Bd.exp rs).length : Int) = n at *
  obtain ⟨vl, hvl⟩ : ∃ y, y = rs.length := ⟨_, rfl⟩
  rw [← hvl] at LY ⊢
  clear hvl hl
  go_enter Try.func36, Try.ntmps36
  go_wp2_with fail
  refine LY.out.mono ?_
  rintro e w1 ⟨oa, oc, us, rfl, ho, hb1⟩
  simp only [World.size_alloc] at ho
  have H1 : Hid (BlockAt (w1.alloc (.cells (tabA (.slice va vl vc) n (.slice oa al.length oc)) TabT)) w.heap.size #[.slice none 0 0, .int .i64 0, .slice none 0 0] TabT ∧ BlockAt (w1.alloc (.cells (tabA (.slice va vl vc) n (.slice oa al.length oc)) TabT)) w1.heap.size (tabA (.slice va vl vc) n (.slice oa al.length oc)) TabT ∧ OwnO (w.heap.size + 1) (w1.alloc (.cells (tabA (.slice va vl vc) n (.slice oa al.length oc)) TabT)) (.slice oa al.length oc) rs al us ∧ Below w.heap.size w (w1.alloc (.cells (tabA (.slice va vl vc) n (.slice oa al.length oc)) TabT))) :=
    Lib.hid ⟨(HB0.out.1.below hb1 HB0.out.1.lt).alloc _, BlockAt.new _ _ _, ho.all ((Below.refl _ _).alloc (Nat.le_refl _) _), below_alloc2 (below_step HB0.out.2 hb1) _⟩
  have hs1 := hb1.size
  clear ho hb1 LY HB0
  have C := Lib.hid (CK.out (.slice va vl vc) _ n _ H1.out.2.2.2 H1.out.2.2.1.offs)
  go_wp2_with fail
  refine C.out.mono ?_
  rintro e w2 ⟨rfl, hb2⟩
  have H2 := Lib.hid (And.intro (H1.out.1.below hb2 H1.out.1.lt) (And.intro (H1.out.2.1.below hb2 H1.out.2.1.lt) (And.intro (H1.out.2.2.1.all hb2) (below_step H1.out.2.2.2 hb2))))
  clear hb2 H1 C CK
  have q0 : World.cell? _ _ = some (.slice va vl vc) := H2.out.2.1.cell 0
  have q1 : World.cell? _ _ = some (.int .i64 n) := H2.out.2.1.cell 1
  have q2 : World.cell? _ _ = some (.slice oa al.length oc) := H2.out.2.1.cell 2
  have c0 : World.cell? _ _ = some (.slice none 0 0) := H2.out.1.cell 0
  have c1 : World.cell? _ _ = some (.int .i64 0) := H2.out.1.cell 1
  have c2 : World.cell? _ _ = some (.slice none 0 0) := H2.out.1.cell 2
  have f0 := H2.out.1.frozen 0
  have f1 := H2.out.1.frozen 1
  have f2 := H2.out.1.frozen 2
  have hltw := H2.out.1.lt
  go_wp2
  refine bodyPost_ret (v := .tuple #[.agg #[.slice va vl vc, .int .i64 n, .slice oa al.length oc], .int .i64 0]) (by simp [results, Try.results36, go_sem, c0, c1, c2, hltw]) rfl ⟨oa, oc, us, rfl, ?_, ?_⟩
  · exact OwnO.mono (((H2.out.2.2.1.setTab H2.out.1 (by omega) 0 _).setTab (H2.out.1.set 0 _) (by omega) 1 _).setTab ((H2.out.1.set 0 _).set 1 _) (by omega) 2 _) (by omega)
  · iterate 3 (refine Below.setCell ?_ (by dsimp only; omega) _)
    exact H2.out.2.2.2

set_option maxRecDepth 20000 in
set_option maxHeartbeats 4000000 in
theorem layFor_bad (v u x : Value) (rs : List Bd.R) (al : List Ro.A) (xs : List Ro.X) (w : World) (hv : Runs w v rs) (hu : Arts w u al) (hx : Pcs w x xs) (hl : rs.length ≤ 1000) (hal : al.length ≤ 1000) (hxl : xs.length ≤ 1000) (hz : Ro.chkE rs al xs ≠ 0) :
    Calls Try.prog 36 #[v, u, x] w fun e w' => e = .returned (.tuple #[tabV (.slice none 0 0) 0 (.slice none 0 0), .int .i64 (Ro.chkE rs al xs)]) ∧ Below w.heap.size w w' := by
  have b6 := BlockAt.new w #[.slice none 0 0, .int .i64 0, .slice none 0 0] TabT
  have hw0 := below_alloc2 (Below.refl w.heap.size w) (.cells #[.slice none 0 0, .int .i64 0, .slice none 0 0] TabT)
  have HB0 := Lib.hid (And.intro b6 hw0)
  by_cases hz1 : Ro.layE rs al = 0
  · obtain ⟨h1, h2, h3, h4, h5, h6⟩ := Ro.lay_facts hz1
    have LY := Lib.hid (lay_good v u rs al _ (hv.all hw0) (hu.all hw0) hl hal hz1)
    have CK := Lib.hid (fun (bv ov : Value) (n : Int) W (hW : Below w.heap.size w W) (ho : Offs W ov rs al) => tcheck_any bv ov n rs al x xs W ho h2 h6 h5 h4 (hx.all hW) hxl)
    have hR : Ro.chkE rs al xs = Ro.chk (Bd.exp rs) al 0 xs := if_pos hz1
    rw [hR] at hz ⊢
    obtain ⟨va, vc, rfl⟩ := hv.form
    obtain ⟨ua, uc, rfl, _⟩ := hu
    obtain ⟨xa, xc, rfl, _⟩ := hx
    generalize Ro.chk (Bd.exp rs) al 0 xs = q at *
    generalize ((Bd.exp rs).length : Int) = n at *
    have hd : (q == 0) = false := beq_eq_false_iff_ne.2 hz
    have hd2 : (q != 0) = true := by rw [bne, hd]; rfl
    clear hv hz hz1 h1 h2 h3 h4 h6 b6 hw0 hR
    obtain ⟨vl, hvl⟩ : ∃ y, y = rs.length := ⟨_, rfl⟩
    rw [← hvl] at LY ⊢
    clear hvl hl
    go_enter Try.func36, Try.ntmps36
    go_wp2_with fail
    refine LY.out.mono ?_
    rintro e w1 ⟨oa, oc, rfl, ho, hb1⟩
    have H1 : Hid (BlockAt (w1.alloc (.cells (tabA (.slice va vl vc) n (.slice oa al.length oc)) TabT)) w.heap.size #[.slice none 0 0, .int .i64 0, .slice none 0 0] TabT ∧ BlockAt (w1.alloc (.cells (tabA (.slice va vl vc) n (.slice oa al.length oc)) TabT)) w1.heap.size (tabA (.slice va vl vc) n (.slice oa al.length oc)) TabT ∧ Offs (w1.alloc (.cells (tabA (.slice va vl vc) n (.slice oa al.length oc)) TabT)) (.slice oa al.length oc) rs al ∧ Below w.heap.size w (w1.alloc (.cells (tabA (.slice va vl vc) n (.slice oa al.length oc)) TabT))) :=
      Lib.hid ⟨(HB0.out.1.below hb1 HB0.out.1.lt).alloc _, BlockAt.new _ _ _, ho.all ((Below.refl _ _).alloc (Nat.le_refl _) _), below_alloc2 (below_step HB0.out.2 hb1) _⟩
    clear ho hb1 LY HB0
    have C := Lib.hid (CK.out (.slice va vl vc) _ n _ H1.out.2.2.2 H1.out.2.2.1)
    go_wp2_with fail
    refine C.out.mono ?_
    rintro e w2 ⟨rfl, hb2⟩
    have H2 := Lib.hid (And.intro (H1.out.1.below hb2 H1.out.1.lt) (below_step H1.out.2.2.2 hb2))
    clear hb2 H1 C CK
    have c0 : World.cell? _ _ = some (.slice none 0 0) := H2.out.1.cell 0
    have c1 : World.cell? _ _ = some (.int .i64 0) := H2.out.1.cell 1
    have c2 : World.cell? _ _ = some (.slice none 0 0) := H2.out.1.cell 2
    have f0 := H2.out.1.frozen 0
    have f1 := H2.out.1.frozen 1
    have f2 := H2.out.1.frozen 2
    have hltw := H2.out.1.lt
    go_wp2
    refine bodyPost_ret (v := .tuple #[.agg #[.slice none 0 0, .int .i64 0, .slice none 0 0], .int .i64 q]) (by simp [results, Try.results36, go_sem, c0, c1, c2, hltw]) rfl ⟨rfl, ?_⟩
    iterate 3 (refine Below.setCell ?_ (by dsimp only; omega) _)
    exact H2.out.2
  · have LY := Lib.hid (lay_bad v u rs al _ (hv.all hw0) (hu.all hw0) hl hal hz1)
    have hR : Ro.chkE rs al xs = Ro.layE rs al := if_neg hz1
    rw [hR]
    obtain ⟨va, vc, rfl⟩ := hv.form
    obtain ⟨ua, uc, rfl, _⟩ := hu
    obtain ⟨xa, xc, rfl, _⟩ := hx
    generalize Ro.layE rs al = q at *
    have hd : (q == 0) = false := beq_eq_false_iff_ne.2 hz1
    have hd2 : (q != 0) = true := by rw [bne, hd]; rfl
    clear hv hz hz1 b6 hw0 hR
    go_enter Try.func36, Try.ntmps36
    go_wp2_with fail
    refine LY.out.mono ?_
    rintro e w1 ⟨rfl, hb1⟩
    have H2 : Hid (BlockAt (w1.alloc (.cells (tabA (.slice none 0 0) 0 (.slice none 0 0)) TabT)) w.heap.size #[.slice none 0 0, .int .i64 0, .slice none 0 0] TabT ∧ Below w.heap.size w (w1.alloc (.cells (tabA (.slice none 0 0) 0 (.slice none 0 0)) TabT))) :=
      Lib.hid ⟨(HB0.out.1.below hb1 HB0.out.1.lt).alloc _, below_alloc2 (below_step HB0.out.2 hb1) _⟩
    clear hb1 LY HB0
    have c0 : World.cell? _ _ = some (.slice none 0 0) := H2.out.1.cell 0
    have c1 : World.cell? _ _ = some (.int .i64 0) := H2.out.1.cell 1
    have c2 : World.cell? _ _ = some (.slice none 0 0) := H2.out.1.cell 2
    have f0 := H2.out.1.frozen 0
    have f1 := H2.out.1.frozen 1
    have f2 := H2.out.1.frozen 2
    have hltw := H2.out.1.lt
    go_wp2
    refine bodyPost_ret (v := .tuple #[.agg #[.slice none 0 0, .int .i64 0, .slice none 0 0], .int .i64 q]) (by simp [results, Try.results36, go_sem, c0, c1, c2, hltw]) rfl ⟨rfl, ?_⟩
    iterate 3 (refine Below.setCell ?_ (by dsimp only; omega) _)
    exact H2.out.2

set_option maxRecDepth 20000 in
set_option maxHeartbeats 2000000 in
theorem numCheck_any (v u x : Value) (rs : List Bd.R) (al : List Ro.A) (xs : List Ro.X) (w : World) (hv : Runs w v rs) (hu : Arts w u al) (hx : Pcs w x xs) (hl : rs.length ≤ 1000) (hal : al.length ≤ 1000) (hxl : xs.length ≤ 1000) :
    Calls Try.prog 20 #[v, u, x] w fun e w' => e = .returned (.int .i64 (Ro.chkE rs al xs)) ∧ Below w.heap.size w w' := by
  have key : Calls Try.prog 36 #[v, u, x] w fun e w' => ∃ (ba : Option Addr) (bl bc : Nat) (n : Int) (oa : Option Addr) (ol oc : Nat), e = .returned (.tuple #[tabV (.slice ba bl bc) n (.slice oa ol oc), .int .i64 (Ro.chkE rs al xs)]) ∧ Below w.heap.size w w' := by
    by_cases hz : Ro.chkE rs al xs = 0
    · rw [hz]
      obtain ⟨va, vc, hve⟩ := hv.form
      exact (layFor_ok v u x rs al xs w hv hu hx hl hal hxl hz).mono fun e w' ⟨oa, oc, us, h1, _, h3⟩ => ⟨va, rs.length, vc, _, oa, _, oc, h1.trans (by rw [hve]), h3⟩
    · exact (layFor_bad v u x rs al xs w hv hu hx hl hal hxl hz).mono fun e w' ⟨h1, h3⟩ => ⟨_, _, _, _, _, _, _, h1, h3⟩
  have C := Lib.hid key
  obtain ⟨va, vc, rfl⟩ := hv.form
  obtain ⟨ua, uc, rfl, _⟩ := hu
  obtain ⟨xa, xc, rfl, _⟩ := hx
  generalize Ro.chkE rs al xs = q at *
  clear key hv
  go_enter Try.func20, Try.ntmps20
  go_wp2_with fail
  refine C.out.mono ?_
  rintro e w1 ⟨ba, bl, bc, n, oa, ol, oc, rfl, hb1⟩
  have HB := Lib.hid (below_alloc2 hb1 (.cells (tabA (.slice ba bl bc) n (.slice oa ol oc)) TabT))
  clear hb1 C
  go_wp2
  go_ret
  exact ⟨rfl, HB.out⟩

set_option maxRecDepth 20000 in
set_option maxHeartbeats 4000000 in
theorem numValue_any (v u x : Value) (rs : List Bd.R) (al : List Ro.A) (xs : List Ro.X) (w : World) (hv : Runs w v rs) (hu : Arts w u al) (hx : Pcs w x xs) (hl : rs.length ≤ 1000) (hal : al.length ≤ 1000) (hxl : xs.length ≤ 1000) :
    Calls Try.prog 11 #[v, u, x] w fun e w' => e = .returned (.tuple #[.int .i64 (Ro.valV rs al xs), .int .i64 (Ro.chkE rs al xs)]) ∧ Below w.heap.size w w' := by
  by_cases hz : Ro.chkE rs al xs = 0
  · obtain ⟨hz1, hz2⟩ := Ro.chkE_zero hz
    obtain ⟨h1, h2, h3, h4, h5, h6⟩ := Ro.lay_facts hz1
    have LY := Lib.hid (layFor_ok v u x rs al xs w hv hu hx hl hal hxl hz)
    have HE := Lib.hid (Ro.chk_each hz2)
    have HV := Lib.hid (Ro.val_bound h6 (Ro.chk_each hz2))
    have HT := Lib.hid (fun j (hj : j < xs.length) => Ro.val_take (al := al) hj)
    have HL := Lib.hid (fun (k : Nat) (hk : k < al.length) => (Ro.okA_iff.1 (h6 _ (List.getElem_mem hk))).2)
    have hR : Ro.valV rs al xs = Ro.val al xs := if_pos hz
    rw [hR, hz]
    obtain ⟨va, vc, rfl⟩ := hv.form
    obtain ⟨ua, uc, rfl, hka⟩ := hu
    obtain ⟨xa, xc, rfl, hkx⟩ := hx
    have HX := Lib.hid hkx
    have HALL : Hid (Ro.val al (xs.take xs.length) = Ro.val al xs) := Lib.hid (by rw [List.take_length])
    have HS : Hid (∀ j (hj : j < xs.length), ∃ k : Nat, k < al.length ∧ xs[j].a = k) := Lib.hid fun j hj => by
      obtain ⟨k, hk, h, _⟩ := Ro.fitX_split (HE.out j hj)
      exact ⟨k, hk, h⟩
    clear hv hz hz1 hz2 h1 h2 h3 h6 hR hka hkx HE
    generalize Ro.val al xs = R at *
    generalize ((Bd.exp rs).length : Int) = n at *
    obtain ⟨vl, hvl⟩ : ∃ y, y = rs.length := ⟨_, rfl⟩
    rw [← hvl] at LY ⊢
    clear hvl hl
    go_enter Try.func11, Try.ntmps11
    go_wp2_with fail
    refine LY.out.mono ?_
    rintro e w1 ⟨oa, oc, us, rfl, ho, hb1⟩
    have H1 : Hid (BlockAt (w1.alloc (.cells (tabA (.slice va vl vc) n (.slice oa al.length oc)) TabT)) w1.heap.size (tabA (.slice va vl vc) n (.slice oa al.length oc)) TabT ∧ Offs (w1.alloc (.cells (tabA (.slice va vl vc) n (.slice oa al.length oc)) TabT)) (.slice oa al.length oc) rs al ∧ Below w.heap.size w (w1.alloc (.cells (tabA (.slice va vl vc) n (.slice oa al.length oc)) TabT))) :=
      Lib.hid ⟨BlockAt.new _ _ _, ho.offs.all ((Below.refl _ _).alloc (Nat.le_refl _) _), below_alloc2 hb1 _⟩
    clear hb1 LY ho
    go_wp2
    go_loopw [10, 25] (fun s t wr => ∃ j : Nat, j ≤ xs.length ∧ t = .int .i64 j ∧ s = .int .i64 (Ro.val al (xs.take j)) ∧ Hid (BlockAt wr w1.heap.size (tabA (.slice va vl vc) n (.slice oa al.length oc)) TabT ∧ Offs wr (.slice oa al.length oc) rs al ∧ Below w.heap.size w wr)) (fun _ t _ => xs.length - (intOf t).toNat)
    case atStart => exact ⟨0, Nat.zero_le _, rfl, by rw [List.take_zero]; rfl, H1⟩
    case round =>
      obtain ⟨j, hj, rfl, rfl, hg⟩ := hrel
      clear H1
      by_cases hlt : j < xs.length
      · obtain ⟨b, off, rfl, hb, hr⟩ := HX.out j hlt
        obtain ⟨c0, c1⟩ := hr.below hg.out.2.2 hb
        obtain ⟨k, hk, hxk⟩ := HS.out j hlt
        have hT := HT.out j hlt
        rw [hxk] at hT c1
        rw [Ro.art_at hk] at hT
        have HTT := Lib.hid hT
        have b1 := HV.out j (by omega)
        have hp := HL.out k hk
        obtain ⟨oa2, oc2, heq, hoff⟩ := hg.out.2.1
        simp only [Value.slice.injEq, true_and] at heq
        obtain ⟨rfl, rfl⟩ := heq
        obtain ⟨bo, offo, uo, rfl, hbo, ⟨⟨d0, d1, d2, d3, d4, d5⟩, d6, d7⟩, _⟩ := hoff k hk
        have t2 : World.cell? wr ⟨w1.heap.size, 2, none⟩ = some (.slice (some ⟨bo, offo, none⟩) al.length oc) := hg.out.1.cell 2
        have hlt1 := hg.out.1.lt
        have HN : Hid (BlockAt (wr.alloc (.cells #[.int .i64 xs[j].f, .int .i64 (k : Int)] PcT)) w1.heap.size (tabA (.slice va vl vc) n (.slice (some ⟨bo, offo, none⟩) al.length oc)) TabT ∧ Offs (wr.alloc (.cells #[.int .i64 xs[j].f, .int .i64 (k : Int)] PcT)) (.slice (some ⟨bo, offo, none⟩) al.length oc) rs al ∧ Below w.heap.size w (wr.alloc (.cells #[.int .i64 xs[j].f, .int .i64 (k : Int)] PcT))) :=
          Lib.hid ⟨hg.out.1.alloc _, hg.out.2.1.all ((Below.refl _ _).alloc (Nat.le_refl _) _), below_alloc2 hg.out.2.2 _⟩
        clear hT hxk hr hg hoff
        generalize Ro.val al (xs.take j) = s at *
        generalize al[k] = a at *
        generalize xs[j] = y at *
        have hwr : IntKind.i64.wrap (s + a.p) = s + a.p := IntWalk.i64_in _ ⟨by omega, by omega⟩
        go_wp2
        go_roundw
        case rel => exact ⟨j + 1, by omega, by go_num, by rw [HTT.out], HN⟩
        case measure => simp [intOf]; omega
      · obtain rfl : j = xs.length := by omega
        have HW := Lib.hid hg.out.2.2
        clear hg
        rw [HALL.out]
        go_wp2
        go_ret2
        exact ⟨rfl, HW.out⟩
  · have LY := Lib.hid (layFor_bad v u x rs al xs w hv hu hx hl hal hxl hz)
    have hR : Ro.valV rs al xs = 0 := if_neg hz
    rw [hR]
    obtain ⟨va, vc, rfl⟩ := hv.form
    obtain ⟨ua, uc, rfl, _⟩ := hu
    obtain ⟨xa, xc, rfl, _⟩ := hx
    generalize Ro.chkE rs al xs = q at *
    have hd : (q == 0) = false := beq_eq_false_iff_ne.2 hz
    have hd2 : (q != 0) = true := by rw [bne, hd]; rfl
    clear hv hz hR
    go_enter Try.func11, Try.ntmps11
    go_wp2_with fail
    refine LY.out.mono ?_
    rintro e w1 ⟨rfl, hb1⟩
    have HB := Lib.hid (below_alloc2 hb1 (.cells (tabA (.slice none 0 0) 0 (.slice none 0 0)) TabT))
    clear hb1 LY
    go_wp2
    go_ret2
    exact ⟨rfl, HB.out⟩
end Go.Proofs.Ytbmjjmpdlmbehaa
