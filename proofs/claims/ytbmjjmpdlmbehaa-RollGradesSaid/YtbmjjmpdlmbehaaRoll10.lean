/- Which cuttings are accepted: of the program and of the reference. -/
import Derived.Test.YtbmjjmpdlmbehaaRoll8
namespace Go.Proofs.Ytbmjjmpdlmbehaa
open Go.RowKit

/-- The error of a cutting, told piece by piece. -/
theorem Ro.chk_bad {ms : List Bd.M} {al : List Ro.A} {lo : Int} {x : Ro.X} {xs : List Ro.X} (h : Ro.fitX ms al x = false) : Ro.chk ms al lo (x :: xs) = 11 := by rw [Ro.chk, if_neg (by rw [h]; simp)]
theorem Ro.chk_early {ms : List Bd.M} {al : List Ro.A} {lo : Int} {x : Ro.X} {xs : List Ro.X} (h : Ro.fitX ms al x = true) (h2 : x.f < lo) : Ro.chk ms al lo (x :: xs) = 7 := by rw [Ro.chk, if_pos h, if_pos h2]
theorem Ro.chk_next {ms : List Bd.M} {al : List Ro.A} {lo : Int} {x : Ro.X} {xs : List Ro.X} (h : Ro.fitX ms al x = true) (h2 : ¬ x.f < lo) : Ro.chk ms al lo (x :: xs) = Ro.chk ms al (x.f + (Ro.art al x.a).l) xs := by rw [Ro.chk, if_pos h, if_neg h2]
theorem Ro.art_at {al : List Ro.A} {k : Nat} (hk : k < al.length) : Ro.art al (k : Int) = al[k] := by unfold Ro.art; simp [hk]
theorem Ro.fitX_split {ms : List Bd.M} {al : List Ro.A} {x : Ro.X} (h : Ro.fitX ms al x = true) : ∃ k : Nat, ∃ hk : k < al.length, x.a = k ∧ 0 ≤ x.f ∧ x.f + al[k].l ≤ ms.length := by
  obtain ⟨h1, h2, h3⟩ := Ro.fitX_iff.1 h
  refine ⟨x.a.toNat, by omega, by omega, ?_⟩
  obtain ⟨h4, h5, _⟩ := Ro.fit_iff.1 h3
  have e : Ro.art al x.a = al[x.a.toNat]'(by omega) := by
    have := Ro.art_at (al := al) (k := x.a.toNat) (by omega)
    rwa [show ((x.a.toNat : Nat) : Int) = x.a by omega] at this
  rw [e] at h5
  exact ⟨h4, h5⟩

set_option maxRecDepth 20000 in
set_option maxHeartbeats 2000000 in
theorem end_any (bv ov : Value) (n : Int) (rs : List Bd.R) (al : List Ro.A) (x : Ro.X) (k : Nat) (hk : k < al.length) (hx : x.a = k) (w : World) (ho : Offs w ov rs al) (h1 : 0 ≤ x.f) (h2 : x.f ≤ 300) (h3 : 1 ≤ al[k].l ∧ al[k].l ≤ 300) :
    Calls Try.prog 40 #[tabV bv n ov, pcV x] w fun e w' => e = .returned (.int .i64 (x.f + al[k].l)) ∧ Below w.heap.size w w' := by
  obtain ⟨oa, oc, rfl, hok2⟩ := ho
  obtain ⟨f, n2⟩ := x
  obtain rfl : n2 = k := hx
  obtain ⟨b, off, u, rfl, hb, hr, hsp⟩ := hok2 k hk
  have b0 := (BlockAt.new w (tabA bv n (.slice (some ⟨b, off, none⟩) al.length oc)) TabT).alloc (.cells #[.int .i64 f, .int .i64 k] PcT)
  have b1 := BlockAt.new (w.alloc (.cells (tabA bv n (.slice (some ⟨b, off, none⟩) al.length oc)) TabT)) #[.int .i64 f, .int .i64 k] PcT
  simp only [World.size_alloc] at b1
  have hw := below_alloc2 (below_alloc2 (Below.refl w.heap.size w) (.cells (tabA bv n (.slice (some ⟨b, off, none⟩) al.length oc)) TabT)) (.cells #[.int .i64 f, .int .i64 k] PcT)
  obtain ⟨⟨c0, _, _, _, _, _⟩, _, _⟩ := hr.below hw hb
  have t2 : World.cell? _ _ = some (.slice (some ⟨b, off, none⟩) al.length oc) := b0.cell 2
  have x0 : World.cell? _ _ = some (.int .i64 f) := b1.cell 0
  have x1 : World.cell? _ _ = some (.int .i64 (k : Int)) := b1.cell 1
  have HB := Lib.hid hw
  dsimp only at h1 h2
  have hwr : IntKind.i64.wrap (f + al[k].l) = f + al[k].l := IntWalk.i64_in _ ⟨by omega, by omega⟩
  clear b0 b1 hw hok2 hr hsp
  generalize al[k] = a at *
  go_enter Try.func40, Try.ntmps40
  go_wp2_with fail
  go_quiet (fail)
  go_wp2
  go_ret
  exact ⟨rfl, below_drewN HB.out _⟩

set_option maxRecDepth 20000 in
set_option maxHeartbeats 4000000 in
theorem tcheck_any (bv ov : Value) (n : Int) (rs : List Bd.R) (al : List Ro.A) (v : Value) (xs : List Ro.X) (w : World) (ho : Offs w ov rs al) (hf : Bd.fine rs) (hok : Ro.okAs al) (hal : al.length ≤ 5) (hN : (Bd.exp rs).length ≤ 300) (hv : Pcs w v xs) (hxl : xs.length ≤ 1000) :
    Calls Try.prog 61 #[tabV bv n ov, v] w fun e w' => e = .returned (.int .i64 (Ro.chk (Bd.exp rs) al 0 xs)) ∧ Below w.heap.size w w' := by
  have TF := Lib.hid (fun x W (hW : Below w.heap.size w W) => tfits_any bv ov n rs al x W (ho.all hW) hf hok hal)
  have TE := Lib.hid (fun x k (hk : k < al.length) (hx : x.a = (k : Int)) W (hW : Below w.heap.size w W) h1 h2 h3 => end_any bv ov n rs al x k hk hx W (ho.all hW) h1 h2 h3)
  have HL := Lib.hid (fun (k : Nat) (hk : k < al.length) => (Ro.okA_iff.1 (hok _ (List.getElem_mem hk))).1)
  obtain ⟨oa, oc, rfl, _⟩ := ho
  obtain ⟨va, vc, rfl, hk⟩ := hv
  have HK := Lib.hid hk
  clear hk hf hok
  generalize Bd.exp rs = ms at *
  have HS : Hid (∀ x, Ro.fitX ms al x = true → ∃ k : Nat, ∃ hk : k < al.length, x.a = k ∧ 0 ≤ x.f ∧ x.f + al[k].l ≤ 300) := Lib.hid fun x h => by
    obtain ⟨k, hk, h1, h2, h3⟩ := Ro.fitX_split h
    exact ⟨k, hk, h1, h2, by omega⟩
  have HB : Hid (BlockAt (w.alloc (.cells (tabA bv n (.slice oa al.length oc)) TabT)) w.heap.size (tabA bv n (.slice oa al.length oc)) TabT ∧ Below w.heap.size w (w.alloc (.cells (tabA bv n (.slice oa al.length oc)) TabT))) := Lib.hid ⟨BlockAt.new _ _ _, below_alloc2 (Below.refl _ _) _⟩
  clear hN
  go_enter Try.func61, Try.ntmps61
  go_wp2
  go_loopw [5, 10] (fun s t wr => ∃ (j : Nat) (lo : Int), j ≤ xs.length ∧ t = .int .i64 j ∧ s = .int .i64 lo ∧ Hid (Ro.chk ms al lo (xs.drop j) = Ro.chk ms al 0 xs ∧ BlockAt wr w.heap.size (tabA bv n (.slice oa al.length oc)) TabT ∧ Below w.heap.size w wr)) (fun _ t _ => xs.length - (intOf t).toNat)
  case atStart => exact ⟨0, 0, Nat.zero_le _, rfl, rfl, Lib.hid ⟨by rw [List.drop_zero], HB.out⟩⟩
  case round =>
    obtain ⟨j, lo, hj, rfl, rfl, hg⟩ := hrel
    clear HB
    by_cases hlt : j < xs.length
    · obtain ⟨b, off, rfl, hb, hr⟩ := HK.out j hlt
      obtain ⟨c0, c1⟩ := hr.below hg.out.2.2 hb
      have hd := hg.out.1
      rw [List.drop_eq_getElem_cons hlt] at hd
      have HD := Lib.hid hd
      have t0 : World.cell? wr ⟨w.heap.size, 0, none⟩ = some bv := hg.out.2.1.cell 0
      have hlt0 := hg.out.2.1.lt
      have HG : Hid (BlockAt (wr.alloc (.cells #[.int .i64 xs[j].f, .int .i64 xs[j].a] PcT)) w.heap.size (tabA bv n (.slice oa al.length oc)) TabT ∧ BlockAt (wr.alloc (.cells #[.int .i64 xs[j].f, .int .i64 xs[j].a] PcT)) wr.heap.size #[.int .i64 xs[j].f, .int .i64 xs[j].a] PcT ∧ Below w.heap.size w (wr.alloc (.cells #[.int .i64 xs[j].f, .int .i64 xs[j].a] PcT))) := Lib.hid ⟨hg.out.2.1.alloc _, BlockAt.new _ _ _, below_alloc2 hg.out.2.2 _⟩
      have C1 := Lib.hid (TF.out xs[j] _ HG.out.2.2)
      have HFS := Lib.hid (HS.out xs[j])
      clear hg hd hr t0
      generalize hfx : Ro.fitX ms al xs[j] = r at *
      have HFX := Lib.hid hfx
      clear hfx
      generalize xs[j] = x at *
      obtain ⟨f, n2⟩ := x
      try dsimp only at *
      have t0 : World.cell? _ _ = some bv := HG.out.1.cell 0
      have t1 : World.cell? _ _ = some (.int .i64 n) := HG.out.1.cell 1
      have t2 : World.cell? _ _ = some (.slice oa al.length oc) := HG.out.1.cell 2
      go_wp2_with fail
      refine C1.out.mono ?_
      rintro e w1 ⟨rfl, hb1⟩
      have HG1 := Lib.hid (And.intro (HG.out.1.below hb1 HG.out.1.lt) (And.intro (HG.out.2.1.below hb1 HG.out.2.1.lt) (below_step HG.out.2.2 hb1)))
      clear hb1 HG C1 t0 t1 t2 c0 c1
      have x0 : World.cell? _ _ = some (.int .i64 f) := HG1.out.2.1.cell 0
      have x1 : World.cell? _ _ = some (.int .i64 n2) := HG1.out.2.1.cell 1
      have t0 : World.cell? _ _ = some bv := HG1.out.1.cell 0
      have t1 : World.cell? _ _ = some (.int .i64 n) := HG1.out.1.cell 1
      have t2 : World.cell? _ _ = some (.slice oa al.length oc) := HG1.out.1.cell 2
      cases r
      · have HE := Lib.hid (HD.out.symm.trans (Ro.chk_bad HFX.out))
        clear HD HFX HFS
        go_wp2
        go_ret
        exact ⟨by rw [HE.out]; rfl, HG1.out.2.2⟩
      · obtain ⟨k, hk, hxa, hf0, hf1⟩ := HFS.out rfl
        obtain rfl : n2 = k := hxa
        have hla := HL.out k hk
        by_cases hlo : f < lo
        · have hdl : decide (f < lo) = true := decide_eq_true hlo
          have HE := Lib.hid (HD.out.symm.trans (Ro.chk_early HFX.out hlo))
          clear HD HFX HFS hlo
          go_wp2
          go_ret
          exact ⟨by rw [HE.out]; rfl, HG1.out.2.2⟩
        · have hdl : decide (f < lo) = false := decide_eq_false hlo
          have HE := Lib.hid ((Ro.chk_next HFX.out hlo).symm.trans HD.out)
          have hat := Ro.art_at hk
          try dsimp only at hf0 hf1
          have C2 := Lib.hid (TE.out ⟨f, k⟩ k hk rfl _ HG1.out.2.2 hf0 (by dsimp only; omega) hla)
          clear HD HFX HFS hlo
          try dsimp only at HE
          rw [hat] at HE
          clear hat
          generalize al[k] = a at *
          go_wp2_with fail
          refine C2.out.mono ?_
          rintro e w2 ⟨rfl, hb2⟩
          have HG2 := Lib.hid (And.intro (HG1.out.1.below hb2 HG1.out.1.lt) (below_step HG1.out.2.2 hb2))
          clear hb2 C2 HG1 t0 t1 t2 x0 x1
          go_wp2
          go_roundw
          case rel => exact ⟨j + 1, f + a.l, by omega, by go_num, rfl, Lib.hid ⟨HE.out, HG2.out⟩⟩
          case measure => simp [intOf]; omega
    · obtain rfl : j = xs.length := by omega
      have hd := hg.out.1
      rw [List.drop_length] at hd
      have HE := Lib.hid hd.symm
      have HW := Lib.hid hg.out.2.2
      clear hg hd
      go_wp2
      go_ret
      exact ⟨by rw [HE.out]; rfl, HW.out⟩
end Go.Proofs.Ytbmjjmpdlmbehaa
