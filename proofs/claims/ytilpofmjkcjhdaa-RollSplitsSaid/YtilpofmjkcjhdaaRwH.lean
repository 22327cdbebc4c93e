/- Which potentials are right, of the program. Bounds of the program. Bounds of the reference. RollBounds returns true, whatever the band, the articles and the numbers. -/
import Derived.Test.YtilpofmjkcjhdaaRwG
namespace Go.Proofs.Ytilpofmjkcjhdaa
open Go.RowKit

def Ro.prv (ps : List Int) (i : Nat) : Int := if i = 0 then 0 else ps.getD (i - 1) 0
def Ro.stp1 (ps : List Int) (i : Nat) : Bool := decide (Ro.prv ps i ≤ ps.getD i 0) && decide (ps.getD i 0 ≤ 1099511627776)
theorem Ro.right_len {N : Nat} {ps : List Int} (h : ps.length ≠ N + 1) : Ro.right N ps = false := by
  apply Bool.eq_false_iff.2; intro hc; exact h (Ro.right_iff.1 hc).1
theorem Ro.right_nz {N : Nat} {ps : List Int} (h : ps.getD 0 0 ≠ 0) : Ro.right N ps = false := by
  apply Bool.eq_false_iff.2; intro hc; exact h (Ro.right_iff.1 hc).2.1
theorem Ro.right_miss {N : Nat} {ps : List Int} {i : Nat} (hi : i < ps.length) (h : Ro.stp1 ps i = false) : Ro.right N ps = false := by
  apply Bool.eq_false_iff.2; intro hc
  have h1 := (Ro.right_iff.1 hc).1
  have h2 := Ro.right_range hc i (by omega)
  have h3 : Ro.prv ps i ≤ ps.getD i 0 := by
    unfold Ro.prv
    by_cases e : i = 0
    · rw [if_pos e]; exact h2.1
    · rw [if_neg e]
      have := ((Ro.right_iff.1 hc).2.2 (i - 1) (by omega)).1
      rwa [show i - 1 + 1 = i by omega] at this
  unfold Ro.stp1 at h
  rw [decide_eq_true h3, decide_eq_true h2.2] at h
  cases h
theorem Ro.right_all {N : Nat} {ps : List Int} (hl : ps.length = N + 1) (h0 : ps.getD 0 0 = 0) (h : ∀ i, i < ps.length → Ro.stp1 ps i = true) : Ro.right N ps = true := by
  refine Ro.right_iff.2 ⟨hl, h0, fun i hi => ?_⟩
  have := h (i + 1) (by omega)
  simp only [Ro.stp1, Bool.and_eq_true, decide_eq_true_eq] at this
  have hp : Ro.prv ps (i + 1) = ps.getD i 0 := by unfold Ro.prv; rw [if_neg (by omega), show i + 1 - 1 = i by omega]
  exact ⟨by rw [← hp]; exact this.1, this.2⟩
theorem getD_get {ps : List Int} {i : Nat} (h : i < ps.length) : ps.getD i 0 = ps[i] := by simp [h]

set_option maxRecDepth 20000 in
set_option maxHeartbeats 2000000 in
theorem isRight_any (bv : Value) (N : Nat) (oa : Option Addr) (ol oc : Nat) (v : Value) (ps : List Int) (w : World) (hv : Ints w v ps) (hN : N ≤ 300) (hl : ps.length ≤ 1000000) :
    Calls Try.prog 62 #[tabV bv (N : Int) (.slice oa ol oc), v] w fun e w' => e = .returned (.bool (Ro.right N ps)) ∧ Below w.heap.size w w' := by
  obtain ⟨va, vc, rfl, hk⟩ := hv
  have HK := Lib.hid hk
  have hw := below_alloc2 (Below.refl w.heap.size w) (.cells (tabA bv (N : Int) (.slice oa ol oc)) TabT)
  have c1 : World.cell? (w.alloc (.cells (tabA bv (N : Int) (.slice oa ol oc)) TabT)) ⟨w.heap.size, 1, none⟩ = some (.int .i64 (N : Int)) := (BlockAt.new w (tabA bv (N : Int) (.slice oa ol oc)) TabT).cell 1
  have HB := Lib.hid hw
  have hwN : IntKind.i64.wrap ((N : Int) + 1) = (N : Int) + 1 := IntWalk.i64_in _ ⟨by omega, by omega⟩
  clear hk hw
  by_cases h1 : ps.length = N + 1
  case neg =>
    have HE := Lib.hid (Ro.right_len (ps := ps) h1)
    have q7 : ((ps.length : Int) == (N : Int) + 1) = false := beq_eq_false_iff_ne.2 (by omega)
    have q8 : ((ps.length : Int) != (N : Int) + 1) = true := by rw [bne, q7]; rfl
    generalize Ro.right N ps = r at *
    clear h1
    go_enter Try.func62, Try.ntmps62
    go_wp2
    go_ret
    exact ⟨by rw [HE.out]; rfl, HB.out⟩
  have q7 : ((ps.length : Int) == (N : Int) + 1) = true := beq_iff_eq.2 (by omega)
  have q8 : ((ps.length : Int) != (N : Int) + 1) = false := by rw [bne, q7]; rfl
  have hpos : 0 < ps.length := by omega
  obtain ⟨b, off, rfl, hb, hx⟩ := HK.out 0 hpos
  have c0 := (HB.out.cell (p := ⟨b, off + 0, none⟩) hb).trans hx
  rw [Nat.add_zero] at c0
  have hg0 := getD_get hpos
  by_cases h2 : ps.getD 0 0 = 0
  case neg =>
    have HE := Lib.hid (Ro.right_nz (N := N) (ps := ps) h2)
    rw [hg0] at h2
    have z7 : (ps[0] == 0) = false := beq_eq_false_iff_ne.2 h2
    have z8 : (ps[0] != 0) = true := by rw [bne, z7]; rfl
    clear h1 h2 hg0 hx
    generalize Ro.right N ps = r at *
    generalize ps[0] = z at *
    go_enter Try.func62, Try.ntmps62
    go_wp2
    go_ret
    exact ⟨by rw [HE.out]; rfl, HB.out⟩
  have HMISS := Lib.hid (fun i hi h => Ro.right_miss (N := N) (ps := ps) (i := i) hi h)
  have HALL := Lib.hid (fun h => Ro.right_all (N := N) (ps := ps) h1 h2 h)
  rw [hg0] at h2
  rw [h2] at c0
  generalize Ro.right N ps = r at *
  have F := Lib.hid (fun lo n W => rollFrom_any lo 1099511627776 n W)
  clear h1 h2 hg0 hx
  go_enter Try.func62, Try.ntmps62
  go_wp2
  clear c0 c1 q7 q8 hwN
  go_loopw [5, 22] (fun s t wr => ∃ j : Nat, j ≤ ps.length ∧ t = .int .i64 j ∧ s = .int .i64 (Ro.prv ps j) ∧ Hid ((∀ i, i < j → Ro.stp1 ps i = true) ∧ Below w.heap.size w wr)) (fun _ t _ => ps.length - (intOf t).toNat)
  case atStart => exact ⟨0, Nat.zero_le _, rfl, rfl, Lib.hid ⟨fun i h => absurd h (Nat.not_lt_zero _), HB.out⟩⟩
  case round =>
    obtain ⟨j, hj, rfl, rfl, hg⟩ := hrel
    clear HB
    by_cases hlt : j < ps.length
    · obtain ⟨b2, off2, he2, hb2, hx2⟩ := HK.out j hlt
      simp only [Option.some.injEq, Addr.mk.injEq, and_true] at he2
      obtain ⟨rfl, rfl⟩ := he2
      have c0 := (hg.out.2.cell (p := ⟨b, off + j, none⟩) hb2).trans hx2
      have HJ := Lib.hid (HMISS.out j hlt)
      have HI : Hid (Ro.stp1 ps j = true → ∀ i, i < j + 1 → Ro.stp1 ps i = true) := Lib.hid fun h i hi => by
        by_cases e : i = j
        · subst e; exact h
        · exact hg.out.1 i (by omega)
      have HG := Lib.hid hg.out.2
      have C1 := Lib.hid (fun W => F.out (Ro.prv ps j) ps[j] W)
      have hst : (decide (Ro.prv ps j ≤ ps[j]) && decide (ps[j] ≤ 1099511627776)) = Ro.stp1 ps j := by unfold Ro.stp1; rw [getD_get hlt]
      rw [hst] at C1
      have hpn : Ro.prv ps (j + 1) = ps[j] := by unfold Ro.prv; rw [if_neg (by omega), show j + 1 - 1 = j by omega, getD_get hlt]
      have HPN := Lib.hid hpn
      clear hg hx2 hst hpn
      generalize Ro.stp1 ps j = o at *
      generalize Ro.prv ps j = pv at *
      generalize ps[j] = z at *
      go_wp2_with fail
      refine (C1.out _).mono ?_
      rintro e w1 ⟨rfl, rfl⟩
      clear C1 c0
      cases o
      · have HE := Lib.hid (HJ.out rfl)
        clear HJ HI
        go_wp2
        go_ret
        exact ⟨by rw [HE.out]; rfl, HG.out⟩
      · have HI2 := Lib.hid (HI.out rfl)
        clear HJ HI
        go_wp2
        go_roundw
        case rel => exact ⟨j + 1, by omega, by go_num, by rw [HPN.out], Lib.hid ⟨HI2.out, HG.out⟩⟩
        case measure => simp [intOf]; omega
    · obtain rfl : j = ps.length := by omega
      have HE := Lib.hid (HALL.out hg.out.1)
      have HW := Lib.hid hg.out.2
      clear hg
      go_wp2
      go_ret
      exact ⟨by rw [HE.out]; rfl, HW.out⟩
end Go.Proofs.Ytilpofmjkcjhdaa
namespace Go.Proofs.Ytilpofmjkcjhdaa
open Go.RowKit

def Ro.good (ps : List Int) (a : Ro.A) (z : Int) : Bool := decide (ps.getD z.toNat 0 + a.p ≤ ps.getD (z + a.l).toNat 0)
theorem Ro.good_rise {ms : List Bd.M} {ps : List Int} {a : Ro.A} {z : Int} (hl : 1 ≤ a.l) (h : Ro.fit ms a z = true) : Ro.rise ms ps a z.toNat = Ro.good ps a z := by
  have h0 := (Ro.fit_iff.1 h).1
  unfold Ro.rise Ro.good
  rw [show ((z.toNat : Nat) : Int) = z by omega, h, show (z + a.l).toNat = z.toNat + a.l.toNat by omega]
  rfl
theorem Ro.rise_all {ms : List Bd.M} {ps : List Int} {a : Ro.A} (hl : 1 ≤ a.l) (h : ∀ i (hi : i < (Ro.plc ms a ms.length).length), Ro.good ps a (Ro.plc ms a ms.length)[i] = true) : ∀ f, f < ms.length → Ro.rise ms ps a f = true := by
  intro f hf
  by_cases hfit : Ro.fit ms a f = true
  · have hm : (f : Int) ∈ Ro.plc ms a ms.length := Ro.plc_mem.2 ⟨by omega, by omega, hfit⟩
    obtain ⟨i, hi, he⟩ := List.mem_iff_getElem.1 hm
    have := h i hi
    rw [he, ← Ro.good_rise hl hfit, Int.toNat_natCast] at this
    exact this
  · exact Ro.rise_iff.2 fun h => absurd h hfit
theorem Ro.steep_bad {ms : List Bd.M} {al : List Ro.A} {ps : List Int} {k : Nat} (hk : k < al.length) (hl : 1 ≤ al[k].l) {z : Int} (hz : z ∈ Ro.plc ms al[k] ms.length) (h : Ro.good ps al[k] z = false) : Ro.steep ms al ps = false := by
  apply Bool.eq_false_iff.2
  intro hc
  obtain ⟨h1, h2, h3⟩ := Ro.plc_mem.1 hz
  have := Ro.steep_iff.1 hc _ (List.getElem_mem hk) z.toNat (by omega)
  rw [Ro.good_rise hl h3, h] at this
  cases this
theorem Ro.steep_all {ms : List Bd.M} {al : List Ro.A} {ps : List Int} (h : ∀ k (hk : k < al.length), ∀ f, f < ms.length → Ro.rise ms ps al[k] f = true) : Ro.steep ms al ps = true :=
  Ro.steep_iff.2 fun a ha f hf => by
    obtain ⟨k, hk, rfl⟩ := List.mem_iff_getElem.1 ha
    exact h k hk f hf
def Ro.boE (rs : List Bd.R) (al : List Ro.A) (ps : List Int) : Int := if Ro.layE rs al = 0 then Ro.bndE (Bd.exp rs) al ps else Ro.layE rs al
def Ro.boV (rs : List Bd.R) (al : List Ro.A) (ps : List Int) : Int := if Ro.layE rs al = 0 then Ro.bndV (Bd.exp rs) al ps else 0
theorem Ro.bnd_wrong {ms : List Bd.M} {al : List Ro.A} {ps : List Int} (h : Ro.right ms.length ps = false) : Ro.bndE ms al ps = 1 ∧ Ro.bndV ms al ps = 0 := by
  have : Ro.bndE ms al ps = 1 := if_neg (by rw [h]; simp)
  exact ⟨this, if_neg (by rw [this]; omega)⟩
theorem Ro.bnd_flat {ms : List Bd.M} {al : List Ro.A} {ps : List Int} (h : Ro.right ms.length ps = true) (h2 : Ro.steep ms al ps = false) : Ro.bndE ms al ps = 9 ∧ Ro.bndV ms al ps = 0 := by
  have : Ro.bndE ms al ps = 9 := (if_pos h).trans (if_neg (by rw [h2]; simp))
  exact ⟨this, if_neg (by rw [this]; omega)⟩
theorem Ro.bnd_fine {ms : List Bd.M} {al : List Ro.A} {ps : List Int} (h : Ro.right ms.length ps = true) (h2 : Ro.steep ms al ps = true) : Ro.bndE ms al ps = 0 ∧ Ro.bndV ms al ps = ps.getD ms.length 0 := by
  have : Ro.bndE ms al ps = 0 := (if_pos h).trans (if_pos h2)
  exact ⟨this, if_pos this⟩
/-- What lies in memory while the pieces are gone through. -/
def BoS (w : World) (B : Nat) (bv : Value) (N : Int) (ov : Value) (rs : List Bd.R) (al : List Ro.A) (W : World) : Prop :=
  BlockAt W B (tabA bv N ov) TabT ∧ Offs W ov rs al ∧ Below w.heap.size w W
theorem BoS.below {w : World} {B : Nat} {bv : Value} {N : Int} {ov : Value} {rs : List Bd.R} {al : List Ro.A} {W W2 : World} (h : BoS w B bv N ov rs al W) (hb : Below W.heap.size W W2) : BoS w B bv N ov rs al W2 :=
  ⟨h.1.below hb h.1.lt, h.2.1.all hb, below_step h.2.2 hb⟩
theorem BoS.alloc {w : World} {B : Nat} {bv : Value} {N : Int} {ov : Value} {rs : List Bd.R} {al : List Ro.A} {W : World} (h : BoS w B bv N ov rs al W) (o : Obj) : BoS w B bv N ov rs al (W.alloc o) := h.below ((Below.refl _ _).alloc (Nat.le_refl _) o)

set_option maxRecDepth 20000 in
set_option maxHeartbeats 4000000 in
theorem numBound_any (v u x : Value) (rs : List Bd.R) (al : List Ro.A) (ps : List Int) (w : World) (hv : Runs w v rs) (hu : Arts w u al) (hx : Ints w x ps) (hl : rs.length ≤ 1000) (hal : al.length ≤ 1000) (hpl : ps.length ≤ 1000000) :
    Calls Try.prog 32 #[v, u, x] w fun e w' => e = .returned (.tuple #[.int .i64 (Ro.boV rs al ps), .int .i64 (Ro.boE rs al ps)]) ∧ Below w.heap.size w w' := by
  by_cases hz : Ro.layE rs al = 0
  case neg =>
    have LY := Lib.hid (lay_bad v u rs al _ hv hu hl hal hz)
    have hE : Ro.boE rs al ps = Ro.layE rs al := if_neg hz
    have hV : Ro.boV rs al ps = 0 := if_neg hz
    rw [hE, hV]
    obtain ⟨va, vc, rfl⟩ := hv.form
    obtain ⟨ua, uc, rfl, _⟩ := hu
    obtain ⟨xa, xc, rfl, _⟩ := hx
    generalize Ro.layE rs al = q at *
    have hd : (q == 0) = false := beq_eq_false_iff_ne.2 hz
    have hd2 : (q != 0) = true := by rw [bne, hd]; rfl
    clear hv hz hE hV
    go_enter Try.func32, Try.ntmps32
    go_wp2_with fail
    refine LY.out.mono ?_
    rintro e w1 ⟨rfl, hb1⟩
    have HB := Lib.hid (below_alloc2 hb1 (.cells (tabA (.slice none 0 0) 0 (.slice none 0 0)) TabT))
    clear hb1 LY
    go_wp2
    go_ret2
    exact ⟨rfl, HB.out⟩
  obtain ⟨h1, h2, h3, h4, h5, h6⟩ := Ro.lay_facts hz
  have LY := Lib.hid (lay_good v u rs al _ hv hu hl hal hz)
  have IR := Lib.hid (fun (bv : Value) (oa : Option Addr) (ol oc : Nat) W (hW : Below w.heap.size w W) => isRight_any bv (Bd.exp rs).length oa ol oc x ps W (hx.all hW) h4 hpl)
  have hE : Ro.boE rs al ps = Ro.bndE (Bd.exp rs) al ps := if_pos hz
  have hV : Ro.boV rs al ps = Ro.bndV (Bd.exp rs) al ps := if_pos hz
  rw [hE, hV]
  cases hright : Ro.right (Bd.exp rs).length ps
  case false =>
    obtain ⟨e1, e2⟩ := Ro.bnd_wrong (al := al) hright
    rw [e1, e2]
    rw [hright] at IR
    obtain ⟨va, vc, rfl⟩ := hv.form
    obtain ⟨ua, uc, rfl, _⟩ := hu
    obtain ⟨xa, xc, rfl, _⟩ := hx
    clear hv hz h1 h2 h3 h6 hE hV e1 e2 hright
    generalize (Bd.exp rs).length = N at *
    obtain ⟨vl, hvl⟩ : ∃ y, y = rs.length := ⟨_, rfl⟩
    rw [← hvl] at LY ⊢
    clear hvl hl
    go_enter Try.func32, Try.ntmps32
    go_wp2_with fail
    refine LY.out.mono ?_
    rintro e w1 ⟨oa, oc, rfl, ho, hb1⟩
    have HB := Lib.hid (below_alloc2 hb1 (.cells (tabA (.slice va vl vc) (N : Int) (.slice oa al.length oc)) TabT))
    clear ho hb1 LY
    go_wp2_with fail
    refine (IR.out _ _ _ _ _ HB.out).mono ?_
    rintro e w2 ⟨rfl, hb2⟩
    have HW := Lib.hid (below_step HB.out hb2)
    clear hb2 HB IR
    go_wp2
    go_ret2
    exact ⟨rfl, HW.out⟩
  case true =>
    rw [hright] at IR
    have HRG := Lib.hid (fun i h => Ro.right_range hright i h)
    have HPLN := Lib.hid (Ro.right_iff.1 hright).1
    have HBAD := Lib.hid (fun h => Ro.bnd_flat (al := al) hright h)
    have HFINE := Lib.hid (fun h => Ro.bnd_fine (al := al) hright h)
    have HSB : Hid (∀ k (hk : k < al.length), 1 ≤ al[k].l → ∀ z, z ∈ Ro.plc (Bd.exp rs) al[k] (Bd.exp rs).length → Ro.good ps al[k] z = false → Ro.steep (Bd.exp rs) al ps = false) := Lib.hid fun k hk hl1 z hz hh => Ro.steep_bad hk hl1 hz hh
    have HSA := Lib.hid (fun h => Ro.steep_all (ms := Bd.exp rs) (al := al) (ps := ps) h)
    have HRA : Hid (∀ k (hk : k < al.length), 1 ≤ al[k].l → (∀ i (hi : i < (Ro.plc (Bd.exp rs) al[k] (Bd.exp rs).length).length), Ro.good ps al[k] (Ro.plc (Bd.exp rs) al[k] (Bd.exp rs).length)[i] = true) → ∀ f, f < (Bd.exp rs).length → Ro.rise (Bd.exp rs) ps al[k] f = true) := Lib.hid fun k hk hl1 hh => Ro.rise_all hl1 hh
    have HL := Lib.hid (fun (k : Nat) (hk : k < al.length) => Ro.okA_iff.1 (h6 _ (List.getElem_mem hk)))
    have HPL := Lib.hid (fun (k : Nat) (hk : k < al.length) => Ro.plS_plc h2 (HL.out k hk).1.1)
    have HPN := Lib.hid (fun (k : Nat) (hk : k < al.length) => Ro.plc_len (Bd.exp rs) al[k] (Bd.exp rs).length)
    have HMEM := Lib.hid (fun (k : Nat) (hk : k < al.length) z (hz : z ∈ Ro.plc (Bd.exp rs) al[k] (Bd.exp rs).length) => Ro.fit_iff.1 (Ro.plc_mem.1 hz).2.2)
    have PL := Lib.hid (fun (k : Nat) (hk : k < al.length) (uo : Value) W (hsp : Spns W uo (spaA rs al[k])) => places_any al[k] (k : Int) uo (spaA rs al[k]) W (HL.out k hk).1 hsp (spaA_ok rs _) (spaA_len h2 _) (by
      have e := HPL.out k hk
      have := HPN.out k hk
      unfold spaA; rw [e]; omega))
    obtain ⟨va, vc, rfl⟩ := hv.form
    obtain ⟨ua, uc, rfl, _⟩ := hu
    obtain ⟨xa, xc, rfl, hkx⟩ := hx
    have HX := Lib.hid hkx
    clear hv hz h1 h2 h3 h6 hE hV hright hkx
    generalize hN' : (Bd.exp rs).length = N at *
    have HN' := Lib.hid hN'
    clear hN'
    generalize Ro.bndE (Bd.exp rs) al ps = E at *
    generalize Ro.bndV (Bd.exp rs) al ps = V at *
    obtain ⟨vl, hvl⟩ : ∃ y, y = rs.length := ⟨_, rfl⟩
    rw [← hvl] at LY ⊢
    clear hvl hl
    go_enter Try.func32, Try.ntmps32
    go_wp2_with fail
    refine LY.out.mono ?_
    rintro e w1 ⟨oa, oc, rfl, ho, hb1⟩
    have H1 : Hid (BoS w w1.heap.size (.slice va vl vc) (N : Int) (.slice oa al.length oc) rs al (w1.alloc (.cells (tabA (.slice va vl vc) (N : Int) (.slice oa al.length oc)) TabT))) :=
      Lib.hid ⟨BlockAt.new _ _ _, ho.all ((Below.refl _ _).alloc (Nat.le_refl _) _), below_alloc2 hb1 _⟩
    clear ho hb1 LY
    go_wp2_with fail
    refine (IR.out _ _ _ _ _ H1.out.2.2).mono ?_
    rintro e w2 ⟨rfl, hb2⟩
    have H2 := Lib.hid (H1.out.below hb2)
    clear hb2 H1 IR
    have t2 : World.cell? w2 ⟨w1.heap.size, 2, none⟩ = some (.slice oa al.length oc) := H2.out.1.cell 2
    have hlt1 := H2.out.1.lt
    go_wp2
    clear t2
    go_loopw [30] (fun t wr => ∃ k : Nat, k ≤ al.length ∧ t = .int .i64 k ∧ Hid ((∀ i (hi : i < al.length), i < k → ∀ f, f < N → Ro.rise (Bd.exp rs) ps al[i] f = true) ∧ BoS w w1.heap.size (.slice va vl vc) (N : Int) (.slice oa al.length oc) rs al wr)) (fun t _ => al.length - (intOf t).toNat)
    case atStart => exact ⟨0, Nat.zero_le _, rfl, Lib.hid ⟨fun i _ h => absurd h (Nat.not_lt_zero _), H2.out⟩⟩
    case round =>
      obtain ⟨k, hk, rfl, hg⟩ := hrel
      clear H2
      by_cases hlt : k < al.length
      · obtain ⟨oa2, oc2, heq, hoff⟩ := hg.out.2.2.1
        simp only [Value.slice.injEq, true_and] at heq
        obtain ⟨rfl, rfl⟩ := heq
        obtain ⟨bo, offo, uo, rfl, hbo, ⟨⟨d0, d1, d2, d3, d4, d5⟩, d6, d7⟩, hsp⟩ := hoff k hlt
        obtain ⟨⟨hl1, hl2⟩, hp1, hp2⟩ := HL.out k hlt
        have C := Lib.hid (fun W (hW : Below wr.heap.size wr W) => PL.out k hlt uo W (hsp.all hW))
        have hple : Ro.plS al[k].l (spaA rs al[k]) = Ro.plc (Bd.exp rs) al[k] N := HPL.out k hlt
        rw [hple] at C
        have HK1 := Lib.hid (HSB.out k hlt hl1)
        have HK2 := Lib.hid (HRA.out k hlt hl1)
        have HK3 := Lib.hid (HMEM.out k hlt)
        have hpn := HPN.out k hlt
        have HO := Lib.hid hg.out.1
        have HS := Lib.hid (hg.out.2.alloc (.cells (offA al[k] (k : Int) uo) OffT))
        have HBO := Lib.hid (BlockAt.new wr (offA al[k] (k : Int) uo) OffT)
        have HI : Hid ((∀ f, f < N → Ro.rise (Bd.exp rs) ps al[k] f = true) → ∀ i (hi : i < al.length), i < k + 1 → ∀ f, f < N → Ro.rise (Bd.exp rs) ps al[i] f = true) := Lib.hid fun h i hi hik => by
          by_cases e : i = k
          · subst e; exact h
          · exact hg.out.1 i hi (by omega)
        obtain ⟨sa, sc, hue, _⟩ := hsp
        subst hue
        obtain ⟨sl, hsl⟩ : ∃ sl, sl = (spaA rs al[k]).length := ⟨_, rfl⟩
        rw [← hsl] at C d7 HS HBO
        clear hsl hg hoff hple
        generalize al[k] = a at *
        generalize Ro.plc (Bd.exp rs) a N = ys at *
        go_wp2_with fail
        refine (C.out _ ((Below.refl _ _).alloc (Nat.le_refl _) _)).mono ?_
        rintro e w3 ⟨y, rfl, hy, hb3⟩
        have HY := Lib.hid hy.ints
        obtain ⟨ya, yc, hye, _⟩ := hy.ints
        subst hye
        have HS3 := Lib.hid (And.intro (HBO.out.below hb3 HBO.out.lt) (HS.out.below hb3))
        obtain ⟨B11, hB11⟩ : ∃ B11, B11 = wr.heap.size := ⟨_, rfl⟩
        rw [← hB11] at HS3 ⊢
        clear hy hb3 HS HBO C d0 d1 d2 d3 d4 d5 d6 d7 hB11
        go_wp2
        go_loopw [37] (fun t wr => ∃ i : Nat, i ≤ ys.length ∧ t = .int .i64 i ∧ Hid ((∀ q (hq : q < ys.length), q < i → Ro.good ps a ys[q] = true) ∧ Ints wr (.slice ya ys.length yc) ys ∧ BlockAt wr B11 (offA a (k : Int) (.slice sa sl sc)) OffT ∧ BoS w w1.heap.size (.slice va vl vc) (N : Int) (.slice (some ⟨bo, offo, none⟩) al.length oc) rs al wr)) (fun t _ => ys.length - (intOf t).toNat)
        case atStart => exact ⟨0, Nat.zero_le _, rfl, Lib.hid ⟨fun q _ h => absurd h (Nat.not_lt_zero _), HY.out, HS3.out⟩⟩
        case round =>
          obtain ⟨i, hi, rfl, hg⟩ := hrel
          clear HS3 HY
          by_cases hilt : i < ys.length
          · obtain ⟨ya2, yc2, hyeq, hyk⟩ := hg.out.2.1
            simp only [Value.slice.injEq, true_and] at hyeq
            obtain ⟨rfl, rfl⟩ := hyeq
            obtain ⟨yb, yo, rfl, hyb, hyc⟩ := hyk i hilt
            obtain ⟨hz0, hz1, _⟩ := HK3.out _ (List.getElem_mem hilt)
            have HBADI := Lib.hid (HK1.out ys[i] (List.getElem_mem hilt))
            have HGI : Hid (Ro.good ps a ys[i] = true → ∀ q (hq : q < ys.length), q < i + 1 → Ro.good ps a ys[q] = true) := Lib.hid fun h q hq hqi => by
              by_cases e : q = i
              · subst e; exact h
              · exact hg.out.1 q hq (by omega)
            have HG := Lib.hid hg.out.2
            clear hyk
            generalize hzz : ys[i] = z at *
            clear hzz
            obtain ⟨p, rfl⟩ : ∃ p : Nat, z = p := ⟨z.toNat, by omega⟩
            obtain ⟨q, hq⟩ : ∃ q : Nat, q = p + a.l.toNat := ⟨_, rfl⟩
            have hN2 := HN'.out
            have hplen := HPLN.out
            have hpq : p < ps.length ∧ q < ps.length := by omega
            obtain ⟨hpp, hqp⟩ := hpq
            have b1 := HRG.out p (by omega)
            have b2 := HRG.out q (by omega)
            rw [getD_get hpp] at b1
            rw [getD_get hqp] at b2
            have hgd : Ro.good ps a (p : Int) = decide (ps[p] + a.p ≤ ps[q]) := by
              unfold Ro.good
              rw [Int.toNat_natCast, show ((p : Int) + a.l).toNat = q by omega, getD_get hpp, getD_get hqp]
            obtain ⟨xb, xo, rfl, hxb, hx1⟩ := HX.out p hpp
            obtain ⟨xb2, xo2, he2, _, hx2⟩ := HX.out q hqp
            simp only [Option.some.injEq, Addr.mk.injEq, and_true] at he2
            obtain ⟨rfl, rfl⟩ := he2
            have c1 := (hg.out.2.2.2.2.2.cell (p := ⟨xb, xo + p, none⟩) hxb).trans hx1
            have c2 := (hg.out.2.2.2.2.2.cell (p := ⟨xb, xo + q, none⟩) hxb).trans hx2
            have hwq : IntKind.i64.wrap ((p : Int) + a.l) = (q : Int) := by rw [IntWalk.i64_in _ ⟨by omega, by omega⟩]; omega
            have r0 : World.cell? wr ⟨B11, 0, none⟩ = some (.int .i64 a.l) := hg.out.2.2.1.cell 0
            have r5 : World.cell? wr ⟨B11, 5, none⟩ = some (.int .i64 a.p) := hg.out.2.2.1.cell 5
            have hlt11 := hg.out.2.2.1.lt
            clear hg hx1 hx2 hq hN2 hz0 hz1 hplen
            generalize ps[p] = x at *
            generalize ps[q] = y at *
            have hwx : IntKind.i64.wrap (x + a.p) = x + a.p := IntWalk.i64_in _ ⟨by omega, by omega⟩
            by_cases hgood : x + a.p ≤ y
            · have hd : decide (y < x + a.p) = false := decide_eq_false (by omega)
              have HG2 := Lib.hid (HGI.out (by rw [hgd]; exact decide_eq_true hgood))
              clear HGI HBADI hgd b1 b2 hgood
              go_upto_region 12 with fail
              go_quiet (fail)
              clear c1 c2 r0 r5 hyc hwq hwx
              go_wp2
              go_roundw
              case rel => exact ⟨i + 1, by omega, by go_num, Lib.hid ⟨HG2.out, HG.out.1, HG.out.2.1, HG.out.2.2.1, HG.out.2.2.2.1, below_drewN HG.out.2.2.2.2 _⟩⟩
              case measure => simp [intOf]; omega
            · have hd : decide (y < x + a.p) = true := decide_eq_true (by omega)
              have HR := Lib.hid (HBAD.out (HBADI.out (by rw [hgd]; exact decide_eq_false hgood)))
              clear HGI HBADI hgd b1 b2 hgood
              go_upto_region 12 with fail
              go_quiet (fail)
              clear c1 c2 r0 r5 hyc hwq hwx
              go_wp2
              go_ret2
              exact ⟨by rw [HR.out.1, HR.out.2]; rfl, below_drewN HG.out.2.2.2.2 _⟩
          · obtain rfl : i = ys.length := by omega
            have HI2 := Lib.hid (HI.out (HK2.out fun q hq => hg.out.1 q hq hq))
            have HS4 := Lib.hid hg.out.2.2.2
            clear hg
            go_wp2
            go_roundw
            case rel => exact ⟨k + 1, by omega, by go_num, Lib.hid ⟨HI2.out, HS4.out⟩⟩
            case measure => simp [intOf]; omega
      · obtain rfl : k = al.length := by omega
        have HR := Lib.hid (HFINE.out (HSA.out fun i hi f hf => hg.out.1 i hi hi f (by have := HN'.out; omega)))
        have hN2 := HN'.out
        have hplen := HPLN.out
        have hNl : N < ps.length := by omega
        obtain ⟨xb, xo, rfl, hxb, hx1⟩ := HX.out N hNl
        have c1 := (hg.out.2.2.2.cell (p := ⟨xb, xo + N, none⟩) hxb).trans hx1
        have t1 : World.cell? wr ⟨w1.heap.size, 1, none⟩ = some (.int .i64 (N : Int)) := hg.out.2.1.cell 1
        have hltt := hg.out.2.1.lt
        have HV2 : Hid (V = ps[N]) := Lib.hid (by rw [HR.out.2, getD_get hNl])
        have HW := Lib.hid hg.out.2.2.2
        clear hg hx1 hN2 hplen
        generalize ps[N] = y at *
        go_wp2
        go_ret2
        exact ⟨by rw [HR.out.1, HV2.out]; rfl, HW.out⟩
end Go.Proofs.Ytilpofmjkcjhdaa
namespace Go.Proofs.Ytilpofmjkcjhdaa
open Go.RowKit

def BdS (b off : Nat) (a : Ro.A) (xb x1 x2 : Nat) (v1 v2 : Int) (W : World) : Prop := (ArtAt W b off a ∧ W.cell? ⟨xb, x1, none⟩ = some (.int .i64 v1) ∧ W.cell? ⟨xb, x2, none⟩ = some (.int .i64 v2)) ∧ b < W.heap.size ∧ xb < W.heap.size
theorem BdS.below {b off : Nat} {a : Ro.A} {xb x1 x2 : Nat} {v1 v2 : Int} {W W2 : World} (h : BdS b off a xb x1 x2 v1 v2 W) (hb : Below W.heap.size W W2) : BdS b off a xb x1 x2 v1 v2 W2 :=
  ⟨⟨h.1.1.below hb h.2.1, (hb.cell (p := ⟨xb, x1, none⟩) h.2.2).trans h.1.2.1, (hb.cell (p := ⟨xb, x2, none⟩) h.2.2).trans h.1.2.2⟩, Nat.lt_of_lt_of_le h.2.1 hb.size, Nat.lt_of_lt_of_le h.2.2 hb.size⟩
theorem Ro.stp1_zero {ps : List Int} (h : ps.getD 0 0 = 0) : Ro.stp1 ps 0 = true := by
  unfold Ro.stp1 Ro.prv
  rw [if_pos rfl, h]
  decide
theorem Ro.prv_succ {ps : List Int} {i : Nat} : Ro.prv ps (i + 1) = ps.getD i 0 := by unfold Ro.prv; rw [if_neg (by omega), show i + 1 - 1 = i by omega]
theorem Ro.rise_fit {ms : List Bd.M} {ps : List Int} {a : Ro.A} {f : Nat} (h : Ro.fit ms a f = true) : Ro.rise ms ps a f = decide (ps.getD f 0 + a.p ≤ ps.getD (f + a.l.toNat) 0) := by unfold Ro.rise; rw [h]; rfl
theorem Ro.rise_out {ms : List Bd.M} {ps : List Int} {a : Ro.A} {f : Nat} (h : Ro.fit ms a f = false) : Ro.rise ms ps a f = true := by unfold Ro.rise; rw [h]; rfl
theorem Ro.steep_miss {ms : List Bd.M} {al : List Ro.A} {ps : List Int} {k f : Nat} (hk : k < al.length) (hf : f < ms.length) (h : Ro.rise ms ps al[k] f = false) : Ro.steep ms al ps = false := by
  apply Bool.eq_false_iff.2
  intro hc
  have := Ro.steep_iff.1 hc _ (List.getElem_mem hk) f hf
  rw [h] at this; cases this

set_option maxRecDepth 20000 in
set_option maxHeartbeats 4000000 in
theorem refBound_any (v u x : Value) (rs : List Bd.R) (al : List Ro.A) (ps : List Int) (w : World) (hv : Runs w v rs) (hu : Arts w u al) (hx : Ints w x ps) (hl : rs.length ≤ 1000) (hal : al.length ≤ 1000) (hpl : ps.length ≤ 1000000) :
    Calls Try.prog 33 #[v, u, x] w fun e w' => e = .returned (.tuple #[.int .i64 (Ro.boV rs al ps), .int .i64 (Ro.boE rs al ps)]) ∧ Below w.heap.size w w' := by
  by_cases hz : Ro.layE rs al = 0
  case neg =>
    have LY := Lib.hid (marks_bad v u rs al _ hv hu hl hal hz)
    have hE : Ro.boE rs al ps = Ro.layE rs al := if_neg hz
    have hV : Ro.boV rs al ps = 0 := if_neg hz
    rw [hE, hV]
    obtain ⟨va, vc, rfl⟩ := hv.form
    obtain ⟨ua, uc, rfl, _⟩ := hu
    obtain ⟨xa, xc, rfl, _⟩ := hx
    generalize Ro.layE rs al = q at *
    have hd : (q == 0) = false := beq_eq_false_iff_ne.2 hz
    have hd2 : (q != 0) = true := by rw [bne, hd]; rfl
    clear hv hz hE hV
    go_enter Try.func33, Try.ntmps33
    go_wp2_with fail
    refine LY.out.mono ?_
    rintro e w1 ⟨rfl, hb1⟩
    have HB := Lib.hid hb1
    clear hb1 LY
    go_wp2
    go_ret2
    exact ⟨rfl, HB.out⟩
  obtain ⟨h1, h2, h3, h4, h5, h6⟩ := Ro.lay_facts hz
  have LY := Lib.hid (marks_ok v u rs al _ hv hu hl hal hz)
  have TF := Lib.hid (fun mv (f k : Nat) (hk : k < al.length) W (hW : Below w.heap.size w W) (hm : Mks W mv (Bd.exp rs)) => refFits_any mv u (Bd.exp rs) al ⟨(f : Int), (k : Int)⟩ W hm (hu.all hW) h6 h4 h5)
  have TFE := Lib.hid (fun (f k : Nat) (hk : k < al.length) => Ro.fitX_in (ms := Bd.exp rs) hk (f : Int))
  have HL := Lib.hid (fun (k : Nat) (hk : k < al.length) => Ro.okA_iff.1 (h6 _ (List.getElem_mem hk)))
  have hE : Ro.boE rs al ps = Ro.bndE (Bd.exp rs) al ps := if_pos hz
  have hV : Ro.boV rs al ps = Ro.bndV (Bd.exp rs) al ps := if_pos hz
  rw [hE, hV]
  have HWRONG := Lib.hid (fun h => Ro.bnd_wrong (ms := Bd.exp rs) (al := al) (ps := ps) h)
  have HFLAT := Lib.hid (fun h h' => Ro.bnd_flat (ms := Bd.exp rs) (al := al) (ps := ps) h h')
  have HFINE := Lib.hid (fun h h' => Ro.bnd_fine (ms := Bd.exp rs) (al := al) (ps := ps) h h')
  have HRLEN := Lib.hid (fun h => Ro.right_len (N := (Bd.exp rs).length) (ps := ps) h)
  have HRNZ := Lib.hid (fun h => Ro.right_nz (N := (Bd.exp rs).length) (ps := ps) h)
  have HRMISS := Lib.hid (fun i hi h => Ro.right_miss (N := (Bd.exp rs).length) (ps := ps) (i := i) hi h)
  have HRALL := Lib.hid (fun h h' h'' => Ro.right_all (N := (Bd.exp rs).length) (ps := ps) h h' h'')
  have HRG := Lib.hid (fun h i hi => Ro.right_range (n := (Bd.exp rs).length) (ps := ps) h i hi)
  have HSM : Hid (∀ (k f : Nat) (hk : k < al.length), f < (Bd.exp rs).length → Ro.rise (Bd.exp rs) ps al[k] f = false → Ro.steep (Bd.exp rs) al ps = false) := Lib.hid fun k f hk hf hh => Ro.steep_miss hk hf hh
  have HSA : Hid ((∀ k (hk : k < al.length), ∀ f, f < (Bd.exp rs).length → Ro.rise (Bd.exp rs) ps al[k] f = true) → Ro.steep (Bd.exp rs) al ps = true) := Lib.hid fun hh => Ro.steep_all hh
  have HFT : Hid (∀ (a : Ro.A) (f : Nat), Ro.fit (Bd.exp rs) a f = true → (f : Int) + a.l ≤ (Bd.exp rs).length) := Lib.hid fun a f hh => (Ro.fit_iff.1 hh).2.1
  obtain ⟨va, vc, rfl⟩ := hv.form
  obtain ⟨ua, uc, rfl, hka⟩ := hu
  obtain ⟨xa, xc, rfl, hkx⟩ := hx
  have HX := Lib.hid hkx
  have HA := Lib.hid hka
  clear hv hz h1 h2 h3 h6 hE hV hkx hka
  generalize Bd.exp rs = ms at *
  generalize Ro.bndE ms al ps = E at *
  generalize Ro.bndV ms al ps = V at *
  have hwN : IntKind.i64.wrap ((ms.length : Int) + 1) = (ms.length : Int) + 1 := IntWalk.i64_in _ ⟨by omega, by omega⟩
  by_cases hlen : ps.length = ms.length + 1
  case neg =>
    have q7 : ((ps.length : Int) == (ms.length : Int) + 1) = false := beq_eq_false_iff_ne.2 (by omega)
    have q8 : ((ps.length : Int) != (ms.length : Int) + 1) = true := by rw [bne, q7]; rfl
    have HR := Lib.hid (HWRONG.out (HRLEN.out hlen))
    clear hlen
    go_enter Try.func33, Try.ntmps33
    go_wp2_with fail
    refine LY.out.mono ?_
    rintro e w1 ⟨mv, rfl, ho, hb1⟩
    obtain ⟨ma, mc, hmv, _⟩ := ho.mks
    subst hmv
    have HB := Lib.hid hb1
    clear ho hb1 LY
    go_wp2
    go_ret2
    exact ⟨by rw [HR.out.1, HR.out.2]; rfl, HB.out⟩
  have q7 : ((ps.length : Int) == (ms.length : Int) + 1) = true := beq_iff_eq.2 (by omega)
  have q8 : ((ps.length : Int) != (ms.length : Int) + 1) = false := by rw [bne, q7]; rfl
  have hpos : 0 < ps.length := by omega
  have HLEN := Lib.hid hlen
  obtain ⟨xb, xo, rfl, hxb, hx0⟩ := HX.out 0 hpos
  rw [Nat.add_zero] at hx0
  have hg0 := getD_get hpos
  by_cases hz0 : ps.getD 0 0 = 0
  case neg =>
    have HR := Lib.hid (HWRONG.out (HRNZ.out hz0))
    rw [hg0] at hz0
    have z7 : (ps[0] == 0) = false := beq_eq_false_iff_ne.2 hz0
    have z8 : (ps[0] != 0) = true := by rw [bne, z7]; rfl
    clear hlen hz0 hg0
    have HX0 := Lib.hid hx0
    clear hx0
    generalize ps[0] = z at *
    go_enter Try.func33, Try.ntmps33
    go_wp2_with fail
    refine LY.out.mono ?_
    rintro e w1 ⟨mv, rfl, ho, hb1⟩
    obtain ⟨ma, mc, hmv, _⟩ := ho.mks
    subst hmv
    have HB := Lib.hid hb1
    have c0 := (hb1.cell (p := ⟨xb, xo, none⟩) hxb).trans HX0.out
    clear ho hb1 LY
    go_wp2
    go_ret2
    exact ⟨by rw [HR.out.1, HR.out.2]; rfl, HB.out⟩
  have HZ0 := Lib.hid hz0
  rw [hg0] at hz0
  rw [hz0] at hx0
  have HX0 := Lib.hid hx0
  clear hlen hz0 hg0 hx0
  go_enter Try.func33, Try.ntmps33
  go_wp2_with fail
  refine LY.out.mono ?_
  rintro e w1 ⟨mv, rfl, ho, hb1⟩
  obtain ⟨ma, mc, hmv, _⟩ := ho.mks
  subst hmv
  have HM := Lib.hid ho.mks
  have H1 := Lib.hid hb1
  have c0 := (hb1.cell (p := ⟨xb, xo, none⟩) hxb).trans HX0.out
  clear ho hb1 LY
  go_wp2
  clear c0 q7 q8 hwN
  go_loopw [10] (fun t wr => ∃ i : Nat, 1 ≤ i ∧ i ≤ ps.length ∧ t = .int .i64 i ∧ Hid ((∀ q, q < i → Ro.stp1 ps q = true) ∧ Mks wr (.slice ma ms.length mc) ms ∧ Below w.heap.size w wr)) (fun t _ => ps.length - (intOf t).toNat)
  case atStart => exact ⟨1, Nat.le_refl _, hpos, rfl, Lib.hid ⟨fun q h => by obtain rfl : q = 0 := by omega
                                                                             exact Ro.stp1_zero HZ0.out, HM.out, H1.out⟩⟩
  case round =>
    obtain ⟨i, hi1, hi2, rfl, hg⟩ := hrel
    clear HM H1
    by_cases hilt : i < ps.length
    · obtain ⟨j, rfl⟩ : ∃ j, i = j + 1 := ⟨i - 1, by omega⟩
      obtain ⟨I, hI⟩ : ∃ I, I = j + 1 := ⟨_, rfl⟩
      have hjl : j < ps.length := by omega
      obtain ⟨xb2, xo2, he2, _, hx2⟩ := HX.out (j + 1) hilt
      simp only [Option.some.injEq, Addr.mk.injEq, and_true] at he2
      obtain ⟨rfl, rfl⟩ := he2
      obtain ⟨xb3, xo3, he3, _, hx3⟩ := HX.out j hjl
      simp only [Option.some.injEq, Addr.mk.injEq, and_true] at he3
      obtain ⟨rfl, rfl⟩ := he3
      have c2 := (hg.out.2.2.cell (p := ⟨xb, xo + (j + 1), none⟩) hxb).trans hx2
      have c3 := (hg.out.2.2.cell (p := ⟨xb, xo + j, none⟩) hxb).trans hx3
      have hst : Ro.stp1 ps (j + 1) = (decide (ps[j] ≤ ps[j + 1]) && decide (ps[j + 1] ≤ 1099511627776)) := by
        unfold Ro.stp1; rw [Ro.prv_succ, getD_get hjl, getD_get hilt]
      have HJ := Lib.hid (HRMISS.out (j + 1) hilt)
      have HI : Hid (Ro.stp1 ps (j + 1) = true → ∀ q, q < j + 1 + 1 → Ro.stp1 ps q = true) := Lib.hid fun h q hq => by
        by_cases e : q = j + 1
        · subst e; exact h
        · exact hg.out.1 q (by omega)
      have HG := Lib.hid hg.out.2
      clear hg hx2 hx3
      generalize Ro.stp1 ps (j + 1) = o at *
      generalize hzz : ps[j + 1] = z at *
      clear hzz
      rw [← hI] at c2 hilt ⊢
      have hwI : IntKind.i64.wrap ((I : Int) - 1) = (j : Int) := by rw [IntWalk.i64_in _ ⟨by omega, by omega⟩]; omega
      rw [← hI] at HI hi1 hi2
      have HII := Lib.hid hI
      clear hI
      generalize ps[j] = y at *
      by_cases h1 : z < y
      · have hd1 : decide (z < y) = true := decide_eq_true h1
        have ho : o = false := by rw [hst, decide_eq_false (by omega)]; rfl
        have HR := Lib.hid (HWRONG.out (HJ.out ho))
        clear ho hst HI HJ h1
        go_upto_region 9 with fail
        go_quiet (fail)
        clear c2 c3
        go_wp2
        go_ret2
        exact ⟨by rw [HR.out.1, HR.out.2]; rfl, below_drewN HG.out.2 _⟩
      · have hd1 : decide (z < y) = false := decide_eq_false h1
        by_cases h2 : 1099511627776 < z
        · have hd2 : decide (1099511627776 < z) = true := decide_eq_true h2
          have ho : o = false := by rw [hst, decide_eq_true (show y ≤ z by omega), decide_eq_false (show ¬ z ≤ 1099511627776 by omega)]; rfl
          have HR := Lib.hid (HWRONG.out (HJ.out ho))
          clear ho hst HI HJ h1 h2
          go_upto_region 9 with fail
          go_quiet (fail)
          clear c2 c3
          go_wp2
          go_ret2
          exact ⟨by rw [HR.out.1, HR.out.2]; rfl, below_drewN HG.out.2 _⟩
        · have hd2 : decide (1099511627776 < z) = false := decide_eq_false h2
          have ho : o = true := by rw [hst, decide_eq_true (show y ≤ z by omega), decide_eq_true (show z ≤ 1099511627776 by omega)]; rfl
          have HI2 := Lib.hid (HI.out ho)
          clear ho hst HI HJ h1 h2
          go_upto_region 9 with fail
          go_quiet (fail)
          clear c2 c3 hwI
          go_wp2
          go_roundw
          case rel => exact ⟨I + 1, by omega, by omega, by go_num, Lib.hid ⟨HI2.out, HG.out.1, below_drewN HG.out.2 _⟩⟩
          case measure => simp [intOf]; omega
    · obtain rfl : i = ps.length := by omega
      have HRT := Lib.hid (HRALL.out HLEN.out HZ0.out hg.out.1)
      have HG := Lib.hid hg.out.2
      have HRG := Lib.hid (HRG.out HRT.out)
      clear hg hi1 hi2 hilt
      go_wp2
      go_loopw [11] (fun t wr => ∃ i : Nat, i ≤ ms.length ∧ t = .int .i64 i ∧ Hid ((∀ q, q < i → ∀ k (hk : k < al.length), Ro.rise ms ps al[k] q = true) ∧ Mks wr (.slice ma ms.length mc) ms ∧ Below w.heap.size w wr)) (fun t _ => ms.length - (intOf t).toNat)
      case atStart => exact ⟨0, Nat.zero_le _, rfl, Lib.hid ⟨fun q h => absurd h (Nat.not_lt_zero _), HG.out⟩⟩
      case round =>
        obtain ⟨i, hi2, rfl, hg⟩ := hrel
        clear HG
        by_cases hilt : i < ms.length
        · have HQ := Lib.hid hg.out.1
          have HG0 := Lib.hid hg.out.2
          clear hg
          go_wp2
          go_loopw [12] (fun t wr => ∃ k : Nat, k ≤ al.length ∧ t = .int .i64 k ∧ Hid ((∀ q (hq : q < al.length), q < k → Ro.rise ms ps al[q] i = true) ∧ Mks wr (.slice ma ms.length mc) ms ∧ Below w.heap.size w wr)) (fun t _ => al.length - (intOf t).toNat)
          case atStart => exact ⟨0, Nat.zero_le _, rfl, Lib.hid ⟨fun q _ h => absurd h (Nat.not_lt_zero _), HG0.out⟩⟩
          case round =>
            obtain ⟨k, hk2, rfl, hg⟩ := hrel
            clear HG0
            by_cases hklt : k < al.length
            · have C := Lib.hid (TF.out _ i k hklt wr.drew (below_drewN hg.out.2.2 1) (hg.out.2.1.all (below_drewN (Below.refl _ _) 1)))
              rw [TFE.out i k hklt] at C
              obtain ⟨⟨hl1, hl2⟩, hp1, hp2⟩ := HL.out k hklt
              have HBADK := Lib.hid (HSM.out k i hklt hilt)
              have HKI : Hid (Ro.rise ms ps al[k] i = true → ∀ q (hq : q < al.length), q < k + 1 → Ro.rise ms ps al[q] i = true) := Lib.hid fun h q hq hqk => by
                by_cases e : q = k
                · subst e; exact h
                · exact hg.out.1 q hq (by omega)
              have HG := Lib.hid hg.out.2
              obtain ⟨ab, ao, rfl, hab, har⟩ := HA.out k hklt
              have HAR := Lib.hid (har.below hg.out.2.2 hab)
              have hFT := HFT.out al[k] i
              have HRF := Lib.hid (Ro.rise_fit (ms := ms) (ps := ps) (a := al[k]) (f := i))
              have HRO := Lib.hid (Ro.rise_out (ms := ms) (ps := ps) (a := al[k]) (f := i))
              have hsz := hg.out.2.2.size
              clear hg har
              generalize Ro.rise ms ps al[k] i = R at *
              generalize Ro.fit ms al[k] i = r at *
              generalize al[k] = a at *
              cases r
              · have hR := HRO.out rfl
                have HK2 := Lib.hid (HKI.out hR)
                clear HKI HRF HRO hR HBADK hFT
                go_upto_region 17 with fail
                refine wp_region_seq [(0, true), (1, true), (2, true), (3, true), (4, true), (5, false), (6, true), (7, true), (8, true), (9, true), (10, true), (11, true), (12, true), (13, true), (14, true), (15, true), (16, true), (17, true), (18, true), (19, true), (20, true), (21, true), (22, true), (23, true), (24, true), (25, true), (26, true), (27, true), (28, true)] (fun _ => True)
                  (by kernel_rfl) (by kernel_rfl) (by kernel_rfl) (by kernel_rfl) (fun d _ _ _ _ h => by cases d <;> exact h) trivial (fun _ => ?_)
                repeat (first
                  | (refine SeqH.take (v := ?_) rfl (by rfl) ?_ ?_; rotate_left; (· intro w _; go_simp; (try with_reducible rfl)); simp only [Act.put, List.setIfInBounds_toArray, List.set_cons_zero, List.set_cons_succ])
                  | (refine SeqH.skip rfl (by rfl) ?_; simp only [Act.put, List.setIfInBounds_toArray, List.set_cons_zero, List.set_cons_succ]))
                refine SeqH.step rfl (by rfl) (fun K hK => ?_)
                go_simp
                go_at_call 53
                refine (C.out).mono ?_
                rintro e w3 ⟨rfl, hb3⟩
                try dsimp only
                refine hK.out _ _ trivial (fun _ => ?_)
                have HG3 := Lib.hid (And.intro ((HG.out.1.all (below_drewN (Below.refl _ _) 1)).all hb3) (below_step (below_drewN HG.out.2 1) hb3))
                clear hK K hb3 HG C HAR
                try simp only [Act.put, List.setIfInBounds_toArray, List.set_cons_zero, List.set_cons_succ]
                repeat (first
                  | (refine SeqH.take (v := ?_) rfl (by rfl) ?_ ?_; rotate_left; (· intro w _; go_simp; (try with_reducible rfl)); simp only [Act.put, List.setIfInBounds_toArray, List.set_cons_zero, List.set_cons_succ])
                  | (refine SeqH.skip rfl (by rfl) ?_; simp only [Act.put, List.setIfInBounds_toArray, List.set_cons_zero, List.set_cons_succ]))
                refine SeqH.done ?_
                go_wp2
                go_roundw
                case rel => exact ⟨k + 1, by omega, by go_num, Lib.hid ⟨HK2.out, HG3.out⟩⟩
                case measure => simp [intOf]; omega
              · have hfl := hFT rfl
                have hR := HRF.out rfl
                clear HRF HRO hFT
                obtain ⟨q, hq⟩ : ∃ q : Nat, q = i + a.l.toNat := ⟨_, rfl⟩
                have hlen := HLEN.out
                have hip : i < ps.length := by omega
                have hqp : q < ps.length := by omega
                have b1 := HRG.out i (by omega)
                have b2 := HRG.out q (by omega)
                rw [getD_get hip] at b1
                rw [getD_get hqp] at b2
                rw [← hq, getD_get hip, getD_get hqp] at hR
                obtain ⟨xb2, xo2, he2, _, hx2⟩ := HX.out i hip
                simp only [Option.some.injEq, Addr.mk.injEq, and_true] at he2
                obtain ⟨rfl, rfl⟩ := he2
                obtain ⟨xb3, xo3, he3, _, hx3⟩ := HX.out q hqp
                simp only [Option.some.injEq, Addr.mk.injEq, and_true] at he3
                obtain ⟨rfl, rfl⟩ := he3
                have hwq : IntKind.i64.wrap ((i : Int) + a.l) = (q : Int) := by rw [IntWalk.i64_in _ ⟨by omega, by omega⟩]; omega
                have hxbw : xb < wr.heap.size := by omega
                have habw : ab < wr.heap.size := by omega
                have HS0 : Hid (BdS ab (ao + k * 6) a xb (xo + i) (xo + q) ps[i] ps[q] wr.drew) := Lib.hid ⟨⟨HAR.out, (HG.out.2.cell (p := ⟨xb, xo + i, none⟩) hxb).trans hx2, (HG.out.2.cell (p := ⟨xb, xo + q, none⟩) hxb).trans hx3⟩, habw, hxbw⟩
                clear hx2 hx3 hq hlen HAR
                generalize ps[i] = y1 at *
                generalize ps[q] = y2 at *
                have hwx : IntKind.i64.wrap (y1 + a.p) = y1 + a.p := IntWalk.i64_in _ ⟨by omega, by omega⟩
                obtain ⟨dd, hdd⟩ : ∃ dd, decide (y2 < y1 + a.p) = dd := ⟨_, rfl⟩
                have hRd : R = !dd := by
                  rw [hR, ← hdd]
                  by_cases h : y2 < y1 + a.p
                  · rw [decide_eq_true h, decide_eq_false (by omega)]; rfl
                  · rw [decide_eq_false h, decide_eq_true (by omega)]; rfl
                have HRD := Lib.hid hRd
                clear hR hRd b1 b2 hfl
                go_upto_region 17 with fail
                refine wp_region_seq [(0, true), (1, true), (2, true), (3, true), (4, true), (5, false), (6, true), (7, true), (8, true), (9, true), (10, true), (11, true), (12, true), (13, true), (14, true), (15, true), (16, true), (17, true), (18, true), (19, true), (20, true), (21, true), (22, true), (23, true), (24, true), (25, true), (26, true), (27, true), (28, true)] (BdS ab (ao + k * 6) a xb (xo + i) (xo + q) y1 y2)
                  (by kernel_rfl) (by kernel_rfl) (by kernel_rfl) (by kernel_rfl) (fun d _ _ _ _ h => by cases d <;> exact h) HS0.out (fun _ => ?_)
                repeat (first
                  | (refine SeqH.take (v := ?_) rfl (by rfl) ?_ ?_; rotate_left; (· intro w hSw; (try dsimp only at hSw); obtain ⟨⟨⟨c0, c1, c2, c3, c4, c5⟩, d1, d2⟩, _, _⟩ := hSw; go_simp; (try with_reducible rfl)); simp only [Act.put, List.setIfInBounds_toArray, List.set_cons_zero, List.set_cons_succ]))
                refine SeqH.step rfl (by rfl) (fun K hK => ?_)
                go_simp
                go_at_call 53
                refine (C.out).mono ?_
                rintro e w3 ⟨rfl, hb3⟩
                try dsimp only
                refine hK.out _ _ (HS0.out.below hb3) (fun _ => ?_)
                have HG3 := Lib.hid (And.intro ((HG.out.1.all (below_drewN (Below.refl _ _) 1)).all hb3) (below_step (below_drewN HG.out.2 1) hb3))
                clear hK K hb3 HG C HS0
                try simp only [Act.put, List.setIfInBounds_toArray, List.set_cons_zero, List.set_cons_succ]
                repeat (first
                  | (refine SeqH.take (v := ?_) rfl (by rfl) ?_ ?_; rotate_left; (· intro w hSw; (try dsimp only at hSw); obtain ⟨⟨⟨c0, c1, c2, c3, c4, c5⟩, d1, d2⟩, _, _⟩ := hSw; go_simp; (try with_reducible rfl)); simp only [Act.put, List.setIfInBounds_toArray, List.set_cons_zero, List.set_cons_succ]))
                refine SeqH.done ?_
                cases dd
                · have HK2 := Lib.hid (HKI.out (by rw [HRD.out]; rfl))
                  clear HKI HRD HBADK hdd hwq hwx
                  go_wp2
                  go_roundw
                  case rel => exact ⟨k + 1, by omega, by go_num, Lib.hid ⟨HK2.out, HG3.out⟩⟩
                  case measure => simp [intOf]; omega
                · have HR := Lib.hid (HFLAT.out HRT.out (HBADK.out (by rw [HRD.out]; rfl)))
                  clear HKI HRD HBADK hdd hwq hwx
                  go_wp2
                  go_ret2
                  exact ⟨by rw [HR.out.1, HR.out.2]; rfl, HG3.out.2⟩
            · obtain rfl : k = al.length := by omega
              have HN : Hid ((∀ q, q < i + 1 → ∀ k (hk : k < al.length), Ro.rise ms ps al[k] q = true) ∧ Mks _ (.slice ma ms.length mc) ms ∧ Below w.heap.size w _) := Lib.hid ⟨fun q hq k hk => by
                by_cases e : q = i
                · subst e; exact hg.out.1 k hk hk
                · exact HQ.out q (by omega) k hk, hg.out.2⟩
              clear hg
              go_wp2
              go_roundw
              case rel => exact ⟨i + 1, by omega, by go_num, HN⟩
              case measure => simp [intOf]; omega
        · obtain rfl : i = ms.length := by omega
          have HR := Lib.hid (HFINE.out HRT.out (HSA.out fun k hk f hf => hg.out.1 f hf k hk))
          have hlen := HLEN.out
          have hNl : ms.length < ps.length := by omega
          obtain ⟨xb2, xo2, he2, _, hx2⟩ := HX.out ms.length hNl
          simp only [Option.some.injEq, Addr.mk.injEq, and_true] at he2
          obtain ⟨rfl, rfl⟩ := he2
          have c2 := (hg.out.2.2.cell (p := ⟨xb, xo + ms.length, none⟩) hxb).trans hx2
          have HV2 : Hid (V = ps[ms.length]) := Lib.hid (by rw [HR.out.2, getD_get hNl])
          have hwl : IntKind.i64.wrap ((ps.length : Int) - 1) = (ms.length : Int) := by rw [IntWalk.i64_in _ ⟨by omega, by omega⟩]; omega
          have HW := Lib.hid hg.out.2.2
          clear hg hx2 hlen
          generalize ps[ms.length] = y at *
          go_wp2
          go_ret2
          exact ⟨by rw [HR.out.1, HV2.out]; rfl, HW.out⟩
end Go.Proofs.Ytilpofmjkcjhdaa
namespace Go.Proofs.Ytilpofmjkcjhdaa
open Go.RowKit

set_option maxRecDepth 20000 in
set_option maxHeartbeats 4000000 in
theorem bounds_walk (v u x : Value) (rs : List Bd.R) (al : List Ro.A) (ps : List Int) (w : World) (hv : Runs w v rs) (hu : Arts w u al) (hx : Ints w x ps) :
    Calls Try.prog 7 #[v, u, x] w fun e w' => e = .returned (.bool true) ∧ Below w.heap.size w w' := by
  have LO := Lib.hid (rollLong_any v u (.slice none 0 0) rs al.length 0 _ hv (by obtain ⟨a, c, h, _⟩ := hu; exact ⟨a, c, h⟩) ⟨none, 0, rfl⟩)
  have KN := Lib.hid (fun W => rollKnown_any W)
  cases hL : (decide (100 < rs.length) || (decide (40 < al.length) || decide (400 < 0)))
  case true =>
    rw [hL] at LO
    obtain ⟨va, vc, rfl⟩ := hv.form
    obtain ⟨ua, uc, rfl, _⟩ := hu
    obtain ⟨xa, xc, rfl, _⟩ := hx
    clear hv hL
    go_enter Try.func7, Try.ntmps7
    go_wp2_with fail
    refine LO.out.mono ?_
    rintro e w1 ⟨rfl, hb1⟩
    have HB1 := Lib.hid hb1
    clear hb1 LO
    go_wp2_with fail
    refine (KN.out _).mono ?_
    rintro e w2 ⟨rfl, hb2⟩
    have HB2 := Lib.hid (below_step HB1.out hb2)
    clear hb2 HB1 KN
    go_wp2
    go_ret
    exact ⟨rfl, HB2.out⟩
  case false =>
    rw [hL] at LO
    simp only [Bool.or_eq_false_iff, decide_eq_false_iff_not] at hL
    by_cases hpl : 1000 < ps.length
    · have hd : decide ((1000 : Int) < ps.length) = true := decide_eq_true (by omega)
      have hd' : decide (1000 < ps.length) = true := decide_eq_true hpl
      obtain ⟨va, vc, rfl⟩ := hv.form
      obtain ⟨ua, uc, rfl, _⟩ := hu
      obtain ⟨xa, xc, rfl, _⟩ := hx
      clear hv hL hpl
      go_enter Try.func7, Try.ntmps7
      go_wp2_with fail
      refine LO.out.mono ?_
      rintro e w1 ⟨rfl, hb1⟩
      have HB1 := Lib.hid hb1
      clear hb1 LO
      go_wp2_with fail
      refine (KN.out _).mono ?_
      rintro e w2 ⟨rfl, hb2⟩
      have HB2 := Lib.hid (below_step HB1.out hb2)
      clear hb2 HB1 KN
      go_wp2
      go_ret
      exact ⟨rfl, HB2.out⟩
    have hd : decide ((1000 : Int) < ps.length) = false := decide_eq_false (by omega)
    have hd' : decide (1000 < ps.length) = false := decide_eq_false hpl
    have hl : rs.length ≤ 1000 := by omega
    have hal : al.length ≤ 1000 := by omega
    have NF := Lib.hid (fun W (hW : Below w.heap.size w W) => numBound_any v u x rs al ps W (hv.all hW) (hu.all hW) (hx.all hW) hl hal (by omega))
    have RF := Lib.hid (fun W (hW : Below w.heap.size w W) => refBound_any v u x rs al ps W (hv.all hW) (hu.all hW) (hx.all hW) hl hal (by omega))
    generalize Ro.boV rs al ps = r at *
    generalize Ro.boE rs al ps = q at *
    have e2 : (q == q) = true := beq_self_eq_true _
    have e3 : (r == r) = true := beq_self_eq_true _
    obtain ⟨va, vc, rfl⟩ := hv.form
    obtain ⟨ua, uc, rfl, _⟩ := hu
    obtain ⟨xa, xc, rfl, _⟩ := hx
    clear hv hL hl hal hpl
    go_enter Try.func7, Try.ntmps7
    go_wp2_with fail
    refine LO.out.mono ?_
    rintro e w1 ⟨rfl, hb1⟩
    have H1 := Lib.hid hb1
    clear hb1 LO
    go_wp2_with fail
    refine (NF.out _ H1.out).mono ?_
    rintro e w2 ⟨rfl, hb2⟩
    have H2 := Lib.hid (below_step H1.out hb2)
    clear hb2 H1 NF hd hd'
    go_wp2_with fail
    refine (RF.out _ H2.out).mono ?_
    rintro e w3 ⟨rfl, hb3⟩
    have H3 := Lib.hid (below_step H2.out hb3)
    clear hb3 H2 RF
    go_wp2_with fail
    refine (KN.out _).mono ?_
    rintro e w6 ⟨rfl, hb6⟩
    have H6 := Lib.hid (below_step H3.out hb6)
    clear hb6 H3 KN
    go_wp2
    go_ret
    exact ⟨rfl, H6.out⟩
end Go.Proofs.Ytilpofmjkcjhdaa
