/- Bounds of the program. Bounds of the reference. RollBounds returns true, whatever the band, the articles and the numbers. The greatest values of all beginnings: of the reference. -/
import Derived.Test.YtbmjjmpdlmbehaaRmV
namespace Go.Proofs.Ytbmjjmpdlmbehaa
open Go.RowKit

def Ro.good (ps : List Int) (a : Ro.A) (z : Int) : Bool := decide (ps.getD z.toNat 0 + a.p ≤ ps.getD (z + a.l).toNat 0)
theorem Ro.good_rise {ms : List Bd.M} {ps : List Int} {a : Ro.A} {z : Int} (hl : 1 ≤ a.l) (h : Ro.fit ms a z = true) : Ro.rise ms ps a z.toNat = Ro.good ps a z := by
  have h0 := (Ro.fit_iff.1 h).1
  unfold Ro.rise Ro.good
  rw [show ((z.toNat : Nat) : Int) = z by omega, h, show (z + a.l).toNat = z.toNat + a.l.toNat by omega]
  rfl
theorem Ro.rise_all {ms : List Bd.M} {ps : List Int} {a : Ro.A} (hl : 1 ≤ a.l) (h : ∀ i (hi : i < (Ro.plc ms a ms.length).length), Ro.good ps a (Ro.plc ms a ms.length)[i] = true) : ∀ f, f < ms.length → Ro.rise ms ps a f = true := by
  intro f hf
  by_cases hfit : Ro.fit ms a f = true
  · have hm : (f : Int) ∈ Ro.plc ms a ms.length := Ro.plc_mem.2 ⟨by omega, by omega, hfit⟩
    obtain ⟨i, hi, he⟩ := List.mem_iff_getElem.1 hm
    have := h i hi
    rw [he, ← Ro.good_rise hl hfit, Int.toNat_natCast] at this
    exact this
  · exact Ro.rise_iff.2 fun h => absurd h hfit
theorem Ro.steep_bad {ms : List Bd.M} {al : List Ro.A} {ps : List Int} {k : Nat} (hk : k < al.length) (hl : 1 ≤ al[k].l) {z : Int} (hz : z ∈ Ro.plc ms al[k] ms.length) (h : Ro.good ps al[k] z = false) : Ro.steep ms al ps = false := by
  apply Bool.eq_false_iff.2
  intro hc
  obtain ⟨h1, h2, h3⟩ := Ro.plc_mem.1 hz
  have := Ro.steep_iff.1 hc _ (List.getElem_mem hk) z.toNat (by omega)
  rw [Ro.good_rise hl h3, h] at this
  cases this
theorem Ro.steep_all {ms : List Bd.M} {al : List Ro.A} {ps : List Int} (h : ∀ k (hk : k < al.length), ∀ f, f < ms.length → Ro.rise ms ps al[k] f = true) : Ro.steep ms al ps = true :=
  Ro.steep_iff.2 fun a ha f hf => by
    obtain ⟨k, hk, rfl⟩ := List.mem_iff_getElem.1 ha
    exact h k hk f hf
def Ro.boE (rs : List Bd.R) (al : List Ro.A) (ps : List Int) : Int := if Ro.layE rs al = 0 then Ro.bndE (Bd.exp rs) al ps else Ro.layE rs al
def Ro.boV (rs : List Bd.R) (al : List Ro.A) (ps : List Int) : Int := if Ro.layE rs al = 0 then Ro.bndV (Bd.exp rs) al ps else 0
theorem Ro.bnd_wrong {ms : List Bd.M} {al : List Ro.A} {ps : List Int} (h : Ro.right ms.length ps = false) : Ro.bndE ms al ps = 1 ∧ Ro.bndV ms al ps = 0 := by
  have : Ro.bndE ms al ps = 1 := if_neg (by rw [h]; simp)
  exact ⟨this, if_neg (by rw [this]; omega)⟩
theorem Ro.bnd_flat {ms : List Bd.M} {al : List Ro.A} {ps : List Int} (h : Ro.right ms.length ps = true) (h2 : Ro.steep ms al ps = false) : Ro.bndE ms al ps = 9 ∧ Ro.bndV ms al ps = 0 := by
  have : Ro.bndE ms al ps = 9 := (if_pos h).trans (if_neg (by rw [h2]; simp))
  exact ⟨this, if_neg (by rw [this]; omega)⟩
theorem Ro.bnd_fine {ms : List Bd.M} {al : List Ro.A} {ps : List Int} (h : Ro.right ms.length ps = true) (h2 : Ro.steep ms al ps = true) : Ro.bndE ms al ps = 0 ∧ Ro.bndV ms al ps = ps.getD ms.length 0 := by
  have : Ro.bndE ms al ps = 0 := (if_pos h).trans (if_pos h2)
  exact ⟨this, if_pos this⟩
/-- What lies in memory while the pieces are gone through. -/
def BoS (w : World) (B : Nat) (bv : Value) (N : Int) (ov : Value) (rs : List Bd.R) (al : List Ro.A) (W : World) : Prop :=
  BlockAt W B (tabA bv N ov) TabT ∧ Offs W ov rs al ∧ Below w.heap.size w W
theorem BoS.below {w : World} {B : Nat} {bv : Value} {N : Int} {ov : Value} {rs : List Bd.R} {al : List Ro.A} {W W2 : World} (h : BoS w B bv N ov rs al W) (hb : Below W.heap.size W W2) : BoS w B bv N ov rs al W2 :=
  ⟨h.1.below hb h.1.lt, h.2.1.all hb, below_step h.2.2 hb⟩
theorem BoS.alloc {w : World} {B : Nat} {bv : Value} {N : Int} {ov : Value} {rs : List Bd.R} {al : List Ro.A} {W : World} (h : BoS w B bv N ov rs al W) (o : Obj) : BoS w B bv N ov rs al (W.alloc o) := h.below ((Below.refl _ _).alloc (Nat.le_refl _) o)

set_option maxRecDepth 20000 in
set_option maxHeartbeats 4000000 in
theorem numBound_any (v u x : Value) (rs : List Bd.R) (al : List Ro.A) (ps : List Int) (w : World) (hv : Runs w v rs) (hu : Arts w u al) (hx : Ints w x ps) (hl : rs.length ≤ 1000) (hal : al.length ≤ 1000) (hpl : ps.length ≤ 1000000) :
    Calls Try.prog 22 #[v, u, x] w fun e w' => e = .returned (.tuple #[.int .i64 (Ro.boV rs al ps), .int .i64 (Ro.boE rs al ps)]) ∧ Below w.heap.size w w' := by
  by_cases hz : Ro.layE rs al = 0
  case neg =>
    have LY := Lib.hid (lay_bad v u rs al _ hv hu hl hal hz)
    have hE : Ro.boE rs al ps = Ro.layE rs al := if_neg hz
    have hV : Ro.boV rs al ps = 0 := if_neg hz
    rw [hE, hV]
    obtain ⟨va, vc, rfl⟩ := hv.form
    obtain ⟨ua, uc, rfl, _⟩ := hu
    obtain ⟨xa, xc, rfl, _⟩ := hx
    generalize Ro.layE rs al = q at *
    have hd : (q == 0) = false := beq_eq_false_iff_ne.2 hz
    have hd2 : (q != 0) = true := by rw [bne, hd]; rfl
    clear hv hz hE hV
    go_enter Try.func22, Try.ntmps22
    go_wp2_with fail
    refine LY.out.mono ?_
    rintro e w1 ⟨rfl, hb1⟩
    have HB := Lib.hid (below_alloc2 hb1 (.cells (tabA (.slice none 0 0) 0 (.slice none 0 0)) TabT))
    clear hb1 LY
    go_wp2
    go_ret2
    exact ⟨rfl, HB.out⟩
  obtain ⟨h1, h2, h3, h4, h5, h6⟩ := Ro.lay_facts hz
  have LY := Lib.hid (lay_good v u rs al _ hv hu hl hal hz)
  have IR := Lib.hid (fun (bv : Value) (oa : Option Addr) (ol oc : Nat) W (hW : Below w.heap.size w W) => isRight_any bv (Bd.exp rs).length oa ol oc x ps W (hx.all hW) h4 hpl)
  have hE : Ro.boE rs al ps = Ro.bndE (Bd.exp rs) al ps := if_pos hz
  have hV : Ro.boV rs al ps = Ro.bndV (Bd.exp rs) al ps := if_pos hz
  rw [hE, hV]
  cases hright : Ro.right (Bd.exp rs).length ps
  case false =>
    obtain ⟨e1, e2⟩ := Ro.bnd_wrong (al := al) hright
    rw [e1, e2]
    rw [hright] at IR
    obtain ⟨va, vc, rfl⟩ := hv.form
    obtain ⟨ua, uc, rfl, _⟩ := hu
    obtain ⟨xa, xc, rfl, _⟩ := hx
    clear hv hz h1 h2 h3 h6 hE hV e1 e2 hright
    generalize (Bd.exp rs).length = N at *
    obtain ⟨vl, hvl⟩ : ∃ y, y = rs.length := ⟨_, rfl⟩
    rw [← hvl] at LY ⊢
    clear hvl hl
    go_enter Try.func22, Try.ntmps22
    go_wp2_with fail
    refine LY.out.mono ?_
    rintro e w1 ⟨oa, oc, rfl, ho, hb1⟩
    have HB := Lib.hid (below_alloc2 hb1 (.cells (tabA (.slice va vl vc) (N : Int) (.slice oa al.length oc)) TabT))
    clear ho hb1 LY
    go_wp2_with fail
    refine (IR.out _ _ _ _ _ HB.out).mono ?_
    rintro e w2 ⟨rfl, hb2⟩
    have HW := Lib.hid (below_step HB.out hb2)
    clear hb2 HB IR
    go_wp2
    go_ret2
    exact ⟨rfl, HW.out⟩
  case true =>
    rw [hright] at IR
    have HRG := Lib.hid (fun i h => Ro.right_range hright i h)
    have HPLN := Lib.hid (Ro.right_iff.1 hright).1
    have HBAD := Lib.hid (fun h => Ro.bnd_flat (al := al) hright h)
    have HFINE := Lib.hid (fun h => Ro.bnd_fine (al := al) hright h)
    have HSB : Hid (∀ k (hk : k < al.length), 1 ≤ al[k].l → ∀ z, z ∈ Ro.plc (Bd.exp rs) al[k] (Bd.exp rs).length → Ro.good ps al[k] z = false → Ro.steep (Bd.exp rs) al ps = false) := Lib.hid fun k hk hl1 z hz hh => Ro.steep_bad hk hl1 hz hh
    have HSA := Lib.hid (fun h => Ro.steep_all (ms := Bd.exp rs) (al := al) (ps := ps) h)
    have HRA : Hid (∀ k (hk : k < al.length), 1 ≤ al[k].l → (∀ i (hi : i < (Ro.plc (Bd.exp rs) al[k] (Bd.exp rs).length).length), Ro.good ps al[k] (Ro.plc (Bd.exp rs) al[k] (Bd.exp rs).length)[i] = true) → ∀ f, f < (Bd.exp rs).length → Ro.rise (Bd.exp rs) ps al[k] f = true) := Lib.hid fun k hk hl1 hh => Ro.rise_all hl1 hh
    have HL := Lib.hid (fun (k : Nat) (hk : k < al.length) => Ro.okA_iff.1 (h6 _ (List.getElem_mem hk)))
    have HPL := Lib.hid (fun (k : Nat) (hk : k < al.length) => Ro.plS_plc h2 (HL.out k hk).1.1)
    have HPN := Lib.hid (fun (k : Nat) (hk : k < al.length) => Ro.plc_len (Bd.exp rs) al[k] (Bd.exp rs).length)
    have HMEM := Lib.hid (fun (k : Nat) (hk : k < al.length) z (hz : z ∈ Ro.plc (Bd.exp rs) al[k] (Bd.exp rs).length) => Ro.fit_iff.1 (Ro.plc_mem.1 hz).2.2)
    have PL := Lib.hid (fun (k : Nat) (hk : k < al.length) (uo : Value) W (hsp : Spns W uo (spaA rs al[k])) => places_any al[k] (k : Int) uo (spaA rs al[k]) W (HL.out k hk).1 hsp (spaA_ok rs _) (spaA_len h2 _) (by
      have e := HPL.out k hk
      have := HPN.out k hk
      unfold spaA; rw [e]; omega))
    obtain ⟨va, vc, rfl⟩ := hv.form
    obtain ⟨ua, uc, rfl, _⟩ := hu
    obtain ⟨xa, xc, rfl, hkx⟩ := hx
    have HX := Lib.hid hkx
    clear hv hz h1 h2 h3 h6 hE hV hright hkx
    generalize hN' : (Bd.exp rs).length = N at *
    have HN' := Lib.hid hN'
    clear hN'
    generalize Ro.bndE (Bd.exp rs) al ps = E at *
    generalize Ro.bndV (Bd.exp rs) al ps = V at *
    obtain ⟨vl, hvl⟩ : ∃ y, y = rs.length := ⟨_, rfl⟩
    rw [← hvl] at LY ⊢
    clear hvl hl
    go_enter Try.func22, Try.ntmps22
    go_wp2_with fail
    refine LY.out.mono ?_
    rintro e w1 ⟨oa, oc, rfl, ho, hb1⟩
    have H1 : Hid (BoS w w1.heap.size (.slice va vl vc) (N : Int) (.slice oa al.length oc) rs al (w1.alloc (.cells (tabA (.slice va vl vc) (N : Int) (.slice oa al.length oc)) TabT))) :=
      Lib.hid ⟨BlockAt.new _ _ _, ho.all ((Below.refl _ _).alloc (Nat.le_refl _) _), below_alloc2 hb1 _⟩
    clear ho hb1 LY
    go_wp2_with fail
    refine (IR.out _ _ _ _ _ H1.out.2.2).mono ?_
    rintro e w2 ⟨rfl, hb2⟩
    have H2 := Lib.hid (H1.out.below hb2)
    clear hb2 H1 IR
    have t2 : World.cell? w2 ⟨w1.heap.size, 2, none⟩ = some (.slice oa al.length oc) := H2.out.1.cell 2
    have hlt1 := H2.out.1.lt
    go_wp2
    clear t2
    go_loopw [30] (fun t wr => ∃ k : Nat, k ≤ al.length ∧ t = .int .i64 k ∧ Hid ((∀ i (hi : i < al.length), i < k → ∀ f, f < N → Ro.rise (Bd.exp rs) ps al[i] f = true) ∧ BoS w w1.heap.size (.slice va vl vc) (N : Int) (.slice oa al.length oc) rs al wr)) (fun t _ => al.length - (intOf t).toNat)
    case atStart => exact ⟨0, Nat.zero_le _, rfl, Lib.hid ⟨fun i _ h => absurd h (Nat.not_lt_zero _), H2.out⟩⟩
    case round =>
      obtain ⟨k, hk, rfl, hg⟩ := hrel
      clear H2
      by_cases hlt : k < al.length
      · obtain ⟨oa2, oc2, heq, hoff⟩ := hg.out.2.2.1
        simp only [Value.slice.injEq, true_and] at heq
        obtain ⟨rfl, rfl⟩ := heq
        obtain ⟨bo, offo, uo, rfl, hbo, ⟨⟨d0, d1, d2, d3, d4, d5⟩, d6, d7⟩, hsp⟩ := hoff k hlt
        obtain ⟨⟨hl1, hl2⟩, hp1, hp2⟩ := HL.out k hlt
        have C := Lib.hid (fun W (hW : Below wr.heap.size wr W) => PL.out k hlt uo W (hsp.all hW))
        have hple : Ro.plS al[k].l (spaA rs al[k]) = Ro.plc (Bd.exp rs) al[k] N := HPL.out k hlt
        rw [hple] at C
        have HK1 := Lib.hid (HSB.out k hlt hl1)
        have HK2 := Lib.hid (HRA.out k hlt hl1)
        have HK3 := Lib.hid (HMEM.out k hlt)
        have hpn := HPN.out k hlt
        have HO := Lib.hid hg.out.1
        have HS := Lib.hid (hg.out.2.alloc (.cells (offA al[k] (k : Int) uo) OffT))
        have HBO := Lib.hid (BlockAt.new wr (offA al[k] (k : Int) uo) OffT)
        have HI : Hid ((∀ f, f < N → Ro.rise (Bd.exp rs) ps al[k] f = true) → ∀ i (hi : i < al.length), i < k + 1 → ∀ f, f < N → Ro.rise (Bd.exp rs) ps al[i] f = true) := Lib.hid fun h i hi hik => by
          by_cases e : i = k
          · subst e; exact h
          · exact hg.out.1 i hi (by omega)
        obtain ⟨sa, sc, hue, _⟩ := hsp
        subst hue
        obtain ⟨sl, hsl⟩ : ∃ sl, sl = (spaA rs al[k]).length := ⟨_, rfl⟩
        rw [← hsl] at C d7 HS HBO
        clear hsl hg hoff hple
        generalize al[k] = a at *
        generalize Ro.plc (Bd.exp rs) a N = ys at *
        go_wp2_with fail
        refine (C.out _ ((Below.refl _ _).alloc (Nat.le_refl _) _)).mono ?_
        rintro e w3 ⟨y, rfl, hy, hb3⟩
        have HY := Lib.hid hy.ints
        obtain ⟨ya, yc, hye, _⟩ := hy.ints
        subst hye
        have HS3 := Lib.hid (And.intro (HBO.out.below hb3 HBO.out.lt) (HS.out.below hb3))
        obtain ⟨B11, hB11⟩ : ∃ B11, B11 = wr.heap.size := ⟨_, rfl⟩
        rw [← hB11] at HS3 ⊢
        clear hy hb3 HS HBO C d0 d1 d2 d3 d4 d5 d6 d7 hB11
        go_wp2
        go_loopw [37] (fun t wr => ∃ i : Nat, i ≤ ys.length ∧ t = .int .i64 i ∧ Hid ((∀ q (hq : q < ys.length), q < i → Ro.good ps a ys[q] = true) ∧ Ints wr (.slice ya ys.length yc) ys ∧ BlockAt wr B11 (offA a (k : Int) (.slice sa sl sc)) OffT ∧ BoS w w1.heap.size (.slice va vl vc) (N : Int) (.slice (some ⟨bo, offo, none⟩) al.length oc) rs al wr)) (fun t _ => ys.length - (intOf t).toNat)
        case atStart => exact ⟨0, Nat.zero_le _, rfl, Lib.hid ⟨fun q _ h => absurd h (Nat.not_lt_zero _), HY.out, HS3.out⟩⟩
        case round =>
          obtain ⟨i, hi, rfl, hg⟩ := hrel
          clear HS3 HY
          by_cases hilt : i < ys.length
          · obtain ⟨ya2, yc2, hyeq, hyk⟩ := hg.out.2.1
            simp only [Value.slice.injEq, true_and] at hyeq
            obtain ⟨rfl, rfl⟩ := hyeq
            obtain ⟨yb, yo, rfl, hyb, hyc⟩ := hyk i hilt
            obtain ⟨hz0, hz1, _⟩ := HK3.out _ (List.getElem_mem hilt)
            have HBADI := Lib.hid (HK1.out ys[i] (List.getElem_mem hilt))
            have HGI : Hid (Ro.good ps a ys[i] = true → ∀ q (hq : q < ys.length), q < i + 1 → Ro.good ps a ys[q] = true) := Lib.hid fun h q hq hqi => by
              by_cases e : q = i
              · subst e; exact h
              · exact hg.out.1 q hq (by omega)
            have HG := Lib.hid hg.out.2
            clear hyk
            generalize hzz : ys[i] = z at *
            clear hzz
            obtain ⟨p, rfl⟩ : ∃ p : Nat, z = p := ⟨z.toNat, by omega⟩
            obtain ⟨q, hq⟩ : ∃ q : Nat, q = p + a.l.toNat := ⟨_, rfl⟩
            have hN2 := HN'.out
            have hplen := HPLN.out
            have hpq : p < ps.length ∧ q < ps.length := by omega
            obtain ⟨hpp, hqp⟩ := hpq
            have b1 := HRG.out p (by omega)
            have b2 := HRG.out q (by omega)
            rw [getD_get hpp] at b1
            rw [getD_get hqp] at b2
            have hgd : Ro.good ps a (p : Int) = decide (ps[p] + a.p ≤ ps[q]) := by
              unfold Ro.good
              rw [Int.toNat_natCast, show ((p : Int) + a.l).toNat = q by omega, getD_get hpp, getD_get hqp]
            obtain ⟨xb, xo, rfl, hxb, hx1⟩ := HX.out p hpp
            obtain ⟨xb2, xo2, he2, _, hx2⟩ := HX.out q hqp
            simp only [Option.some.injEq, Addr.mk.injEq, and_true] at he2
            obtain ⟨rfl, rfl⟩ := he2
            have c1 := (hg.out.2.2.2.2.2.cell (p := ⟨xb, xo + p, none⟩) hxb).trans hx1
            have c2 := (hg.out.2.2.2.2.2.cell (p := ⟨xb, xo + q, none⟩) hxb).trans hx2
            have hwq : IntKind.i64.wrap ((p : Int) + a.l) = (q : Int) := by rw [IntWalk.i64_in _ ⟨by omega, by omega⟩]; omega
            have r0 : World.cell? wr ⟨B11, 0, none⟩ = some (.int .i64 a.l) := hg.out.2.2.1.cell 0
            have r5 : World.cell? wr ⟨B11, 5, none⟩ = some (.int .i64 a.p) := hg.out.2.2.1.cell 5
            have hlt11 := hg.out.2.2.1.lt
            clear hg hx1 hx2 hq hN2 hz0 hz1 hplen
            generalize ps[p] = x at *
            generalize ps[q] = y at *
            have hwx : IntKind.i64.wrap (x + a.p) = x + a.p := IntWalk.i64_in _ ⟨by omega, by omega⟩
            by_cases hgood : x + a.p ≤ y
            · have hd : decide (y < x + a.p) = false := decide_eq_false (by omega)
              have HG2 := Lib.hid (HGI.out (by rw [hgd]; exact decide_eq_true hgood))
              clear HGI HBADI hgd b1 b2 hgood
              go_upto_region 12 with fail
              go_quiet (fail)
              clear c1 c2 r0 r5 hyc hwq hwx
              go_wp2
              go_roundw
              case rel => exact ⟨i + 1, by omega, by go_num, Lib.hid ⟨HG2.out, HG.out.1, HG.out.2.1, HG.out.2.2.1, HG.out.2.2.2.1, below_drewN HG.out.2.2.2.2 _⟩⟩
              case measure => simp [intOf]; omega
            · have hd : decide (y < x + a.p) = true := decide_eq_true (by omega)
              have HR := Lib.hid (HBAD.out (HBADI.out (by rw [hgd]; exact decide_eq_false hgood)))
              clear HGI HBADI hgd b1 b2 hgood
              go_upto_region 12 with fail
              go_quiet (fail)
              clear c1 c2 r0 r5 hyc hwq hwx
              go_wp2
              go_ret2
              exact ⟨by rw [HR.out.1, HR.out.2]; rfl, below_drewN HG.out.2.2.2.2 _⟩
          · obtain rfl : i = ys.length := by omega
            have HI2 := Lib.hid (HI.out (HK2.out fun q hq => hg.out.1 q hq hq))
            have HS4 := Lib.hid hg.out.2.2.2
            clear hg
            go_wp2
            go_roundw
            case rel => exact ⟨k + 1, by omega, by go_num, Lib.hid ⟨HI2.out, HS4.out⟩⟩
            case measure => simp [intOf]; omega
      · obtain rfl : k = al.length := by omega
        have HR := Lib.hid (HFINE.out (HSA.out fun i hi f hf => hg.out.1 i hi hi f (by have := HN'.out; omega)))
        have hN2 := HN'.out
        have hplen := HPLN.out
        have hNl : N < ps.length := by omega
        obtain ⟨xb, xo, rfl, hxb, hx1⟩ := HX.out N hNl
        have c1 := (hg.out.2.2.2.cell (p := ⟨xb, xo + N, none⟩) hxb).trans hx1
        have t1 : World.cell? wr ⟨w1.heap.size, 1, none⟩ = some (.int .i64 (N : Int)) := hg.out.2.1.cell 1
        have hltt := hg.out.2.1.lt
        have HV2 : Hid (V = ps[N]) := Lib.hid (by rw [HR.out.2, getD_get hNl])
        have HW := Lib.hid hg.out.2.2.2
        clear hg hx1 hN2 hplen
        generalize ps[N] = y at *
        go_wp2
        go_ret2
        exact ⟨by rw [HR.out.1, HV2.out]; rfl, HW.out⟩
end Go.Proofs.Ytbmjjmpdlmbehaa
namespace Go.Proofs.Ytbmjjmpdlmbehaa
open Go.RowKit

def BdS (b off : Nat) (a : Ro.A) (xb x1 x2 : Nat) (v1 v2 : Int) (W : World) : Prop := (ArtAt W b off a ∧ W.cell? ⟨xb, x1, none⟩ = some (.int .i64 v1) ∧ W.cell? ⟨xb, x2, none⟩ = some (.int .i64 v2)) ∧ b < W.heap.size ∧ xb < W.heap.size
theorem BdS.below {b off : Nat} {a : Ro.A} {xb x1 x2 : Nat} {v1 v2 : Int} {W W2 : World} (h : BdS b off a xb x1 x2 v1 v2 W) (hb : Below W.heap.size W W2) : BdS b off a xb x1 x2 v1 v2 W2 :=
  ⟨⟨h.1.1.below hb h.2.1, (hb.cell (p := ⟨xb, x1, none⟩) h.2.2).trans h.1.2.1, (hb.cell (p := ⟨xb, x2, none⟩) h.2.2).trans h.1.2.2⟩, Nat.lt_of_lt_of_le h.2.1 hb.size, Nat.lt_of_lt_of_le h.2.2 hb.size⟩
theorem Ro.stp1_zero {ps : List Int} (h : ps.getD 0 0 = 0) : Ro.stp1 ps 0 = true := by
  unfold Ro.stp1 Ro.prv
  rw [if_pos rfl, h]
  decide
theorem Ro.prv_succ {ps : List Int} {i : Nat} : Ro.prv ps (i + 1) = ps.getD i 0 := by unfold Ro.prv; rw [if_neg (by omega), show i + 1 - 1 = i by omega]
theorem Ro.rise_fit {ms : List Bd.M} {ps : List Int} {a : Ro.A} {f : Nat} (h : Ro.fit ms a f = true) : Ro.rise ms ps a f = decide (ps.getD f 0 + a.p ≤ ps.getD (f + a.l.toNat) 0) := by unfold Ro.rise; rw [h]; rfl
theorem Ro.rise_out {ms : List Bd.M} {ps : List Int} {a : Ro.A} {f : Nat} (h : Ro.fit ms a f = false) : Ro.rise ms ps a f = true := by unfold Ro.rise; rw [h]; rfl
theorem Ro.steep_miss {ms : List Bd.M} {al : List Ro.A} {ps : List Int} {k f : Nat} (hk : k < al.length) (hf : f < ms.length) (h : Ro.rise ms ps al[k] f = false) : Ro.steep ms al ps = false := by
  apply Bool.eq_false_iff.2
  intro hc
  have := Ro.steep_iff.1 hc _ (List.getElem_mem hk) f hf
  rw [h] at this; cases this

end Go.Proofs.Ytbmjjmpdlmbehaa
namespace Go.Proofs.Ytbmjjmpdlmbehaa
open Go.RowKit

end Go.Proofs.Ytbmjjmpdlmbehaa
namespace Go.Proofs.Ytbmjjmpdlmbehaa
open Go.RowKit

def Ro.wxs (ms : List Bd.M) (al : List Ro.A) (k : Nat) : List Int := (List.range (k + 1)).map (Ro.W ms al)
theorem Ro.wxs_len (ms : List Bd.M) (al : List Ro.A) (k : Nat) : (Ro.wxs ms al k).length = k + 1 := by simp [Ro.wxs]
theorem Ro.wxs_get {ms : List Bd.M} {al : List Ro.A} {k p : Nat} (h : p < (Ro.wxs ms al k).length) : (Ro.wxs ms al k)[p] = Ro.W ms al p := by simp [Ro.wxs]
theorem Ro.wxs_succ (ms : List Bd.M) (al : List Ro.A) (k : Nat) : Ro.wxs ms al (k + 1) = Ro.wxs ms al k ++ [Ro.W ms al (k + 1)] := by
  unfold Ro.wxs
  rw [List.range_succ (n := k + 1), List.map_append]
  rfl
theorem Ro.wxs_zero (ms : List Bd.M) (al : List Ro.A) : Ro.wxs ms al 0 = [0] := rfl
theorem Ro.mid_end (ms : List Bd.M) (al : List Ro.A) (k : Nat) : Ro.mid ms al k al.length = Ro.W ms al (k + 1) := by
  have := congrFun (Ro.mid_all ms al k) (k + 1)
  rw [Ro.upd_same] at this
  exact this
theorem Ro.mid_start (ms : List Bd.M) (al : List Ro.A) (k : Nat) : Ro.mid ms al k 0 = Ro.W ms al k := rfl
def WrS (b off : Nat) (a : Ro.A) (xb x1 : Nat) (v1 : Int) (W : World) : Prop := (ArtAt W b off a ∧ W.cell? ⟨xb, x1, none⟩ = some (.int .i64 v1)) ∧ b < W.heap.size ∧ xb < W.heap.size
theorem WrS.below {b off : Nat} {a : Ro.A} {xb x1 : Nat} {v1 : Int} {W W2 : World} (h : WrS b off a xb x1 v1 W) (hb : Below W.heap.size W W2) : WrS b off a xb x1 v1 W2 :=
  ⟨⟨h.1.1.below hb h.2.1, (hb.cell (p := ⟨xb, x1, none⟩) h.2.2).trans h.1.2⟩, Nat.lt_of_lt_of_le h.2.1 hb.size, Nat.lt_of_lt_of_le h.2.2 hb.size⟩

end Go.Proofs.Ytbmjjmpdlmbehaa
