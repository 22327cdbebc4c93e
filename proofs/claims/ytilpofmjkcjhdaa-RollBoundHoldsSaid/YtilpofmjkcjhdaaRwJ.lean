/- RollBoundHolds returns true, whatever the band, the articles, the numbers and the cutting. How a list of numbers with a cutting among the arguments is opened. -/
import Derived.Test.YtilpofmjkcjhdaaRwI
import Derived.Test.YtilpofmjkcjhdaaRwF
import Derived.Test.YtilpofmjkcjhdaaRfA
import Derived.Lib.SmallJoins
namespace Go.Proofs.Ytilpofmjkcjhdaa
open Go.RowKit

theorem Ro.bound_holds {rs : List Bd.R} {al : List Ro.A} {ps : List Int} {xs : List Ro.X} (h1 : Ro.boE rs al ps = 0) (h2 : Ro.chkE rs al xs = 0) : Ro.valV rs al xs ≤ Ro.boV rs al ps := by
  obtain ⟨hz, hc⟩ := Ro.chkE_zero h2
  obtain ⟨_, _, _, _, _, h6⟩ := Ro.lay_facts hz
  unfold Ro.boE at h1
  rw [if_pos hz] at h1
  have := Ro.bnd_holds h6 h1 hc
  unfold Ro.valV Ro.boV
  rw [if_pos h2, if_pos hz]
  exact this
abbrev BndT : TypeId := 49

set_option maxRecDepth 20000 in
set_option maxHeartbeats 4000000 in
theorem holds_walk (v u x y : Value) (rs : List Bd.R) (al : List Ro.A) (ps : List Int) (xs : List Ro.X) (w : World) (hv : Runs w v rs) (hu : Arts w u al) (hx : Ints w x ps) (hy : Pcs w y xs) :
    Calls Try.prog 8 #[v, u, .agg #[x, y]] w fun e w' => e = .returned (.bool true) ∧ Below w.heap.size w w' := by
  have bX := BlockAt.new w #[x, y] BndT
  have hw := below_alloc2 (Below.refl w.heap.size w) (.cells #[x, y] BndT)
  have LO := Lib.hid (rollLong_any v u y rs al.length xs.length _ (hv.all hw) (by obtain ⟨a, c, h, _⟩ := hu; exact ⟨a, c, h⟩) (by obtain ⟨a, c, h, _⟩ := hy; exact ⟨a, c, h⟩))
  have KN := Lib.hid (fun W => rollKnown_any W)
  have NF0 := Lib.hid (fun W (hW : Below w.heap.size w W) hl hal hpl => numBound_any v u x rs al ps W (hv.all hW) (hu.all hW) (hx.all hW) hl hal hpl)
  have VF0 := Lib.hid (fun W (hW : Below w.heap.size w W) hl hal hxl => numValue_any v u y rs al xs W (hv.all hW) (hu.all hW) (hy.all hW) hl hal hxl)
  obtain ⟨va, vc, rfl⟩ := hv.form
  obtain ⟨ua, uc, rfl, _⟩ := hu
  obtain ⟨xa, xc, rfl, _⟩ := hx
  obtain ⟨ya, yc, rfl, _⟩ := hy
  have HX := Lib.hid (And.intro bX hw)
  have x0 : World.cell? _ _ = some (.slice xa ps.length xc) := bX.cell 0
  have x1 : World.cell? _ _ = some (.slice ya xs.length yc) := bX.cell 1
  clear bX hw hv
  cases hL : (decide (100 < rs.length) || (decide (40 < al.length) || decide (400 < xs.length)))
  case true =>
    rw [hL] at LO
    clear hL NF0 VF0
    go_enter Try.func8, Try.ntmps8
    go_wp2_with fail
    refine LO.out.mono ?_
    rintro e w1 ⟨rfl, hb1⟩
    have HB1 := Lib.hid (below_step HX.out.2 hb1)
    clear hb1 LO HX x0 x1
    go_wp2_with fail
    refine (KN.out _).mono ?_
    rintro e w2 ⟨rfl, hb2⟩
    have HB2 := Lib.hid (below_step HB1.out hb2)
    clear hb2 HB1 KN
    go_wp2
    go_ret
    exact ⟨rfl, HB2.out⟩
  rw [hL] at LO
  simp only [Bool.or_eq_false_iff, decide_eq_false_iff_not] at hL
  by_cases hpl : 1000 < ps.length
  · have hd : decide ((1000 : Int) < ps.length) = true := decide_eq_true (by omega)
    have hd' : decide (1000 < ps.length) = true := decide_eq_true hpl
    clear hL hpl NF0 VF0
    go_enter Try.func8, Try.ntmps8
    go_wp2_with fail
    refine LO.out.mono ?_
    rintro e w1 ⟨rfl, hb1⟩
    have H1 := Lib.hid (And.intro (HX.out.1.below hb1 HX.out.1.lt) (below_step HX.out.2 hb1))
    clear hb1 LO HX x0 x1
    have x0 : World.cell? _ _ = some (.slice xa ps.length xc) := H1.out.1.cell 0
    have x1 : World.cell? _ _ = some (.slice ya xs.length yc) := H1.out.1.cell 1
    go_wp2_with fail
    refine (KN.out _).mono ?_
    rintro e w2 ⟨rfl, hb2⟩
    have HB2 := Lib.hid (below_step H1.out.2 hb2)
    clear hb2 H1 KN x0 x1
    go_wp2
    go_ret
    exact ⟨rfl, HB2.out⟩
  have hd : decide ((1000 : Int) < ps.length) = false := decide_eq_false (by omega)
  have hd' : decide (1000 < ps.length) = false := decide_eq_false hpl
  have NF := Lib.hid (fun W hW => NF0.out W hW (by omega) (by omega) (by omega))
  have VF := Lib.hid (fun W hW => VF0.out W hW (by omega) (by omega) (by omega))
  have HBH := Lib.hid (fun h1 h2 => Ro.bound_holds (rs := rs) (al := al) (ps := ps) (xs := xs) h1 h2)
  clear NF0 VF0 hL hpl
  generalize Ro.boE rs al ps = q1 at *
  generalize Ro.boV rs al ps = b at *
  generalize Ro.chkE rs al xs = q2 at *
  generalize Ro.valV rs al xs = m at *
  have hcase : ((q1 != 0) = true) ∨ ((q1 != 0) = false ∧ (q2 != 0) = true) ∨ ((q1 != 0) = false ∧ (q2 != 0) = false ∧ decide (m ≤ b) = true) := by
    by_cases h1 : q1 = 0
    · by_cases h2 : q2 = 0
      · exact .inr (.inr ⟨by simp [h1], by simp [h2], decide_eq_true (HBH.out h1 h2)⟩)
      · exact .inr (.inl ⟨by simp [h1], by simp [h2]⟩)
    · exact .inl (by simp [h1])
  clear HBH
  rcases hcase with g1 | ⟨g1, g2⟩ | ⟨g1, g2, g3⟩
  all_goals
    go_enter Try.func8, Try.ntmps8
    go_wp2_with fail
    refine LO.out.mono ?_
    rintro e w1 ⟨rfl, hb1⟩
    have H1 := Lib.hid (And.intro (HX.out.1.below hb1 HX.out.1.lt) (below_step HX.out.2 hb1))
    clear hb1 LO HX x0 x1
    have x0 : World.cell? _ _ = some (.slice xa ps.length xc) := H1.out.1.cell 0
    have x1 : World.cell? _ _ = some (.slice ya xs.length yc) := H1.out.1.cell 1
    go_wp2_with fail
    refine (NF.out _ H1.out.2).mono ?_
    rintro e w2 ⟨rfl, hb2⟩
    have H2 := Lib.hid (And.intro (H1.out.1.below hb2 H1.out.1.lt) (below_step H1.out.2 hb2))
    clear hb2 H1 NF x0 x1
    have x0 : World.cell? _ _ = some (.slice xa ps.length xc) := H2.out.1.cell 0
    have x1 : World.cell? _ _ = some (.slice ya xs.length yc) := H2.out.1.cell 1
    go_wp2_with fail
    refine (VF.out _ H2.out.2).mono ?_
    rintro e w3 ⟨rfl, hb3⟩
    have H3 := Lib.hid (below_step H2.out.2 hb3)
    clear hb3 H2 VF x0 x1
    go_wp2_with fail
    refine (KN.out _).mono ?_
    rintro e w6 ⟨rfl, hb6⟩
    have H6 := Lib.hid (below_step H3.out hb6)
    clear hb6 H3 KN
    go_wp2
    go_ret
    exact ⟨rfl, H6.out⟩
end Go.Proofs.Ytilpofmjkcjhdaa
namespace Go.Proofs.Ytilpofmjkcjhdaa
open Go.ChangeShapes Go.WideShapes Go.ChangeAt Go.RowKit Go.Deep
section
variable {H : Type} {enc : TypeId × Value → H}
set_option maxRecDepth 100000 in
theorem bound_of {W : World} {n : Nat} {cs : List Value} {y : DataW H × List MemPlace}
    (h : DataW.trod enc Try.prog W 0 (fun _ => true) true n 49 cs = some y) : ∃ (v1 v2 : Value) (ps : List Int) (xs : List Ro.X), cs = [v1, v2] ∧ Ints W v1 ps ∧ Pcs W v2 xs := by
  obtain ⟨xs, n', _, _, hlen, hxl, hf⟩ := DataW.trod_struct Try.underlying49 h
  have hl : cs.length = 2 := hlen.trans (by kernel_rfl)
  match cs, hl with
  | [c0, c1], _ =>
    have h0 := hf 0 _ rfl
    have h1 := hf 1 _ rfl
    have k0 : Try.prog.cellsOf 33 = 1 := by kernel_rfl
    have k1 : Try.prog.cellsOf 38 = 1 := by kernel_rfl
    simp only [List.getElem_toArray, List.getElem_cons_zero, List.getElem_cons_succ] at h0 h1
    rw [k0] at h0
    rw [k1] at h1
    simp only [List.drop_zero, List.take_succ_cons, List.take_zero, List.drop_succ_cons] at h0 h1
    have hx2 : xs.length = 2 := hxl
    have e0 : xs[0]? = some (xs[0]'(by omega)) := by simp
    have e1 : xs[1]? = some (xs[1]'(by omega)) := by simp
    obtain ⟨ps, hps⟩ := ints_of (h0.trans e0)
    obtain ⟨ys, hys⟩ := pcs_of (h1.trans e1)
    exact ⟨c0, c1, ps, ys, rfl, hps, hys⟩
set_option maxRecDepth 100000 in
theorem open_bound {W : World} {base : Nat} {v : Value} {d : DataW H} {p : List MemPlace} (hv : Value.okWide Try.prog W .any base 49 v)
    (h : DataW.Trod enc Try.prog W 0 (fun _ => true) true 49 v d p) : ∃ (v1 v2 : Value) (ps : List Int) (xs : List Ro.X), v = .agg #[v1, v2] ∧ Ints W v1 ps ∧ Pcs W v2 xs := by
  obtain ⟨cs, rfl, hsz⟩ := okWide_struct Try.underlying49 hv
  have hsz : cs.size = 2 := hsz.trans (by kernel_rfl)
  obtain ⟨fuel, hf⟩ := h
  obtain ⟨v1, v2, ps, xs, e, h1, h2⟩ := bound_of (cs := cs.toList) hf
  refine ⟨v1, v2, ps, xs, ?_, h1, h2⟩
  rw [show cs = #[v1, v2] from Array.ext' e]
end
end Go.Proofs.Ytilpofmjkcjhdaa
