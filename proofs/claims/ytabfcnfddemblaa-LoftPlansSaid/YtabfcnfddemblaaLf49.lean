/- The errors of a load by itself: of the reference. -/
import Derived.Test.YtabfcnfddemblaaLf48
namespace Go.Proofs.Ytabfcnfddemblaa.Lo
open Go.RowKit

def fE (gs : List Lf.G) (gl : List Int) (a : Int) (n : Nat) : Bool := (List.range n).any fun j => decide (a < (Lf.gat gs (gl.getD j 0)).a)
def fW (gs : List Lf.G) (gl : List Int) (m : Int) (n : Nat) : Bool := (List.range n).any fun j => !Lf.rng (Lf.gat gs (gl.getD j 0)).n (Lf.gat gs (gl.getD j 0)).m m
def fL (gs : List Lf.G) (gl : List Int) (e : Int) (n : Nat) : Bool := (List.range n).any fun j => decide ((Lf.gat gs (gl.getD j 0)).u < e)
theorem fE_next (gs : List Lf.G) (gl : List Int) (a : Int) (n : Nat) : fE gs gl a (n + 1) = (fE gs gl a n || decide (a < (Lf.gat gs (gl.getD n 0)).a)) := by unfold fE; rw [List.range_succ, List.any_append]; simp
theorem fW_next (gs : List Lf.G) (gl : List Int) (a : Int) (n : Nat) : fW gs gl a (n + 1) = (fW gs gl a n || !Lf.rng (Lf.gat gs (gl.getD n 0)).n (Lf.gat gs (gl.getD n 0)).m a) := by unfold fW; rw [List.range_succ, List.any_append]; simp
theorem fL_next (gs : List Lf.G) (gl : List Int) (a : Int) (n : Nat) : fL gs gl a (n + 1) = (fL gs gl a n || decide ((Lf.gat gs (gl.getD n 0)).u < a)) := by unfold fL; rw [List.range_succ, List.any_append]; simp
theorem fE_tog {gs : List Lf.G} {gl : List Int} {a : Int} (h : 0 < gl.length) : fE gs gl a gl.length = decide (a < (Lf.togA gs gl).a) := by
  rw [Bool.eq_iff_iff, decide_eq_true_eq]
  unfold Lf.togA fE
  rw [Lf.tog_a, List.any_eq_true]
  constructor
  · rintro ⟨j, hj, h2⟩; exact ⟨j, by have := List.mem_range.1 hj; omega, of_decide_eq_true h2⟩
  · rintro ⟨j, hj, h2⟩; exact ⟨j, List.mem_range.2 (by omega), decide_eq_true h2⟩
theorem fL_tog {gs : List Lf.G} {gl : List Int} {a : Int} (h : 0 < gl.length) : fL gs gl a gl.length = decide ((Lf.togA gs gl).u < a) := by
  rw [Bool.eq_iff_iff, decide_eq_true_eq]
  unfold Lf.togA fL
  rw [Lf.tog_u, List.any_eq_true]
  constructor
  · rintro ⟨j, hj, h2⟩; exact ⟨j, by have := List.mem_range.1 hj; omega, of_decide_eq_true h2⟩
  · rintro ⟨j, hj, h2⟩; exact ⟨j, List.mem_range.2 (by omega), decide_eq_true h2⟩
theorem fW_tog {gs : List Lf.G} {gl : List Int} {a : Int} (h : 0 < gl.length) : fW gs gl a gl.length = !Lf.rng (Lf.togA gs gl).n (Lf.togA gs gl).m a := by
  rw [Bool.eq_iff_iff, Bool.not_eq_true']
  unfold Lf.togA fW
  rw [Lf.tog_w, List.any_eq_true]
  constructor
  · rintro ⟨j, hj, h2⟩; exact ⟨j, by have := List.mem_range.1 hj; omega, by simpa using h2⟩
  · rintro ⟨j, hj, h2⟩; exact ⟨j, List.mem_range.2 (by omega), by simpa using h2⟩
theorem slE_v {ls : List Lf.F} {gs : List Lf.G} {x : Lf.L} (h : Lf.vLE ls gs x ≠ 0) : Lf.slE ls gs x = Lf.vLE ls gs x := by unfold Lf.slE; rw [if_neg h]
theorem slE_c {ls : List Lf.F} {gs : List Lf.G} {x : Lf.L} (h : Lf.vLE ls gs x = 0) : Lf.slE ls gs x = ckX ls gs x := by unfold Lf.slE; rw [if_pos h]; rfl
theorem sw_eq {xa ta tu EE : Int} {b : Bool} : (if xa < ta then (7 : Int) else if b = true then (if tu < EE then 12 else 0) else 9) = if decide (xa < ta) = true then 7 else if (!b) = true then 9 else if decide (tu < EE) = true then 12 else 0 := by
  by_cases c : xa < ta <;> cases b <;> by_cases d : tu < EE <;> simp [c, d]
/-- A load, a loft and goods in boxes. -/
def ByC (w : World) (B C : Nat) (l a : Int) (p q : Value) (fp : Int) (fv : Value) (g : Lf.G) (W : World) : Prop :=
  (W.cell? ⟨w.heap.size, 0, none⟩ = some (.int .i64 l) ∧ W.cell? ⟨w.heap.size, 1, none⟩ = some (.int .i64 a) ∧ W.cell? ⟨w.heap.size, 2, none⟩ = some p ∧ W.cell? ⟨w.heap.size, 3, none⟩ = some q) ∧
  (W.cell? ⟨B, 0, none⟩ = some (.int .i64 fp) ∧ W.cell? ⟨B, 1, none⟩ = some fv) ∧
  W.cell? ⟨C, 0, none⟩ = some (.int .i64 g.p) ∧ W.cell? ⟨C, 1, none⟩ = some (.int .i64 g.n) ∧ W.cell? ⟨C, 2, none⟩ = some (.int .i64 g.m) ∧ W.cell? ⟨C, 3, none⟩ = some (.int .i64 g.a) ∧ W.cell? ⟨C, 4, none⟩ = some (.int .i64 g.u)
def ByS (w : World) (B C : Nat) (l a : Int) (p q : Value) (fp : Int) (fv : Value) (g : Lf.G) (W : World) : Prop := BlockAt W w.heap.size (ldA l a p q) LoadT ∧ BlockAt W B (loftA fp fv) LoftT ∧ BlockAt W C (gdA g) GoodT ∧ Below w.heap.size w W
theorem ByS.step {w : World} {B C : Nat} {l a fp : Int} {p q fv : Value} {g : Lf.G} {W W2 : World} (h : ByS w B C l a p q fp fv g W) (hb : Below W.heap.size W W2) : ByS w B C l a p q fp fv g W2 := ⟨h.1.below hb h.1.lt, h.2.1.below hb h.2.1.lt, h.2.2.1.below hb h.2.2.1.lt, below_step h.2.2.2 hb⟩
theorem ByS.drew {w : World} {B C : Nat} {l a fp : Int} {p q fv : Value} {g : Lf.G} {W : World} (h : ByS w B C l a p q fp fv g W) : ByS w B C l a p q fp fv g W.drew := ⟨h.1.drew, h.2.1.drew, h.2.2.1.drew, below_drewN h.2.2.2 1⟩
theorem ByS.cells {w : World} {B C : Nat} {l a fp : Int} {p q fv : Value} {g : Lf.G} {W : World} (h : ByS w B C l a p q fp fv g W) : ByC w B C l a p q fp fv g W :=
  ⟨⟨h.1.cell 0, h.1.cell 1, h.1.cell 2, h.1.cell 3⟩, ⟨h.2.1.cell 0, h.2.1.cell 1⟩, h.2.2.1.cell 0, h.2.2.1.cell 1, h.2.2.1.cell 2, h.2.2.1.cell 3, h.2.2.1.cell 4⟩
/-- A load and a loft in boxes. -/
def Bq (w : World) (B : Nat) (l a : Int) (p q : Value) (fp : Int) (fv : Value) (W : World) : Prop :=
  (W.cell? ⟨w.heap.size, 0, none⟩ = some (.int .i64 l) ∧ W.cell? ⟨w.heap.size, 1, none⟩ = some (.int .i64 a) ∧ W.cell? ⟨w.heap.size, 2, none⟩ = some p ∧ W.cell? ⟨w.heap.size, 3, none⟩ = some q) ∧ W.cell? ⟨B, 0, none⟩ = some (.int .i64 fp) ∧ W.cell? ⟨B, 1, none⟩ = some fv
set_option maxRecDepth 100000 in
set_option maxHeartbeats 16000000 in
theorem by_any (u v p q : Value) (ls : List Lf.F) (gs : List Lf.G) (x : Lf.L) (w : World) (hu : Lofts w u ls) (hv : Goods w v gs) (hp : Ints w p x.hs) (hq : Ints w q x.gs) (hb0 : Lf.bthE ls gs = 0) :
    Calls Try.prog 91 #[u, v, ldV x.l x.a p q] w fun e w' => e = .returned (.int .i64 (Lf.slE ls gs x)) ∧ Below w.heap.size w w' := by
  obtain ⟨hF, h3, hG, h8⟩ := bth_ok hb0
  have CF := Lib.hid (fun W => within_any x.a 0 60 W)
  have CH := Lib.hid (fun W (hW : Below w.heap.size w W) => rvHeats_any p x.hs W (hp.all hW))
  have CS := Lib.hid (fun W (hW : Below w.heap.size w W) => isSetR_any q x.gs (gs.length : Int) W (hq.all hW) ⟨by omega, by omega⟩)
  have CP := Lib.hid (fun W (hW : Below w.heap.size w W) hs => rpolesL_any v q gs x.gs W (hv.all hW) (hq.all hW) hG h8 hs)
  have HX := Lib.hid (And.intro (BlockAt.new w (ldA x.l x.a p q) LoadT) (below_alloc2 (Below.refl w.heap.size w) (.cells (ldA x.l x.a p q) LoadT)))
  have H5 := Lib.hid (fun h => vLE_loft (ls := ls) (gs := gs) (x := x) h)
  have H1 := Lib.hid (fun h h2 => vLE_bad (ls := ls) (gs := gs) (x := x) h h2)
  have H0 := Lib.hid (fun h h2 => vLE_ok (ls := ls) (gs := gs) (x := x) h h2)
  have HSV := Lib.hid (fun h => slE_v (ls := ls) (gs := gs) (x := x) h)
  have HSC := Lib.hid (fun h => slE_c (ls := ls) (gs := gs) (x := x) h)
  have HCX : Hid (ckX ls gs x = if (Lf.fat ls x.l).p < (Lf.togA gs x.gs).p then 6 else if x.a < (Lf.togA gs x.gs).a then 7 else if Lf.rng (Lf.togA gs x.gs).n (Lf.togA gs x.gs).m (Lf.wm (Lf.fat ls x.l).rs x.hs x.hs.length) = true then (if (Lf.togA gs x.gs).u < x.a + (x.hs.length : Int) then 12 else 0) else 9) := Lib.hid rfl
  have HLR := Lib.hid (fun W (hW : Below w.heap.size w W) => hu.all hW)
  have HVR := Lib.hid (fun W (hW : Below w.heap.size w W) => hv.all hW)
  have HQ0 := Lib.hid (fun W (hW : Below w.heap.size w W) => hq.all hW)
  have HHR := Lib.hid (fun W (hW : Below w.heap.size w W) => hp.all hW)
  have HQA := Lib.hid hq
  obtain ⟨ua, uc, rfl⟩ := hu.form
  obtain ⟨va, vc, rfl⟩ := hv.form
  obtain ⟨pa, pc, rfl⟩ := hp.form
  obtain ⟨qa, qc, rfl⟩ := hq.form
  have HQR := Lib.hid (fun W (hW : Below w.heap.size w W) => Ints.at (HQ0.out W hW))
  clear HQ0
  have HFF := Lib.hid hF
  have HGG := Lib.hid hG
  clear hu hv hp hq hb0 hF hG
  generalize Lf.slE ls gs x = R at *
  obtain ⟨xl, xa, xh, xg⟩ := x
  dsimp only at *
  have x0 : World.cell? _ _ = some (.int .i64 xl) := HX.out.1.cell 0
  have x1 : World.cell? _ _ = some (.int .i64 xa) := HX.out.1.cell 1
  have x2 : World.cell? _ _ = some (.slice pa xh.length pc) := HX.out.1.cell 2
  have x3 : World.cell? _ _ = some (.slice qa xg.length qc) := HX.out.1.cell 3
  cases b1 : Lf.rng 0 ((ls.length : Int) - 1) xl
  · have HE : Hid (R = 5) := Lib.hid (by have h := H5.out b1; rw [HSV.out (by omega), h])
    clear CF CH CS CP H5 H1 H0 HSV HSC HCX HLR HVR HQR HHR HFF HGG
    have hn : ¬ (0 ≤ xl ∧ xl ≤ (ls.length : Int) - 1) := fun h => by rw [Lf.rng_iff.2 h] at b1; cases b1
    clear b1
    by_cases h1 : xl < 0
    · have d1 : decide (xl < 0) = true := decide_eq_true h1
      clear h1 hn
      go_enter Try.func91, Try.ntmps91
      go_wp2
      go_ret
      exact ⟨ret_int HE.out.symm, HX.out.2⟩
    · have d1 : decide (xl < 0) = false := decide_eq_false h1
      have d2 : decide ((ls.length : Int) ≤ xl) = true := decide_eq_true (by omega)
      have d3 : decide (xl ≥ (ls.length : Int)) = true := d2
      clear h1 hn
      go_enter Try.func91, Try.ntmps91
      go_wp2
      go_ret
      exact ⟨ret_int HE.out.symm, HX.out.2⟩
  obtain ⟨hl0, hl1⟩ := Lf.rng_iff.1 b1
  have d1 : decide (xl < 0) = false := decide_eq_false (by omega)
  have d2 : decide ((ls.length : Int) ≤ xl) = false := decide_eq_false (by omega)
  have d3 : decide (xl ≥ (ls.length : Int)) = false := d2
  have H1 := Lib.hid (H1.out b1)
  have H0 := Lib.hid (H0.out b1)
  have HSE : Hid (Lf.vLE ls gs ⟨xl, xa, xh, xg⟩ = 1 → R = 1) := Lib.hid (fun h => by rw [HSV.out (by omega), h])
  clear H5 HSV b1
  cases b2 : Lf.rng 0 60 xa
  · have HE : Hid (R = 1) := Lib.hid (HSE.out (H1.out (by rw [b2]; rfl)))
    rw [b2] at CF
    clear CH CS CP H1 H0 HSE HSC HCX HLR HVR HQR HHR HFF HGG b2
    go_enter Try.func91, Try.ntmps91
    go_wp2_with fail
    refine (CF.out _).mono ?_
    rintro e w7 ⟨rfl, rfl⟩
    go_wp2
    go_ret
    exact ⟨ret_int HE.out.symm, HX.out.2⟩
  obtain ⟨ha0, ha1⟩ := Lf.rng_iff.1 b2
  rw [b2] at CF
  cases b3 : Lf.vHt xh
  · have HE : Hid (R = 1) := Lib.hid (HSE.out (H1.out (by rw [b2, b3]; rfl)))
    rw [b3] at CH
    clear CS CP H1 H0 HSE HSC HCX HLR HVR HQR HHR HFF HGG b2 b3
    go_enter Try.func91, Try.ntmps91
    go_wp2_with fail
    refine (CF.out _).mono ?_
    rintro e w7 ⟨rfl, rfl⟩
    go_wp2_with fail
    refine (CH.out _ HX.out.2).mono ?_
    rintro e w7 ⟨rfl, rfl⟩
    go_wp2
    go_ret
    exact ⟨ret_int HE.out.symm, HX.out.2⟩
  have hh12 := (Lf.vHt_iff.1 b3).1.2
  have HHT := Lib.hid (fun j hj => Lf.okHt_at ((Lf.vHt_iff.1 b3).2 j hj))
  rw [b3] at CH
  by_cases hg : xg.length = 0
  · have e1 : decide ((xg.length : Int) = 0) = true := decide_eq_true (by omega)
    have e2 : decide (xg.length = 0) = true := decide_eq_true (by omega)
    have e4 : ((xg.length : Int) == 0) = true := beq_iff_eq.2 (by omega)
    have HE : Hid (R = 1) := Lib.hid (HSE.out (H1.out (by rw [b2, b3, decide_eq_false (show ¬ 0 < xg.length by omega)]; rfl)))
    clear CS CP H1 H0 HSE HSC HCX HLR HVR HQR HHR HFF HGG b2 b3 hg HHT
    go_enter Try.func91, Try.ntmps91
    go_wp2_with fail
    refine (CF.out _).mono ?_
    rintro e w7 ⟨rfl, rfl⟩
    go_wp2_with fail
    refine (CH.out _ HX.out.2).mono ?_
    rintro e w7 ⟨rfl, rfl⟩
    go_wp2
    go_ret
    exact ⟨ret_int HE.out.symm, HX.out.2⟩
  have e1 : decide ((xg.length : Int) = 0) = false := decide_eq_false (by omega)
  have e2 : decide (xg.length = 0) = false := decide_eq_false (by omega)
  have e4 : ((xg.length : Int) == 0) = false := beq_eq_false_iff_ne.2 (by omega)
  have hg0 : 0 < xg.length := by omega
  cases b4 : Lf.stB xg gs.length
  · have HE : Hid (R = 1) := Lib.hid (HSE.out (H1.out (by rw [b2, b3, b4, decide_eq_true hg0]; rfl)))
    rw [b4] at CS
    clear CP H1 H0 HSE HSC HCX HLR HVR HQR HHR HFF HGG b2 b3 b4 hg HHT
    go_enter Try.func91, Try.ntmps91
    go_wp2_with fail
    refine (CF.out _).mono ?_
    rintro e w7 ⟨rfl, rfl⟩
    go_wp2_with fail
    refine (CH.out _ HX.out.2).mono ?_
    rintro e w7 ⟨rfl, rfl⟩
    go_wp2_with fail
    refine (CS.out _ HX.out.2).mono ?_
    rintro e w7 ⟨rfl, hb1⟩
    have HB := Lib.hid (below_step HX.out.2 hb1)
    clear hb1 x0 x1 x2 x3
    go_wp2
    go_ret
    exact ⟨ret_int HE.out.symm, HB.out⟩
  rw [b4] at CS
  have HRC : Hid (R = ckX ls gs ⟨xl, xa, xh, xg⟩) := Lib.hid (HSC.out (H0.out (by rw [b2, b3, b4, decide_eq_true hg0]; rfl)))
  have HBD := Lib.hid (fun k hk => Lf.st_bd (Lf.stB_iff.1 b4) k hk)
  have hg8 := Lf.st_len b4
  have CP1 := Lib.hid (fun W hW => CP.out W hW b4)
  have HPS : Hid (psm gs xg xg.length = (Lf.togA gs xg).p) := Lib.hid (by unfold Lf.togA; have h := psm_tog gs xg (xg.length - 1); rw [show xg.length - 1 + 1 = xg.length by omega] at h; exact h)
  clear H1 H0 HSE HSC b2 b3 b4 hg CP
  obtain ⟨k9, hk9⟩ : ∃ k : Nat, xl = (k : Int) := ⟨xl.toNat, by omega⟩
  have hkl : k9 < ls.length := by omega
  have hfat : Lf.fat ls xl = ls[k9] := by unfold Lf.fat; rw [hk9]; simp [hkl]
  rw [hfat] at HCX
  have hok := Lf.okF_iff.1 (HFF.out k9 hkl)
  have CW := Lib.hid (fun W (hW : Below w.heap.size w W) (fp : Int) (fv : Value) (hfv : Ints W fv (ls[k9]'hkl).rs) => rwarm_any fp fv (.slice pa xh.length pc) (ls[k9]'hkl).rs xh W hfv (HHR.out W hW) hok.2.1 (rt_bd hok.2.2) HHT.out hh12)
  obtain ⟨fb, fo, rfl, hfb, hfc⟩ := lofts_row (HLR.out w (Below.refl _ _)) k9 hkl
  obtain ⟨fv, ⟨c0, c1⟩, hI⟩ := hfc
  obtain ⟨fa, fc, rfl⟩ := hI.form
  have HI := Lib.hid (fun W (hW : Below w.heap.size w W) => hI.all hW)
  have hkd : decide ((k9 : Int) < 0) = false := decide_eq_false (by omega)
  clear hI hok hfat HFF HLR HHT HHR
  generalize Lf.wm ls[k9].rs xh xh.length = WM at *
  generalize ls[k9] = f at *
  obtain ⟨fp, fr⟩ := f
  dsimp only at *
  subst hk9
  have CE := Lib.hid (fun W => endR_any (k9 : Int) xa pa xh.length pc (.slice qa xg.length qc) W ⟨by omega, by omega⟩ (by omega))
  obtain ⟨EE, hEE⟩ : ∃ E, E = xa + (xh.length : Int) := ⟨_, rfl⟩
  rw [← hEE] at CE HCX
  clear hEE
  go_enter Try.func91, Try.ntmps91
  go_wp2_with fail
  refine (CF.out _).mono ?_
  rintro e w7 ⟨rfl, rfl⟩
  go_wp2_with fail
  refine (CH.out _ HX.out.2).mono ?_
  rintro e w7 ⟨rfl, rfl⟩
  go_wp2_with fail
  refine (CS.out _ HX.out.2).mono ?_
  rintro e w7 ⟨rfl, hb1⟩
  have hbw := below_step HX.out.2 hb1
  have y0 := (hbw.cell (p := ⟨fb, fo + k9 * 2, none⟩) hfb).trans c0
  have y1 := (hbw.cell (p := ⟨fb, fo + k9 * 2 + 1, none⟩) hfb).trans c1
  have HX7 := Lib.hid (And.intro (HX.out.1.below hb1 HX.out.1.lt) hbw)
  have HF7 := Lib.hid (And.intro (HX7.out.1.alloc (.cells (loftA fp (.slice fa fr.length fc)) LoftT)) (And.intro (BlockAt.new w7 (loftA fp (.slice fa fr.length fc)) LoftT) (below_alloc2 hbw (.cells (loftA fp (.slice fa fr.length fc)) LoftT))))
  clear x0 x1 x2 x3 hb1 hbw c0 c1 CF CH CS HX
  have x0 : World.cell? _ _ = some (.int .i64 (k9 : Int)) := HX7.out.1.cell 0
  have x1 : World.cell? _ _ = some (.int .i64 xa) := HX7.out.1.cell 1
  have x2 : World.cell? _ _ = some (.slice pa xh.length pc) := HX7.out.1.cell 2
  have x3 : World.cell? _ _ = some (.slice qa xg.length qc) := HX7.out.1.cell 3
  go_wp2_with fail
  obtain ⟨B7, hB7⟩ : ∃ B, B = w7.heap.size := ⟨_, rfl⟩
  have HC6 := Lib.hid (show Bq w B7 k9 xa (.slice pa xh.length pc) (.slice qa xg.length qc) fp (.slice fa fr.length fc) (w7.alloc (.cells (loftA fp (.slice fa fr.length fc)) LoftT)).drew from by rw [hB7]; exact ⟨⟨HF7.out.1.drew.cell 0, HF7.out.1.drew.cell 1, HF7.out.1.drew.cell 2, HF7.out.1.drew.cell 3⟩, HF7.out.2.1.drew.cell 0, HF7.out.2.1.drew.cell 1⟩)
  have HS6 := Lib.hid (show BlockAt (w7.alloc (.cells (loftA fp (.slice fa fr.length fc)) LoftT)).drew w.heap.size (ldA (k9 : Int) xa (.slice pa xh.length pc) (.slice qa xg.length qc)) LoadT ∧ BlockAt (w7.alloc (.cells (loftA fp (.slice fa fr.length fc)) LoftT)).drew B7 (loftA fp (.slice fa fr.length fc)) LoftT ∧ Below w.heap.size w (w7.alloc (.cells (loftA fp (.slice fa fr.length fc)) LoftT)).drew from by rw [hB7]; exact ⟨HF7.out.1.drew, HF7.out.2.1.drew, below_drewN HF7.out.2.2 1⟩)
  clear x0 x1 x2 x3 y0 y1 HX7 HF7
  rw [← hB7]
  clear hB7
  refine wp_region_seq [(0, true), (1, true), (2, true), (4, true), (5, true), (3, false), (6, true)] (Bq w B7 k9 xa (.slice pa xh.length pc) (.slice qa xg.length qc) fp (.slice fa fr.length fc))
    (by kernel_rfl) (by kernel_rfl) (by kernel_rfl) (by kernel_rfl) (fun d _ _ _ _ h => by cases d <;> exact h) HC6.out (fun _ => ?_)
  repeat (first | (refine SeqH.take (v := ?_) rfl (by rfl) ?_ ?_; rotate_left; (· intro w hSw; (try dsimp only at hSw); obtain ⟨⟨q0, q1, q2, q3⟩, q4, q5⟩ := hSw; go_simp; (try with_reducible rfl)); simp only [Act.put, List.setIfInBounds_toArray, List.set_cons_zero, List.set_cons_succ]) | (refine SeqH.skip rfl (by rfl) ?_; simp only [Act.put, List.setIfInBounds_toArray, List.set_cons_zero, List.set_cons_succ]))
  refine SeqH.step rfl (by rfl) (fun K hK => ?_)
  go_simp
  go_at_call 134
  refine (CP1.out _ HS6.out.2.2).mono ?_
  rintro e w7 ⟨rfl, hb1⟩
  try dsimp only
  have HS8 := Lib.hid (And.intro (HS6.out.1.below hb1 HS6.out.1.lt) (And.intro (HS6.out.2.1.below hb1 HS6.out.2.1.lt) (below_step HS6.out.2.2 hb1)))
  clear hb1
  refine hK.out _ _ (⟨⟨HS8.out.1.cell 0, HS8.out.1.cell 1, HS8.out.1.cell 2, HS8.out.1.cell 3⟩, HS8.out.2.1.cell 0, HS8.out.2.1.cell 1⟩) (fun _ => ?_)
  clear hK K
  try simp only [Act.put, List.setIfInBounds_toArray, List.set_cons_zero, List.set_cons_succ]
  clear CP1 HS6 HC6
  rw [HPS.out]
  clear HPS
  have HCE := Lib.hid (HRC.out.trans HCX.out)
  have HTE := Lib.hid (fE_tog (gs := gs) (gl := xg) (a := xa) hg0)
  have HTL := Lib.hid (fL_tog (gs := gs) (gl := xg) (a := EE) hg0)
  have HTW := Lib.hid (fW_tog (gs := gs) (gl := xg) (a := WM) hg0)
  clear HRC HCX
  generalize Lf.togA gs xg = T at *
  obtain ⟨tp, tn, tm, ta, tu⟩ := T
  dsimp only at *
  by_cases hpp : fp < tp
  · have d8 : decide (fp < tp) = true := decide_eq_true hpp
    have d9 : decide (tp > fp) = true := d8
    have HE : Hid (R = 6) := Lib.hid (by rw [HCE.out, if_pos hpp])
    clear hpp
    repeat (first | (refine SeqH.take (v := ?_) rfl (by rfl) ?_ ?_; rotate_left; (· intro w hSw; (try dsimp only at hSw); obtain ⟨⟨q0, q1, q2, q3⟩, q4, q5⟩ := hSw; go_simp; (try with_reducible rfl)); simp only [Act.put, List.setIfInBounds_toArray, List.set_cons_zero, List.set_cons_succ]) | (refine SeqH.skip rfl (by rfl) ?_; simp only [Act.put, List.setIfInBounds_toArray, List.set_cons_zero, List.set_cons_succ]))
    refine SeqH.done ?_
    go_wp2
    go_ret
    exact ⟨ret_int HE.out.symm, HS8.out.2.2⟩
  have d8 : decide (fp < tp) = false := decide_eq_false hpp
  have d9 : decide (tp > fp) = false := d8
  rw [if_neg hpp] at HCE
  clear hpp
  repeat (first | (refine SeqH.take (v := ?_) rfl (by rfl) ?_ ?_; rotate_left; (· intro w hSw; (try dsimp only at hSw); obtain ⟨⟨q0, q1, q2, q3⟩, q4, q5⟩ := hSw; go_simp; (try with_reducible rfl)); simp only [Act.put, List.setIfInBounds_toArray, List.set_cons_zero, List.set_cons_succ]) | (refine SeqH.skip rfl (by rfl) ?_; simp only [Act.put, List.setIfInBounds_toArray, List.set_cons_zero, List.set_cons_succ]))
  refine SeqH.done ?_
  go_wp2
  go_loopw [8, 9, 10, 11] (fun s1 s2 s3 t wr => ∃ (k : Nat) (e w2 l : Bool), k ≤ xg.length ∧ s1 = .bool e ∧ s2 = .bool w2 ∧ s3 = .bool l ∧ t = .int .i64 k ∧ Hid ((e = fE gs xg xa k ∧ w2 = fW gs xg WM k ∧ l = fL gs xg EE k) ∧ BlockAt wr w.heap.size (ldA (k9 : Int) xa (.slice pa xh.length pc) (.slice qa xg.length qc)) LoadT ∧ BlockAt wr B7 (loftA fp (.slice fa fr.length fc)) LoftT ∧ Below w.heap.size w wr)) (fun _ _ _ t _ => xg.length - (intOf t).toNat)
  case atStart => exact ⟨0, false, false, false, Nat.zero_le _, rfl, rfl, rfl, rfl, Lib.hid ⟨⟨rfl, rfl, rfl⟩, HS8.out⟩⟩
  case round =>
    obtain ⟨k, e, w2, l, hk, rfl, rfl, rfl, rfl, hg⟩ := hrel
    clear HS8 d8 d9
    have x3 : World.cell? _ _ = some (.slice qa xg.length qc) := hg.out.2.1.cell 3
    by_cases hlt : k < xg.length
    · obtain ⟨b, off, rfl, hb, c0⟩ := HQR.out wr hg.out.2.2.2 k hlt
      have hbk := HBD.out k hlt
      obtain ⟨i, hi⟩ : ∃ i : Nat, xg.getD k 0 = (i : Int) := ⟨(xg.getD k 0).toNat, by omega⟩
      have hil : i < gs.length := by omega
      obtain ⟨_, _, hvf, _, hvk⟩ := HVR.out wr hg.out.2.2.2
      injection hvf with hv1 hv2 hv3
      subst hv1
      subst hv3
      obtain ⟨b3, off3, rfl, hb3, hr⟩ := hvk i hil
      obtain ⟨y0, y1, y2, y3, y4⟩ := gd_at hr
      have HNE := Lib.hid (fE_next gs xg xa k)
      have HNW := Lib.hid (fW_next gs xg WM k)
      have HNL := Lib.hid (fL_next gs xg EE k)
      rw [← hg.out.1.1, hi, gd_get hil] at HNE
      rw [← hg.out.1.2.1, hi, gd_get hil] at HNW
      rw [← hg.out.1.2.2, hi, gd_get hil] at HNL
      rw [hi] at c0
      have hx0' : decide ((i : Int) < 0) = false := decide_eq_false (by omega)
      have HG := Lib.hid hg.out.2
      clear hg hvk hr hbk hi HTE HTL HTW HCE
      generalize gs[i] = g at *
      obtain ⟨gp, gn, gm, ga, gu⟩ := g
      dsimp only at *
      have HS1 := Lib.hid (show ByS w B7 wr.heap.size k9 xa (.slice pa xh.length pc) (.slice (some ⟨b, off, none⟩) xg.length qc) fp (.slice fa fr.length fc) ⟨gp, gn, gm, ga, gu⟩ (wr.alloc (.cells (gdA ⟨gp, gn, gm, ga, gu⟩) GoodT)) from ⟨HG.out.1.alloc _, HG.out.2.1.alloc _, BlockAt.new _ _ _, below_alloc2 HG.out.2.2 _⟩)
      have CWr := Lib.hid (fun W hW => CW.out W hW fp (.slice fa fr.length fc) (HI.out W hW))
      have CIn := Lib.hid (fun W => within_any WM gn gm W)
      have z1 : World.cell? _ _ = some (.int .i64 xa) := HS1.out.1.cell 1
      have z3 : World.cell? _ _ = some (.int .i64 ga) := HS1.out.2.2.1.cell 3
      generalize hb1 : decide (xa < ga) = b1 at *
      generalize hb2 : Lf.rng gn gm WM = b2 at *
      generalize hb3 : decide (gu < EE) = b3 at *
      have d7 : decide (EE > gu) = b3 := hb3
      clear CW HI hb2 HG
      cases e
      · rw [Bool.false_or] at HNE
        go_wp2_with fail
        cases w2
        · rw [Bool.false_or] at HNW
          go_wp2_with fail
          have HC14 := Lib.hid (show ByC w B7 wr.heap.size k9 xa (.slice pa xh.length pc) (.slice (some ⟨b, off, none⟩) xg.length qc) fp (.slice fa fr.length fc) ⟨gp, gn, gm, ga, gu⟩ _ from HS1.out.drew.cells)
          have HS14 := Lib.hid (HS1.out.drew)
          refine wp_region_seq [(0, true), (1, true), (2, true), (3, true), (4, true), (6, true), (7, true), (8, true), (9, true), (5, false), (10, false), (11, true), (12, true), (13, true)] (ByC w B7 wr.heap.size k9 xa (.slice pa xh.length pc) (.slice (some ⟨b, off, none⟩) xg.length qc) fp (.slice fa fr.length fc) ⟨gp, gn, gm, ga, gu⟩)
            (by kernel_rfl) (by kernel_rfl) (by kernel_rfl) (by kernel_rfl) (fun d _ _ _ _ h => by cases d <;> exact h) HC14.out (fun _ => ?_)
          repeat (first | (refine SeqH.take (v := ?_) rfl (by rfl) ?_ ?_; rotate_left; (· intro w hSw; (try dsimp only at hSw); obtain ⟨⟨q0, q1, q2, q3⟩, ⟨q4, q5⟩, q6, q7, q8, q9, q10⟩ := hSw; go_simp; (try with_reducible rfl)); simp only [Act.put, List.setIfInBounds_toArray, List.set_cons_zero, List.set_cons_succ]) | (refine SeqH.skip rfl (by rfl) ?_; simp only [Act.put, List.setIfInBounds_toArray, List.set_cons_zero, List.set_cons_succ]))
          refine SeqH.step rfl (by rfl) (fun K hK => ?_)
          go_simp
          go_at_call 75
          refine (CWr.out _ HS14.out.2.2.2).mono ?_
          rintro e w7 ⟨rfl, hb1⟩
          try dsimp only
          have HS17 := Lib.hid (HS14.out.step hb1)
          clear hb1
          refine hK.out _ _ (HS17.out.cells) (fun _ => ?_)
          clear hK K
          try simp only [Act.put, List.setIfInBounds_toArray, List.set_cons_zero, List.set_cons_succ]
          repeat (first | (refine SeqH.take (v := ?_) rfl (by rfl) ?_ ?_; rotate_left; (· intro w hSw; (try dsimp only at hSw); obtain ⟨⟨q0, q1, q2, q3⟩, ⟨q4, q5⟩, q6, q7, q8, q9, q10⟩ := hSw; go_simp; (try with_reducible rfl)); simp only [Act.put, List.setIfInBounds_toArray, List.set_cons_zero, List.set_cons_succ]) | (refine SeqH.skip rfl (by rfl) ?_; simp only [Act.put, List.setIfInBounds_toArray, List.set_cons_zero, List.set_cons_succ]))
          refine SeqH.step rfl (by rfl) (fun K hK => ?_)
          go_simp
          go_at_call 59
          refine (CIn.out _).mono ?_
          rintro e w7 ⟨rfl, rfl⟩
          try dsimp only
          refine hK.out _ _ (HS17.out.cells) (fun _ => ?_)
          clear hK K
          try simp only [Act.put, List.setIfInBounds_toArray, List.set_cons_zero, List.set_cons_succ]
          repeat (first | (refine SeqH.take (v := ?_) rfl (by rfl) ?_ ?_; rotate_left; (· intro w hSw; (try dsimp only at hSw); obtain ⟨⟨q0, q1, q2, q3⟩, ⟨q4, q5⟩, q6, q7, q8, q9, q10⟩ := hSw; go_simp; (try with_reducible rfl)); simp only [Act.put, List.setIfInBounds_toArray, List.set_cons_zero, List.set_cons_succ]) | (refine SeqH.skip rfl (by rfl) ?_; simp only [Act.put, List.setIfInBounds_toArray, List.set_cons_zero, List.set_cons_succ]))
          refine SeqH.done ?_
          clear HC14
          cases l
          · rw [Bool.false_or] at HNL
            go_wp2_with fail
            have HC15 := Lib.hid (show ByC w B7 wr.heap.size k9 xa (.slice pa xh.length pc) (.slice (some ⟨b, off, none⟩) xg.length qc) fp (.slice fa fr.length fc) ⟨gp, gn, gm, ga, gu⟩ _ from HS17.out.drew.cells)
            have HS15 := Lib.hid (HS17.out.drew)
            refine wp_region_seq [(0, true), (1, true), (2, true), (4, true), (5, true), (3, false), (6, true), (7, true), (8, true)] (ByC w B7 wr.heap.size k9 xa (.slice pa xh.length pc) (.slice (some ⟨b, off, none⟩) xg.length qc) fp (.slice fa fr.length fc) ⟨gp, gn, gm, ga, gu⟩)
              (by kernel_rfl) (by kernel_rfl) (by kernel_rfl) (by kernel_rfl) (fun d _ _ _ _ h => by cases d <;> exact h) HC15.out (fun _ => ?_)
            repeat (first | (refine SeqH.take (v := ?_) rfl (by rfl) ?_ ?_; rotate_left; (· intro w hSw; (try dsimp only at hSw); obtain ⟨⟨q0, q1, q2, q3⟩, ⟨q4, q5⟩, q6, q7, q8, q9, q10⟩ := hSw; go_simp; (try with_reducible rfl)); simp only [Act.put, List.setIfInBounds_toArray, List.set_cons_zero, List.set_cons_succ]) | (refine SeqH.skip rfl (by rfl) ?_; simp only [Act.put, List.setIfInBounds_toArray, List.set_cons_zero, List.set_cons_succ]))
            refine SeqH.step rfl (by rfl) (fun K hK => ?_)
            go_simp
            go_at_call 94
            refine (CE.out _).mono ?_
            rintro e w7 ⟨rfl, hb1⟩
            try dsimp only
            have HS16 := Lib.hid (HS15.out.step hb1)
            clear hb1
            refine hK.out _ _ (HS16.out.cells) (fun _ => ?_)
            clear hK K
            try simp only [Act.put, List.setIfInBounds_toArray, List.set_cons_zero, List.set_cons_succ]
            repeat (first | (refine SeqH.take (v := ?_) rfl (by rfl) ?_ ?_; rotate_left; (· intro w hSw; (try dsimp only at hSw); obtain ⟨⟨q0, q1, q2, q3⟩, ⟨q4, q5⟩, q6, q7, q8, q9, q10⟩ := hSw; go_simp; (try with_reducible rfl)); simp only [Act.put, List.setIfInBounds_toArray, List.set_cons_zero, List.set_cons_succ]) | (refine SeqH.skip rfl (by rfl) ?_; simp only [Act.put, List.setIfInBounds_toArray, List.set_cons_zero, List.set_cons_succ]))
            refine SeqH.done ?_
            have HR := Lib.hid (And.intro HS16.out.1 (And.intro HS16.out.2.1 HS16.out.2.2.2))
            clear HC15 CWr CE
            go_wp2
            go_roundw
            case rel => exact ⟨k + 1, b1, (!b2), b3, by omega, rfl, rfl, rfl, by go_num, Lib.hid ⟨⟨HNE.out.symm, HNW.out.symm, HNL.out.symm⟩, HR.out⟩⟩
            case measure => simp [intOf]; omega
          · rw [Bool.true_or] at HNL
            go_wp2_with fail
            have HC15 := Lib.hid (show ByC w B7 wr.heap.size k9 xa (.slice pa xh.length pc) (.slice (some ⟨b, off, none⟩) xg.length qc) fp (.slice fa fr.length fc) ⟨gp, gn, gm, ga, gu⟩ _ from HS17.out.drew.cells)
            have HS15 := Lib.hid (HS17.out.drew)
            refine wp_region_seq [(0, true), (1, true), (2, true), (4, true), (5, true), (3, false), (6, true), (7, true), (8, true)] (ByC w B7 wr.heap.size k9 xa (.slice pa xh.length pc) (.slice (some ⟨b, off, none⟩) xg.length qc) fp (.slice fa fr.length fc) ⟨gp, gn, gm, ga, gu⟩)
              (by kernel_rfl) (by kernel_rfl) (by kernel_rfl) (by kernel_rfl) (fun d _ _ _ _ h => by cases d <;> exact h) HC15.out (fun _ => ?_)
            repeat (first | (refine SeqH.take (v := ?_) rfl (by rfl) ?_ ?_; rotate_left; (· intro w hSw; (try dsimp only at hSw); obtain ⟨⟨q0, q1, q2, q3⟩, ⟨q4, q5⟩, q6, q7, q8, q9, q10⟩ := hSw; go_simp; (try with_reducible rfl)); simp only [Act.put, List.setIfInBounds_toArray, List.set_cons_zero, List.set_cons_succ]) | (refine SeqH.skip rfl (by rfl) ?_; simp only [Act.put, List.setIfInBounds_toArray, List.set_cons_zero, List.set_cons_succ]) | (refine SeqH.pass rfl (by rfl) (by exact HC15.out) ?_; simp only [Act.put, List.setIfInBounds_toArray, List.set_cons_zero, List.set_cons_succ]))
            refine SeqH.done ?_
            have HR := Lib.hid (And.intro HS15.out.1 (And.intro HS15.out.2.1 HS15.out.2.2.2))
            clear HC15 CWr CE
            go_wp2
            go_roundw
            case rel => exact ⟨k + 1, b1, (!b2), true, by omega, rfl, rfl, rfl, by go_num, Lib.hid ⟨⟨HNE.out.symm, HNW.out.symm, HNL.out.symm⟩, HR.out⟩⟩
            case measure => simp [intOf]; omega
        · rw [Bool.true_or] at HNW
          go_wp2_with fail
          have HC14 := Lib.hid (show ByC w B7 wr.heap.size k9 xa (.slice pa xh.length pc) (.slice (some ⟨b, off, none⟩) xg.length qc) fp (.slice fa fr.length fc) ⟨gp, gn, gm, ga, gu⟩ _ from HS1.out.drew.cells)
          have HS14 := Lib.hid (HS1.out.drew)
          refine wp_region_seq [(0, true), (1, true), (2, true), (3, true), (4, true), (6, true), (7, true), (8, true), (9, true), (5, false), (10, false), (11, true), (12, true), (13, true)] (ByC w B7 wr.heap.size k9 xa (.slice pa xh.length pc) (.slice (some ⟨b, off, none⟩) xg.length qc) fp (.slice fa fr.length fc) ⟨gp, gn, gm, ga, gu⟩)
            (by kernel_rfl) (by kernel_rfl) (by kernel_rfl) (by kernel_rfl) (fun d _ _ _ _ h => by cases d <;> exact h) HC14.out (fun _ => ?_)
          repeat (first | (refine SeqH.take (v := ?_) rfl (by rfl) ?_ ?_; rotate_left; (· intro w hSw; (try dsimp only at hSw); obtain ⟨⟨q0, q1, q2, q3⟩, ⟨q4, q5⟩, q6, q7, q8, q9, q10⟩ := hSw; go_simp; (try with_reducible rfl)); simp only [Act.put, List.setIfInBounds_toArray, List.set_cons_zero, List.set_cons_succ]) | (refine SeqH.skip rfl (by rfl) ?_; simp only [Act.put, List.setIfInBounds_toArray, List.set_cons_zero, List.set_cons_succ]) | (refine SeqH.pass rfl (by rfl) (by exact HC14.out) ?_; simp only [Act.put, List.setIfInBounds_toArray, List.set_cons_zero, List.set_cons_succ]))
          refine SeqH.done ?_
          clear HC14
          cases l
          · rw [Bool.false_or] at HNL
            go_wp2_with fail
            have HC15 := Lib.hid (show ByC w B7 wr.heap.size k9 xa (.slice pa xh.length pc) (.slice (some ⟨b, off, none⟩) xg.length qc) fp (.slice fa fr.length fc) ⟨gp, gn, gm, ga, gu⟩ _ from HS14.out.drew.cells)
            have HS15 := Lib.hid (HS14.out.drew)
            refine wp_region_seq [(0, true), (1, true), (2, true), (4, true), (5, true), (3, false), (6, true), (7, true), (8, true)] (ByC w B7 wr.heap.size k9 xa (.slice pa xh.length pc) (.slice (some ⟨b, off, none⟩) xg.length qc) fp (.slice fa fr.length fc) ⟨gp, gn, gm, ga, gu⟩)
              (by kernel_rfl) (by kernel_rfl) (by kernel_rfl) (by kernel_rfl) (fun d _ _ _ _ h => by cases d <;> exact h) HC15.out (fun _ => ?_)
            repeat (first | (refine SeqH.take (v := ?_) rfl (by rfl) ?_ ?_; rotate_left; (· intro w hSw; (try dsimp only at hSw); obtain ⟨⟨q0, q1, q2, q3⟩, ⟨q4, q5⟩, q6, q7, q8, q9, q10⟩ := hSw; go_simp; (try with_reducible rfl)); simp only [Act.put, List.setIfInBounds_toArray, List.set_cons_zero, List.set_cons_succ]) | (refine SeqH.skip rfl (by rfl) ?_; simp only [Act.put, List.setIfInBounds_toArray, List.set_cons_zero, List.set_cons_succ]))
            refine SeqH.step rfl (by rfl) (fun K hK => ?_)
            go_simp
            go_at_call 94
            refine (CE.out _).mono ?_
            rintro e w7 ⟨rfl, hb1⟩
            try dsimp only
            have HS16 := Lib.hid (HS15.out.step hb1)
            clear hb1
            refine hK.out _ _ (HS16.out.cells) (fun _ => ?_)
            clear hK K
            try simp only [Act.put, List.setIfInBounds_toArray, List.set_cons_zero, List.set_cons_succ]
            repeat (first | (refine SeqH.take (v := ?_) rfl (by rfl) ?_ ?_; rotate_left; (· intro w hSw; (try dsimp only at hSw); obtain ⟨⟨q0, q1, q2, q3⟩, ⟨q4, q5⟩, q6, q7, q8, q9, q10⟩ := hSw; go_simp; (try with_reducible rfl)); simp only [Act.put, List.setIfInBounds_toArray, List.set_cons_zero, List.set_cons_succ]) | (refine SeqH.skip rfl (by rfl) ?_; simp only [Act.put, List.setIfInBounds_toArray, List.set_cons_zero, List.set_cons_succ]))
            refine SeqH.done ?_
            have HR := Lib.hid (And.intro HS16.out.1 (And.intro HS16.out.2.1 HS16.out.2.2.2))
            clear HC15 CWr CE
            go_wp2
            go_roundw
            case rel => exact ⟨k + 1, b1, true, b3, by omega, rfl, rfl, rfl, by go_num, Lib.hid ⟨⟨HNE.out.symm, HNW.out.symm, HNL.out.symm⟩, HR.out⟩⟩
            case measure => simp [intOf]; omega
          · rw [Bool.true_or] at HNL
            go_wp2_with fail
            have HC15 := Lib.hid (show ByC w B7 wr.heap.size k9 xa (.slice pa xh.length pc) (.slice (some ⟨b, off, none⟩) xg.length qc) fp (.slice fa fr.length fc) ⟨gp, gn, gm, ga, gu⟩ _ from HS14.out.drew.cells)
            have HS15 := Lib.hid (HS14.out.drew)
            refine wp_region_seq [(0, true), (1, true), (2, true), (4, true), (5, true), (3, false), (6, true), (7, true), (8, true)] (ByC w B7 wr.heap.size k9 xa (.slice pa xh.length pc) (.slice (some ⟨b, off, none⟩) xg.length qc) fp (.slice fa fr.length fc) ⟨gp, gn, gm, ga, gu⟩)
              (by kernel_rfl) (by kernel_rfl) (by kernel_rfl) (by kernel_rfl) (fun d _ _ _ _ h => by cases d <;> exact h) HC15.out (fun _ => ?_)
            repeat (first | (refine SeqH.take (v := ?_) rfl (by rfl) ?_ ?_; rotate_left; (· intro w hSw; (try dsimp only at hSw); obtain ⟨⟨q0, q1, q2, q3⟩, ⟨q4, q5⟩, q6, q7, q8, q9, q10⟩ := hSw; go_simp; (try with_reducible rfl)); simp only [Act.put, List.setIfInBounds_toArray, List.set_cons_zero, List.set_cons_succ]) | (refine SeqH.skip rfl (by rfl) ?_; simp only [Act.put, List.setIfInBounds_toArray, List.set_cons_zero, List.set_cons_succ]) | (refine SeqH.pass rfl (by rfl) (by exact HC15.out) ?_; simp only [Act.put, List.setIfInBounds_toArray, List.set_cons_zero, List.set_cons_succ]))
            refine SeqH.done ?_
            have HR := Lib.hid (And.intro HS15.out.1 (And.intro HS15.out.2.1 HS15.out.2.2.2))
            clear HC15 CWr CE
            go_wp2
            go_roundw
            case rel => exact ⟨k + 1, b1, true, true, by omega, rfl, rfl, rfl, by go_num, Lib.hid ⟨⟨HNE.out.symm, HNW.out.symm, HNL.out.symm⟩, HR.out⟩⟩
            case measure => simp [intOf]; omega
      · rw [Bool.true_or] at HNE
        go_wp2_with fail
        cases w2
        · rw [Bool.false_or] at HNW
          go_wp2_with fail
          have HC14 := Lib.hid (show ByC w B7 wr.heap.size k9 xa (.slice pa xh.length pc) (.slice (some ⟨b, off, none⟩) xg.length qc) fp (.slice fa fr.length fc) ⟨gp, gn, gm, ga, gu⟩ _ from HS1.out.drew.cells)
          have HS14 := Lib.hid (HS1.out.drew)
          refine wp_region_seq [(0, true), (1, true), (2, true), (3, true), (4, true), (6, true), (7, true), (8, true), (9, true), (5, false), (10, false), (11, true), (12, true), (13, true)] (ByC w B7 wr.heap.size k9 xa (.slice pa xh.length pc) (.slice (some ⟨b, off, none⟩) xg.length qc) fp (.slice fa fr.length fc) ⟨gp, gn, gm, ga, gu⟩)
            (by kernel_rfl) (by kernel_rfl) (by kernel_rfl) (by kernel_rfl) (fun d _ _ _ _ h => by cases d <;> exact h) HC14.out (fun _ => ?_)
          repeat (first | (refine SeqH.take (v := ?_) rfl (by rfl) ?_ ?_; rotate_left; (· intro w hSw; (try dsimp only at hSw); obtain ⟨⟨q0, q1, q2, q3⟩, ⟨q4, q5⟩, q6, q7, q8, q9, q10⟩ := hSw; go_simp; (try with_reducible rfl)); simp only [Act.put, List.setIfInBounds_toArray, List.set_cons_zero, List.set_cons_succ]) | (refine SeqH.skip rfl (by rfl) ?_; simp only [Act.put, List.setIfInBounds_toArray, List.set_cons_zero, List.set_cons_succ]))
          refine SeqH.step rfl (by rfl) (fun K hK => ?_)
          go_simp
          go_at_call 75
          refine (CWr.out _ HS14.out.2.2.2).mono ?_
          rintro e w7 ⟨rfl, hb1⟩
          try dsimp only
          have HS17 := Lib.hid (HS14.out.step hb1)
          clear hb1
          refine hK.out _ _ (HS17.out.cells) (fun _ => ?_)
          clear hK K
          try simp only [Act.put, List.setIfInBounds_toArray, List.set_cons_zero, List.set_cons_succ]
          repeat (first | (refine SeqH.take (v := ?_) rfl (by rfl) ?_ ?_; rotate_left; (· intro w hSw; (try dsimp only at hSw); obtain ⟨⟨q0, q1, q2, q3⟩, ⟨q4, q5⟩, q6, q7, q8, q9, q10⟩ := hSw; go_simp; (try with_reducible rfl)); simp only [Act.put, List.setIfInBounds_toArray, List.set_cons_zero, List.set_cons_succ]) | (refine SeqH.skip rfl (by rfl) ?_; simp only [Act.put, List.setIfInBounds_toArray, List.set_cons_zero, List.set_cons_succ]))
          refine SeqH.step rfl (by rfl) (fun K hK => ?_)
          go_simp
          go_at_call 59
          refine (CIn.out _).mono ?_
          rintro e w7 ⟨rfl, rfl⟩
          try dsimp only
          refine hK.out _ _ (HS17.out.cells) (fun _ => ?_)
          clear hK K
          try simp only [Act.put, List.setIfInBounds_toArray, List.set_cons_zero, List.set_cons_succ]
          repeat (first | (refine SeqH.take (v := ?_) rfl (by rfl) ?_ ?_; rotate_left; (· intro w hSw; (try dsimp only at hSw); obtain ⟨⟨q0, q1, q2, q3⟩, ⟨q4, q5⟩, q6, q7, q8, q9, q10⟩ := hSw; go_simp; (try with_reducible rfl)); simp only [Act.put, List.setIfInBounds_toArray, List.set_cons_zero, List.set_cons_succ]) | (refine SeqH.skip rfl (by rfl) ?_; simp only [Act.put, List.setIfInBounds_toArray, List.set_cons_zero, List.set_cons_succ]))
          refine SeqH.done ?_
          clear HC14
          cases l
          · rw [Bool.false_or] at HNL
            go_wp2_with fail
            have HC15 := Lib.hid (show ByC w B7 wr.heap.size k9 xa (.slice pa xh.length pc) (.slice (some ⟨b, off, none⟩) xg.length qc) fp (.slice fa fr.length fc) ⟨gp, gn, gm, ga, gu⟩ _ from HS17.out.drew.cells)
            have HS15 := Lib.hid (HS17.out.drew)
            refine wp_region_seq [(0, true), (1, true), (2, true), (4, true), (5, true), (3, false), (6, true), (7, true), (8, true)] (ByC w B7 wr.heap.size k9 xa (.slice pa xh.length pc) (.slice (some ⟨b, off, none⟩) xg.length qc) fp (.slice fa fr.length fc) ⟨gp, gn, gm, ga, gu⟩)
              (by kernel_rfl) (by kernel_rfl) (by kernel_rfl) (by kernel_rfl) (fun d _ _ _ _ h => by cases d <;> exact h) HC15.out (fun _ => ?_)
            repeat (first | (refine SeqH.take (v := ?_) rfl (by rfl) ?_ ?_; rotate_left; (· intro w hSw; (try dsimp only at hSw); obtain ⟨⟨q0, q1, q2, q3⟩, ⟨q4, q5⟩, q6, q7, q8, q9, q10⟩ := hSw; go_simp; (try with_reducible rfl)); simp only [Act.put, List.setIfInBounds_toArray, List.set_cons_zero, List.set_cons_succ]) | (refine SeqH.skip rfl (by rfl) ?_; simp only [Act.put, List.setIfInBounds_toArray, List.set_cons_zero, List.set_cons_succ]))
            refine SeqH.step rfl (by rfl) (fun K hK => ?_)
            go_simp
            go_at_call 94
            refine (CE.out _).mono ?_
            rintro e w7 ⟨rfl, hb1⟩
            try dsimp only
            have HS16 := Lib.hid (HS15.out.step hb1)
            clear hb1
            refine hK.out _ _ (HS16.out.cells) (fun _ => ?_)
            clear hK K
            try simp only [Act.put, List.setIfInBounds_toArray, List.set_cons_zero, List.set_cons_succ]
            repeat (first | (refine SeqH.take (v := ?_) rfl (by rfl) ?_ ?_; rotate_left; (· intro w hSw; (try dsimp only at hSw); obtain ⟨⟨q0, q1, q2, q3⟩, ⟨q4, q5⟩, q6, q7, q8, q9, q10⟩ := hSw; go_simp; (try with_reducible rfl)); simp only [Act.put, List.setIfInBounds_toArray, List.set_cons_zero, List.set_cons_succ]) | (refine SeqH.skip rfl (by rfl) ?_; simp only [Act.put, List.setIfInBounds_toArray, List.set_cons_zero, List.set_cons_succ]))
            refine SeqH.done ?_
            have HR := Lib.hid (And.intro HS16.out.1 (And.intro HS16.out.2.1 HS16.out.2.2.2))
            clear HC15 CWr CE
            go_wp2
            go_roundw
            case rel => exact ⟨k + 1, true, (!b2), b3, by omega, rfl, rfl, rfl, by go_num, Lib.hid ⟨⟨HNE.out.symm, HNW.out.symm, HNL.out.symm⟩, HR.out⟩⟩
            case measure => simp [intOf]; omega
          · rw [Bool.true_or] at HNL
            go_wp2_with fail
            have HC15 := Lib.hid (show ByC w B7 wr.heap.size k9 xa (.slice pa xh.length pc) (.slice (some ⟨b, off, none⟩) xg.length qc) fp (.slice fa fr.length fc) ⟨gp, gn, gm, ga, gu⟩ _ from HS17.out.drew.cells)
            have HS15 := Lib.hid (HS17.out.drew)
            refine wp_region_seq [(0, true), (1, true), (2, true), (4, true), (5, true), (3, false), (6, true), (7, true), (8, true)] (ByC w B7 wr.heap.size k9 xa (.slice pa xh.length pc) (.slice (some ⟨b, off, none⟩) xg.length qc) fp (.slice fa fr.length fc) ⟨gp, gn, gm, ga, gu⟩)
              (by kernel_rfl) (by kernel_rfl) (by kernel_rfl) (by kernel_rfl) (fun d _ _ _ _ h => by cases d <;> exact h) HC15.out (fun _ => ?_)
            repeat (first | (refine SeqH.take (v := ?_) rfl (by rfl) ?_ ?_; rotate_left; (· intro w hSw; (try dsimp only at hSw); obtain ⟨⟨q0, q1, q2, q3⟩, ⟨q4, q5⟩, q6, q7, q8, q9, q10⟩ := hSw; go_simp; (try with_reducible rfl)); simp only [Act.put, List.setIfInBounds_toArray, List.set_cons_zero, List.set_cons_succ]) | (refine SeqH.skip rfl (by rfl) ?_; simp only [Act.put, List.setIfInBounds_toArray, List.set_cons_zero, List.set_cons_succ]) | (refine SeqH.pass rfl (by rfl) (by exact HC15.out) ?_; simp only [Act.put, List.setIfInBounds_toArray, List.set_cons_zero, List.set_cons_succ]))
            refine SeqH.done ?_
            have HR := Lib.hid (And.intro HS15.out.1 (And.intro HS15.out.2.1 HS15.out.2.2.2))
            clear HC15 CWr CE
            go_wp2
            go_roundw
            case rel => exact ⟨k + 1, true, (!b2), true, by omega, rfl, rfl, rfl, by go_num, Lib.hid ⟨⟨HNE.out.symm, HNW.out.symm, HNL.out.symm⟩, HR.out⟩⟩
            case measure => simp [intOf]; omega
        · rw [Bool.true_or] at HNW
          go_wp2_with fail
          have HC14 := Lib.hid (show ByC w B7 wr.heap.size k9 xa (.slice pa xh.length pc) (.slice (some ⟨b, off, none⟩) xg.length qc) fp (.slice fa fr.length fc) ⟨gp, gn, gm, ga, gu⟩ _ from HS1.out.drew.cells)
          have HS14 := Lib.hid (HS1.out.drew)
          refine wp_region_seq [(0, true), (1, true), (2, true), (3, true), (4, true), (6, true), (7, true), (8, true), (9, true), (5, false), (10, false), (11, true), (12, true), (13, true)] (ByC w B7 wr.heap.size k9 xa (.slice pa xh.length pc) (.slice (some ⟨b, off, none⟩) xg.length qc) fp (.slice fa fr.length fc) ⟨gp, gn, gm, ga, gu⟩)
            (by kernel_rfl) (by kernel_rfl) (by kernel_rfl) (by kernel_rfl) (fun d _ _ _ _ h => by cases d <;> exact h) HC14.out (fun _ => ?_)
          repeat (first | (refine SeqH.take (v := ?_) rfl (by rfl) ?_ ?_; rotate_left; (· intro w hSw; (try dsimp only at hSw); obtain ⟨⟨q0, q1, q2, q3⟩, ⟨q4, q5⟩, q6, q7, q8, q9, q10⟩ := hSw; go_simp; (try with_reducible rfl)); simp only [Act.put, List.setIfInBounds_toArray, List.set_cons_zero, List.set_cons_succ]) | (refine SeqH.skip rfl (by rfl) ?_; simp only [Act.put, List.setIfInBounds_toArray, List.set_cons_zero, List.set_cons_succ]) | (refine SeqH.pass rfl (by rfl) (by exact HC14.out) ?_; simp only [Act.put, List.setIfInBounds_toArray, List.set_cons_zero, List.set_cons_succ]))
          refine SeqH.done ?_
          clear HC14
          cases l
          · rw [Bool.false_or] at HNL
            go_wp2_with fail
            have HC15 := Lib.hid (show ByC w B7 wr.heap.size k9 xa (.slice pa xh.length pc) (.slice (some ⟨b, off, none⟩) xg.length qc) fp (.slice fa fr.length fc) ⟨gp, gn, gm, ga, gu⟩ _ from HS14.out.drew.cells)
            have HS15 := Lib.hid (HS14.out.drew)
            refine wp_region_seq [(0, true), (1, true), (2, true), (4, true), (5, true), (3, false), (6, true), (7, true), (8, true)] (ByC w B7 wr.heap.size k9 xa (.slice pa xh.length pc) (.slice (some ⟨b, off, none⟩) xg.length qc) fp (.slice fa fr.length fc) ⟨gp, gn, gm, ga, gu⟩)
              (by kernel_rfl) (by kernel_rfl) (by kernel_rfl) (by kernel_rfl) (fun d _ _ _ _ h => by cases d <;> exact h) HC15.out (fun _ => ?_)
            repeat (first | (refine SeqH.take (v := ?_) rfl (by rfl) ?_ ?_; rotate_left; (· intro w hSw; (try dsimp only at hSw); obtain ⟨⟨q0, q1, q2, q3⟩, ⟨q4, q5⟩, q6, q7, q8, q9, q10⟩ := hSw; go_simp; (try with_reducible rfl)); simp only [Act.put, List.setIfInBounds_toArray, List.set_cons_zero, List.set_cons_succ]) | (refine SeqH.skip rfl (by rfl) ?_; simp only [Act.put, List.setIfInBounds_toArray, List.set_cons_zero, List.set_cons_succ]))
            refine SeqH.step rfl (by rfl) (fun K hK => ?_)
            go_simp
            go_at_call 94
            refine (CE.out _).mono ?_
            rintro e w7 ⟨rfl, hb1⟩
            try dsimp only
            have HS16 := Lib.hid (HS15.out.step hb1)
            clear hb1
            refine hK.out _ _ (HS16.out.cells) (fun _ => ?_)
            clear hK K
            try simp only [Act.put, List.setIfInBounds_toArray, List.set_cons_zero, List.set_cons_succ]
            repeat (first | (refine SeqH.take (v := ?_) rfl (by rfl) ?_ ?_; rotate_left; (· intro w hSw; (try dsimp only at hSw); obtain ⟨⟨q0, q1, q2, q3⟩, ⟨q4, q5⟩, q6, q7, q8, q9, q10⟩ := hSw; go_simp; (try with_reducible rfl)); simp only [Act.put, List.setIfInBounds_toArray, List.set_cons_zero, List.set_cons_succ]) | (refine SeqH.skip rfl (by rfl) ?_; simp only [Act.put, List.setIfInBounds_toArray, List.set_cons_zero, List.set_cons_succ]))
            refine SeqH.done ?_
            have HR := Lib.hid (And.intro HS16.out.1 (And.intro HS16.out.2.1 HS16.out.2.2.2))
            clear HC15 CWr CE
            go_wp2
            go_roundw
            case rel => exact ⟨k + 1, true, true, b3, by omega, rfl, rfl, rfl, by go_num, Lib.hid ⟨⟨HNE.out.symm, HNW.out.symm, HNL.out.symm⟩, HR.out⟩⟩
            case measure => simp [intOf]; omega
          · rw [Bool.true_or] at HNL
            go_wp2_with fail
            have HC15 := Lib.hid (show ByC w B7 wr.heap.size k9 xa (.slice pa xh.length pc) (.slice (some ⟨b, off, none⟩) xg.length qc) fp (.slice fa fr.length fc) ⟨gp, gn, gm, ga, gu⟩ _ from HS14.out.drew.cells)
            have HS15 := Lib.hid (HS14.out.drew)
            refine wp_region_seq [(0, true), (1, true), (2, true), (4, true), (5, true), (3, false), (6, true), (7, true), (8, true)] (ByC w B7 wr.heap.size k9 xa (.slice pa xh.length pc) (.slice (some ⟨b, off, none⟩) xg.length qc) fp (.slice fa fr.length fc) ⟨gp, gn, gm, ga, gu⟩)
              (by kernel_rfl) (by kernel_rfl) (by kernel_rfl) (by kernel_rfl) (fun d _ _ _ _ h => by cases d <;> exact h) HC15.out (fun _ => ?_)
            repeat (first | (refine SeqH.take (v := ?_) rfl (by rfl) ?_ ?_; rotate_left; (· intro w hSw; (try dsimp only at hSw); obtain ⟨⟨q0, q1, q2, q3⟩, ⟨q4, q5⟩, q6, q7, q8, q9, q10⟩ := hSw; go_simp; (try with_reducible rfl)); simp only [Act.put, List.setIfInBounds_toArray, List.set_cons_zero, List.set_cons_succ]) | (refine SeqH.skip rfl (by rfl) ?_; simp only [Act.put, List.setIfInBounds_toArray, List.set_cons_zero, List.set_cons_succ]) | (refine SeqH.pass rfl (by rfl) (by exact HC15.out) ?_; simp only [Act.put, List.setIfInBounds_toArray, List.set_cons_zero, List.set_cons_succ]))
            refine SeqH.done ?_
            have HR := Lib.hid (And.intro HS15.out.1 (And.intro HS15.out.2.1 HS15.out.2.2.2))
            clear HC15 CWr CE
            go_wp2
            go_roundw
            case rel => exact ⟨k + 1, true, true, true, by omega, rfl, rfl, rfl, by go_num, Lib.hid ⟨⟨HNE.out.symm, HNW.out.symm, HNL.out.symm⟩, HR.out⟩⟩
            case measure => simp [intOf]; omega
    · obtain rfl : k = xg.length := by omega
      have HFL : Hid (e = decide (xa < ta) ∧ w2 = (!Lf.rng tn tm WM) ∧ l = decide (tu < EE)) := Lib.hid ⟨hg.out.1.1.trans HTE.out, hg.out.1.2.1.trans HTW.out, hg.out.1.2.2.trans HTL.out⟩
      have HB := Lib.hid hg.out.2.2.2
      have HCE2 : Hid (R = if e = true then 7 else if w2 = true then 9 else if l = true then 12 else 0) := Lib.hid (by
        rw [HCE.out, HFL.out.1, HFL.out.2.1, HFL.out.2.2]
        exact sw_eq)
      clear hg HTE HTL HTW HCE HFL
      cases e
      · cases w2
        · cases l
          · go_wp2
            go_ret
            exact ⟨ret_int HCE2.out.symm, HB.out⟩
          · go_wp2
            go_ret
            exact ⟨ret_int HCE2.out.symm, HB.out⟩
        · go_wp2
          go_ret
          exact ⟨ret_int HCE2.out.symm, HB.out⟩
      · go_wp2
        go_ret
        exact ⟨ret_int HCE2.out.symm, HB.out⟩
end Go.Proofs.Ytabfcnfddemblaa.Lo
