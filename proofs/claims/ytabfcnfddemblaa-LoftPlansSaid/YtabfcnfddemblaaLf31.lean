/- The first proof: of the program and of the reference. -/
import Derived.Test.YtabfcnfddemblaaLf30
namespace Go.Proofs.Ytabfcnfddemblaa.Lo
open Go.RowKit

def fwB (c : Nat → Bool) : Nat → Nat → Option Nat
  | 0, _ => none
  | n + 1, d => if c d = true then some d else fwB c n (d + 1)
def fwA (c : Nat → Nat → Bool) : Nat → Nat → Option (Nat × Nat)
  | 0, _ => none
  | n + 1, k => match fwB (c k) (61 - k) k with
    | some b => some (k, b)
    | none => fwA c n (k + 1)
theorem fwB_step (c : Nat → Bool) {d : Nat} (h : d ≤ 60) : fwB c (61 - d) d = if c d = true then some d else fwB c (61 - (d + 1)) (d + 1) := by
  rw [show 61 - d = (61 - (d + 1)) + 1 by omega, fwB]
theorem fwA_some {c : Nat → Nat → Bool} {k b : Nat} (h : k ≤ 60) (hb : fwB (c k) (61 - k) k = some b) : fwA c (61 - k) k = some (k, b) := by
  have e : fwA c ((61 - (k + 1)) + 1) k = some (k, b) := by rw [fwA, hb]
  rw [show 61 - k = (61 - (k + 1)) + 1 by omega]; exact e
theorem fwA_none {c : Nat → Nat → Bool} {k : Nat} (h : k ≤ 60) (hb : fwB (c k) (61 - k) k = none) : fwA c (61 - k) k = fwA c (61 - (k + 1)) (k + 1) := by
  have e : fwA c ((61 - (k + 1)) + 1) k = fwA c (61 - (k + 1)) (k + 1) := by rw [fwA, hb]
  rw [show 61 - k = (61 - (k + 1)) + 1 by omega]; exact e
def pv (ls : List Lf.F) (gs : List Lf.G) : Option (Nat × Nat) := if Lf.bthE ls gs = 0 then fwA (fun (k d : Nat) => Lf.prf ls gs k d) 61 0 else none
def oa (o : Option (Nat × Nat)) : Int := match o with | some p => (p.1 : Int) | none => 0
def ob (o : Option (Nat × Nat)) : Int := match o with | some p => (p.2 : Int) | none => 0
def oV (o : Option (Nat × Nat)) (E : Int) : Value := .tuple #[winV (oa o) (ob o), .bool o.isSome, .int .i64 E]
theorem wOk_nat {k d : Nat} (h : k ≤ d) (h2 : d ≤ 60) : Lf.wOk (k : Int) (d : Int) = true := Lf.wOk_iff.2 ⟨by omega, by omega, by omega⟩
set_option maxRecDepth 100000 in
set_option maxHeartbeats 8000000 in
theorem proveF_any (u v : Value) (ls : List Lf.F) (gs : List Lf.G) (w : World) (hu : Lofts w u ls) (hv : Goods w v gs) :
    Calls Try.prog 53 #[u, v] w fun e w' => e = .returned (oV (pv ls gs) (Lf.bthE ls gs)) ∧ Below w.heap.size w w' := by
  have HBW := Lib.hid (And.intro (BlockAt.new w (winA 0 0) WinT) (below_alloc2 (Below.refl w.heap.size w) (.cells (winA 0 0) WinT)))
  have CB := Lib.hid (fun W (hW : Below w.heap.size w W) => both_any u v ls gs W (hu.all hW) (hv.all hW))
  have CP := Lib.hid (fun W (hW : Below w.heap.size w W) h1 h2 => polesOf_any u ls W (hu.all hW) h1 h2)
  have CT := Lib.hid (fun W (hW : Below w.heap.size w W) h1 h2 h3 h4 => staysOf_any u v ls gs W (hu.all hW) (hv.all hW) h1 h2 h3 h4)
  have CI := Lib.hid (fun (k d : Nat) x W h h1 h2 h3 h4 => isProof_any x ls gs k d W h h1 h2 h3 h4)
  have HPV : Hid (pv ls gs = if Lf.bthE ls gs = 0 then fwA (fun (k d : Nat) => Lf.prf ls gs k d) (61 - 0) 0 else none) := Lib.hid rfl
  have HBE := Lib.hid (fun h => bth_ok (ls := ls) (gs := gs) h)
  obtain ⟨ua, uc, rfl⟩ := hu.form
  obtain ⟨va, vc, rfl⟩ := hv.form
  clear hu hv
  generalize pv ls gs = F at *
  by_cases hz : Lf.bthE ls gs = 0
  case neg =>
    have e1 : F = none := by rw [HPV.out, if_neg hz]
    subst e1
    generalize Lf.bthE ls gs = E at *
    have hd : (E == 0) = false := beq_eq_false_iff_ne.2 hz
    have hd2 : (E != 0) = true := by rw [bne, hd]; rfl
    clear CT CI HBE HPV CP
    go_enter Try.func53, Try.ntmps53
    go_wp2_with fail
    refine (CB.out _ HBW.out.2).mono ?_
    rintro e w1 ⟨rfl, hb1⟩
    have H1 := Lib.hid (And.intro (HBW.out.1.below hb1 HBW.out.1.lt) (below_step HBW.out.2 hb1))
    clear hb1
    have r0 := H1.out.1.frozen 0
    have r1 := H1.out.1.frozen 1
    have t0 : World.cell? _ _ = some (.int .i64 0) := H1.out.1.cell 0
    have t1 : World.cell? _ _ = some (.int .i64 0) := H1.out.1.cell 1
    have hlt1 := H1.out.1.lt
    go_wp2
    have HR := Lib.hid ((H1.out.1.set 0 (.int .i64 0)).set 1 (.int .i64 0))
    have v0 : World.cell? _ _ = some (.int .i64 0) := HR.out.cell 0
    have v1 : World.cell? _ _ = some (.int .i64 0) := HR.out.cell 1
    refine bodyPost_ret (v := oV none E) (by simp [results, Try.results53, go_sem, v0, v1, oV, oa, ob, winV]) rfl ⟨rfl, ?_⟩
    exact below_set (below_set H1.out.2 (by omega) _) (by omega) _
  rw [if_pos hz] at HPV
  rw [hz] at CB
  rw [hz]
  obtain ⟨h1, h2, h3, h4⟩ := HBE.out hz
  have CT1 := Lib.hid (fun W hW => CT.out W hW h1 h2 h3 h4)
  have CP1 := Lib.hid (fun W hW => CP.out W hW h1 h2)
  have CI1 := Lib.hid (fun (k d : Nat) x W h => CI.out k d x W h h1 h2 h3 h4)
  clear CP CT CI hz h1 h2 h3 h4 HBE
  generalize Lf.pls ls ls.length = P at *
  generalize hc : (fun (k d : Nat) => Lf.prf ls gs k d) = c at *
  have CI2 : Hid (∀ (k d : Nat) x W, Stays W x (sts ls gs) → Calls Try.prog 106 #[.int .i64 P, x, winV k d] W fun e w' => e = .returned (.bool (c k d)) ∧ Below W.heap.size W w') := Lib.hid (by intro k d x W h; rw [← hc]; exact CI1.out k d x W h)
  clear CI1 hc
  generalize sts ls gs = X at *
  go_enter Try.func53, Try.ntmps53
  go_wp2_with fail
  refine (CB.out _ HBW.out.2).mono ?_
  rintro e w1 ⟨rfl, hb1⟩
  have H1 := Lib.hid (And.intro (HBW.out.1.below hb1 HBW.out.1.lt) (below_step HBW.out.2 hb1))
  clear hb1 HBW CB
  go_wp2_with fail
  refine (CP1.out _ H1.out.2).mono ?_
  rintro e w2 ⟨rfl, hb1⟩
  have H2 := Lib.hid (And.intro (H1.out.1.below hb1 H1.out.1.lt) (below_step H1.out.2 hb1))
  clear hb1 H1
  go_wp2_with fail
  refine (CT1.out _ H2.out.2).mono ?_
  rintro e w3 ⟨xa, xc, rfl, ho, hb1⟩
  have H3 := Lib.hid (And.intro ho (And.intro (H2.out.1.below hb1 H2.out.1.lt) (below_step H2.out.2 hb1)))
  clear ho hb1 H2 CT1
  go_wp2
  go_loopw [25] (fun t wr => ∃ k : Nat, k ≤ 61 ∧ t = .int .i64 k ∧ Hid (F = fwA c (61 - k) k ∧ Below w3.heap.size w3 wr)) (fun t _ => 62 - (intOf t).toNat)
  case atStart => exact ⟨0, by omega, rfl, Lib.hid ⟨HPV.out, Below.refl _ _⟩⟩
  case round =>
    obtain ⟨k, hk, rfl, hg⟩ := hrel
    clear HPV
    by_cases hlt : k ≤ 60
    · obtain ⟨G, hG⟩ : ∃ G, G = fwB (c k) (61 - k) k := ⟨_, rfl⟩
      have HG := Lib.hid hG
      have HFS := Lib.hid (fun b (h : G = some b) => hg.out.1.trans (fwA_some hlt (hG.symm.trans h)))
      have HFN := Lib.hid (fun (h : G = none) => hg.out.1.trans (fwA_none hlt (hG.symm.trans h)))
      have HW := Lib.hid hg.out.2
      clear hg hG
      have hd61 : decide ((k : Int) < 61) = true := decide_eq_true (by omega)
      have hd61b : decide (k < 61) = true := decide_eq_true (by omega)
      have hd60 : decide ((k : Int) ≤ 60) = true := decide_eq_true (by omega)
      have hd60b : decide (k ≤ 60) = true := decide_eq_true (by omega)
      go_wp2
      go_loopw [11] (fun t wr => ∃ d : Nat, (k ≤ d ∧ d ≤ 61) ∧ t = .int .i64 d ∧ Hid (G = fwB (c k) (61 - d) d ∧ Below w3.heap.size w3 wr)) (fun t _ => 62 - (intOf t).toNat)
      case atStart => exact ⟨k, ⟨by omega, by omega⟩, rfl, Lib.hid ⟨HG.out, HW.out⟩⟩
      case round =>
        obtain ⟨d, ⟨hkd, hd⟩, rfl, hg⟩ := hrel
        clear HG HW
        by_cases hld : d ≤ 60
        · have HST := Lib.hid (hg.out.1.trans (fwB_step (c k) hld))
          have HX := Lib.hid (And.intro (BlockAt.new wr (winA k d) WinT) (below_alloc2 hg.out.2 (.cells (winA k d) WinT)))
          have x0 : World.cell? _ _ = some (.int .i64 (k : Int)) := HX.out.1.cell 0
          have x1 : World.cell? _ _ = some (.int .i64 (d : Int)) := HX.out.1.cell 1
          have CI3 := Lib.hid (CI2.out k d (.slice xa X.length xc) _ (OwnG.rows stC_len (H3.out.1.all HX.out.2)))
          clear hg
          cases hc : c k d
          · rw [hc] at CI3
            have HN := Lib.hid (HST.out.trans (if_neg (by rw [hc]; decide)))
            clear HST hc
            go_wp2_with fail
            refine CI3.out.mono ?_
            rintro e w7 ⟨rfl, hb1⟩
            have HB2 := Lib.hid (below_step HX.out.2 hb1)
            clear hb1 x0 x1 CI3
            go_wp2
            go_roundw
            case rel => exact ⟨d + 1, ⟨by omega, by omega⟩, by go_num, Lib.hid ⟨HN.out, HB2.out⟩⟩
            case measure => simp [intOf]; omega
          · rw [hc] at CI3
            have HF := Lib.hid (HFS.out d (HST.out.trans (if_pos hc)))
            have e9 := HF.out
            clear HST hc HF HFS HFN
            subst e9
            go_wp2_with fail
            refine CI3.out.mono ?_
            rintro e w7 ⟨rfl, hb1⟩
            have HB2 := Lib.hid (And.intro ((H3.out.2.1.below (below_step HX.out.2 hb1) H3.out.2.1.lt)) (And.intro (HX.out.1.below hb1 HX.out.1.lt) (below_step H3.out.2.2 (below_step HX.out.2 hb1))))
            clear hb1 x0 x1 CI3
            have x0 : World.cell? _ _ = some (.int .i64 (k : Int)) := HB2.out.2.1.cell 0
            have x1 : World.cell? _ _ = some (.int .i64 (d : Int)) := HB2.out.2.1.cell 1
            have r0 := HB2.out.1.frozen 0
            have r1 := HB2.out.1.frozen 1
            have t0 : World.cell? _ _ = some (.int .i64 0) := HB2.out.1.cell 0
            have t1 : World.cell? _ _ = some (.int .i64 0) := HB2.out.1.cell 1
            have hlt1 := HB2.out.1.lt
            go_wp2
            have HR := Lib.hid ((HB2.out.1.set 0 (.int .i64 (k : Int))).set 1 (.int .i64 (d : Int)))
            have v0 : World.cell? _ _ = some (.int .i64 (k : Int)) := HR.out.cell 0
            have v1 : World.cell? _ _ = some (.int .i64 (d : Int)) := HR.out.cell 1
            refine bodyPost_ret (v := oV (some (k, d)) 0) (by simp [results, Try.results53, go_sem, v0, v1, oV, oa, ob, winV]) rfl ⟨rfl, ?_⟩
            exact below_set (below_set HB2.out.2.2 (by omega) _) (by omega) _
        · obtain rfl : d = 61 := by omega
          have HF := Lib.hid (HFN.out hg.out.1)
          have HW := Lib.hid hg.out.2
          clear hg HFS HFN
          go_wp2
          go_roundw
          case rel => exact ⟨k + 1, by omega, by go_num, Lib.hid ⟨HF.out, HW.out⟩⟩
          case measure => simp [intOf]; omega
    · obtain rfl : k = 61 := by omega
      have e9 : F = none := hg.out.1
      subst e9
      have HB2 := Lib.hid (And.intro (H3.out.2.1.below hg.out.2 H3.out.2.1.lt) (below_step H3.out.2.2 hg.out.2))
      clear hg
      have r0 := HB2.out.1.frozen 0
      have r1 := HB2.out.1.frozen 1
      have t0 : World.cell? _ _ = some (.int .i64 0) := HB2.out.1.cell 0
      have t1 : World.cell? _ _ = some (.int .i64 0) := HB2.out.1.cell 1
      have hlt1 := HB2.out.1.lt
      go_wp2
      have HR := Lib.hid ((HB2.out.1.set 0 (.int .i64 0)).set 1 (.int .i64 0))
      have v0 : World.cell? _ _ = some (.int .i64 0) := HR.out.cell 0
      have v1 : World.cell? _ _ = some (.int .i64 0) := HR.out.cell 1
      refine bodyPost_ret (v := oV none 0) (by simp [results, Try.results53, go_sem, v0, v1, oV, oa, ob, winV]) rfl ⟨rfl, ?_⟩
      exact below_set (below_set HB2.out.2 (by omega) _) (by omega) _
set_option maxRecDepth 100000 in
set_option maxHeartbeats 8000000 in
theorem rproveF_any (u v : Value) (ls : List Lf.F) (gs : List Lf.G) (w : World) (hu : Lofts w u ls) (hv : Goods w v gs) :
    Calls Try.prog 54 #[u, v] w fun e w' => e = .returned (oV (pv ls gs) (Lf.bthE ls gs)) ∧ Below w.heap.size w w' := by
  have HBW := Lib.hid (And.intro (BlockAt.new w (winA 0 0) RWinT) (below_alloc2 (Below.refl w.heap.size w) (.cells (winA 0 0) RWinT)))
  have CB := Lib.hid (fun W (hW : Below w.heap.size w W) => rboth_any u v ls gs W (hu.all hW) (hv.all hW))
  have CT := Lib.hid (fun W (hW : Below w.heap.size w W) h1 h2 h3 h4 => rneeded_any u v ls gs W (hu.all hW) (hv.all hW) h1 h2 h3 h4)
  have CI := Lib.hid (fun (k d : Nat) (hkd : k ≤ d) (hd : d ≤ 60) x W (hW : Below w.heap.size w W) hx h1 h2 h3 h4 => rproves_any u v x ls gs k d W (hu.all hW) (hv.all hW) hx h1 h2 h3 h4 (wOk_nat hkd hd))
  have HPV : Hid (pv ls gs = if Lf.bthE ls gs = 0 then fwA (fun (k d : Nat) => Lf.prf ls gs k d) (61 - 0) 0 else none) := Lib.hid rfl
  have HBE := Lib.hid (fun h => bth_ok (ls := ls) (gs := gs) h)
  obtain ⟨ua, uc, rfl⟩ := hu.form
  obtain ⟨va, vc, rfl⟩ := hv.form
  clear hu hv
  generalize pv ls gs = F at *
  by_cases hz : Lf.bthE ls gs = 0
  case neg =>
    have e1 : F = none := by rw [HPV.out, if_neg hz]
    subst e1
    generalize Lf.bthE ls gs = E at *
    have hd : (E == 0) = false := beq_eq_false_iff_ne.2 hz
    have hd2 : (E != 0) = true := by rw [bne, hd]; rfl
    clear CT CI HBE HPV 
    go_enter Try.func54, Try.ntmps54
    go_wp2_with fail
    refine (CB.out _ HBW.out.2).mono ?_
    rintro e w1 ⟨rfl, hb1⟩
    have H1 := Lib.hid (And.intro (HBW.out.1.below hb1 HBW.out.1.lt) (below_step HBW.out.2 hb1))
    clear hb1
    have r0 := H1.out.1.frozen 0
    have r1 := H1.out.1.frozen 1
    have t0 : World.cell? _ _ = some (.int .i64 0) := H1.out.1.cell 0
    have t1 : World.cell? _ _ = some (.int .i64 0) := H1.out.1.cell 1
    have hlt1 := H1.out.1.lt
    go_wp2
    have HR := Lib.hid ((H1.out.1.set 0 (.int .i64 0)).set 1 (.int .i64 0))
    have v0 : World.cell? _ _ = some (.int .i64 0) := HR.out.cell 0
    have v1 : World.cell? _ _ = some (.int .i64 0) := HR.out.cell 1
    refine bodyPost_ret (v := oV none E) (by simp [results, Try.results54, go_sem, v0, v1, oV, oa, ob, winV]) rfl ⟨rfl, ?_⟩
    exact below_set (below_set H1.out.2 (by omega) _) (by omega) _
  rw [if_pos hz] at HPV
  rw [hz] at CB
  rw [hz]
  obtain ⟨h1, h2, h3, h4⟩ := HBE.out hz
  have CT1 := Lib.hid (fun W hW => CT.out W hW h1 h2 h3 h4)
  have CI1 := Lib.hid (fun (k d : Nat) hk hd x W hW hx => CI.out k d hk hd x W hW hx h1 h2 h3 h4)
  clear CT CI hz h1 h2 h3 h4 HBE
  generalize hc : (fun (k d : Nat) => Lf.prf ls gs k d) = c at *
  have CI2 : Hid (∀ (k d : Nat), k ≤ d → d ≤ 60 → ∀ x W, Below w.heap.size w W → Ints W x (neds ls gs) → Calls Try.prog 108 #[.slice ua ls.length uc, .slice va gs.length vc, x, winV k d] W fun e w' => e = .returned (.bool (c k d)) ∧ Below W.heap.size W w') := Lib.hid (by intro k d hk hd x W hW h; rw [← hc]; exact CI1.out k d hk hd x W hW h)
  clear CI1 hc
  generalize neds ls gs = X at *
  go_enter Try.func54, Try.ntmps54
  go_wp2_with fail
  refine (CB.out _ HBW.out.2).mono ?_
  rintro e w1 ⟨rfl, hb1⟩
  have H1 := Lib.hid (And.intro (HBW.out.1.below hb1 HBW.out.1.lt) (below_step HBW.out.2 hb1))
  clear hb1 HBW CB
  go_wp2_with fail
  refine (CT1.out _ H1.out.2).mono ?_
  rintro e w3 ⟨xa, xc, rfl, ho, hb1⟩
  have H3 := Lib.hid (And.intro ho (And.intro (H1.out.1.below hb1 H1.out.1.lt) (below_step H1.out.2 hb1)))
  clear ho hb1 H1 CT1
  go_wp2
  go_loopw [9] (fun t wr => ∃ k : Nat, k ≤ 61 ∧ t = .int .i64 k ∧ Hid (F = fwA c (61 - k) k ∧ Below w3.heap.size w3 wr)) (fun t _ => 62 - (intOf t).toNat)
  case atStart => exact ⟨0, by omega, rfl, Lib.hid ⟨HPV.out, Below.refl _ _⟩⟩
  case round =>
    obtain ⟨k, hk, rfl, hg⟩ := hrel
    clear HPV
    by_cases hlt : k ≤ 60
    · obtain ⟨G, hG⟩ : ∃ G, G = fwB (c k) (61 - k) k := ⟨_, rfl⟩
      have HG := Lib.hid hG
      have HFS := Lib.hid (fun b (h : G = some b) => hg.out.1.trans (fwA_some hlt (hG.symm.trans h)))
      have HFN := Lib.hid (fun (h : G = none) => hg.out.1.trans (fwA_none hlt (hG.symm.trans h)))
      have HW := Lib.hid hg.out.2
      clear hg hG
      have hd61 : decide ((k : Int) < 61) = true := decide_eq_true (by omega)
      have hd61b : decide (k < 61) = true := decide_eq_true (by omega)
      have hd60 : decide ((k : Int) ≤ 60) = true := decide_eq_true (by omega)
      have hd60b : decide (k ≤ 60) = true := decide_eq_true (by omega)
      go_wp2
      go_loopw [10] (fun t wr => ∃ d : Nat, (k ≤ d ∧ d ≤ 61) ∧ t = .int .i64 d ∧ Hid (G = fwB (c k) (61 - d) d ∧ Below w3.heap.size w3 wr)) (fun t _ => 62 - (intOf t).toNat)
      case atStart => exact ⟨k, ⟨by omega, by omega⟩, rfl, Lib.hid ⟨HG.out, HW.out⟩⟩
      case round =>
        obtain ⟨d, ⟨hkd, hd⟩, rfl, hg⟩ := hrel
        clear HG HW
        by_cases hld : d ≤ 60
        · have HST := Lib.hid (hg.out.1.trans (fwB_step (c k) hld))
          have HX := Lib.hid (And.intro (BlockAt.new wr (winA k d) RWinT) (below_alloc2 hg.out.2 (.cells (winA k d) RWinT)))
          have x0 : World.cell? _ _ = some (.int .i64 (k : Int)) := HX.out.1.cell 0
          have x1 : World.cell? _ _ = some (.int .i64 (d : Int)) := HX.out.1.cell 1
          have CI3 := Lib.hid (CI2.out k d hkd hld (.slice xa X.length xc) _ (below_step H3.out.2.2 HX.out.2) (OwnI.ints (H3.out.1.all HX.out.2)))
          clear hg
          cases hc : c k d
          · rw [hc] at CI3
            have HN := Lib.hid (HST.out.trans (if_neg (by rw [hc]; decide)))
            clear HST hc
            go_wp2_with fail
            refine CI3.out.mono ?_
            rintro e w7 ⟨rfl, hb1⟩
            have HB2 := Lib.hid (below_step HX.out.2 hb1)
            clear hb1 x0 x1 CI3
            go_wp2
            go_roundw
            case rel => exact ⟨d + 1, ⟨by omega, by omega⟩, by go_num, Lib.hid ⟨HN.out, HB2.out⟩⟩
            case measure => simp [intOf]; omega
          · rw [hc] at CI3
            have HF := Lib.hid (HFS.out d (HST.out.trans (if_pos hc)))
            have e9 := HF.out
            clear HST hc HF HFS HFN
            subst e9
            go_wp2_with fail
            refine CI3.out.mono ?_
            rintro e w7 ⟨rfl, hb1⟩
            have HB2 := Lib.hid (And.intro ((H3.out.2.1.below (below_step HX.out.2 hb1) H3.out.2.1.lt)) (And.intro (HX.out.1.below hb1 HX.out.1.lt) (below_step H3.out.2.2 (below_step HX.out.2 hb1))))
            clear hb1 x0 x1 CI3
            have x0 : World.cell? _ _ = some (.int .i64 (k : Int)) := HB2.out.2.1.cell 0
            have x1 : World.cell? _ _ = some (.int .i64 (d : Int)) := HB2.out.2.1.cell 1
            have r0 := HB2.out.1.frozen 0
            have r1 := HB2.out.1.frozen 1
            have t0 : World.cell? _ _ = some (.int .i64 0) := HB2.out.1.cell 0
            have t1 : World.cell? _ _ = some (.int .i64 0) := HB2.out.1.cell 1
            have hlt1 := HB2.out.1.lt
            go_wp2
            have HR := Lib.hid ((HB2.out.1.set 0 (.int .i64 (k : Int))).set 1 (.int .i64 (d : Int)))
            have v0 : World.cell? _ _ = some (.int .i64 (k : Int)) := HR.out.cell 0
            have v1 : World.cell? _ _ = some (.int .i64 (d : Int)) := HR.out.cell 1
            refine bodyPost_ret (v := oV (some (k, d)) 0) (by simp [results, Try.results54, go_sem, v0, v1, oV, oa, ob, winV]) rfl ⟨rfl, ?_⟩
            exact below_set (below_set HB2.out.2.2 (by omega) _) (by omega) _
        · obtain rfl : d = 61 := by omega
          have HF := Lib.hid (HFN.out hg.out.1)
          have HW := Lib.hid hg.out.2
          clear hg HFS HFN
          go_wp2
          go_roundw
          case rel => exact ⟨k + 1, by omega, by go_num, Lib.hid ⟨HF.out, HW.out⟩⟩
          case measure => simp [intOf]; omega
    · obtain rfl : k = 61 := by omega
      have e9 : F = none := hg.out.1
      subst e9
      have HB2 := Lib.hid (And.intro (H3.out.2.1.below hg.out.2 H3.out.2.1.lt) (below_step H3.out.2.2 hg.out.2))
      clear hg
      have r0 := HB2.out.1.frozen 0
      have r1 := HB2.out.1.frozen 1
      have t0 : World.cell? _ _ = some (.int .i64 0) := HB2.out.1.cell 0
      have t1 : World.cell? _ _ = some (.int .i64 0) := HB2.out.1.cell 1
      have hlt1 := HB2.out.1.lt
      go_wp2
      have HR := Lib.hid ((HB2.out.1.set 0 (.int .i64 0)).set 1 (.int .i64 0))
      have v0 : World.cell? _ _ = some (.int .i64 0) := HR.out.cell 0
      have v1 : World.cell? _ _ = some (.int .i64 0) := HR.out.cell 1
      refine bodyPost_ret (v := oV none 0) (by simp [results, Try.results54, go_sem, v0, v1, oV, oa, ob, winV]) rfl ⟨rfl, ?_⟩
      exact below_set (below_set HB2.out.2 (by omega) _) (by omega) _
end Go.Proofs.Ytabfcnfddemblaa.Lo
