/- Plans with one roll more: of the program. -/
import Derived.Test.YtpobkdbnldogcaaFl14
import Derived.Lib.SliceRun
namespace Go.Proofs.Ytpobkdbnldogcaa
open Go.RowKit

set_option maxRecDepth 100000 in
/-- A row of plans, copied. -/
theorem clone_row {w : World} {g c : Nat} {ps : List Fl.P} {base : Nat} (h : Pls base w (.slice (some ⟨g, 0, none⟩) ps.length c) ps) (hp : 0 < ps.length) (hl : ps.length ≤ 1000) (b : Option Addr) (hb : ∀ a, b = some a → True) :
    ∃ c', ps.length ≤ c' ∧ ∃ w', (∀ ty, (Builtin.append_ #[164, 164] ty #[.slice b 0 0, .slice (some ⟨g, 0, none⟩) ps.length c]).run Try.prog w = .ok (.slice (some ⟨w.heap.size, 0, none⟩) ps.length c') w') ∧ Pls w.heap.size w' (.slice (some ⟨w.heap.size, 0, none⟩) ps.length c') ps ∧ Below w.heap.size w w' := by
  obtain ⟨i0, hi, hz0, hz1, hz2⟩ := info_parts infoPlan
  obtain ⟨qs, rfl, h2, h3⟩ := id h
  have hql : (qs.map Prod.fst).length = qs.length := by simp
  rw [hql] at hp hl h2 ⊢
  have hsrc : Src Try.prog i0.size 164 (.slice (some ⟨g, 0, none⟩) qs.length c) qs.length (qs.flatMap planC) w := by
    refine Src.ofSlice w Try.underlying164 _ _ _ _ (by rw [flat_len planC_len, hz1]) (fun j v hj => ?_) (fun v hv => ?_)
    · rw [addr_add, Nat.zero_add]
      have h2' : w.ownsRow base PlanT 3 (.slice (some ⟨g, 0, none⟩) qs.length c) qs.length (qs.flatMap planC) := h2
      have hj2 := (List.getElem?_eq_some_iff.1 hj).1
      rw [flat_len planC_len] at hj2
      exact (World.ownsRow.cellAt h2' j hj2).trans hj
    · obtain ⟨q, hq, hv⟩ := List.mem_flatMap.1 hv
      obtain ⟨k, hk, rfl⟩ := List.mem_iff_getElem.1 hq
      obtain ⟨a, m, e, _⟩ := (h3 k hk).form
      simp [planC] at hv
      rcases hv with rfl | rfl | rfl
      · rfl
      · rfl
      · rw [e]; rfl
  have hold : (Builtin.firstCells i0.size 0 (.slice b 0 0)).run Try.prog w.drew = .ok ([] : List Value).toArray w.drew := by
    cases b with
    | none => exact run_firstCells_none w.drew _ _ _ _
    | some a => exact run_firstCells_some w.drew _ _ _ _ _ _ (by simp) (fun j v hj => by simp at hj)
  have hg : 0 < 0 + qs.length := by omega
  have hge := grownCap_ge w (0 + qs.length) 0 PlanT
  have hcm := grownCap_le_maxLen w (0 + qs.length) 0 PlanT (by unfold maxLen; omega)
  have hrun := fun ty => run_append_grow_src (P := Try.prog) w 164 164 ty PlanT i0 _ Try.underlying164 hi hz0 b 0 0 _ hold _ qs.length _ hsrc hg (by omega) (growslice_fits hg (by rw [hz2]; omega))
  simp only [Nat.zero_add, List.nil_append] at hrun hge hcm
  refine ⟨_, hge, _, hrun, ⟨qs, rfl, ?_, fun k hk => (h3 k hk).below ((below_drewN (Below.refl _ _) 1).alloc (Nat.le_refl _) _)⟩, (below_drewN (Below.refl _ _) 1).alloc (Nat.le_refl _) _⟩
  have hfl := flat_len planC_len qs
  refine ⟨hfl, .inr ⟨w.heap.size, _, _, rfl, Nat.le_refl _, heap_alloc_new w.drew _, hge, hcm, ?_, ?_⟩⟩
  · simp [Builtin.zeroCells, hfl]
    have : (grownCap w qs.length 0 PlanT - qs.length) * 3 + qs.length * 3 = grownCap w qs.length 0 PlanT * 3 := by rw [← Nat.add_mul]; congr 1; omega
    first | omega | (simp [Value.cells]; omega)
  · rw [Array.toList_append]
    have hA : ((qs.flatMap planC).toArray.toList).length = qs.length * 3 := by rw [← hfl]
    rw [List.take_append_of_le_length (Nat.le_of_eq hA.symm), List.take_of_length_le (Nat.le_of_eq hA)]
set_option maxRecDepth 20000 in
set_option maxHeartbeats 1000000 in
theorem clone_any (base g c : Nat) (ps : List Fl.P) (w : World) (h : Pls base w (.slice (some ⟨g, 0, none⟩) ps.length c) ps) (hp : 0 < ps.length) (hl : ps.length ≤ 1000) :
    Calls Try.prog 147 #[.slice (some ⟨g, 0, none⟩) ps.length c] w fun e w' => ∃ g2 c2, e = .returned (.slice (some ⟨g2, 0, none⟩) ps.length c2) ∧ Pls w.heap.size w' (.slice (some ⟨g2, 0, none⟩) ps.length c2) ps ∧ Below w.heap.size w w' := by
  go_enter Try.func147, Try.ntmps147
  have heq := fun (W : World) a n c => Lib.run_eql_slice_nil (P := Try.prog) W 164 PlanT a n c 0 0 Try.underlying164
  obtain ⟨c2, hc2, w2, hrun, hpl, hb2⟩ := clone_row (w := w.alloc (.cells #[] PlanT)) (h.all (below_alloc2 (Below.refl _ _) _)) hp hl (some ⟨w.heap.size, 0, none⟩) (fun _ _ => trivial)
  have HRUN := Lib.hid hrun
  have HP := Lib.hid hpl
  have HB := Lib.hid (below_step (below_alloc2 (Below.refl w.heap.size w) (.cells #[] PlanT)) hb2)
  clear hrun hpl hb2 h
  go_wp2_with (at_builtin; refine wpList_append_run rfl _ _ 164 rfl rfl rfl HRUN.out ?_)
  go_ret
  exact ⟨_, c2, rfl, by have h9 := HP.out; simp only [World.size_alloc] at h9; exact h9.mono (by omega), HB.out⟩
theorem bit_and2 : ∀ a : Nat, a < 64 → ∀ i : Nat, i < 64 → bits .and .i64 (a : Int) (i : Int) = ((a &&& i : Nat) : Int) := by decide +kernel
theorem bit_or2 : ∀ a : Nat, a < 64 → ∀ i : Nat, i < 64 → bits .or .i64 (a : Int) (i : Int) = ((a ||| i : Nat) : Int) := by decide +kernel
/-- What lies in memory while a roll is joined to plans. -/
def WiS (w : World) (g N c : Nat) (xs : List Fl.P) (wr : World) : Prop := Pls w.heap.size wr (.slice (some ⟨g, 0, none⟩) N c) xs ∧ Below w.heap.size w wr ∧ w.heap.size ≤ g
theorem WiS.below {w wr w2 : World} {g N c : Nat} {xs : List Fl.P} (h : WiS w g N c xs wr) (hb : Below wr.heap.size wr w2) : WiS w g N c xs w2 := ⟨h.1.all hb, below_step h.2.1 hb, h.2.2⟩
theorem WiS.set {w wr : World} {g N c : Nat} {xs : List Fl.P} (h : WiS w g N c xs wr) (hn : N = xs.length) {k : Nat} (hk : k < xs.length) (p : Fl.P) {u : Value} (hu : CutsT wr u p.l) :
    WiS w g N c (xs.set k p) (((wr.setCell ⟨g, k * 3, none⟩ (.bool p.b)).setCell ⟨g, k * 3 + 1, none⟩ (.int .i64 p.c)).setCell ⟨g, k * 3 + 2, none⟩ u) :=
  ⟨h.1.set hn hk p hu, below_set (below_set (below_set h.2.1 h.2.2 _) h.2.2 _) h.2.2 _, h.2.2⟩
def WiT (w : World) (g N c : Nat) (xs : List Fl.P) (B : Nat) (p : Fl.P) (u : Value) (wr : World) : Prop := WiS w g N c xs wr ∧ BlockAt wr B (planA p.b p.c u) PlanT ∧ CutsT wr u p.l ∧ g < B
theorem WiT.below {w wr w2 : World} {g N c B : Nat} {xs : List Fl.P} {p : Fl.P} {u : Value} (h : WiT w g N c xs B p u wr) (hb : Below wr.heap.size wr w2) : WiT w g N c xs B p u w2 :=
  ⟨h.1.below hb, h.2.1.below hb h.2.1.lt, h.2.2.1.below hb, h.2.2.2⟩
theorem WiT.set {w wr : World} {g N c B : Nat} {xs : List Fl.P} {p0 : Fl.P} {u0 : Value} (h : WiT w g N c xs B p0 u0 wr) (hn : N = xs.length) {k : Nat} (hk : k < xs.length) (p : Fl.P) {u : Value} (hu : CutsT wr u p.l) :
    WiT w g N c (xs.set k p) B p0 u0 (((wr.setCell ⟨g, k * 3, none⟩ (.bool p.b)).setCell ⟨g, k * 3 + 1, none⟩ (.int .i64 p.c)).setCell ⟨g, k * 3 + 2, none⟩ u) := by
  obtain ⟨h1, h2, h3, h4⟩ := h
  obtain ⟨cur, hb⟩ := h1.1.block
  have s0 := h1.1
  refine ⟨h1.set hn hk p hu, ((h2.other (by omega) _).other (by omega) _).other (by omega) _, ?_, h4⟩
  have a1 : ∃ cur, (wr.setCell ⟨g, k * 3, none⟩ (.bool p.b)).heap[g]? = some (.cells cur PlanT (0, 0)) := ⟨_, BlockAt.set hb _ _⟩
  obtain ⟨c1, hb1⟩ := a1
  have a2 : ∃ cur, ((wr.setCell ⟨g, k * 3, none⟩ (.bool p.b)).setCell ⟨g, k * 3 + 1, none⟩ (.int .i64 p.c)).heap[g]? = some (.cells cur PlanT (0, 0)) := ⟨_, BlockAt.set hb1 _ _⟩
  obtain ⟨c2, hb2⟩ := a2
  exact ((h3.set hb (plan_ne _) _).set hb1 (plan_ne _) _).set hb2 (plan_ne _) _
/-- A plan lies at a place. -/
def PB (B off : Nat) (b : Bool) (c : Int) (u : Value) (W : World) : Prop := (W.cell? ⟨B, off, none⟩ = some (.bool b) ∧ W.cell? ⟨B, off + 1, none⟩ = some (.int .i64 c) ∧ W.cell? ⟨B, off + 2, none⟩ = some u) ∧ B < W.heap.size
theorem PB.below {B off N : Nat} {b : Bool} {c : Int} {u : Value} {W W2 : World} (h : PB B off b c u W) (hb : Below N W W2) (hN : B < N) : PB B off b c u W2 :=
  ⟨⟨(hb.cell (p := ⟨B, off, none⟩) hN).trans h.1.1, (hb.cell (p := ⟨B, off + 1, none⟩) hN).trans h.1.2.1, (hb.cell (p := ⟨B, off + 2, none⟩) hN).trans h.1.2.2⟩, Nat.lt_of_lt_of_le h.2 hb.size⟩
set_option maxRecDepth 100000 in
set_option maxHeartbeats 8000000 in
theorem withRoll_any (bp bt gp gt cp ct n : Nat) (C : Int) (ps ts : List Fl.P) (w : World) (hp : Pls bp w (.slice (some ⟨gp, 0, none⟩) ps.length cp) ps) (ht : Pls bt w (.slice (some ⟨gt, 0, none⟩) ts.length ct) ts) (hn : n ≤ 6) (hpl : ps.length = 2 ^ n) (htl : ts.length = 2 ^ n)
    (hC : 0 ≤ C) (hC2 : C ≤ 1000) (hcs : Fl.cst C ps) (hlp : Fl.lnB ps) (hlt : Fl.lnB ts) :
    Calls Try.prog 128 #[.slice (some ⟨gp, 0, none⟩) ps.length cp, .slice (some ⟨gt, 0, none⟩) ts.length ct] w fun e w' => ∃ g c, e = .returned (.slice (some ⟨g, 0, none⟩) ps.length c) ∧ Pls w.heap.size w' (.slice (some ⟨g, 0, none⟩) ps.length c) (Fl.wit ps ts ps.length) ∧ Below w.heap.size w w' := by
  have hpow : 2 ^ n ≤ 2 ^ 6 := Nat.pow_le_pow_right (by omega) hn
  have hpos : 0 < 2 ^ n := Nat.pow_pos (by omega)
  have HOR := Lib.hid (fun (b m : Nat) (hb : b < ps.length) (hm : m < ts.length) => show b ||| m < ps.length by rw [hpl] at hb ⊢; rw [htl] at hm; exact Nat.or_lt_two_pow hb hm)
  have CC := Lib.hid (clone_any bp gp cp ps w hp (by omega) (by omega))
  have HPW := Lib.hid hp
  have HTW := Lib.hid ht
  have HCS := Lib.hid hcs
  have HLP := Lib.hid hlp
  have HLT := Lib.hid hlt
  have HWL := Lib.hid (fun b m => (Fl.win_len ps ts (Fl.wit ps ts b) b m).trans (Fl.wit_len ps ts b))
  have HI0 : Hid (∀ b, Fl.win ps ts (Fl.wit ps ts b) b 0 = Fl.wit ps ts b) := Lib.hid fun _ => rfl
  have HIS : Hid (∀ b m, Fl.win ps ts (Fl.wit ps ts b) b (m + 1) = Fl.wst ps ts (Fl.win ps ts (Fl.wit ps ts b) b m) b m) := Lib.hid fun _ _ => rfl
  have HAS : Hid (∀ b, Fl.wit ps ts (b + 1) = Fl.win ps ts (Fl.wit ps ts b) b ts.length) := Lib.hid fun _ => rfl
  have HA0 : Hid (Fl.wit ps ts 0 = ps) := Lib.hid rfl
  have hgp := (hp.form (by omega))
  obtain ⟨_, _, hge, _, hgpl, _⟩ := hgp
  simp only [Value.slice.injEq, Option.some.injEq, Addr.mk.injEq, and_true] at hge
  obtain ⟨hga, hgb⟩ := hge
  subst hga
  clear hgb
  have hgt := (ht.form (by omega))
  obtain ⟨_, _, hge, _, hgtl, _⟩ := hgt
  simp only [Value.slice.injEq, Option.some.injEq, Addr.mk.injEq, and_true] at hge
  obtain ⟨hga, hgb⟩ := hge
  subst hga
  clear hgb
  have hpl64 : ps.length ≤ 64 := by omega
  have htl64 : ts.length ≤ 64 := by omega
  clear hp ht hcs hlp hlt hpl htl hpow hpos
  go_enter Try.func128, Try.ntmps128
  go_wp2_with fail
  refine CC.out.mono ?_
  rintro e w1 ⟨g, c, rfl, hp1, hb1⟩
  have WI0 := Lib.hid (show WiS w g ps.length c (Fl.wit ps ts 0) w1 by
    rw [HA0.out]
    refine ⟨hp1, hb1, ?_⟩
    obtain ⟨qs, _, h2, _⟩ := hp1
    rcases h2.form with ⟨h, _⟩ | ⟨g', c', h, h5, _⟩
    · cases h
    · simp only [Value.slice.injEq, Option.some.injEq, Addr.mk.injEq, and_true] at h
      rw [h.1]; exact h5)
  clear hp1 hb1 CC
  go_wp2
  go_loopw [15] (fun t wr => ∃ b : Nat, b ≤ ps.length ∧ t = .int .i64 b ∧ Hid (WiS w g ps.length c (Fl.wit ps ts b) wr)) (fun t _ => ps.length - (intOf t).toNat)
  case atStart => exact ⟨0, Nat.zero_le _, rfl, WI0⟩
  case round =>
    obtain ⟨b, hbN, rfl, hg⟩ := hrel
    clear WI0
    by_cases hbl : b < ps.length
    · obtain ⟨pa, pm, ⟨q0, q1, q2⟩, hcu, hum⟩ := (HPW.out.all hg.out.2.1).get hbl
      have hcb := HCS.out b hbl
      have hlb := HLP.out b hbl
      have hgl : g < wr.heap.size := by
        obtain ⟨cur, hc⟩ := hg.out.1.block
        exact (Array.getElem?_eq_some_iff.1 hc).1
      have WT0 := Lib.hid (show WiT w g ps.length c (Fl.win ps ts (Fl.wit ps ts b) b 0) wr.heap.size ps[b] (.slice pa ps[b].l.length pm) (wr.alloc (.cells (planA ps[b].b ps[b].c (.slice pa ps[b].l.length pm)) PlanT)) by
        rw [HI0.out]
        exact ⟨hg.out.below (below_alloc2 (Below.refl _ _) _), BlockAt.new wr _ PlanT, hcu.below (below_alloc2 (Below.refl _ _) _), hgl⟩)
      have HPb := Lib.hid (show ps[b] = ps[b] from rfl)
      clear hg hcu HPb
      have HWA := Lib.hid (fun xs (m : Nat) (hm : m < ts.length) (O : Nat) hO hOx => Fl.wst_all (ps := ps) (ts := ts) (xs := xs) (b := b) (m := m) hbl hm (O := O) hO hOx)
      have hdb : decide ((b : Int) < (ps.length : Int)) = true := decide_eq_true (by omega)
      have hdb2 : decide (b < ps.length) = true := decide_eq_true hbl
      generalize ps[b] = p at *
      obtain ⟨pb, pc, pl⟩ := p
      dsimp only at *
      go_wp2
      clear q0 q1 q2
      have hB7 : g < wr.heap.size := hgl
      generalize wr.heap.size = B7 at *
      go_loopw [22] (fun t wr => ∃ m : Nat, m ≤ ts.length ∧ t = .int .i64 m ∧ Hid (WiT w g ps.length c (Fl.win ps ts (Fl.wit ps ts b) b m) B7 ⟨pb, pc, pl⟩ (.slice pa pl.length pm) wr)) (fun t _ => ts.length - (intOf t).toNat)
      case atStart => exact ⟨0, Nat.zero_le _, rfl, WT0⟩
      case round =>
        obtain ⟨m, hmN, rfl, hg⟩ := hrel
        clear WT0
        by_cases hml : m < ts.length
        · obtain ⟨qa, qm, ⟨q0, q1, q2⟩, hcq, hqm⟩ := (HTW.out.all hg.out.1.2.1).get hml
          have hlq := HLT.out m hml
          have hmN64 : m < 64 := by omega
          have hbN64 : b < 64 := by omega
          obtain ⟨X, hX⟩ : ∃ X, X = b &&& m := ⟨_, rfl⟩
          obtain ⟨O, hO⟩ : ∃ O, O = b ||| m := ⟨_, rfl⟩
          have hOl : O < ps.length := by rw [hO]; exact HOR.out b m hbl hml
          have hand := (bit_and2 b hbN64 m hmN64).trans (by rw [← hX])
          have hor := (bit_or2 b hbN64 m hmN64).trans (by rw [← hO])
          have hll := HWL.out b m
          have HIS1 := HIS.out b m
          have hxl : O < (Fl.win ps ts (Fl.wit ps ts b) b m).length := by omega
          have HWA1 := HWA.out (Fl.win ps ts (Fl.wit ps ts b) b m) m hml O hO hxl
          obtain ⟨xs1, hxs1⟩ : ∃ y, y = Fl.win ps ts (Fl.wit ps ts b) b (m + 1) := ⟨_, rfl⟩
          rw [← hxs1] at HIS1
          have HNEXT := Lib.hid hxs1
          rw [← HIS1, ← hX] at HWA1
          have HWH := Lib.hid HWA1
          generalize Fl.win ps ts (Fl.wit ps ts b) b m = xs at *
          have WT1 := Lib.hid (hg.out.below (below_alloc2 (Below.refl wr.heap.size wr) (.cells (planA ts[m].b ts[m].c (.slice qa ts[m].l.length qm)) PlanT)))
          have BQ := Lib.hid (BlockAt.new wr (planA ts[m].b ts[m].c (.slice qa ts[m].l.length qm)) PlanT)
          have HCQ := Lib.hid (hcq.below (below_alloc2 (Below.refl wr.heap.size wr) (.cells (planA ts[m].b ts[m].c (.slice qa ts[m].l.length qm)) PlanT)))
          clear hxs1 HIS1 HWA1 hg hcq hX hO
          generalize ts[m] = q at *
          obtain ⟨qb, qc, ql⟩ := q
          dsimp only at *
          have b0 : World.cell? _ _ = some (.bool pb) := WT1.out.2.1.cell 0
          cases pb
          · have HE := Lib.hid (HWH.out.1 rfl)
            have HF := Lib.hid WT1.out
            clear HWH WT1
            go_wp2
            go_roundw
            case rel => exact ⟨m + 1, by omega, by go_num, Lib.hid (by rw [← HNEXT.out, HE.out]; exact HF.out)⟩
            case measure => simp [intOf]; omega
          cases qb
          · have HE := Lib.hid (HWH.out.2.1 rfl)
            have HF := Lib.hid WT1.out
            clear HWH WT1
            go_wp2
            go_roundw
            case rel => exact ⟨m + 1, by omega, by go_num, Lib.hid (by rw [← HNEXT.out, HE.out]; exact HF.out)⟩
            case measure => simp [intOf]; omega
          by_cases hX0 : X = 0
          case neg =>
            have HE := Lib.hid (HWH.out.2.2.1 hX0)
            have HF := Lib.hid WT1.out
            have hX1 : ((X : Int) == 0) = false := beq_eq_false_iff_ne.2 (by omega)
            have hX2 : ((X : Int) != 0) = true := by rw [bne, hX1]; rfl
            clear HWH WT1 hX0
            go_wp2
            go_roundw
            case rel => exact ⟨m + 1, by omega, by go_num, Lib.hid (by rw [← HNEXT.out, HE.out]; exact HF.out)⟩
            case measure => simp [intOf]; omega
          have hand0 : bits .and .i64 (b : Int) (m : Int) = 0 := by rw [hand, hX0]; rfl
          have HX4 := Lib.hid HWH.out.2.2.2.1
          have HX5 := Lib.hid (HWH.out.2.2.2.2 rfl rfl hX0)
          clear HWH hand hX0
          obtain ⟨va, vm, ⟨p0, p1, p2⟩, hcv, hvm⟩ := WT1.out.1.1.get hxl
          have HSx := Lib.hid (show PB g (O * 3) xs[O].b xs[O].c (.slice va xs[O].l.length vm) (wr.alloc (.cells (planA true qc (.slice qa ql.length qm)) PlanT)).drew ∧ PB B7 0 true pc (.slice pa pl.length pm) (wr.alloc (.cells (planA true qc (.slice qa ql.length qm)) PlanT)).drew from
            ⟨⟨⟨p0, p1, p2⟩, by obtain ⟨cur, hc⟩ := WT1.out.1.1.block; exact (Array.getElem?_eq_some_iff.1 hc).1⟩, ⟨⟨WT1.out.2.1.cell 0, WT1.out.2.1.cell 1, WT1.out.2.1.cell 2⟩, WT1.out.2.1.lt⟩⟩)
          have WT2 := Lib.hid (WT1.out.below (below_drewN (Below.refl _ _) 1))
          have BQ2 := Lib.hid BQ.out.drew
          have HCQ2 := Lib.hid (HCQ.out.below (below_drewN (Below.refl _ _) 1))
          clear WT1 BQ HCQ p0 p1 p2 hcv
          generalize hx0 : xs[O] = x0 at *
          have CA := Lib.hid (fun W => isAbove_any x0 va x0.l.length vm (pc + 1) W)
          obtain ⟨xb, xc, xl⟩ := x0
          dsimp only at *
          generalize hAB : Fl.above ⟨xb, xc, xl⟩ (pc + 1) = AB at *
          have hwp : IntKind.i64.wrap (pc + 1) = pc + 1 := IntWalk.i64_in _ ⟨by omega, by omega⟩
          have HX0 := Lib.hid hx0
          have HAB := Lib.hid hAB
          clear hx0 hAB
          have hOl2 : (O : Int) < (ps.length : Int) := by omega
          have hoo : AB = true ∨ AB = false := by cases AB <;> simp
          rcases hoo with ho | ho
          case inr =>
            have HE := Lib.hid (HX4.out ho)
            rw [ho] at CA
            clear HX4 HX5 HX0 HAB ho
            go_upto_region 10 with fail
            refine wp_region_seq [(0, true), (1, true), (2, true), (3, true), (4, true), (5, true), (6, true), (7, false)] (fun W => PB g (O * 3) xb xc (.slice va xl.length vm) W ∧ PB B7 0 true pc (.slice pa pl.length pm) W)
              (by kernel_rfl) (by kernel_rfl) (by kernel_rfl) (by kernel_rfl) (fun d _ _ _ _ h => by cases d <;> exact h) HSx.out (fun _ => ?_)
            repeat (first | (refine SeqH.take (v := ?_) rfl (by rfl) ?_ ?_; rotate_left; (· intro w hSw; (try dsimp only at hSw); obtain ⟨⟨⟨l0, l1, l2⟩, _⟩, ⟨⟨e0, e1, e2⟩, _⟩⟩ := hSw; simp only [Nat.zero_add] at e1 e2; go_simp; (try with_reducible rfl)); simp only [Act.put, List.setIfInBounds_toArray, List.set_cons_zero, List.set_cons_succ]) | (refine SeqH.skip rfl (by rfl) ?_; simp only [Act.put, List.setIfInBounds_toArray, List.set_cons_zero, List.set_cons_succ]))
            refine SeqH.step rfl (by rfl) (fun K hK => ?_)
            go_simp
            go_at_call 88
            refine (CA.out _).mono ?_
            rintro e w3 ⟨rfl, hb3⟩
            try dsimp only
            refine hK.out _ _ ⟨HSx.out.1.below hb3 HSx.out.1.2, HSx.out.2.below hb3 HSx.out.2.2⟩ (fun _ => ?_)
            have WT3 := Lib.hid (WT2.out.below hb3)
            have BQ3 := Lib.hid (BQ2.out.below hb3 BQ2.out.lt)
            have HCQ3 := Lib.hid (HCQ2.out.below hb3)
            clear hK K hb3 HSx WT2 BQ2 HCQ2
            try simp only [Act.put, List.setIfInBounds_toArray, List.set_cons_zero, List.set_cons_succ]
            repeat (first | (refine SeqH.take (v := ?_) rfl (by rfl) ?_ ?_; rotate_left; (· intro w hSw; (try dsimp only at hSw); obtain ⟨⟨⟨l0, l1, l2⟩, _⟩, ⟨⟨e0, e1, e2⟩, _⟩⟩ := hSw; simp only [Nat.zero_add] at e1 e2; go_simp; (try with_reducible rfl)); simp only [Act.put, List.setIfInBounds_toArray, List.set_cons_zero, List.set_cons_succ]) | (refine SeqH.skip rfl (by rfl) ?_; simp only [Act.put, List.setIfInBounds_toArray, List.set_cons_zero, List.set_cons_succ]))
            refine SeqH.done ?_
            have HF := Lib.hid WT3.out
            clear WT3 BQ3 HCQ3
            go_wp2
            go_roundw
            case rel => exact ⟨m + 1, by omega, by go_num, Lib.hid (by rw [← HNEXT.out, HE.out]; exact HF.out)⟩
            case measure => simp [intOf]; omega
          case inl =>
            have HE := Lib.hid (HX5.out ho)
            rw [ho] at CA
            clear HX4 HX5 HX0 HAB ho
            go_upto_region 10 with fail
            refine wp_region_seq [(0, true), (1, true), (2, true), (3, true), (4, true), (5, true), (6, true), (7, false)] (fun W => PB g (O * 3) xb xc (.slice va xl.length vm) W ∧ PB B7 0 true pc (.slice pa pl.length pm) W)
              (by kernel_rfl) (by kernel_rfl) (by kernel_rfl) (by kernel_rfl) (fun d _ _ _ _ h => by cases d <;> exact h) HSx.out (fun _ => ?_)
            repeat (first | (refine SeqH.take (v := ?_) rfl (by rfl) ?_ ?_; rotate_left; (· intro w hSw; (try dsimp only at hSw); obtain ⟨⟨⟨l0, l1, l2⟩, _⟩, ⟨⟨e0, e1, e2⟩, _⟩⟩ := hSw; simp only [Nat.zero_add] at e1 e2; go_simp; (try with_reducible rfl)); simp only [Act.put, List.setIfInBounds_toArray, List.set_cons_zero, List.set_cons_succ]) | (refine SeqH.skip rfl (by rfl) ?_; simp only [Act.put, List.setIfInBounds_toArray, List.set_cons_zero, List.set_cons_succ]))
            refine SeqH.step rfl (by rfl) (fun K hK => ?_)
            go_simp
            go_at_call 88
            refine (CA.out _).mono ?_
            rintro e w3 ⟨rfl, hb3⟩
            try dsimp only
            refine hK.out _ _ ⟨HSx.out.1.below hb3 HSx.out.1.2, HSx.out.2.below hb3 HSx.out.2.2⟩ (fun _ => ?_)
            have WT3 := Lib.hid (WT2.out.below hb3)
            have BQ3 := Lib.hid (BQ2.out.below hb3 BQ2.out.lt)
            have HCQ3 := Lib.hid (HCQ2.out.below hb3)
            clear hK K hb3 HSx WT2 BQ2 HCQ2
            try simp only [Act.put, List.setIfInBounds_toArray, List.set_cons_zero, List.set_cons_succ]
            repeat (first | (refine SeqH.take (v := ?_) rfl (by rfl) ?_ ?_; rotate_left; (· intro w hSw; (try dsimp only at hSw); obtain ⟨⟨⟨l0, l1, l2⟩, _⟩, ⟨⟨e0, e1, e2⟩, _⟩⟩ := hSw; simp only [Nat.zero_add] at e1 e2; go_simp; (try with_reducible rfl)); simp only [Act.put, List.setIfInBounds_toArray, List.set_cons_zero, List.set_cons_succ]) | (refine SeqH.skip rfl (by rfl) ?_; simp only [Act.put, List.setIfInBounds_toArray, List.set_cons_zero, List.set_cons_succ]))
            refine SeqH.done ?_
            have e0 : World.cell? _ _ = some (.bool true) := WT3.out.2.1.cell 0
            have e1 : World.cell? _ _ = some (.int .i64 pc) := WT3.out.2.1.cell 1
            have e2 : World.cell? _ _ = some (.slice pa pl.length pm) := WT3.out.2.1.cell 2
            have k2 : World.cell? _ _ = some (.slice qa ql.length qm) := BQ3.out.cell 2
            have CT := Lib.hid (then_any true pc (pc + 1) (.slice pa pl.length pm) (.slice qa ql.length qm) pl ql w3 WT3.out.2.2.1 HCQ3.out (by omega))
            clear b0 q0 q1 q2
            go_wp2_with fail
            refine CT.out.mono ?_
            rintro e w8 ⟨a8, n8, rfl, hc8, hb8⟩
            have WT8 := Lib.hid (WT3.out.below hb8)
            obtain ⟨va2, vm2, ⟨p0, p1, p2⟩, _, _⟩ := WT8.out.1.1.get hxl
            have f0 := WT8.out.1.1.frozen (O * 3)
            have f1 := WT8.out.1.1.frozen (O * 3 + 1)
            have f2 := WT8.out.1.1.frozen (O * 3 + 2)
            have HF := Lib.hid (WT8.out.set hll.symm hxl (Fl.thn ⟨true, pc, pl⟩ (pc + 1) ql) hc8)
            clear WT3 BQ3 HCQ3 e0 e1 e2 k2 CT hc8 hb8 WT8
            go_wp2
            go_roundw
            case rel => exact ⟨m + 1, by omega, by go_num, Lib.hid (by rw [← HNEXT.out, HE.out]; exact HF.out)⟩
            case measure => simp [intOf]; omega
        · have hme : m = ts.length := by omega
          have HE := Lib.hid ((HAS.out b).trans (by rw [← hme]))
          clear hme
          go_wp2
          go_roundw
          case rel => exact ⟨b + 1, by omega, by go_num, Lib.hid (by rw [HE.out]; exact hg.out.1)⟩
          case measure => simp [intOf]; omega
    · have hbe : b = ps.length := by omega
      have HF := Lib.hid hg.out
      rw [hbe] at HF
      clear hg hbe
      go_wp2
      go_ret
      exact ⟨g, c, rfl, HF.out.1, HF.out.2.1⟩
end Go.Proofs.Ytpobkdbnldogcaa
