/- Fewest of the program. -/
import Derived.Test.YtpobkdbnldogcaaFl16
namespace Go.Proofs.Ytpobkdbnldogcaa
open Go.RowKit

theorem Fl.fewR_bad {j : Fl.J} (h : Fl.jobE j ≠ 0) : Fl.fewR j = ⟨false, 0, []⟩ := if_neg h
theorem Fl.fewR_none {j : Fl.J} (h : Fl.jobE j = 0) (h2 : j.ss.length = 0) : Fl.fewR j = ⟨true, 0, []⟩ := (if_pos h).trans (if_pos h2)
theorem Fl.fewR_best {j : Fl.J} (h : Fl.jobE j = 0) (h2 : ¬ j.ss.length = 0) : Fl.fewR j = Fl.best j j.rs.length := (if_pos h).trans (if_neg h2)
/-- What lies in memory while the best plan is sought. -/
def BeS (w : World) (jc : Array Value) (B : Nat) (p : Fl.P) (u : Value) (wr : World) : Prop := BlockAt wr w.heap.size jc JobT ∧ BlockAt wr B (planA p.b p.c u) PlanT ∧ CutsT wr u p.l ∧ Below w.heap.size w wr ∧ w.heap.size < B
theorem BeS.below {w wr w2 : World} {jc : Array Value} {B : Nat} {p : Fl.P} {u : Value} (h : BeS w jc B p u wr) (hb : Below wr.heap.size wr w2) : BeS w jc B p u w2 :=
  ⟨h.1.below hb h.1.lt, h.2.1.below hb h.2.1.lt, h.2.2.1.below hb, below_step h.2.2.2.1 hb, h.2.2.2.2⟩
theorem BeS.set {w wr : World} {jc : Array Value} {B : Nat} {p q : Fl.P} {u v : Value} (h : BeS w jc B p u wr) (hv : CutsT wr v q.l) :
    BeS w jc B q v (((wr.setCell ⟨B, 0, none⟩ (.bool q.b)).setCell ⟨B, 1, none⟩ (.int .i64 q.c)).setCell ⟨B, 2, none⟩ v) := by
  obtain ⟨h1, h2, _, h4, h5⟩ := h
  exact ⟨((h1.other (by omega) _).other (by omega) _).other (by omega) _, ((h2.set 0 _).set 1 _).set 2 _,
    ((hv.set h2 (plan_ne _) _).set (h2.set 0 _) (plan_ne _) _).set ((h2.set 0 _).set 1 _) (plan_ne _) _, below_set (below_set (below_set h4 (by omega) _) (by omega) _) (by omega) _, h5⟩
set_option maxRecDepth 100000 in
set_option maxHeartbeats 8000000 in
theorem fewestF_any (sv rv : Value) (j : Fl.J) (w : World) (hs : Strips w sv j.ss) (hr : Rols w rv j.rs) (hl1 : j.ss.length ≤ 1000000) (hl2 : j.rs.length ≤ 1000000) :
    Calls Try.prog 45 #[jobV sv rv j.m] w fun e w' => ∃ a n, e = .returned (.tuple #[.slice a (Fl.fewR j).l.length n, .int .i64 (Fl.fewR j).c, .bool (Fl.fewR j).b, .int .i64 (Fl.jobE j)]) ∧ CutsT w' (.slice a (Fl.fewR j).l.length n) (Fl.fewR j).l ∧ Below w.heap.size w w' := by
  have FF := Lib.hid (fun C W (hW : Below w.heap.size w W) hj => fewest_any sv rv j C W (hs.all hW) (hr.all hW) hj)
  have HW0 := below_alloc2 (Below.refl w.heap.size w) (.cells #[sv, rv, .int .i64 j.m] JobT)
  have CV := Lib.hid (validateJob_any sv rv j _ (hs.all HW0) (hr.all HW0) hl1 hl2)
  obtain ⟨sa, sc, rfl, hsc, hsk⟩ := hs
  obtain ⟨ra, rc, rfl, hrc, hrk⟩ := hr
  have HRK := Lib.hid hrk
  have HW := Lib.hid HW0
  have HB0 := Lib.hid (BlockAt.new w #[.slice sa j.ss.length sc, .slice ra j.rs.length rc, .int .i64 j.m] JobT)
  have y0 : World.cell? _ _ = some (.slice sa j.ss.length sc) := HB0.out.cell 0
  have y1 : World.cell? _ _ = some (.slice ra j.rs.length rc) := HB0.out.cell 1
  have y2 : World.cell? _ _ = some (.int .i64 j.m) := HB0.out.cell 2
  clear HW0 hsk hrk
  by_cases hz : Fl.jobE j = 0
  case neg =>
    rw [Fl.fewR_bad hz]
    generalize Fl.jobE j = E at *
    have hd : (E == 0) = false := beq_eq_false_iff_ne.2 hz
    have hd2 : (E != 0) = true := by rw [bne, hd]; rfl
    clear hz FF
    go_enter Try.func45, Try.ntmps45
    go_wp2_with fail
    refine CV.out.mono ?_
    rintro e w1 ⟨rfl, hb1⟩
    have HB := Lib.hid (below_step HW.out hb1)
    clear hb1 CV
    go_wp2
    (try simp only [Exit.inBlock, Exit.then])
    refine bodyPost_ret (results_tmp4 rfl _ _ _) rfl ?_
    exact ⟨none, 0, rfl, .inl ⟨rfl, rfl⟩, HB.out⟩
  rw [hz] at CV
  by_cases hn0 : j.ss.length = 0
  · rw [Fl.fewR_none hz hn0, hz]
    have hq : ((j.ss.length : Int) == 0) = true := beq_iff_eq.2 (by omega)
    clear hz FF hn0
    go_enter Try.func45, Try.ntmps45
    go_wp2_with fail
    refine CV.out.mono ?_
    rintro e w1 ⟨rfl, hb1⟩
    have HB := Lib.hid (below_step HW.out hb1)
    have z0 : World.cell? _ _ = some (.slice sa j.ss.length sc) := (HB0.out.below hb1 HB0.out.lt).cell 0
    clear hb1 CV y0 y1 y2
    go_wp2
    (try simp only [Exit.inBlock, Exit.then])
    refine bodyPost_ret (results_tmp4 rfl _ _ _) rfl ?_
    exact ⟨none, 0, rfl, .inl ⟨rfl, rfl⟩, HB.out⟩
  rw [Fl.fewR_best hz hn0, hz]
  have hq : ((j.ss.length : Int) == 0) = false := beq_eq_false_iff_ne.2 (by omega)
  have HF := Lib.hid (fun C W hW => FF.out C W hW hz)
  have HA0 : Hid (Fl.best j 0 = ⟨false, 0, []⟩) := Lib.hid rfl
  have HAY : Hid (∀ k (hk : k < j.rs.length), (Fl.fewP j j.rs[k].c).b = true → Fl.above (Fl.best j k) (Fl.fewP j j.rs[k].c).c = true → Fl.best j (k + 1) = Fl.fewP j j.rs[k].c) := Lib.hid fun k hk h1 h2 => by
    rw [Fl.best, show j.rs.getD k default = j.rs[k] by simp [hk], if_pos ⟨h1, h2⟩]
  have HAN : Hid (∀ k (hk : k < j.rs.length), ((Fl.fewP j j.rs[k].c).b = false ∨ Fl.above (Fl.best j k) (Fl.fewP j j.rs[k].c).c = false) → Fl.best j (k + 1) = Fl.best j k) := Lib.hid fun k hk h => by
    rw [Fl.best, show j.rs.getD k default = j.rs[k] by simp [hk], if_neg]
    rintro ⟨h1, h2⟩
    rcases h with h | h
    · rw [h] at h1; cases h1
    · rw [h] at h2; cases h2
  obtain ⟨P, hP⟩ : ∃ P, P = Fl.best j j.rs.length := ⟨_, rfl⟩
  rw [← hP]
  have HP := Lib.hid hP
  clear hz FF hn0 hP
  go_enter Try.func45, Try.ntmps45
  go_wp2_with fail
  refine CV.out.mono ?_
  rintro e w1 ⟨rfl, hb1⟩
  have hB1 := HB0.out.below hb1 HB0.out.lt
  have BE0 := Lib.hid (show BeS w #[.slice sa j.ss.length sc, .slice ra j.rs.length rc, .int .i64 j.m] w1.heap.size (Fl.best j 0) (.slice none 0 0) (w1.alloc (.cells (planA false 0 (.slice none 0 0)) PlanT)) by
    rw [HA0.out]
    exact ⟨hB1.alloc _, BlockAt.new w1 _ PlanT, .inl ⟨rfl, rfl⟩, below_alloc2 (below_step HW.out hb1) _, hB1.lt⟩)
  have z0 : World.cell? _ _ = some (.slice sa j.ss.length sc) := hB1.cell 0
  have z1 : World.cell? _ _ = some (.slice ra j.rs.length rc) := BE0.out.1.cell 1
  have HBB := Lib.hid hB1.lt
  clear hb1 CV HA0 y0 y1 y2 HB0 HW hB1
  go_wp2
  clear z0 z1
  have hBB := HBB.out
  generalize w1.heap.size = B at *
  go_loopw [23] (fun t wr => ∃ (k : Nat) (a : Option Addr) (n : Nat), k ≤ j.rs.length ∧ t = .int .i64 k ∧ Hid (BeS w #[.slice sa j.ss.length sc, .slice ra j.rs.length rc, .int .i64 j.m] B (Fl.best j k) (.slice a (Fl.best j k).l.length n) wr)) (fun t _ => j.rs.length - (intOf t).toNat)
  case atStart => exact ⟨0, none, 0, Nat.zero_le _, rfl, BE0⟩
  case round =>
    clear BE0
    obtain ⟨k, ba, bn, hk, rfl, hg⟩ := hrel
    by_cases hlt : k < j.rs.length
    · obtain ⟨b, off, rfl, hb, hr⟩ := HRK.out k hlt
      obtain ⟨c0, c1, c2⟩ := rol_at (hr.below hg.out.2.2.2.1 hb)
      have BE1 := Lib.hid (hg.out.below (below_alloc2 (Below.refl wr.heap.size wr) (.cells (rolA j.rs[k]) RolT)))
      have HAY1 := Lib.hid (HAY.out k hlt)
      have HAN1 := Lib.hid (HAN.out k hlt)
      have C1 := Lib.hid (HF.out j.rs[k].c _ BE1.out.2.2.2.1)
      have z0 : World.cell? _ _ = some (.slice sa j.ss.length sc) := BE1.out.1.cell 0
      have z1 : World.cell? _ _ = some (.slice (some ⟨b, off, none⟩) j.rs.length rc) := BE1.out.1.cell 1
      have z2 : World.cell? _ _ = some (.int .i64 j.m) := BE1.out.1.cell 2
      obtain ⟨q1, hq1⟩ : ∃ y, y = Fl.best j (k + 1) := ⟨_, rfl⟩
      rw [← hq1] at HAY1 HAN1
      have HNEXT := Lib.hid hq1
      clear hr hg hq1
      generalize Fl.best j k = p at *
      generalize j.rs[k] = r at *
      generalize Fl.fewP j r.c = q at *
      obtain ⟨qb, qc, ql⟩ := q
      dsimp only at *
      go_wp2_with fail
      refine C1.out.mono ?_
      rintro e w2 ⟨qa, qn, rfl, hcq, hb2⟩
      have BE2 := Lib.hid ((BE1.out.below hb2).below (below_alloc2 (Below.refl w2.heap.size w2) (.cells (planA qb qc (.slice qa ql.length qn)) PlanT)))
      have HCQ := Lib.hid (hcq.below (below_alloc2 (Below.refl w2.heap.size w2) (.cells (planA qb qc (.slice qa ql.length qn)) PlanT)))
      have BQ := Lib.hid (BlockAt.new w2 (planA qb qc (.slice qa ql.length qn)) PlanT)
      clear hcq hb2 BE1 C1 z0 z1 z2 c0 c1 c2
      cases qb
      · have HE := Lib.hid (HAN1.out (.inl rfl))
        clear HAY1 HAN1
        go_wp2
        go_roundw
        case rel => exact ⟨k + 1, ba, bn, by omega, by go_num, Lib.hid (by rw [← HNEXT.out, HE.out]; exact BE2.out)⟩
        case measure => simp [intOf]; omega
      have p0 : World.cell? _ _ = some (.bool p.b) := BE2.out.2.1.cell 0
      have p1 : World.cell? _ _ = some (.int .i64 p.c) := BE2.out.2.1.cell 1
      have p2 : World.cell? _ _ = some (.slice ba p.l.length bn) := BE2.out.2.1.cell 2
      have CA := Lib.hid (fun W => isAbove_any p ba p.l.length bn qc W)
      generalize hAB : Fl.above p qc = AB at *
      clear hAB
      have hoo : AB = true ∨ AB = false := by cases AB <;> simp
      rcases hoo with ho | ho
      · have HE := Lib.hid (HAY1.out rfl ho)
        rw [ho] at CA
        clear HAY1 HAN1 ho
        go_wp2_with fail
        refine (CA.out _).mono ?_
        rintro e w3 ⟨rfl, hb3⟩
        have BE3 := Lib.hid (BE2.out.below hb3)
        have BQ3 := Lib.hid (BQ.out.below hb3 BQ.out.lt)
        have HCQ3 := Lib.hid (HCQ.out.below hb3)
        clear hb3 BE2 BQ HCQ p0 p1 p2
        have p0 : World.cell? _ _ = some (.bool p.b) := BE3.out.2.1.cell 0
        have p1 : World.cell? _ _ = some (.int .i64 p.c) := BE3.out.2.1.cell 1
        have p2 : World.cell? _ _ = some (.slice ba p.l.length bn) := BE3.out.2.1.cell 2
        have f0 := BE3.out.2.1.frozen 0
        have f1 := BE3.out.2.1.frozen 1
        have f2 := BE3.out.2.1.frozen 2
        have q0 : World.cell? _ _ = some (.bool true) := BQ3.out.cell 0
        have q1' : World.cell? _ _ = some (.int .i64 qc) := BQ3.out.cell 1
        have q2 : World.cell? _ _ = some (.slice qa ql.length qn) := BQ3.out.cell 2
        have HF2 := Lib.hid (BE3.out.set (q := ⟨true, qc, ql⟩) HCQ3.out)
        clear BE3 BQ3 HCQ3
        go_wp2
        go_roundw
        case rel => exact ⟨k + 1, qa, qn, by omega, by go_num, Lib.hid (by rw [← HNEXT.out, HE.out]; exact HF2.out)⟩
        case measure => simp [intOf]; omega
      · have HE := Lib.hid (HAN1.out (.inr ho))
        rw [ho] at CA
        clear HAY1 HAN1 ho
        go_wp2_with fail
        refine (CA.out _).mono ?_
        rintro e w3 ⟨rfl, hb3⟩
        have BE3 := Lib.hid (BE2.out.below hb3)
        clear hb3 BE2 BQ HCQ p0 p1 p2
        go_wp2
        go_roundw
        case rel => exact ⟨k + 1, ba, bn, by omega, by go_num, Lib.hid (by rw [← HNEXT.out, HE.out]; exact BE3.out)⟩
        case measure => simp [intOf]; omega
    · have hke : k = j.rs.length := by omega
      have BE := hg.out
      rw [hke, ← HP.out] at BE
      have HC := Lib.hid BE.2.2.1
      have HB := Lib.hid BE.2.2.2.1
      have p0 : World.cell? _ _ = some (.bool P.b) := BE.2.1.cell 0
      have p1 : World.cell? _ _ = some (.int .i64 P.c) := BE.2.1.cell 1
      have p2 : World.cell? _ _ = some (.slice ba P.l.length bn) := BE.2.1.cell 2
      clear hg hke BE
      go_wp2
      go_quiet (fail)
      go_wp2
      (try simp only [Exit.inBlock, Exit.then])
      refine bodyPost_ret (results_tmp4 rfl _ _ _) rfl ?_
      exact ⟨ba, bn, rfl, HC.out.below (below_drewN (Below.refl _ _) _), below_drewN HB.out _⟩
end Go.Proofs.Ytpobkdbnldogcaa
