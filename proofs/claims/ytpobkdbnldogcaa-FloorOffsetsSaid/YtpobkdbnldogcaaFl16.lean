/- The fewest rolls: of the program. -/
import Derived.Test.YtpobkdbnldogcaaFl15
namespace Go.Proofs.Ytpobkdbnldogcaa
open Go.RowKit

/-- What lies in memory while the rolls of a shade are gone through. -/
def FeS (w : World) (jc : Array Value) (g N c : Nat) (ps : List Fl.P) (wr : World) : Prop :=
  BlockAt wr w.heap.size jc JobT ∧ BlockAt wr (w.heap.size + 1) (planA false 0 (.slice none 0 0)) PlanT ∧ Pls 0 wr (.slice (some ⟨g, 0, none⟩) N c) ps ∧ Below w.heap.size w wr
theorem FeS.below {w wr w2 : World} {jc : Array Value} {g N c : Nat} {ps : List Fl.P} (h : FeS w jc g N c ps wr) (hb : Below wr.heap.size wr w2) : FeS w jc g N c ps w2 :=
  ⟨h.1.below hb h.1.lt, h.2.1.below hb h.2.1.lt, h.2.2.1.all hb, below_step h.2.2.2 hb⟩
set_option maxRecDepth 100000 in
set_option maxHeartbeats 8000000 in
theorem fewest_any (sv rv : Value) (j : Fl.J) (C : Int) (w : World) (hs : Strips w sv j.ss) (hr : Rols w rv j.rs) (hj : Fl.jobE j = 0) :
    Calls Try.prog 87 #[jobV sv rv j.m, .int .i64 C] w fun e w' => ∃ a n, e = .returned (planV (Fl.fewP j C).b (Fl.fewP j C).c (.slice a (Fl.fewP j C).l.length n)) ∧ CutsT w' (.slice a (Fl.fewP j C).l.length n) (Fl.fewP j C).l ∧ Below w.heap.size w w' := by
  obtain ⟨hn6, hr5, _⟩ := Fl.jobE_zero.1 hj
  have FT := Lib.hid (fun k (hk : k < j.rs.length) W (hW : Below w.heap.size w W) => tight_any sv rv j k W (hs.all hW) (hr.all hW) hj hk)
  obtain ⟨sa, sc, rfl, hsc, hsk⟩ := hs
  obtain ⟨ra, rc, rfl, hrc, hrk⟩ := hr
  have HRK := Lib.hid hrk
  have hpow : 2 ^ j.ss.length ≤ 2 ^ 6 := Nat.pow_le_pow_right (by omega) hn6
  have hpos : 0 < 2 ^ j.ss.length := Nat.pow_pos (by omega)
  have hw0 := below_alloc2 (below_alloc2 (Below.refl w.heap.size w) (.cells #[.slice sa j.ss.length sc, .slice ra j.rs.length rc, .int .i64 j.m] JobT)) (.cells (planA false 0 (.slice none 0 0)) PlanT)
  have NP := Lib.hid (noPlans_any sa ra j.ss.length sc j.rs.length rc j.m ((w.alloc (.cells #[.slice sa j.ss.length sc, .slice ra j.rs.length rc, .int .i64 j.m] JobT)).alloc (.cells (planA false 0 (.slice none 0 0)) PlanT)) hn6)
  have HB0 := Lib.hid (show BlockAt ((w.alloc (.cells #[.slice sa j.ss.length sc, .slice ra j.rs.length rc, .int .i64 j.m] JobT)).alloc (.cells (planA false 0 (.slice none 0 0)) PlanT)) w.heap.size #[.slice sa j.ss.length sc, .slice ra j.rs.length rc, .int .i64 j.m] JobT ∧
      BlockAt ((w.alloc (.cells #[.slice sa j.ss.length sc, .slice ra j.rs.length rc, .int .i64 j.m] JobT)).alloc (.cells (planA false 0 (.slice none 0 0)) PlanT)) (w.heap.size + 1) (planA false 0 (.slice none 0 0)) PlanT from
    ⟨(BlockAt.new w _ JobT).alloc _, by have := BlockAt.new (w.alloc (.cells #[.slice sa j.ss.length sc, .slice ra j.rs.length rc, .int .i64 j.m] JobT)) (planA false 0 (.slice none 0 0)) PlanT; simpa using this⟩)
  have HW := Lib.hid hw0
  have y0 : World.cell? _ _ = some (.slice sa j.ss.length sc) := HB0.out.1.cell 0
  have y1 : World.cell? _ _ = some (.slice ra j.rs.length rc) := HB0.out.1.cell 1
  have y2 : World.cell? _ _ = some (.int .i64 j.m) := HB0.out.1.cell 2
  have HTL := Lib.hid (Fl.few_len j C)
  have HGL := Lib.hid (fun k => Fl.tig_len j k (2 ^ j.ss.length))
  have HCS := Lib.hid (Fl.few_cst j C)
  have HLP := Lib.hid (Fl.few_lnB hn6 C)
  have HLT := Lib.hid (fun k => Fl.tig_lnB j k (2 ^ j.ss.length))
  have HWR := Lib.hid (fun gp gt cp ct (K : Int) ps ts W hp ht hpl htl h0 h1 h2 h3 h4 => withRoll_any 0 0 gp gt cp ct j.ss.length K ps ts W hp ht hn6 hpl htl h0 h1 h2 h3 h4)
  have HA0 : Hid (Fl.few j C 0 = Fl.noP j.ss.length) := Lib.hid rfl
  have HAY : Hid (∀ k (hk : k < j.rs.length), j.rs[k].c = C → Fl.few j C (k + 1) = Fl.wit (Fl.few j C k) (Fl.tig j k (2 ^ j.ss.length)) (Fl.few j C k).length) := Lib.hid fun k hk h => by
    rw [Fl.few, if_pos]; rw [show j.rs.getD k default = j.rs[k] by simp [hk]]; exact h
  have HAN : Hid (∀ k (hk : k < j.rs.length), j.rs[k].c ≠ C → Fl.few j C (k + 1) = Fl.few j C k) := Lib.hid fun k hk h => by
    rw [Fl.few, if_neg]; rw [show j.rs.getD k default = j.rs[k] by simp [hk]]; exact h
  have HFP : Hid (∀ N1 (h : N1 < (Fl.few j C j.rs.length).length), N1 + 1 = 2 ^ j.ss.length → Fl.fewP j C = (Fl.few j C j.rs.length)[N1]) := Lib.hid fun N1 h h2 => by
    unfold Fl.fewP
    rw [show 2 ^ j.ss.length - 1 = N1 by omega]
    simp [h]
  have HPW : Hid (2 ^ j.ss.length = 2 ^ j.ss.length) := Lib.hid rfl
  obtain ⟨N, hN⟩ : ∃ N, N = 2 ^ j.ss.length := ⟨_, rfl⟩
  have HNN := Lib.hid hN
  rw [← hN] at hpow hpos NP HTL HGL HLT HAY HFP FT
  obtain ⟨N1, hN1⟩ : ∃ N1, N = N1 + 1 := ⟨N - 1, by omega⟩
  have HN1 := Lib.hid hN1
  have hsub : (N : Int) - 1 = (N1 : Int) := by omega
  have hN1l : N1 < N := by omega
  obtain ⟨P, hP⟩ : ∃ P, P = Fl.fewP j C := ⟨_, rfl⟩
  rw [← hP] at HFP ⊢
  clear hN HPW hN1 hw0 hrk hj hP
  go_enter Try.func87, Try.ntmps87
  go_wp2_with fail
  refine NP.out.mono ?_
  rintro e w1 ⟨g, c, rfl, hp1, hb1⟩
  have FE0 := Lib.hid (show FeS w #[.slice sa j.ss.length sc, .slice ra j.rs.length rc, .int .i64 j.m] g N c (Fl.few j C 0) w1 from
    ⟨HB0.out.1.below hb1 HB0.out.1.lt, HB0.out.2.below hb1 HB0.out.2.lt, by rw [HA0.out]; exact hp1.mono (Nat.zero_le _), below_step HW.out hb1⟩)
  have y1 : World.cell? _ _ = some (.slice ra j.rs.length rc) := FE0.out.1.cell 1
  clear hp1 hb1 NP HA0 y0 y2 HB0 HW
  go_wp2
  clear y1
  go_loopw [5, 13] (fun s t wr => ∃ k g c : Nat, k ≤ j.rs.length ∧ s = .slice (some ⟨g, 0, none⟩) N c ∧ t = .int .i64 k ∧ Hid (FeS w #[.slice sa j.ss.length sc, .slice ra j.rs.length rc, .int .i64 j.m] g N c (Fl.few j C k) wr)) (fun _ t _ => j.rs.length - (intOf t).toNat)
  case atStart => exact ⟨0, g, c, Nat.zero_le _, rfl, rfl, FE0⟩
  case round =>
    clear FE0
    obtain ⟨k, g, c, hk, rfl, rfl, hg⟩ := hrel
    by_cases hlt : k < j.rs.length
    · obtain ⟨b, off, rfl, hb, hr⟩ := HRK.out k hlt
      obtain ⟨c0, c1, c2⟩ := rol_at (hr.below hg.out.2.2.2 hb)
      have FE1 := Lib.hid (hg.out.below (below_alloc2 (Below.refl wr.heap.size wr) (.cells (rolA j.rs[k]) RolT)))
      have HAY1 := Lib.hid (HAY.out k hlt)
      have HAN1 := Lib.hid (HAN.out k hlt)
      have C1 := Lib.hid (FT.out k hlt _ FE1.out.2.2.2)
      clear hr hg
      generalize j.rs[k] = r at *
      by_cases hsh : r.c = C
      · have hq : (r.c == C) = true := beq_iff_eq.2 hsh
        have HE := Lib.hid (HAY1.out hsh)
        have z0 : World.cell? _ _ = some (.slice sa j.ss.length sc) := FE1.out.1.cell 0
        have z1 : World.cell? _ _ = some (.slice (some ⟨b, off, none⟩) j.rs.length rc) := FE1.out.1.cell 1
        have z2 : World.cell? _ _ = some (.int .i64 j.m) := FE1.out.1.cell 2
        clear hsh HAY1 HAN1
        go_wp2_with fail
        refine C1.out.mono ?_
        rintro e w2 ⟨gt, ct, rfl, hp2, hb2⟩
        have FE2 := Lib.hid (FE1.out.below hb2)
        have CW := Lib.hid (HWR.out g gt c ct k (Fl.few j C k) (Fl.tig j k N) w2 (by rw [HTL.out]; exact FE2.out.2.2.1) (by rw [HGL.out]; exact hp2.mono (Nat.zero_le _)) (by rw [HTL.out]; exact HNN.out) (by rw [HGL.out]; exact HNN.out) (by omega) (by omega) (HCS.out k) (HLP.out k) (HLT.out k))
        rw [HTL.out, HGL.out] at CW
        rw [HTL.out] at HE
        clear hp2 hb2 z0 z1 z2 FE1 C1
        go_wp2_with fail
        refine CW.out.mono ?_
        rintro e w3 ⟨g3, c3, rfl, hp3, hb3⟩
        have FE3 := Lib.hid (show FeS w #[.slice sa j.ss.length sc, .slice (some ⟨b, off, none⟩) j.rs.length rc, .int .i64 j.m] g3 N c3 (Fl.few j C (k + 1)) w3 from
          ⟨(FE2.out.below hb3).1, (FE2.out.below hb3).2.1, by rw [HE.out]; exact hp3.mono (Nat.zero_le _), (FE2.out.below hb3).2.2.2⟩)
        clear hp3 hb3 FE2 CW c0 c1 c2
        go_wp2
        go_roundw
        case rel => exact ⟨k + 1, g3, c3, by omega, rfl, by go_num, FE3⟩
        case measure => simp [intOf]; omega
      · have hq : (r.c == C) = false := beq_eq_false_iff_ne.2 hsh
        have HE := Lib.hid (HAN1.out hsh)
        clear hsh HAY1 HAN1
        go_wp2
        go_roundw
        case rel => exact ⟨k + 1, g, c, by omega, rfl, by go_num, Lib.hid (by rw [HE.out]; exact FE1.out)⟩
        case measure => simp [intOf]; omega
    · have hke : k = j.rs.length := by omega
      have FE := Lib.hid hg.out
      rw [hke] at FE
      have hll := HTL.out j.rs.length
      have hP := HFP.out N1 (by omega) HN1.out.symm
      have hdk : decide ((k : Int) < (j.rs.length : Int)) = false := decide_eq_false (by omega)
      have hdk2 : decide (k < j.rs.length) = false := decide_eq_false hlt
      obtain ⟨va, vm, ⟨p0, p1, p2⟩, hcv, hvm⟩ := FE.out.2.2.1.get (show N1 < (Fl.few j C j.rs.length).length by omega)
      rw [← hP] at p0 p1 p2 hcv hvm
      have HC := Lib.hid hcv
      have HB6 := Lib.hid FE.out.2.1
      have HB := Lib.hid FE.out.2.2.2
      have z0 : World.cell? _ _ = some (.bool false) := HB6.out.cell 0
      have z1 : World.cell? _ _ = some (.int .i64 0) := HB6.out.cell 1
      have z2 : World.cell? _ _ = some (.slice none 0 0) := HB6.out.cell 2
      have f0 := HB6.out.frozen 0
      have f1 := HB6.out.frozen 1
      have f2 := HB6.out.frozen 2
      have hlt6 := HB6.out.lt
      clear hg hke hcv hP FE HTL HGL HCS HLP HLT HWR HAY HAN HFP FT HRK
      obtain ⟨pb, pc, pl⟩ := P
      dsimp only at *
      go_wp2
      have HR : BlockAt (((wr.setCell ⟨w.heap.size + 1, 0, none⟩ (.bool pb)).setCell ⟨w.heap.size + 1, 1, none⟩ (.int .i64 pc)).setCell ⟨w.heap.size + 1, 2, none⟩ (.slice va pl.length vm)) (w.heap.size + 1) (planA pb pc (.slice va pl.length vm)) PlanT := ((HB6.out.set 0 _).set 1 _).set 2 _
      have r0 : World.cell? _ _ = some (.bool pb) := HR.cell 0
      have r1 : World.cell? _ _ = some (.int .i64 pc) := HR.cell 1
      have r2 : World.cell? _ _ = some (.slice va pl.length vm) := HR.cell 2
      have hlr := HR.lt
      refine bodyPost_ret (v := planV pb pc (.slice va pl.length vm)) (by simp [results, Try.results87, go_sem, r0, r1, r2]) rfl ⟨va, vm, rfl, ?_, below_set (below_set (below_set HB.out (by omega) _) (by omega) _) (by omega) _⟩
      exact ((HC.out.set HB6.out (plan_ne _) _).set (HB6.out.set 0 _) (plan_ne _) _).set ((HB6.out.set 0 _).set 1 _) (plan_ne _) _
end Go.Proofs.Ytpobkdbnldogcaa
