/- The greatest values of all beginnings: of the reference. RollPotentials returns true, whatever the band and the articles. -/
import Derived.Test.YtilpofmjkcjhdaaRwH
namespace Go.Proofs.Ytilpofmjkcjhdaa
open Go.RowKit

def Ro.wxs (ms : List Bd.M) (al : List Ro.A) (k : Nat) : List Int := (List.range (k + 1)).map (Ro.W ms al)
theorem Ro.wxs_len (ms : List Bd.M) (al : List Ro.A) (k : Nat) : (Ro.wxs ms al k).length = k + 1 := by simp [Ro.wxs]
theorem Ro.wxs_get {ms : List Bd.M} {al : List Ro.A} {k p : Nat} (h : p < (Ro.wxs ms al k).length) : (Ro.wxs ms al k)[p] = Ro.W ms al p := by simp [Ro.wxs]
theorem Ro.wxs_succ (ms : List Bd.M) (al : List Ro.A) (k : Nat) : Ro.wxs ms al (k + 1) = Ro.wxs ms al k ++ [Ro.W ms al (k + 1)] := by
  unfold Ro.wxs
  rw [List.range_succ (n := k + 1), List.map_append]
  rfl
theorem Ro.wxs_zero (ms : List Bd.M) (al : List Ro.A) : Ro.wxs ms al 0 = [0] := rfl
theorem Ro.mid_end (ms : List Bd.M) (al : List Ro.A) (k : Nat) : Ro.mid ms al k al.length = Ro.W ms al (k + 1) := by
  have := congrFun (Ro.mid_all ms al k) (k + 1)
  rw [Ro.upd_same] at this
  exact this
theorem Ro.mid_start (ms : List Bd.M) (al : List Ro.A) (k : Nat) : Ro.mid ms al k 0 = Ro.W ms al k := rfl
def WrS (b off : Nat) (a : Ro.A) (xb x1 : Nat) (v1 : Int) (W : World) : Prop := (ArtAt W b off a ∧ W.cell? ⟨xb, x1, none⟩ = some (.int .i64 v1)) ∧ b < W.heap.size ∧ xb < W.heap.size
theorem WrS.below {b off : Nat} {a : Ro.A} {xb x1 : Nat} {v1 : Int} {W W2 : World} (h : WrS b off a xb x1 v1 W) (hb : Below W.heap.size W W2) : WrS b off a xb x1 v1 W2 :=
  ⟨⟨h.1.1.below hb h.2.1, (hb.cell (p := ⟨xb, x1, none⟩) h.2.2).trans h.1.2⟩, Nat.lt_of_lt_of_le h.2.1 hb.size, Nat.lt_of_lt_of_le h.2.2 hb.size⟩

set_option maxRecDepth 20000 in
set_option maxHeartbeats 4000000 in
theorem refWorth_any (v u : Value) (rs : List Bd.R) (al : List Ro.A) (w : World) (hv : Runs w v rs) (hu : Arts w u al) (hl : rs.length ≤ 1000) (hal : al.length ≤ 1000) :
    Calls Try.prog 30 #[v, u] w fun e w' => ∃ a c, e = .returned (.tuple #[.slice a (Ro.worL rs al).length c, .int .i64 (Ro.layE rs al)]) ∧ Ints w' (.slice a (Ro.worL rs al).length c) (Ro.worL rs al) ∧ Below w.heap.size w w' := by
  obtain ⟨i0, hi, hz0, hz1, hz2⟩ := info_parts infoInt
  by_cases hz : Ro.layE rs al = 0
  case neg =>
    have LY := Lib.hid (marks_bad v u rs al _ hv hu hl hal hz)
    have hR : Ro.worL rs al = [] := if_neg hz
    rw [hR]
    obtain ⟨va, vc, rfl⟩ := hv.form
    obtain ⟨ua, uc, rfl, _⟩ := hu
    generalize Ro.layE rs al = q at *
    have hd : (q == 0) = false := beq_eq_false_iff_ne.2 hz
    have hd2 : (q != 0) = true := by rw [bne, hd]; rfl
    clear hv hz hR
    go_enter Try.func30, Try.ntmps30
    go_wp2_with fail
    refine LY.out.mono ?_
    rintro e w1 ⟨rfl, hb1⟩
    have HB := Lib.hid hb1
    clear hb1 LY
    go_wp2
    go_ret2
    exact ⟨none, 0, rfl, ints_nil _, HB.out⟩
  obtain ⟨h1, h2, h3, h4, h5, h6⟩ := Ro.lay_facts hz
  have LY := Lib.hid (marks_ok v u rs al _ hv hu hl hal hz)
  have hR : Ro.worL rs al = Ro.wxs (Bd.exp rs) al (Bd.exp rs).length := if_pos hz
  have TF := Lib.hid (fun mv (f : Int) (k : Nat) (hk : k < al.length) W (hW : Below w.heap.size w W) (hm : Mks W mv (Bd.exp rs)) => refFits_any mv u (Bd.exp rs) al ⟨f, (k : Int)⟩ W hm (hu.all hW) h6 h4 h5)
  have TFE := Lib.hid (fun (f : Int) (k : Nat) (hk : k < al.length) => Ro.fitX_in (ms := Bd.exp rs) hk f)
  have HL := Lib.hid (fun (k : Nat) (hk : k < al.length) => Ro.okA_iff.1 (h6 _ (List.getElem_mem hk)))
  have HWR := Lib.hid (fun k => And.intro (Ro.W_nonneg (Bd.exp rs) al k) (Ro.W_bound (ms := Bd.exp rs) h6 k))
  have HFT : Hid (∀ (a : Ro.A) (f : Int), Ro.fit (Bd.exp rs) a f = true → 0 ≤ f ∧ f + a.l ≤ (Bd.exp rs).length) := Lib.hid fun a f hh => ⟨(Ro.fit_iff.1 hh).1, (Ro.fit_iff.1 hh).2.1⟩
  rw [hR, hz]
  obtain ⟨va, vc, rfl⟩ := hv.form
  obtain ⟨ua, uc, rfl, hka⟩ := hu
  have HA := Lib.hid hka
  clear hv hz h1 h2 h3 h6 hR hka
  generalize Bd.exp rs = ms at *
  go_enter Try.func30, Try.ntmps30
  go_wp2_with fail
  refine LY.out.mono ?_
  rintro e w1 ⟨mv, rfl, ho, hb1⟩
  obtain ⟨ma, mc, hmv, _⟩ := ho.mks
  subst hmv
  have hs1 := hb1.size
  have HM : Hid (OwnI w.heap.size (w1.alloc (.cells #[.int .i64 0] 3)) (.slice (some ⟨w1.heap.size, 0, none⟩) 1 1) (Ro.wxs ms al 0) ∧ OwnM w.heap.size (w1.alloc (.cells #[.int .i64 0] 3)) (.slice ma ms.length mc) ms ∧ Below w.heap.size w (w1.alloc (.cells #[.int .i64 0] 3))) := Lib.hid (by
    refine ⟨?_, ho.alloc _, below_alloc2 hb1 _⟩
    exact ⟨rfl, .inr ⟨w1.heap.size, 1, #[.int .i64 0], rfl, hs1, heap_alloc_new w1 _, Nat.le_refl _, by unfold maxLen; omega, rfl, rfl⟩⟩)
  clear ho hb1 LY
  go_wp2
  go_loopw [8, 9] (fun s t wr => ∃ k E : Nat, k ≤ ms.length ∧ E = k + 1 ∧ t = .int .i64 E ∧ Hid (OwnI w.heap.size wr s (Ro.wxs ms al k) ∧ OwnM w.heap.size wr (.slice ma ms.length mc) ms ∧ Below w.heap.size w wr)) (fun _ t _ => (ms.length + 1) - (intOf t).toNat)
  case atStart => exact ⟨0, 1, by omega, rfl, rfl, HM⟩
  case round =>
    obtain ⟨k, E, hkN, hE, rfl, hg⟩ := hrel
    clear HM
    obtain ⟨oa, oc, hoe, _⟩ := hg.out.1.ints
    subst hoe
    have hlk := Ro.wxs_len ms al k
    by_cases hlt : E ≤ ms.length
    · have hdE : decide ((E : Int) ≤ ms.length) = true := decide_eq_true (by omega)
      have hdE' : decide (E ≤ ms.length) = true := decide_eq_true hlt
      have hwE : IntKind.i64.wrap ((E : Int) - 1) = (k : Int) := by rw [IntWalk.i64_in _ ⟨by omega, by omega⟩]; omega
      obtain ⟨oa2, oc2, hoe, hok⟩ := hg.out.1.ints
      simp only [Value.slice.injEq, true_and] at hoe
      obtain ⟨rfl, rfl⟩ := hoe
      have hkl : k < (Ro.wxs ms al k).length := by omega
      obtain ⟨ob, oo, rfl, hob, hoc⟩ := hok k hkl
      rw [Ro.wxs_get] at hoc
      have HEE := Lib.hid hE
      have HG := Lib.hid hg.out
      have HLK := Lib.hid (hlk.trans hE.symm)
      have hkE : k < E := by omega
      clear hg hE hok hlk
      rw [HLK.out] at hkl ⊢
      go_wp2
      clear hoc hwE
      go_loopw [10, 11] (fun s t wr => ∃ j : Nat, j ≤ al.length ∧ t = .int .i64 j ∧ s = .int .i64 (Ro.mid ms al k j) ∧ Hid (OwnI w.heap.size wr (.slice (some ⟨ob, oo, none⟩) E oc) (Ro.wxs ms al k) ∧ OwnM w.heap.size wr (.slice ma ms.length mc) ms ∧ Below w.heap.size w wr)) (fun _ t _ => al.length - (intOf t).toNat)
      case atStart => exact ⟨0, Nat.zero_le _, rfl, by rw [Ro.mid_start], Lib.hid (by rw [← HLK.out]; exact HG.out)⟩
      case round =>
        obtain ⟨j, hj, rfl, rfl, hg⟩ := hrel
        clear HG
        by_cases hjl : j < al.length
        · obtain ⟨ab, ao, rfl, hab, har⟩ := HA.out j hjl
          obtain ⟨⟨hl1, hl2⟩, hp1, hp2⟩ := HL.out j hjl
          obtain ⟨c0, c1, c2, c3, c4, c5⟩ := har.below hg.out.2.2 hab
          obtain ⟨z, hz⟩ : ∃ z : Int, z = (E : Int) - al[j].l := ⟨_, rfl⟩
          have hwz : IntKind.i64.wrap ((E : Int) - al[j].l) = z := by rw [IntWalk.i64_in _ ⟨by omega, by omega⟩]; exact hz.symm
          have C := Lib.hid (TF.out _ z j hjl wr.drew (below_drewN hg.out.2.2 1) (hg.out.2.1.mks.all (below_drewN (Below.refl _ _) 1)))
          rw [TFE.out z j hjl] at C
          have HM := Lib.hid (Ro.mid_succ (ms := ms) (k := k) hjl)
          have HO1 : Hid (Ro.fit ms al[j] z = false → Ro.mid ms al k (j + 1) = Ro.mid ms al k j) := Lib.hid fun h => by rw [HM.out]; exact Ro.one_no (by rw [← HEE.out, ← hz]; exact h)
          have HO2 : Hid (Ro.fit ms al[j] z = true → Ro.mid ms al k (j + 1) = max (Ro.mid ms al k j) (Ro.wf ms al k z.toNat + al[j].p)) := Lib.hid fun h => by rw [HM.out, Ro.one_yes (by rw [← HEE.out, ← hz]; exact h), ← HEE.out, ← hz]
          have HFZ : Hid (Ro.fit ms al[j] z = true → 0 ≤ z ∧ z + al[j].l ≤ ms.length) := Lib.hid (HFT.out al[j] z)
          have HZ := Lib.hid hz
          have HG := Lib.hid hg.out
          have HAR := Lib.hid (har.below hg.out.2.2 hab)
          have habw : ab < wr.heap.size := Nat.lt_of_lt_of_le hab hg.out.2.2.size
          obtain ⟨m1, hm1⟩ : ∃ m1, m1 = Ro.mid ms al k (j + 1) := ⟨_, rfl⟩
          rw [← hm1] at HO1 HO2
          have HM1 := Lib.hid hm1
          clear hg har HM hz hm1
          generalize Ro.mid ms al k j = m0 at *
          generalize Ro.fit ms al[j] z = r at *
          generalize al[j] = a at *
          cases r
          · have HM2 := Lib.hid (HO1.out rfl)
            clear HO1 HO2 HFZ
            go_upto_region 13 with fail
            clear c0 c1 c2 c3 c4 c5
            refine wp_region_seq [(0, true), (1, true), (2, true), (3, true), (4, true), (5, false), (6, true), (7, true), (8, true), (9, true), (10, true), (11, true), (12, true), (13, true), (14, true), (15, true), (16, true), (17, true), (18, true), (19, true)] (fun _ => True)
              (by kernel_rfl) (by kernel_rfl) (by kernel_rfl) (by kernel_rfl) (fun d _ _ _ _ h => by cases d <;> exact h) trivial (fun _ => ?_)
            repeat (first | (refine SeqH.take (v := ?_) rfl (by rfl) ?_ ?_; rotate_left; (· intro w _; go_simp; (try with_reducible rfl)); simp only [Act.put, List.setIfInBounds_toArray, List.set_cons_zero, List.set_cons_succ]) | (refine SeqH.skip rfl (by rfl) ?_; simp only [Act.put, List.setIfInBounds_toArray, List.set_cons_zero, List.set_cons_succ]))
            refine SeqH.step rfl (by rfl) (fun K hK => ?_)
            go_simp
            go_at_call 53
            refine (C.out).mono ?_
            rintro e w3 ⟨rfl, hb3⟩
            try dsimp only
            refine hK.out _ _ trivial (fun _ => ?_)
            have HG3 := Lib.hid (And.intro (HG.out.1.all ((below_drewN (Below.refl _ _) 1).trans hb3)) (And.intro (HG.out.2.1.all ((below_drewN (Below.refl _ _) 1).trans hb3)) (below_step (below_drewN HG.out.2.2 1) hb3)))
            clear hK K hb3 HG C HAR
            try simp only [Act.put, List.setIfInBounds_toArray, List.set_cons_zero, List.set_cons_succ]
            repeat (first | (refine SeqH.take (v := ?_) rfl (by rfl) ?_ ?_; rotate_left; (· intro w _; go_simp; (try with_reducible rfl)); simp only [Act.put, List.setIfInBounds_toArray, List.set_cons_zero, List.set_cons_succ]) | (refine SeqH.skip rfl (by rfl) ?_; simp only [Act.put, List.setIfInBounds_toArray, List.set_cons_zero, List.set_cons_succ]))
            refine SeqH.done ?_
            go_wp2
            go_roundw
            case rel => exact ⟨j + 1, by omega, by go_num, by rw [← HM1.out, HM2.out], HG3⟩
            case measure => simp [intOf]; omega
          · have HM2 := Lib.hid (HO2.out rfl)
            obtain ⟨hz0', hz1'⟩ := HFZ.out rfl
            clear HO1 HO2 HFZ
            obtain ⟨p, rfl⟩ : ∃ p : Nat, z = p := ⟨z.toNat, by omega⟩
            have hzz := HZ.out
            have hpk : p ≤ k := by have := HEE.out; omega
            have hrg := HWR.out p
            rw [Int.toNat_natCast, Ro.wf_le ms al k p hpk] at HM2
            have hpE : p < E := by have := HEE.out; omega
            have hpl : p < (Ro.wxs ms al k).length := by rw [HLK.out]; exact hpE
            obtain ⟨oa3, oc3, hoe3, hok3⟩ := HG.out.1.ints
            rw [HLK.out] at hoe3
            simp only [Value.slice.injEq, true_and] at hoe3
            obtain ⟨rfl, rfl⟩ := hoe3
            obtain ⟨ob3, oo3, he3, hob3, hoc3⟩ := hok3 p hpl
            simp only [Option.some.injEq, Addr.mk.injEq, and_true] at he3
            obtain ⟨rfl, rfl⟩ := he3
            rw [Ro.wxs_get] at hoc3
            have HS0 : Hid (WrS ab (ao + j * 6) a ob (oo + p) (Ro.W ms al p) wr.drew) := Lib.hid ⟨⟨HAR.out, hoc3⟩, habw, hob3⟩
            clear hok3 hoc3 HAR hzz hz0' hz1'
            generalize Ro.W ms al p = x at *
            have hwx : IntKind.i64.wrap (x + a.p) = x + a.p := IntWalk.i64_in _ ⟨by omega, by omega⟩
            have hkc : (k : Int) ≤ 1000 := by omega
            go_upto_region 13 with fail
            clear c0 c1 c2 c3 c4 c5 hrg
            obtain ⟨dd, hdd⟩ : ∃ dd, decide (m0 < x + a.p) = dd := ⟨_, rfl⟩
            refine wp_region_seq [(0, true), (1, true), (2, true), (3, true), (4, true), (5, false), (6, true), (7, true), (8, true), (9, true), (10, true), (11, true), (12, true), (13, true), (14, true), (15, true), (16, true), (17, true), (18, true), (19, true)] (WrS ab (ao + j * 6) a ob (oo + p) x)
              (by kernel_rfl) (by kernel_rfl) (by kernel_rfl) (by kernel_rfl) (fun d _ _ _ _ h => by cases d <;> exact h) HS0.out (fun _ => ?_)
            repeat (first | (refine SeqH.take (v := ?_) rfl (by rfl) ?_ ?_; rotate_left; (· intro w hSw; (try dsimp only at hSw); obtain ⟨⟨⟨c0, c1, c2, c3, c4, c5⟩, d1⟩, _, _⟩ := hSw; go_simp; (try with_reducible rfl)); simp only [Act.put, List.setIfInBounds_toArray, List.set_cons_zero, List.set_cons_succ]) | (refine SeqH.skip rfl (by rfl) ?_; simp only [Act.put, List.setIfInBounds_toArray, List.set_cons_zero, List.set_cons_succ]))
            refine SeqH.step rfl (by rfl) (fun K hK => ?_)
            go_simp
            go_at_call 53
            refine (C.out).mono ?_
            rintro e w3 ⟨rfl, hb3⟩
            try dsimp only
            have HS3 := Lib.hid (HS0.out.below hb3)
            refine hK.out _ _ HS3.out (fun _ => ?_)
            have HG3 := Lib.hid (And.intro (HG.out.1.all ((below_drewN (Below.refl _ _) 1).trans hb3)) (And.intro (HG.out.2.1.all ((below_drewN (Below.refl _ _) 1).trans hb3)) (below_step (below_drewN HG.out.2.2 1) hb3)))
            clear hK K hb3 HG C HS0
            try simp only [Act.put, List.setIfInBounds_toArray, List.set_cons_zero, List.set_cons_succ]
            repeat (first | (refine SeqH.take (v := ?_) rfl (by rfl) ?_ ?_; rotate_left; (· intro w hSw; (try dsimp only at hSw); obtain ⟨⟨⟨c0, c1, c2, c3, c4, c5⟩, d1⟩, _, _⟩ := hSw; go_simp; (try with_reducible rfl)); simp only [Act.put, List.setIfInBounds_toArray, List.set_cons_zero, List.set_cons_succ]) | (refine SeqH.skip rfl (by rfl) ?_; simp only [Act.put, List.setIfInBounds_toArray, List.set_cons_zero, List.set_cons_succ]))
            refine SeqH.done ?_
            cases dd
            · have hm : m1 = m0 := by rw [HM2.out]; exact Int.max_eq_left (by have := of_decide_eq_false hdd; omega)
              have HMM := Lib.hid hm
              clear hm hdd
              go_wp2
              go_roundw
              case rel => exact ⟨j + 1, by omega, by go_num, by rw [← HM1.out, HMM.out], HG3⟩
              case measure => simp [intOf]; omega
            · have hm : m1 = x + a.p := by rw [HM2.out]; exact Int.max_eq_right (by have := of_decide_eq_true hdd; omega)
              have HMM := Lib.hid hm
              obtain ⟨⟨⟨c0, c1, c2, c3, c4, c5⟩, d1⟩, _, _⟩ := HS3.out
              clear hm hdd
              go_upto_region 14 with fail
              go_quiet (fail)
              clear c0 c1 c2 c3 c4 c5 d1
              go_wp2
              go_roundw
              case rel => exact ⟨j + 1, by omega, by go_num, by rw [← HM1.out, HMM.out], Lib.hid ⟨HG3.out.1.all (below_drewN (Below.refl _ _) _), HG3.out.2.1.all (below_drewN (Below.refl _ _) _), below_drewN HG3.out.2.2 _⟩⟩
              case measure => simp [intOf]; omega
        · obtain rfl : j = al.length := by omega
          have hown := hg.out.1
          have hmk := hg.out.2.1
          have hw := hg.out.2.2
          rw [Ro.mid_end]
          have HXS := Lib.hid (Ro.wxs_succ ms al k)
          have hrgW := (HWR.out (k + 1)).1
          generalize Ro.W ms al (k + 1) = x at *
          have hca := intC_at wr x 3
          have hsz := hw.size
          have hwE2 : IntKind.i64.wrap ((E : Int) + 1) = ((E + 1 : Nat) : Int) := by rw [IntWalk.i64_in _ ⟨by omega, by omega⟩]; omega
          have hown' : w.heap.size ≤ w.heap.size ∧ wr.ownsRow w.heap.size 3 1 (.slice (some ⟨ob, oo, none⟩) E oc) E (cellsI (Ro.wxs ms al k)) := ⟨Nat.le_refl _, by have := hown; unfold OwnI at this; rw [HLK.out] at this; exact this⟩
          have hown2 := hown'.2
          clear hg hown hown' hrgW
          go_wp2_with (at_builtin; refine wpList_append_own _ rfl _ _ 33 rfl w.heap.size 3 i0 (.int .i64 0) 1 8 Try.underlying33 hi hz0 hz1 hz2 rfl (by decide) _ _ _ rfl (World.ownsRow.alloc hown2 _) ⟨wr.heap.size, 0, none⟩ 1 1 (intC x) rfl rfl ?c1 (intC_one _) ?c3 ?c4 ?c5 ?_)
          case c1 => exact hca
          case c3 => unfold maxLen; omega
          case c4 => omega
          case c5 => simp; omega
          intro v' w9 hr9 hg9 _
          have hmk9 : OwnM w.heap.size w9 (.slice ma ms.length mc) ms := ownsRow_other (by decide) (OwnM.alloc hmk (.cells #[.int .i64 x] 3)) (World.ownsRow.alloc hown2 _) hg9
          have hp9 : OwnI w.heap.size w9 v' (Ro.wxs ms al k ++ [x]) := OwnI.pushed (by rw [HLK.out]; exact hr9)
          have HN := Lib.hid (And.intro hp9 (And.intro hmk9 ((below_alloc2 hw _).grown hg9 (by simp; omega) (fun j e => (World.ownsRow.lt hown2 j e).1))))
          clear hown2 hw hr9 hg9 hca hmk hmk9 hp9
          go_wp2
          go_roundw
          case rel => exact ⟨k + 1, E + 1, by have := HEE.out; omega, by rw [HEE.out], by go_num, Lib.hid (by rw [HXS.out]; exact HN.out)⟩
          case measure => simp [intOf]; omega
    · have hdE : decide ((E : Int) ≤ ms.length) = false := decide_eq_false (by omega)
      have hdE' : decide (E ≤ ms.length) = false := decide_eq_false hlt
      obtain rfl : k = ms.length := by omega
      have HI := Lib.hid (And.intro hg.out.1.ints hg.out.2.2)
      clear hg hlk
      go_wp2
      go_ret2
      exact ⟨_, _, rfl, HI.out.1, HI.out.2⟩
end Go.Proofs.Ytilpofmjkcjhdaa
namespace Go.Proofs.Ytilpofmjkcjhdaa
open Go.RowKit

set_option maxRecDepth 20000 in
set_option maxHeartbeats 2000000 in
theorem numPot_any (v u : Value) (rs : List Bd.R) (al : List Ro.A) (w : World) (hv : Runs w v rs) (hu : Arts w u al) (hl : rs.length ≤ 1000) (hal : al.length ≤ 1000) :
    Calls Try.prog 34 #[v, u] w fun e w' => ∃ a c, e = .returned (.tuple #[.slice a (Ro.worL rs al).length c, .int .i64 (Ro.layE rs al)]) ∧ Ints w' (.slice a (Ro.worL rs al).length c) (Ro.worL rs al) ∧ Below w.heap.size w w' := by
  have C := Lib.hid (num_worth_any v u rs al w hv hu hl hal)
  obtain ⟨va, vc, rfl⟩ := hv.form
  obtain ⟨ua, uc, rfl, _⟩ := hu
  clear hv
  generalize Ro.worL rs al = ks at *
  generalize Ro.layE rs al = q at *
  go_enter Try.func34, Try.ntmps34
  go_wp2_with fail
  refine C.out.mono ?_
  rintro e w1 ⟨a, c, rfl, hi, hb1⟩
  have HI := Lib.hid (And.intro hi hb1)
  clear hi hb1 C
  go_wp2
  go_ret2
  exact ⟨_, _, rfl, HI.out.1, HI.out.2⟩

theorem Ro.pot_good {rs : List Bd.R} {al : List Ro.A} (hz : Ro.layE rs al = 0) : Ro.boE rs al (Ro.worL rs al) = 0 ∧ Ro.boV rs al (Ro.worL rs al) = Ro.W (Bd.exp rs) al (Bd.exp rs).length := by
  obtain ⟨h1, h2, h3, h4, h5, h6⟩ := Ro.lay_facts hz
  have hR : Ro.worL rs al = Ro.wl (Bd.exp rs) al (Bd.exp rs).length := if_pos hz
  obtain ⟨e1, e2⟩ := Ro.W_bnd (ms := Bd.exp rs) h6 h4
  refine ⟨?_, ?_⟩
  · unfold Ro.boE; rw [if_pos hz, hR]; exact e1
  · unfold Ro.boV; rw [if_pos hz, hR]; exact e2
theorem Ro.wor_last {rs : List Bd.R} {al : List Ro.A} (hz : Ro.layE rs al = 0) : ∃ n, (Ro.worL rs al).length = n + 1 ∧ n ≤ 300 ∧ ∀ h : n < (Ro.worL rs al).length, (Ro.worL rs al)[n] = Ro.W (Bd.exp rs) al (Bd.exp rs).length := by
  obtain ⟨h1, h2, h3, h4, h5, h6⟩ := Ro.lay_facts hz
  have hR : Ro.worL rs al = Ro.wl (Bd.exp rs) al (Bd.exp rs).length := if_pos hz
  refine ⟨(Bd.exp rs).length, by rw [hR, Ro.wl_len], h4, fun h => ?_⟩
  have e := Ro.wl_get (ms := Bd.exp rs) (al := al) (n := (Bd.exp rs).length) (Nat.le_refl _)
  rw [← hR, getD_get h] at e
  exact e

set_option maxRecDepth 20000 in
set_option maxHeartbeats 4000000 in
theorem potentials_walk (v u : Value) (rs : List Bd.R) (al : List Ro.A) (w : World) (hv : Runs w v rs) (hu : Arts w u al) :
    Calls Try.prog 9 #[v, u] w fun e w' => e = .returned (.bool true) ∧ Below w.heap.size w w' := by
  have LO := Lib.hid (rollLong_any v u (.slice none 0 0) rs al.length 0 _ hv (by obtain ⟨a, c, h, _⟩ := hu; exact ⟨a, c, h⟩) ⟨none, 0, rfl⟩)
  have KN := Lib.hid (fun W => rollKnown_any W)
  cases hL : (decide (100 < rs.length) || (decide (40 < al.length) || decide (400 < 0)))
  case true =>
    rw [hL] at LO
    obtain ⟨va, vc, rfl⟩ := hv.form
    obtain ⟨ua, uc, rfl, _⟩ := hu
    clear hv hL
    go_enter Try.func9, Try.ntmps9
    go_wp2_with fail
    refine LO.out.mono ?_
    rintro e w1 ⟨rfl, hb1⟩
    have HB1 := Lib.hid hb1
    clear hb1 LO
    go_wp2_with fail
    refine (KN.out _).mono ?_
    rintro e w2 ⟨rfl, hb2⟩
    have HB2 := Lib.hid (below_step HB1.out hb2)
    clear hb2 HB1 KN
    go_wp2
    go_ret
    exact ⟨rfl, HB2.out⟩
  rw [hL] at LO
  simp only [Bool.or_eq_false_iff, decide_eq_false_iff_not] at hL
  have hl : rs.length ≤ 1000 := by omega
  have hal : al.length ≤ 1000 := by omega
  have NF := Lib.hid (fun W (hW : Below w.heap.size w W) => numPot_any v u rs al W (hv.all hW) (hu.all hW) hl hal)
  have RF := Lib.hid (fun W (hW : Below w.heap.size w W) => refWorth_any v u rs al W (hv.all hW) (hu.all hW) hl hal)
  by_cases hz : Ro.layE rs al = 0
  · obtain ⟨e1, e2⟩ := Ro.pot_good hz
    obtain ⟨n, hn1, hn2, hn3⟩ := Ro.wor_last hz
    have NB := Lib.hid (fun a c W (hW : Below w.heap.size w W) (hi : Ints W (.slice a (Ro.worL rs al).length c) (Ro.worL rs al)) => numBound_any v u _ rs al (Ro.worL rs al) W (hv.all hW) (hu.all hW) hi hl hal (by omega))
    have RB := Lib.hid (fun a c W (hW : Below w.heap.size w W) (hi : Ints W (.slice a (Ro.worL rs al).length c) (Ro.worL rs al)) => refBound_any v u _ rs al (Ro.worL rs al) W (hv.all hW) (hu.all hW) hi hl hal (by omega))
    rw [e1, e2] at NB RB
    rw [hz] at NF RF
    obtain ⟨va, vc, rfl⟩ := hv.form
    obtain ⟨ua, uc, rfl, _⟩ := hu
    have hn4 : n < (Ro.worL rs al).length := by omega
    have hn5 := hn3 hn4
    clear hv hL hl hal hz e1 e2 hn3
    have HN1 := Lib.hid hn1
    have HN5 := Lib.hid hn5
    clear hn1 hn5
    generalize Ro.W (Bd.exp rs) al (Bd.exp rs).length = r at *
    generalize Ro.worL rs al = ks at *
    have e3 : (r == r) = true := beq_self_eq_true _
    obtain ⟨N1, hN1⟩ : ∃ N1, N1 = ks.length := ⟨_, rfl⟩
    have HL1 : Hid (N1 = n + 1) := Lib.hid (by rw [hN1]; exact HN1.out)
    rw [← hN1] at NF RF NB RB hn4
    have HKL := Lib.hid hN1
    clear hN1
    go_enter Try.func9, Try.ntmps9
    go_wp2_with fail
    refine LO.out.mono ?_
    rintro e w1 ⟨rfl, hb1⟩
    have H1 := Lib.hid hb1
    clear hb1 LO
    go_wp2_with fail
    refine (NF.out _ H1.out).mono ?_
    rintro e w2 ⟨a1, c1, rfl, hi2, hb2⟩
    have H2 := Lib.hid (And.intro hi2 (below_step H1.out hb2))
    clear hb2 H1 NF hi2
    go_wp2_with fail
    refine (RF.out _ H2.out.2).mono ?_
    rintro e w3 ⟨a2, c2, rfl, hi3, hb3⟩
    have H3 := Lib.hid (And.intro (H2.out.1.all hb3) (And.intro hi3 (below_step H2.out.2 hb3)))
    clear hb3 H2 RF hi3
    go_wp2_with fail
    refine (RB.out _ _ _ H3.out.2.2 H3.out.1).mono ?_
    rintro e w4 ⟨rfl, hb4⟩
    have H4 := Lib.hid (And.intro (H3.out.1.all hb4) (And.intro (H3.out.2.1.all hb4) (below_step H3.out.2.2 hb4)))
    clear hb4 H3 RB
    go_wp2_with fail
    refine (NB.out _ _ _ H4.out.2.2 H4.out.1).mono ?_
    rintro e w5 ⟨rfl, hb5⟩
    have H5 := Lib.hid (And.intro (H4.out.2.1.all hb5) (below_step H4.out.2.2 hb5))
    clear hb5 H4 NB
    obtain ⟨a3, c3, he3, hk3⟩ := H5.out.1
    rw [← HKL.out] at he3
    simp only [Value.slice.injEq, true_and] at he3
    obtain ⟨rfl, rfl⟩ := he3
    obtain ⟨kb, ko, rfl, hkb, hkc⟩ := hk3 n (by rw [← HKL.out]; exact hn4)
    rw [HN5.out] at hkc
    have hw1 : IntKind.i64.wrap ((N1 : Int) - 1) = (n : Int) := by rw [IntWalk.i64_in _ ⟨by have := HL1.out; omega, by have := HL1.out; omega⟩]; have := HL1.out; omega
    clear hk3
    go_wp2_with fail
    refine (KN.out _).mono ?_
    rintro e w6 ⟨rfl, hb6⟩
    have H6 := Lib.hid (below_step H5.out.2 hb6)
    clear hb6 H5 KN hkc hw1
    go_wp2
    go_ret
    exact ⟨rfl, H6.out⟩
  · have hR : Ro.worL rs al = [] := if_neg hz
    rw [hR] at NF RF
    generalize Ro.layE rs al = q at *
    have e2 : (q == q) = true := beq_self_eq_true _
    have e22 : (q != q) = false := by rw [bne, e2]; rfl
    have hd : (q == 0) = false := beq_eq_false_iff_ne.2 hz
    have hd2 : (q != 0) = true := by rw [bne, hd]; rfl
    obtain ⟨va, vc, rfl⟩ := hv.form
    obtain ⟨ua, uc, rfl, _⟩ := hu
    clear hv hL hl hal hz hR
    go_enter Try.func9, Try.ntmps9
    go_wp2_with fail
    refine LO.out.mono ?_
    rintro e w1 ⟨rfl, hb1⟩
    have H1 := Lib.hid hb1
    clear hb1 LO
    go_wp2_with fail
    refine (NF.out _ H1.out).mono ?_
    rintro e w2 ⟨a1, c1, rfl, hi2, hb2⟩
    have H2 := Lib.hid (below_step H1.out hb2)
    clear hb2 H1 NF hi2
    go_wp2_with fail
    refine (RF.out _ H2.out).mono ?_
    rintro e w3 ⟨a2, c2, rfl, hi3, hb3⟩
    have H3 := Lib.hid (below_step H2.out hb3)
    clear hb3 H2 RF hi3
    go_wp2_with fail
    refine (KN.out _).mono ?_
    rintro e w6 ⟨rfl, hb6⟩
    have H6 := Lib.hid (below_step H3.out hb6)
    clear hb6 H3 KN
    go_wp2
    go_ret
    exact ⟨rfl, H6.out⟩
end Go.Proofs.Ytilpofmjkcjhdaa
