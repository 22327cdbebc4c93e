/- The places at which an article can be cut: of both; RollPlaces returns true. Places of the program and of the reference; RollPlaces returns true, whatever the band, the articles and the number. -/
import Derived.Test.YtilpofmjkcjhdaaRwE
namespace Go.Proofs.Ytilpofmjkcjhdaa
open Go.RowKit

theorem Ro.plS_take {l : Int} {ss : List Bd.S} {j : Nat} (hj : j < ss.length) : Ro.plS l (ss.take (j + 1)) = Ro.plS l (ss.take j) ++ Ro.pls l ss[j] := by
  rw [List.take_succ_eq_append_getElem hj, Ro.plS_snoc]
theorem Ro.plS_le (l : Int) (ss : List Bd.S) (j : Nat) : (Ro.plS l (ss.take j)).length ≤ (Ro.plS l ss).length := by
  have : Ro.plS l ss = Ro.plS l (ss.take j) ++ Ro.plS l (ss.drop j) := by
    unfold Ro.plS
    rw [← List.flatMap_append, List.take_append_drop]
  rw [this]; simp
theorem OwnI.all {base : Nat} {w w2 : World} {v : Value} {ks : List Int} (h : OwnI base w v ks) (hb : Below w.heap.size w w2) : OwnI base w2 v ks := ownsRow_all h hb
theorem OwnI.alloc {base : Nat} {w : World} {v : Value} {ks : List Int} (h : OwnI base w v ks) (o : Obj) : OwnI base (w.alloc o) v ks := World.ownsRow.alloc h o
theorem OwnI.lower {base B : Nat} {w : World} {v : Value} {ks : List Int} (h : OwnI base w v ks) (hB : B ≤ base) : OwnI B w v ks := by
  obtain ⟨h0, h⟩ := h
  rcases h with h | ⟨g, cap, cur, h1, h2, h3⟩
  · exact ⟨h0, .inl h⟩
  · exact ⟨h0, .inr ⟨g, cap, cur, h1, Nat.le_trans hB h2, h3⟩⟩

set_option maxRecDepth 20000 in
set_option maxHeartbeats 4000000 in
theorem places_any (a : Ro.A) (n : Int) (v : Value) (ss : List Bd.S) (w : World) (hl : 1 ≤ a.l ∧ a.l ≤ 300) (hv : Spns w v ss) (hss : ∀ s ∈ ss, Bd.okS s) (hn : ss.length ≤ 1000) (hp : (Ro.plS a.l ss).length ≤ 300) :
    Calls Try.prog 57 #[offV a n v] w fun e w' => ∃ u, e = .returned u ∧ OwnI w.heap.size w' u (Ro.plS a.l ss) ∧ Below w.heap.size w w' := by
  obtain ⟨i0, hi, hz0, hz1, hz2⟩ := info_parts infoInt
  obtain ⟨va, vc, rfl, hk⟩ := hv
  have HK := Lib.hid hk
  have HS := Lib.hid hss
  have HLE := Lib.hid (fun j => Nat.le_trans (Ro.plS_le a.l ss j) hp)
  have HT := Lib.hid (fun j (hj : j < ss.length) => Ro.plS_take (l := a.l) hj)
  have HALL : Hid (Ro.plS a.l (ss.take ss.length) = Ro.plS a.l ss) := Lib.hid (by rw [List.take_length])
  obtain ⟨vl, hvl⟩ : ∃ x, x = ss.length := ⟨_, rfl⟩
  have HB : Hid (BlockAt (w.alloc (.cells (offA a n (.slice va ss.length vc)) OffT)) w.heap.size (offA a n (.slice va ss.length vc)) OffT ∧ Below w.heap.size w (w.alloc (.cells (offA a n (.slice va ss.length vc)) OffT))) := Lib.hid ⟨BlockAt.new _ _ _, below_alloc2 (Below.refl _ _) _⟩
  have q7 : World.cell? _ _ = some (.slice va ss.length vc) := HB.out.1.cell 7
  clear hk hss hp
  generalize Ro.plS a.l ss = R at *
  go_enter Try.func57, Try.ntmps57
  go_wp2
  clear q7
  go_loopw [3, 10] (fun s t wr => ∃ j : Nat, j ≤ ss.length ∧ t = .int .i64 j ∧ Hid (OwnI w.heap.size wr s (Ro.plS a.l (ss.take j)) ∧ BlockAt wr w.heap.size (offA a n (.slice va ss.length vc)) OffT ∧ Below w.heap.size w wr)) (fun _ t _ => ss.length - (intOf t).toNat)
  case atStart => exact ⟨0, Nat.zero_le _, rfl, Lib.hid ⟨by rw [List.take_zero]; exact OwnI.nil _ _, HB.out⟩⟩
  case round =>
    obtain ⟨j, hj, rfl, hg⟩ := hrel
    clear HB
    by_cases hlt : j < ss.length
    · obtain ⟨b, off, rfl, hb, hr⟩ := HK.out j hlt
      obtain ⟨c0, c1⟩ := hr.below hg.out.2.2 hb
      obtain ⟨s1, s2, s3, s4⟩ := HS.out _ (List.getElem_mem hlt)
      have hT := HT.out j hlt
      have hx1 := HLE.out j
      have hx2 := HLE.out (j + 1)
      rw [hT, List.length_append] at hx2
      unfold Ro.pls at hT hx2
      rw [Ro.seg_len] at hx2
      have HTT := Lib.hid hT
      have HG0 : Hid (OwnI w.heap.size (wr.alloc (.cells #[.int .i64 ss[j].f, .int .i64 ss[j].t] 57)) _ (Ro.plS a.l (ss.take j)) ∧ BlockAt (wr.alloc (.cells #[.int .i64 ss[j].f, .int .i64 ss[j].t] 57)) w.heap.size (offA a n (.slice (some ⟨b, off, none⟩) ss.length vc)) OffT ∧ BlockAt (wr.alloc (.cells #[.int .i64 ss[j].f, .int .i64 ss[j].t] 57)) wr.heap.size #[.int .i64 ss[j].f, .int .i64 ss[j].t] 57 ∧ Below w.heap.size w (wr.alloc (.cells #[.int .i64 ss[j].f, .int .i64 ss[j].t] 57))) :=
        Lib.hid ⟨World.ownsRow.alloc hg.out.1 _, hg.out.2.1.alloc _, BlockAt.new _ _ _, below_alloc2 hg.out.2.2 _⟩
      clear hg hr hT
      generalize Ro.plS a.l (ss.take j) = xs at *
      generalize ss[j] = s at *
      obtain ⟨m, hm⟩ : ∃ m, m = (s.t - a.l + 1 - s.f).toNat := ⟨_, rfl⟩
      rw [← hm] at hx2 HTT
      have hwt : IntKind.i64.wrap (s.t - a.l) = s.t - a.l := IntWalk.i64_in _ ⟨by omega, by omega⟩
      obtain ⟨B5, hB5⟩ : ∃ B5, B5 = wr.heap.size := ⟨_, rfl⟩
      go_wp2
      rw [← hB5] at HG0
      rw [← hB5]
      clear hB5 c0 c1
      go_loopw [3, 6] (fun r t wr => ∃ i : Nat, i ≤ m ∧ t = .int .i64 (s.f + i) ∧ Hid (OwnI w.heap.size wr r (xs ++ Ro.seg s.f i) ∧ BlockAt wr w.heap.size (offA a n (.slice (some ⟨b, off, none⟩) ss.length vc)) OffT ∧ BlockAt wr B5 #[.int .i64 s.f, .int .i64 s.t] 57 ∧ Below w.heap.size w wr)) (fun _ t _ => (s.f + m - intOf t).toNat)
      case atStart => exact ⟨0, Nat.zero_le _, by simp, Lib.hid (by rw [show Ro.seg s.f 0 = [] from rfl, List.append_nil]; exact HG0.out)⟩
      case round =>
        obtain ⟨i, him, rfl, hg⟩ := hrel
        clear HG0
        have q0 : World.cell? wr ⟨w.heap.size, 0, none⟩ = some (.int .i64 a.l) := hg.out.2.1.cell 0
        have p1 : World.cell? wr ⟨B5, 1, none⟩ = some (.int .i64 s.t) := hg.out.2.2.1.cell 1
        have l0 := hg.out.2.1.lt
        have l1 := hg.out.2.2.1.lt
        by_cases hil : i < m
        · have hd : decide (s.f + (i : Int) ≤ s.t - a.l) = true := decide_eq_true (by omega)
          have hown := hg.out.1
          have hw := hg.out.2.2.2
          have hbo := hg.out.2.1
          have hbs := hg.out.2.2.1
          have hca := intC_at wr (s.f + (i : Int)) 3
          have hxl : (xs ++ Ro.seg s.f i).length ≤ 300 := by rw [List.length_append, Ro.seg_len]; omega
          have HSG := Lib.hid (show xs ++ Ro.seg s.f (i + 1) = (xs ++ Ro.seg s.f i) ++ [s.f + (i : Int)] by rw [Ro.seg_succ, List.append_assoc])
          have hsz := hw.size
          have hwi : IntKind.i64.wrap (s.f + (i : Int) + 1) = s.f + ((i + 1 : Nat) : Int) := by rw [IntWalk.i64_in _ ⟨by omega, by omega⟩]; omega
          clear hg
          generalize xs ++ Ro.seg s.f i = ys at *
          obtain ⟨ra, rc, hre, _⟩ := hown.ints
          subst hre
          go_wp2_with (at_builtin; refine wpList_append_own _ rfl _ _ 33 rfl w.heap.size 3 i0 (.int .i64 0) 1 8 Try.underlying33 hi hz0 hz1 hz2 rfl (by decide) _ _ _ rfl (hown.alloc _) ⟨wr.heap.size, 0, none⟩ 1 1 (intC (s.f + (i : Int))) rfl rfl ?c1 (intC_one _) ?c3 ?c4 ?c5 ?_)
          case c1 => exact hca
          case c3 => unfold maxLen; omega
          case c4 => omega
          case c5 => simp; omega
          intro v' w9 hr9 hg9 _
          have HN := Lib.hid (And.intro (OwnI.pushed hr9) (And.intro ((hbo.alloc _).grown hg9 (BlockAt.not_row hbo (by decide) hown)) (And.intro ((hbs.alloc _).grown hg9 (BlockAt.not_row hbs (by decide) hown)) ((below_alloc2 hw _).grown hg9 (by simp; omega) (fun j e => (World.ownsRow.lt hown j e).1)))))
          clear hown hw hr9 hg9 hca hbo hbs q0 p1
          go_wp2
          go_roundw
          case rel => exact ⟨i + 1, by omega, by go_num, Lib.hid ⟨by rw [HSG.out]; exact HN.out.1, HN.out.2⟩⟩
          case measure => simp [intOf]; omega
        · have hd : decide (s.f + (i : Int) ≤ s.t - a.l) = false := decide_eq_false (by omega)
          obtain rfl : i = m := by omega
          have HN := Lib.hid (And.intro hg.out.1 (And.intro hg.out.2.1 hg.out.2.2.2))
          clear hg
          go_wp2
          go_roundw
          case rel => exact ⟨j + 1, by omega, by go_num, Lib.hid ⟨by rw [HTT.out]; exact HN.out.1, HN.out.2⟩⟩
          case measure => simp [intOf]; omega
    · obtain rfl : j = ss.length := by omega
      have hown := hg.out.1
      rw [HALL.out] at hown
      have HO := Lib.hid (And.intro hown hg.out.2.2)
      clear hg hown
      go_wp2
      go_ret
      exact ⟨_, rfl, HO.out⟩
end Go.Proofs.Ytilpofmjkcjhdaa
namespace Go.Proofs.Ytilpofmjkcjhdaa
open Go.RowKit

def Ro.plcE (rs : List Bd.R) (al : List Ro.A) (n : Int) : Int := if Ro.layE rs al = 0 then (if 0 ≤ n ∧ n < al.length then 0 else 5) else Ro.layE rs al
def Ro.plcR (rs : List Bd.R) (al : List Ro.A) (n : Int) : List Int := if Ro.plcE rs al n = 0 then Ro.plc (Bd.exp rs) (Ro.art al n) (Bd.exp rs).length else []
theorem Ro.plcR_len {rs : List Bd.R} {al : List Ro.A} {n : Int} : (Ro.plcR rs al n).length ≤ (Bd.exp rs).length := by
  unfold Ro.plcR; split
  · exact Ro.plc_len _ _ _
  · simp

set_option maxRecDepth 20000 in
set_option maxHeartbeats 2000000 in
theorem same_any (u v : Value) (ks : List Int) (w : World) (hu : Ints w u ks) (hv : Ints w v ks) (hl : ks.length ≤ 1000000) :
    Calls Try.prog 24 #[u, v] w fun e w' => e = .returned (.bool true) ∧ Below w.heap.size w w' := by
  obtain ⟨ua, uc, rfl, hk⟩ := hu
  obtain ⟨va, vc, rfl, hk2⟩ := hv
  have HK := Lib.hid hk
  have HK2 := Lib.hid hk2
  have q7 : ((ks.length : Int) == (ks.length : Int)) = true := beq_self_eq_true _
  have q8 : ((ks.length : Int) != (ks.length : Int)) = false := by rw [bne, q7]; rfl
  have HB := Lib.hid (Below.refl w.heap.size w)
  clear hk hk2
  go_enter Try.func24, Try.ntmps24
  go_wp2
  clear q7 q8
  go_loopw [5] (fun t wr => ∃ k : Nat, k ≤ ks.length ∧ t = .int .i64 k ∧ Hid (Below w.heap.size w wr)) (fun t _ => ks.length - (intOf t).toNat)
  case atStart => exact ⟨0, Nat.zero_le _, rfl, HB⟩
  case round =>
    obtain ⟨k, hk, rfl, hg⟩ := hrel
    clear HB
    by_cases hlt : k < ks.length
    · obtain ⟨b, off, rfl, hb, hx⟩ := HK.out k hlt
      obtain ⟨b2, off2, rfl, hb2, hx2⟩ := HK2.out k hlt
      have c0 := (hg.out.cell (p := ⟨b, off + k, none⟩) hb).trans hx
      have c1 := (hg.out.cell (p := ⟨b2, off2 + k, none⟩) hb2).trans hx2
      clear hx hx2
      generalize ks[k] = z at *
      have hne : (z != z) = false := by simp
      go_wp2_with fail
      go_quiet (fail)
      clear c0 c1
      go_wp2
      go_roundw
      case rel => exact ⟨k + 1, by omega, by go_num, Lib.hid (below_drewN hg.out _)⟩
      case measure => simp [intOf]; omega
    · obtain rfl : k = ks.length := by omega
      go_wp2
      go_ret
      exact ⟨rfl, hg.out⟩

theorem ints_form {w : World} {v : Value} {ks : List Int} (h : Ints w v ks) : ∃ a c, v = .slice a ks.length c := by obtain ⟨a, c, h, _⟩ := h; exact ⟨a, c, h⟩
theorem ints_nil (w : World) : Ints w (.slice none 0 0) [] := ⟨none, 0, rfl, fun _k hk => absurd hk (Nat.not_lt_zero _)⟩

set_option maxRecDepth 20000 in
set_option maxHeartbeats 2000000 in
theorem numPlaces_any (v u : Value) (rs : List Bd.R) (al : List Ro.A) (n : Int) (w : World) (hv : Runs w v rs) (hu : Arts w u al) (hl : rs.length ≤ 1000) (hal : al.length ≤ 1000) :
    Calls Try.prog 22 #[v, u, .int .i64 n] w fun e w' => ∃ a c, e = .returned (.tuple #[.slice a (Ro.plcR rs al n).length c, .int .i64 (Ro.plcE rs al n)]) ∧ Ints w' (.slice a (Ro.plcR rs al n).length c) (Ro.plcR rs al n) ∧ Below w.heap.size w w' := by
  by_cases hz : Ro.layE rs al = 0
  · obtain ⟨h1, h2, h3, h4, h5, h6⟩ := Ro.lay_facts hz
    have LY := Lib.hid (lay_good v u rs al _ hv hu hl hal hz)
    have CH := Lib.hid (fun (bv : Value) (N : Int) (oa : Option Addr) (oc : Nat) W => has_any bv N oa al.length oc n W (by omega))
    by_cases hn : 0 ≤ n ∧ n < al.length
    · have hE : Ro.plcE rs al n = 0 := (if_pos hz).trans (if_pos hn)
      have hR : Ro.plcR rs al n = Ro.plc (Bd.exp rs) (Ro.art al n) (Bd.exp rs).length := if_pos hE
      obtain ⟨k, rfl⟩ : ∃ k : Nat, n = k := ⟨n.toNat, by omega⟩
      have hk : k < al.length := by omega
      have hla := Ro.okA_iff.1 (h6 _ (List.getElem_mem hk))
      have hpl := Ro.plS_plc h2 hla.1.1
      have hR2 : Ro.plcR rs al k = Ro.plS al[k].l (spaA rs al[k]) := by rw [hR, Ro.art_at hk]; exact hpl.symm
      have hlen : (Ro.plcR rs al k).length ≤ 300 := Nat.le_trans Ro.plcR_len h4
      have PL := Lib.hid (fun (uo : Value) W (hsp : Spns W uo (spaA rs al[k])) => places_any al[k] (k : Int) uo (spaA rs al[k]) W hla.1 hsp (spaA_ok rs _) (spaA_len h2 _) (by rw [← hR2]; exact hlen))
      rw [← hR2] at PL
      rw [decide_eq_true hn.1, decide_eq_true hn.2] at CH
      rw [hE]
      obtain ⟨va, vc, rfl⟩ := hv.form
      obtain ⟨ua, uc, rfl, _⟩ := hu
      clear hv hz h1 h2 h3 h6 hR hR2 hE hn hpl hlen
      generalize Ro.plcR rs al (k : Int) = R at *
      generalize ((Bd.exp rs).length : Int) = N at *
      obtain ⟨vl, hvl⟩ : ∃ y, y = rs.length := ⟨_, rfl⟩
      rw [← hvl] at LY ⊢
      clear hvl hl
      go_enter Try.func22, Try.ntmps22
      go_wp2_with fail
      refine LY.out.mono ?_
      rintro e w1 ⟨oa, oc, rfl, ho, hb1⟩
      have H1 : Hid (BlockAt (w1.alloc (.cells (tabA (.slice va vl vc) N (.slice oa al.length oc)) TabT)) w1.heap.size (tabA (.slice va vl vc) N (.slice oa al.length oc)) TabT ∧ Offs (w1.alloc (.cells (tabA (.slice va vl vc) N (.slice oa al.length oc)) TabT)) (.slice oa al.length oc) rs al ∧ Below w.heap.size w (w1.alloc (.cells (tabA (.slice va vl vc) N (.slice oa al.length oc)) TabT))) :=
        Lib.hid ⟨BlockAt.new _ _ _, ho.all ((Below.refl _ _).alloc (Nat.le_refl _) _), below_alloc2 hb1 _⟩
      clear ho hb1 LY
      go_wp2_with fail
      refine (CH.out _ _ _ _ _).mono ?_
      rintro e w2 ⟨rfl, hb2⟩
      have H2 := Lib.hid (And.intro (H1.out.1.below hb2 H1.out.1.lt) (And.intro (H1.out.2.1.all hb2) (below_step H1.out.2.2 hb2)))
      clear hb2 H1 CH
      obtain ⟨oa2, oc2, heq, hoff⟩ := H2.out.2.1
      simp only [Value.slice.injEq, true_and] at heq
      obtain ⟨rfl, rfl⟩ := heq
      obtain ⟨bo, offo, uo, rfl, hbo, ⟨⟨d0, d1, d2, d3, d4, d5⟩, d6, d7⟩, hsp⟩ := hoff k hk
      have C := Lib.hid (PL.out uo _ hsp)
      obtain ⟨sa, sc, rfl, _⟩ := hsp
      have t2 : World.cell? w2 ⟨w1.heap.size, 2, none⟩ = some (.slice (some ⟨bo, offo, none⟩) al.length oc) := H2.out.1.cell 2
      have hlt1 := H2.out.1.lt
      clear hoff PL
      obtain ⟨sl, hsl⟩ : ∃ sl, sl = (spaA rs al[k]).length := ⟨_, rfl⟩
      rw [← hsl] at C d7
      clear hsl
      generalize al[k] = a at *
      go_wp2_with fail
      refine C.out.mono ?_
      rintro e w3 ⟨y, rfl, hy, hb3⟩
      obtain ⟨ya, yc, hye, hyk⟩ := hy.ints
      subst hye
      have HI := Lib.hid hy.ints
      have HW := Lib.hid (below_step H2.out.2.2 hb3)
      clear hy hyk hb3 C H2 t2 d0 d1 d2 d3 d4 d5 d6 d7
      go_wp2
      go_ret2
      exact ⟨_, _, rfl, HI.out, HW.out⟩
    · have hE : Ro.plcE rs al n = 5 := (if_pos hz).trans (if_neg hn)
      have hR : Ro.plcR rs al n = [] := if_neg (by rw [hE]; omega)
      have hh : (decide (0 ≤ n) && decide (n < (al.length : Int))) = false := by
        apply Bool.eq_false_iff.2
        intro hc
        simp only [Bool.and_eq_true, decide_eq_true_eq] at hc
        exact hn hc
      rw [hh] at CH
      rw [hE, hR]
      obtain ⟨va, vc, rfl⟩ := hv.form
      obtain ⟨ua, uc, rfl, _⟩ := hu
      clear hv hz h1 h2 h3 h6 hR hE hn hh
      generalize ((Bd.exp rs).length : Int) = N at *
      obtain ⟨vl, hvl⟩ : ∃ y, y = rs.length := ⟨_, rfl⟩
      rw [← hvl] at LY ⊢
      clear hvl hl
      go_enter Try.func22, Try.ntmps22
      go_wp2_with fail
      refine LY.out.mono ?_
      rintro e w1 ⟨oa, oc, rfl, ho, hb1⟩
      have HB := Lib.hid (below_alloc2 hb1 (.cells (tabA (.slice va vl vc) N (.slice oa al.length oc)) TabT))
      clear ho hb1 LY
      go_wp2_with fail
      refine (CH.out _ _ _ _ _).mono ?_
      rintro e w2 ⟨rfl, hb2⟩
      have HW := Lib.hid (below_step HB.out hb2)
      clear hb2 HB CH
      go_wp2
      go_ret2
      exact ⟨none, 0, rfl, ints_nil _, HW.out⟩
  · have LY := Lib.hid (lay_bad v u rs al _ hv hu hl hal hz)
    have hE : Ro.plcE rs al n = Ro.layE rs al := if_neg hz
    have hR : Ro.plcR rs al n = [] := if_neg (by rw [hE]; exact hz)
    rw [hR, hE]
    obtain ⟨va, vc, rfl⟩ := hv.form
    obtain ⟨ua, uc, rfl, _⟩ := hu
    generalize Ro.layE rs al = q at *
    have hd : (q == 0) = false := beq_eq_false_iff_ne.2 hz
    have hd2 : (q != 0) = true := by rw [bne, hd]; rfl
    clear hv hz hR hE
    go_enter Try.func22, Try.ntmps22
    go_wp2_with fail
    refine LY.out.mono ?_
    rintro e w1 ⟨rfl, hb1⟩
    have HB := Lib.hid (below_alloc2 hb1 (.cells (tabA (.slice none 0 0) 0 (.slice none 0 0)) TabT))
    clear hb1 LY
    go_wp2
    go_ret2
    exact ⟨none, 0, rfl, ints_nil _, HB.out⟩

set_option maxRecDepth 20000 in
set_option maxHeartbeats 4000000 in
theorem refPlaces_any (v u : Value) (rs : List Bd.R) (al : List Ro.A) (n : Int) (w : World) (hv : Runs w v rs) (hu : Arts w u al) (hl : rs.length ≤ 1000) (hal : al.length ≤ 1000) :
    Calls Try.prog 23 #[v, u, .int .i64 n] w fun e w' => ∃ a c, e = .returned (.tuple #[.slice a (Ro.plcR rs al n).length c, .int .i64 (Ro.plcE rs al n)]) ∧ Ints w' (.slice a (Ro.plcR rs al n).length c) (Ro.plcR rs al n) ∧ Below w.heap.size w w' := by
  obtain ⟨i0, hi, hz0, hz1, hz2⟩ := info_parts infoInt
  by_cases hz : Ro.layE rs al = 0
  · obtain ⟨h1, h2, h3, h4, h5, h6⟩ := Ro.lay_facts hz
    have LY := Lib.hid (marks_ok v u rs al _ hv hu hl hal hz)
    by_cases hn : 0 ≤ n ∧ n < al.length
    · have hE : Ro.plcE rs al n = 0 := (if_pos hz).trans (if_pos hn)
      have hR : Ro.plcR rs al n = Ro.plc (Bd.exp rs) (Ro.art al n) (Bd.exp rs).length := if_pos hE
      obtain ⟨k, rfl⟩ : ∃ k : Nat, n = k := ⟨n.toNat, by omega⟩
      have hk : k < al.length := by omega
      have TF := Lib.hid (fun mv (f : Int) W (hW : Below w.heap.size w W) (hm : Mks W mv (Bd.exp rs)) => refFits_any mv u (Bd.exp rs) al ⟨f, k⟩ W hm (hu.all hW) h6 h4 h5)
      simp only [Ro.fitX_in hk] at TF
      rw [Ro.art_at hk] at hR
      have HP := Lib.hid (fun j => Ro.plc_succ (Bd.exp rs) al[k] j)
      have HPL := Lib.hid (fun j => Ro.plc_len (Bd.exp rs) al[k] j)
      rw [hE, hR]
      have hd1 : decide ((k : Int) < 0) = false := decide_eq_false (by omega)
      have hd2 : decide ((al.length : Int) ≤ (k : Int)) = false := decide_eq_false (by omega)
      have hd2' : decide (al.length ≤ k) = false := decide_eq_false (by omega)
      obtain ⟨va, vc, rfl⟩ := hv.form
      obtain ⟨ua, uc, rfl, _⟩ := hu
      clear hv hz h1 h2 h3 h6 hR hE hn
      generalize Bd.exp rs = ms at *
      generalize al[k] = a at *
      go_enter Try.func23, Try.ntmps23
      go_wp2_with fail
      refine LY.out.mono ?_
      rintro e w1 ⟨mv, rfl, ho, hb1⟩
      obtain ⟨ma, mc, hmv, _⟩ := ho.mks
      subst hmv
      have HM := Lib.hid ho
      have H1 := Lib.hid hb1
      clear ho hb1 LY
      go_wp2
      clear hd1 hd2 hd2'
      go_loopw [10, 11] (fun s t wr => ∃ j : Nat, j ≤ ms.length ∧ t = .int .i64 j ∧ Hid (OwnI w.heap.size wr s (Ro.plc ms a j) ∧ OwnM w.heap.size wr (.slice ma ms.length mc) ms ∧ Below w.heap.size w wr)) (fun _ t _ => ms.length - (intOf t).toNat)
      case atStart => exact ⟨0, Nat.zero_le _, rfl, Lib.hid ⟨OwnI.nil _ _, HM.out, H1.out⟩⟩
      case round =>
        obtain ⟨j, hj, rfl, hg⟩ := hrel
        clear H1
        by_cases hlt : j < ms.length
        · have C := Lib.hid (TF.out _ (j : Int) _ hg.out.2.2 hg.out.2.1.mks)
          have hps := HP.out j
          have hpl := HPL.out j
          have HG := Lib.hid hg.out
          obtain ⟨ra, rc, hre, _⟩ := hg.out.1.ints
          subst hre
          clear hg
          generalize Ro.fit ms a (j : Int) = r at *
          have HPS := Lib.hid hps
          clear hps
          generalize Ro.plc ms a j = ys at *
          go_wp2_with fail
          refine C.out.mono ?_
          rintro e w2 ⟨rfl, hb2⟩
          have hown := HG.out.1.all hb2
          have hw := below_step HG.out.2.2 hb2
          have hmk := HG.out.2.1.all hb2
          clear hb2 HG C
          cases r
          · have HPS2 : Hid (Ro.plc ms a (j + 1) = ys) := Lib.hid (by rw [HPS.out]; simp)
            have HN := Lib.hid (And.intro hown (And.intro hmk hw))
            clear HPS hown hmk hw
            go_wp2
            go_roundw
            case rel => exact ⟨j + 1, by omega, by go_num, Lib.hid ⟨by rw [HPS2.out]; exact HN.out.1, HN.out.2⟩⟩
            case measure => simp [intOf]; omega
          · have HPS2 : Hid (Ro.plc ms a (j + 1) = ys ++ [(j : Int)]) := Lib.hid (by rw [HPS.out]; simp)
            clear HPS
            have hca := intC_at w2 (j : Int) 3
            have hsz := hw.size
            go_wp2_with (at_builtin; refine wpList_append_own _ rfl _ _ 33 rfl w.heap.size 3 i0 (.int .i64 0) 1 8 Try.underlying33 hi hz0 hz1 hz2 rfl (by decide) _ _ _ rfl (hown.alloc _) ⟨w2.heap.size, 0, none⟩ 1 1 (intC (j : Int)) rfl rfl ?c1 (intC_one _) ?c3 ?c4 ?c5 ?_)
            case c1 => exact hca
            case c3 => unfold maxLen; omega
            case c4 => omega
            case c5 => simp; omega
            intro v' w9 hr9 hg9 _
            have hmk9 : OwnM w.heap.size w9 (.slice ma ms.length mc) ms := ownsRow_other (by decide) (OwnM.alloc hmk (.cells #[.int .i64 (j : Int)] 3)) (hown.alloc _) hg9
            have HN := Lib.hid (And.intro (OwnI.pushed hr9) (And.intro hmk9 ((below_alloc2 hw _).grown hg9 (by simp; omega) (fun j e => (World.ownsRow.lt hown j e).1))))
            clear hown hw hr9 hg9 hca hmk hmk9
            go_wp2
            go_roundw
            case rel => exact ⟨j + 1, by omega, by go_num, Lib.hid ⟨by rw [HPS2.out]; exact HN.out.1, HN.out.2⟩⟩
            case measure => simp [intOf]; omega
        · obtain rfl : j = ms.length := by omega
          have hown := hg.out.1
          obtain ⟨ra, rc, hre, _⟩ := hown.ints
          subst hre
          have HO := Lib.hid (And.intro hown.ints hg.out.2.2)
          clear hg hown
          go_wp2
          go_ret2
          exact ⟨_, _, rfl, HO.out.1, HO.out.2⟩
    · have hE : Ro.plcE rs al n = 5 := (if_pos hz).trans (if_neg hn)
      have hR : Ro.plcR rs al n = [] := if_neg (by rw [hE]; omega)
      rw [hE, hR]
      obtain ⟨va, vc, rfl⟩ := hv.form
      obtain ⟨ua, uc, rfl, _⟩ := hu
      have hcase : decide (n < 0) = true ∨ (decide (n < 0) = false ∧ decide ((al.length : Int) ≤ n) = true) := by
        by_cases h : n < 0
        · exact .inl (decide_eq_true h)
        · exact .inr ⟨decide_eq_false h, decide_eq_true (by omega)⟩
      clear hv hz h1 h2 h3 h6 hR hE hn
      generalize Bd.exp rs = ms at *
      rcases hcase with hd1 | ⟨hd1, hd2⟩
      all_goals
        go_enter Try.func23, Try.ntmps23
        go_wp2_with fail
        refine LY.out.mono ?_
        rintro e w1 ⟨mv, rfl, ho, hb1⟩
        obtain ⟨ma, mc, hmv, _⟩ := ho.mks
        subst hmv
        have H1 := Lib.hid hb1
        clear ho hb1 LY
        go_wp2
        go_ret2
        exact ⟨none, 0, rfl, ints_nil _, H1.out⟩
  · have LY := Lib.hid (marks_bad v u rs al _ hv hu hl hal hz)
    have hE : Ro.plcE rs al n = Ro.layE rs al := if_neg hz
    have hR : Ro.plcR rs al n = [] := if_neg (by rw [hE]; exact hz)
    rw [hR, hE]
    obtain ⟨va, vc, rfl⟩ := hv.form
    obtain ⟨ua, uc, rfl, _⟩ := hu
    generalize Ro.layE rs al = q at *
    have hd : (q == 0) = false := beq_eq_false_iff_ne.2 hz
    have hd2 : (q != 0) = true := by rw [bne, hd]; rfl
    clear hv hz hR hE
    go_enter Try.func23, Try.ntmps23
    go_wp2_with fail
    refine LY.out.mono ?_
    rintro e w1 ⟨rfl, hb1⟩
    have HB := Lib.hid hb1
    clear hb1 LY
    go_wp2
    go_ret2
    exact ⟨none, 0, rfl, ints_nil _, HB.out⟩

set_option maxRecDepth 20000 in
set_option maxHeartbeats 4000000 in
theorem places_walk (v u : Value) (rs : List Bd.R) (al : List Ro.A) (n : Int) (w : World) (hv : Runs w v rs) (hu : Arts w u al) :
    Calls Try.prog 4 #[v, u, .int .i64 n] w fun e w' => e = .returned (.bool true) ∧ Below w.heap.size w w' := by
  have LO := Lib.hid (rollLong_any v u (.slice none 0 0) rs al.length 0 _ hv (by obtain ⟨a, c, h, _⟩ := hu; exact ⟨a, c, h⟩) ⟨none, 0, rfl⟩)
  have KN := Lib.hid (fun W => rollKnown_any W)
  cases hL : (decide (100 < rs.length) || (decide (40 < al.length) || decide (400 < 0)))
  case true =>
    rw [hL] at LO
    obtain ⟨va, vc, rfl⟩ := hv.form
    obtain ⟨ua, uc, rfl, _⟩ := hu
    clear hv hL
    go_enter Try.func4, Try.ntmps4
    go_wp2_with fail
    refine LO.out.mono ?_
    rintro e w1 ⟨rfl, hb1⟩
    have HB1 := Lib.hid hb1
    clear hb1 LO
    go_wp2_with fail
    refine (KN.out _).mono ?_
    rintro e w2 ⟨rfl, hb2⟩
    have HB2 := Lib.hid (below_step HB1.out hb2)
    clear hb2 HB1 KN
    go_wp2
    go_ret
    exact ⟨rfl, HB2.out⟩
  case false =>
    rw [hL] at LO
    simp only [Bool.or_eq_false_iff, decide_eq_false_iff_not] at hL
    have hl : rs.length ≤ 1000 := by omega
    have hal : al.length ≤ 1000 := by omega
    have NF := Lib.hid (fun W (hW : Below w.heap.size w W) => numPlaces_any v u rs al n W (hv.all hW) (hu.all hW) hl hal)
    have RF := Lib.hid (fun W (hW : Below w.heap.size w W) => refPlaces_any v u rs al n W (hv.all hW) (hu.all hW) hl hal)
    have hkl : (Ro.plcR rs al n).length ≤ 1000000 := by
      unfold Ro.plcR
      split
      · rename_i h
        have hz : Ro.layE rs al = 0 := by
          unfold Ro.plcE at h
          by_cases hz : Ro.layE rs al = 0
          · exact hz
          · rw [if_neg hz] at h; exact absurd h hz
        have := (Ro.lay_facts hz).2.2.2.1
        have := Ro.plc_len (Bd.exp rs) (Ro.art al n) (Bd.exp rs).length
        omega
      · simp
    generalize Ro.plcR rs al n = ks at *
    have SA := Lib.hid (fun a c a' c' W (h1 : Ints W (.slice a ks.length c) ks) (h2 : Ints W (.slice a' ks.length c') ks) => same_any _ _ ks W h1 h2 hkl)
    generalize Ro.plcE rs al n = q at *
    have e2 : (q == q) = true := beq_self_eq_true _
    obtain ⟨va, vc, rfl⟩ := hv.form
    obtain ⟨ua, uc, rfl, _⟩ := hu
    clear hv hL hl hal hkl
    go_enter Try.func4, Try.ntmps4
    go_wp2_with fail
    refine LO.out.mono ?_
    rintro e w1 ⟨rfl, hb1⟩
    have H1 := Lib.hid hb1
    clear hb1 LO
    go_wp2_with fail
    refine (NF.out _ H1.out).mono ?_
    rintro e w2 ⟨a1, c1, rfl, hi2, hb2⟩
    have H2 := Lib.hid (And.intro hi2 (below_step H1.out hb2))
    clear hb2 H1 NF hi2
    go_wp2_with fail
    refine (RF.out _ H2.out.2).mono ?_
    rintro e w3 ⟨a2, c2, rfl, hi3, hb3⟩
    have H3 := Lib.hid (And.intro (H2.out.1.all hb3) (And.intro hi3 (below_step H2.out.2 hb3)))
    clear hb3 H2 RF hi3
    go_wp2_with fail
    refine (SA.out _ _ _ _ _ H3.out.1 H3.out.2.1).mono ?_
    rintro e w4 ⟨rfl, hb4⟩
    have H4 := Lib.hid (below_step H3.out.2.2 hb4)
    clear hb4 H3 SA
    go_wp2_with fail
    refine (KN.out _).mono ?_
    rintro e w6 ⟨rfl, hb6⟩
    have H6 := Lib.hid (below_step H4.out hb6)
    clear hb6 H4 KN
    go_wp2
    go_ret
    exact ⟨rfl, H6.out⟩
end Go.Proofs.Ytilpofmjkcjhdaa
