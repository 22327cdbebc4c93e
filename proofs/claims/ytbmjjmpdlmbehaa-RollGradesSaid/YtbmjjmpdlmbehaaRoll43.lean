/- As which article a whole band can be sold for most: of the program; the law's walk. -/
import Derived.Test.YtbmjjmpdlmbehaaRmS
namespace Go.Proofs.Ytbmjjmpdlmbehaa
open Go.RowKit

namespace Ro
theorem fnd_at {Q : A → Bool} : ∀ {L : List O} {k : Nat} (hk : k < L.length), (∀ j (hj : j < L.length), j < k → Q L[j].a = false) → Q L[k].a = true → fnd Q L = L[k].n
  | o :: r, 0, _, _, h => by
    have h0 : Q o.a = true := h
    unfold fnd
    rw [if_pos h0]; rfl
  | o :: r, k + 1, hk, h1, h2 => by
    have h0 : Q o.a = false := h1 0 (by simp) (by omega)
    unfold fnd
    rw [if_neg (by rw [h0]; decide), fnd_at (by simpa using hk) (fun j hj hjk => h1 (j + 1) (by simpa using hj) (by omega)) h2]
    rfl
theorem fnd_no {Q : A → Bool} : ∀ {L : List O}, (∀ j (hj : j < L.length), Q L[j].a = false) → fnd Q L = -1
  | [], _ => rfl
  | o :: r, h => by
    have h0 : Q o.a = false := h 0 (by simp)
    unfold fnd
    rw [if_neg (by rw [h0]; decide), fnd_no (fun j hj => h (j + 1) (by simpa using hj))]
end Ro
abbrev offCs (a : Ro.A) (n : Int) (u : Value) : Array Value := #[.int .i64 a.l, .int .i64 a.la, .int .i64 a.mo, .int .i64 a.sh, .int .i64 a.fl, .int .i64 a.p, .int .i64 n, u]
set_option maxRecDepth 20000 in
set_option maxHeartbeats 4000000 in
theorem numGrade_any (v u : Value) (rs : List Bd.R) (al : List Ro.A) (w : World) (hv : Runs w v rs) (hu : Arts w u al) (hl : rs.length ≤ 1000) (hal : al.length ≤ 1000) :
    Calls Try.prog 16 #[v, u] w fun e w' => e = .returned (.tuple #[.int .i64 (Ro.grN rs al), .bool (Ro.grB rs al), .int .i64 (Ro.layE rs al)]) ∧ Below w.heap.size w w' := by
  by_cases hz : Ro.layE rs al = 0
  case neg =>
    have LY := Lib.hid (lay_bad v u rs al w hv hu hl hal hz)
    have hN : Ro.grN rs al = 0 := if_neg hz
    have hB : Ro.grB rs al = false := by unfold Ro.grB; rw [decide_eq_false hz]; rfl
    rw [hN, hB]
    obtain ⟨va, vc, rfl⟩ := hv.form
    obtain ⟨ua, uc, rfl, _⟩ := hu
    generalize Ro.layE rs al = q at *
    have hd : (q == 0) = false := beq_eq_false_iff_ne.2 hz
    have hd2 : (q != 0) = true := by rw [bne, hd]; rfl
    clear hv hz hN hB
    go_enter Try.func16, Try.ntmps16
    go_wp2_with fail
    refine LY.out.mono ?_
    rintro e w1 ⟨rfl, hb1⟩
    have HB := Lib.hid (below_alloc2 hb1 (.cells #[.slice none 0 0, .int .i64 0, .slice none 0 0] TabT))
    clear hb1 LY
    go_wp2
    (try simp only [Exit.inBlock, Exit.then])
    refine bodyPost_ret (results_tmp3 rfl _ _ _) rfl ?_
    exact ⟨rfl, HB.out⟩
  obtain ⟨h1, h2, h3, h4, h5, h6⟩ := Ro.lay_facts hz
  have LY := Lib.hid (lay_ok v u rs al w hv hu hl hal hz)
  have hN : Ro.grN rs al = if Ro.pk (Ro.grQ (Bd.exp rs)) al al.length < 0 then 0 else Ro.pk (Ro.grQ (Bd.exp rs)) al al.length := if_pos hz
  have hB : Ro.grB rs al = decide (0 ≤ Ro.pk (Ro.grQ (Bd.exp rs)) al al.length) := by unfold Ro.grB; rw [decide_eq_true hz]; rfl
  rw [hN, hB, hz]
  have RK := Lib.hid (fun bv ov n us base W ho => ranked_any bv ov n rs al us base W ho h5)
  have HOA : Hid (∀ o : Ro.O, 0 ≤ o.n → o.n < al.length → o.a = Ro.art al o.n → 1 ≤ o.a.l ∧ o.a.l ≤ 300) := Lib.hid (fun o o1 o2 o3 => by
    have h7 := h6 _ (Ro.art_mem o1 o2)
    rw [← o3] at h7
    exact (Ro.okA_iff.1 h7).1)
  have FA := Lib.hid (fun (a : Ro.A) n u W (ha : 1 ≤ a.l ∧ a.l ≤ 300) hu => by
    have h := fitsAt_any a n u 0 (spaA rs a) W ha hu (spaA_ok rs a) (spaA_len h2 a)
    rw [spaA_fit h2 ha.1] at h
    exact h)
  have HPK := Lib.hid (fun L (hL : Ro.Rkd al L) => Ro.fnd_pk (Q := Ro.grQ (Bd.exp rs)) hL)
  have HQ : Hid (∀ a : Ro.A, Ro.grQ (Bd.exp rs) a = (decide (a.l = ((Bd.exp rs).length : Int)) && Ro.fit (Bd.exp rs) a 0)) := Lib.hid (fun a => rfl)
  rw [h3] at LY
  obtain ⟨va, vc, rfl⟩ := hv.form
  obtain ⟨ua, uc, rfl, _⟩ := hu
  obtain ⟨vl, hvl⟩ : ∃ y, y = rs.length := ⟨_, rfl⟩
  rw [← hvl] at LY ⊢
  clear hv hz hN hB h1 h2 h3 h4 h6 hvl hl hal
  generalize ((Bd.exp rs).length : Int) = n at *
  generalize hPK : Ro.pk (Ro.grQ (Bd.exp rs)) al al.length = PK at *
  clear hPK
  obtain ⟨RN, hRN⟩ : ∃ x, x = (if PK < 0 then 0 else PK) := ⟨_, rfl⟩
  obtain ⟨RB, hRB⟩ : ∃ x, x = decide (0 ≤ PK) := ⟨_, rfl⟩
  rw [← hRN, ← hRB]
  have HRE := Lib.hid (And.intro hRN hRB)
  clear hRN hRB
  go_enter Try.func16, Try.ntmps16
  go_wp2_with fail
  refine LY.out.mono ?_
  rintro e w1 ⟨ov, us, rfl, ho, hb1⟩
  obtain ⟨oa, oc, rfl⟩ := ho.form
  have RK1 := Lib.hid (RK.out (.slice va vl vc) (.slice oa al.length oc) n us w.heap.size (w1.alloc (.cells #[.slice va vl vc, .int .i64 n, .slice oa al.length oc] TabT)) (ho.all (below_alloc2 (Below.refl w1.heap.size w1) _)))
  have HB1 := Lib.hid (And.intro (BlockAt.new w1 #[.slice va vl vc, .int .i64 n, .slice oa al.length oc] TabT) (below_alloc2 hb1 (.cells #[.slice va vl vc, .int .i64 n, .slice oa al.length oc] TabT)))
  have hb1s := hb1.size
  clear ho hb1 LY RK
  have x0 : World.cell? _ _ = some (.slice va vl vc) := HB1.out.1.cell 0
  have x1 : World.cell? _ _ = some (.int .i64 n) := HB1.out.1.cell 1
  have x2 : World.cell? _ _ = some (.slice oa al.length oc) := HB1.out.1.cell 2
  go_wp2_with fail
  refine RK1.out.mono ?_
  rintro e W2 ⟨g, L, rfl, hR, hb2, hg, hc, hsp⟩
  have HR := Lib.hid hR
  have HC := Lib.hid (And.intro hg (And.intro hc hsp))
  have HB2 := Lib.hid (And.intro (HB1.out.1.below hb2 HB1.out.1.lt) (below_step HB1.out.2 hb2))
  have hll := hR.len
  have HPL := Lib.hid (HPK.out L hR)
  clear hR hb2 hg hc hsp RK1 HB1 x0 x1 x2
  rw [← hll]
  go_wp2
  go_loopw [23] (fun t wr => ∃ k : Nat, k ≤ L.length ∧ t = .int .i64 k ∧ Hid (∀ j (hj : j < L.length), j < k → Ro.grQ (Bd.exp rs) L[j].a = false) ∧ Hid (Below W2.heap.size W2 wr)) (fun t _ => L.length - (intOf t).toNat)
  case atStart => exact ⟨0, Nat.zero_le _, rfl, Lib.hid (fun j _ h => absurd h (Nat.not_lt_zero _)), Lib.hid (Below.refl _ _)⟩
  case round =>
    obtain ⟨k, hk, rfl, hq, hG⟩ := hrel
    by_cases hlt : k < L.length
    · have hc := fun j u h => (hG.out.cell (p := ⟨g, k * 8 + j, none⟩) HC.out.1).trans (HC.out.2.1 k hlt j u h)
      have hom := HR.out.num L[k] (List.getElem_mem hlt)
      have hl300 := HOA.out L[k] hom.1 hom.2.1 hom.2.2
      have hn5 : -100 ≤ L[k].n ∧ L[k].n ≤ 100 := by omega
      have hsp := (HC.out.2.2 L[k] (List.getElem_mem hlt)).all hG.out
      have HAT := Lib.hid (fun h => Ro.fnd_at (Q := Ro.grQ (Bd.exp rs)) hlt hq.out h)
      have HQK := HQ.out L[k].a
      have HNX : Hid (Ro.grQ (Bd.exp rs) L[k].a = false → ∀ j (hj : j < L.length), j < k + 1 → Ro.grQ (Bd.exp rs) L[j].a = false) := Lib.hid fun h j hj hjk => by
        by_cases e : j = k
        · subst e; exact h
        · exact hq.out j hj (by omega)
      have HNN := Lib.hid (And.intro hom.1 hom.2.1)
      clear hom hq
      generalize Ro.grQ (Bd.exp rs) L[k].a = QB at *
      have c0 := hc 0 _ rfl
      have c1 := hc 1 _ rfl
      have c2 := hc 2 _ rfl
      have c3 := hc 3 _ rfl
      have c4 := hc 4 _ rfl
      have c5 := hc 5 _ rfl
      have c6 := hc 6 _ rfl
      have c7 := hc 7 _ rfl
      clear hc
      rw [Nat.add_zero] at c0
      have FAK := Lib.hid (fun W (hW : Below wr.heap.size wr W) => FA.out L[k].a L[k].n L[k].u W hl300 (hsp.all hW))
      clear hsp
      generalize L[k] = x at *
      obtain ⟨⟨al0, ala, amo, ash, afl, ap⟩, an, aua, aun, auc⟩ := x
      dsimp only [Ro.O.u] at *
      generalize Ro.fit (Bd.exp rs) ⟨al0, ala, amo, ash, afl, ap⟩ 0 = FT at *
      have HBX := Lib.hid (BlockAt.new wr #[.int .i64 al0, .int .i64 ala, .int .i64 amo, .int .i64 ash, .int .i64 afl, .int .i64 ap, .int .i64 an, .slice aua aun auc] 87)
      have hkd : decide (k < L.length) = true := decide_eq_true hlt
      have hbx := HB2.out.1.below hG.out HB2.out.1.lt
      have hbx2 := hbx.alloc (.cells #[.int .i64 al0, .int .i64 ala, .int .i64 amo, .int .i64 ash, .int .i64 afl, .int .i64 ap, .int .i64 an, .slice aua aun auc] 87)
      have x1 : World.cell? _ _ = some (.int .i64 n) := hbx2.cell 1
      have y0 : World.cell? _ _ = some (.int .i64 al0) := HBX.out.cell 0
      have y1 : World.cell? _ _ = some (.int .i64 ala) := HBX.out.cell 1
      have y2 : World.cell? _ _ = some (.int .i64 amo) := HBX.out.cell 2
      have y3 : World.cell? _ _ = some (.int .i64 ash) := HBX.out.cell 3
      have y4 : World.cell? _ _ = some (.int .i64 afl) := HBX.out.cell 4
      have y5 : World.cell? _ _ = some (.int .i64 ap) := HBX.out.cell 5
      have y6 : World.cell? _ _ = some (.int .i64 an) := HBX.out.cell 6
      have y7 : World.cell? _ _ = some (.slice aua aun auc) := HBX.out.cell 7
      clear hbx hbx2
      by_cases hln : al0 = n
      case neg =>
        have d1 : (al0 == n) = false := beq_eq_false_iff_ne.2 hln
        have d2 : decide (al0 = n) = false := decide_eq_false hln
        have hQF : QB = false := by rw [HQK, d2]; rfl
        have HN2 := Lib.hid (HNX.out hQF)
        have HB3 := Lib.hid (below_alloc2 hG.out (.cells #[.int .i64 al0, .int .i64 ala, .int .i64 amo, .int .i64 ash, .int .i64 afl, .int .i64 ap, .int .i64 an, .slice aua aun auc] 87))
        clear HNX HAT HQK hQF FAK
        go_wp2
        go_roundw
        case rel => exact ⟨k + 1, by omega, by go_num, Lib.hid HN2.out, Lib.hid HB3.out⟩
        case measure => simp [intOf]; omega
      subst hln
      have d2 : decide (al0 = al0) = true := decide_eq_true rfl
      rw [d2, Bool.true_and] at HQK
      have FAX := Lib.hid (FAK.out (wr.alloc (.cells #[.int .i64 al0, .int .i64 ala, .int .i64 amo, .int .i64 ash, .int .i64 afl, .int .i64 ap, .int .i64 an, .slice aua aun auc] 87)) (below_alloc2 (Below.refl wr.heap.size wr) _))
      have HGA := Lib.hid (below_alloc2 hG.out (.cells #[.int .i64 al0, .int .i64 ala, .int .i64 amo, .int .i64 ash, .int .i64 afl, .int .i64 ap, .int .i64 an, .slice aua aun auc] 87))
      clear FAK hG d2
      subst HQK
      go_wp2_with fail
      refine FAX.out.mono ?_
      rintro e w3 ⟨rfl, hb3⟩
      have HG3 := Lib.hid (below_step HGA.out hb3)
      have y9 := (HBX.out.below hb3 HBX.out.lt).cell 6
      clear hb3 FAX HGA c0 c1 c2 c3 c4 c5 c6 c7 x1 y0 y1 y2 y3 y4 y5 y6 y7
      cases QB
      case false =>
        have HN2 := Lib.hid (HNX.out rfl)
        clear HNX HAT y9
        go_wp2
        go_roundw
        case rel => exact ⟨k + 1, by omega, by go_num, Lib.hid HN2.out, Lib.hid HG3.out⟩
        case measure => simp [intOf]; omega
      have HF := Lib.hid (HAT.out rfl)
      have y6 : World.cell? _ _ = some (.int .i64 an) := y9
      have HB4 := Lib.hid (below_step HB2.out.2 HG3.out)
      go_wp2
      (try simp only [Exit.inBlock, Exit.then])
      refine bodyPost_ret (results_tmp3 rfl _ _ _) rfl ?_
      have hnn := HNN.out.1
      have hpk := HPL.out
      rw [HF.out] at hpk
      have hE : Ending.returned (Value.tuple #[.int .i64 an, .bool true, .int .i64 0]) = Ending.returned (Value.tuple #[.int .i64 RN, .bool RB, .int .i64 0]) := by
        rw [HRE.out.1, HRE.out.2, ← hpk, if_neg (by omega), decide_eq_true hnn]
      exact ⟨hE, HB4.out⟩
    · obtain rfl : k = L.length := by omega
      have HF := Lib.hid (Ro.fnd_no (Q := Ro.grQ (Bd.exp rs)) (L := L) (fun j hj => hq.out j hj hj))
      have HB4 := Lib.hid (below_step HB2.out.2 hG.out)
      have hkd : decide (L.length < L.length) = false := decide_eq_false (Nat.lt_irrefl _)
      clear hq hG
      go_wp2
      (try simp only [Exit.inBlock, Exit.then])
      refine bodyPost_ret (results_tmp3 rfl _ _ _) rfl ?_
      have hpk := HPL.out
      rw [HF.out] at hpk
      have hE : Ending.returned (Value.tuple #[.int .i64 0, .bool false, .int .i64 0]) = Ending.returned (Value.tuple #[.int .i64 RN, .bool RB, .int .i64 0]) := by
        rw [HRE.out.1, HRE.out.2, ← hpk]; rfl
      exact ⟨hE, HB4.out⟩
set_option maxRecDepth 20000 in
set_option maxHeartbeats 2000000 in
theorem grades_walk (v u : Value) (rs : List Bd.R) (al : List Ro.A) (w : World) (hv : Runs w v rs) (hu : Arts w u al) :
    Calls Try.prog 5 #[v, u] w fun e w' => e = .returned (.bool true) ∧ Below w.heap.size w w' := by
  have LO := Lib.hid (rollLong_any v u (.slice none 0 0) rs al.length 0 w hv (by obtain ⟨a, c, h, _⟩ := hu; exact ⟨a, c, h⟩) ⟨none, 0, rfl⟩)
  have KN := Lib.hid (fun W => rollKnown_any W)
  cases hL : (decide (100 < rs.length) || (decide (40 < al.length) || decide (400 < 0)))
  case true =>
    rw [hL] at LO
    obtain ⟨va, vc, rfl⟩ := hv.form
    obtain ⟨ua, uc, rfl, _⟩ := hu
    clear hv hL
    go_enter Try.func5, Try.ntmps5
    go_wp2_with fail
    refine LO.out.mono ?_
    rintro e w1 ⟨rfl, hb1⟩
    have HB1 := Lib.hid hb1
    clear hb1 LO
    go_wp2_with fail
    refine (KN.out _).mono ?_
    rintro e w2 ⟨rfl, hb2⟩
    have HB2 := Lib.hid (below_step HB1.out hb2)
    clear hb2 HB1 KN
    go_wp2
    go_ret
    exact ⟨rfl, HB2.out⟩
  case false =>
    rw [hL] at LO
    simp only [Bool.or_eq_false_iff, decide_eq_false_iff_not] at hL
    have hl : rs.length ≤ 1000 := by omega
    have hal : al.length ≤ 1000 := by omega
    have NF := Lib.hid (fun W (hW : Below w.heap.size w W) => numGrade_any v u rs al W (hv.all hW) (hu.all hW) hl hal)
    have RF := Lib.hid (fun W (hW : Below w.heap.size w W) => refGrade_any v u rs al W (hv.all hW) (hu.all hW) hl hal)
    generalize Ro.grN rs al = r at *
    generalize Ro.grB rs al = b at *
    generalize Ro.layE rs al = q at *
    have e2 : (q == q) = true := beq_self_eq_true _
    have e3 : (r == r) = true := beq_self_eq_true _
    have e4 : (b == b) = true := beq_self_eq_true _
    obtain ⟨va, vc, rfl⟩ := hv.form
    obtain ⟨ua, uc, rfl, _⟩ := hu
    clear hv hL hl hal
    go_enter Try.func5, Try.ntmps5
    go_wp2_with fail
    refine LO.out.mono ?_
    rintro e w1 ⟨rfl, hb1⟩
    have H1 := Lib.hid hb1
    clear hb1 LO
    go_wp2_with fail
    refine (NF.out _ H1.out).mono ?_
    rintro e w2 ⟨rfl, hb2⟩
    have H2 := Lib.hid (below_step H1.out hb2)
    clear hb2 H1 NF
    go_wp2_with fail
    refine (RF.out _ H2.out).mono ?_
    rintro e w3 ⟨rfl, hb3⟩
    have H3 := Lib.hid (below_step H2.out hb3)
    clear hb3 H2 RF
    go_wp2_with fail
    refine (KN.out _).mono ?_
    rintro e w6 ⟨rfl, hb6⟩
    have H6 := Lib.hid (below_step H3.out hb6)
    clear hb6 H3 KN
    go_wp2
    go_ret
    exact ⟨rfl, H6.out⟩
end Go.Proofs.Ytbmjjmpdlmbehaa
