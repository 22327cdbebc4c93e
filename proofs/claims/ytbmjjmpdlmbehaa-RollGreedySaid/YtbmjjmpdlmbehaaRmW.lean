/- As which article a whole band can be sold for most: of the program; the law's walk. What is cut greedily: of the program. -/
import Derived.Test.YtbmjjmpdlmbehaaRmS
import Derived.Test.YtbmjjmpdlmbehaaRoll33
namespace Go.Proofs.Ytbmjjmpdlmbehaa
open Go.RowKit

namespace Ro
theorem fnd_at {Q : A → Bool} : ∀ {L : List O} {k : Nat} (hk : k < L.length), (∀ j (hj : j < L.length), j < k → Q L[j].a = false) → Q L[k].a = true → fnd Q L = L[k].n
  | o :: r, 0, _, _, h => by
    have h0 : Q o.a = true := h
    unfold fnd
    rw [if_pos h0]; rfl
  | o :: r, k + 1, hk, h1, h2 => by
    have h0 : Q o.a = false := h1 0 (by simp) (by omega)
    unfold fnd
    rw [if_neg (by rw [h0]; decide), fnd_at (by simpa using hk) (fun j hj hjk => h1 (j + 1) (by simpa using hj) (by omega)) h2]
    rfl
theorem fnd_no {Q : A → Bool} : ∀ {L : List O}, (∀ j (hj : j < L.length), Q L[j].a = false) → fnd Q L = -1
  | [], _ => rfl
  | o :: r, h => by
    have h0 : Q o.a = false := h 0 (by simp)
    unfold fnd
    rw [if_neg (by rw [h0]; decide), fnd_no (fun j hj => h (j + 1) (by simpa using hj))]
end Ro
abbrev offCs (a : Ro.A) (n : Int) (u : Value) : Array Value := #[.int .i64 a.l, .int .i64 a.la, .int .i64 a.mo, .int .i64 a.sh, .int .i64 a.fl, .int .i64 a.p, .int .i64 n, u]
set_option maxRecDepth 20000 in
set_option maxHeartbeats 4000000 in
theorem numGrade_any (v u : Value) (rs : List Bd.R) (al : List Ro.A) (w : World) (hv : Runs w v rs) (hu : Arts w u al) (hl : rs.length ≤ 1000) (hal : al.length ≤ 1000) :
    Calls Try.prog 16 #[v, u] w fun e w' => e = .returned (.tuple #[.int .i64 (Ro.grN rs al), .bool (Ro.grB rs al), .int .i64 (Ro.layE rs al)]) ∧ Below w.heap.size w w' := by
  by_cases hz : Ro.layE rs al = 0
  case neg =>
    have LY := Lib.hid (lay_bad v u rs al w hv hu hl hal hz)
    have hN : Ro.grN rs al = 0 := if_neg hz
    have hB : Ro.grB rs al = false := by unfold Ro.grB; rw [decide_eq_false hz]; rfl
    rw [hN, hB]
    obtain ⟨va, vc, rfl⟩ := hv.form
    obtain ⟨ua, uc, rfl, _⟩ := hu
    generalize Ro.layE rs al = q at *
    have hd : (q == 0) = false := beq_eq_false_iff_ne.2 hz
    have hd2 : (q != 0) = true := by rw [bne, hd]; rfl
    clear hv hz hN hB
    go_enter Try.func16, Try.ntmps16
    go_wp2_with fail
    refine LY.out.mono ?_
    rintro e w1 ⟨rfl, hb1⟩
    have HB := Lib.hid (below_alloc2 hb1 (.cells #[.slice none 0 0, .int .i64 0, .slice none 0 0] TabT))
    clear hb1 LY
    go_wp2
    (try simp only [Exit.inBlock, Exit.then])
    refine bodyPost_ret (results_tmp3 rfl _ _ _) rfl ?_
    exact ⟨rfl, HB.out⟩
  obtain ⟨h1, h2, h3, h4, h5, h6⟩ := Ro.lay_facts hz
  have LY := Lib.hid (lay_ok v u rs al w hv hu hl hal hz)
  have hN : Ro.grN rs al = if Ro.pk (Ro.grQ (Bd.exp rs)) al al.length < 0 then 0 else Ro.pk (Ro.grQ (Bd.exp rs)) al al.length := if_pos hz
  have hB : Ro.grB rs al = decide (0 ≤ Ro.pk (Ro.grQ (Bd.exp rs)) al al.length) := by unfold Ro.grB; rw [decide_eq_true hz]; rfl
  rw [hN, hB, hz]
  have RK := Lib.hid (fun bv ov n us base W ho => ranked_any bv ov n rs al us base W ho h5)
  have HOA : Hid (∀ o : Ro.O, 0 ≤ o.n → o.n < al.length → o.a = Ro.art al o.n → 1 ≤ o.a.l ∧ o.a.l ≤ 300) := Lib.hid (fun o o1 o2 o3 => by
    have h7 := h6 _ (Ro.art_mem o1 o2)
    rw [← o3] at h7
    exact (Ro.okA_iff.1 h7).1)
  have FA := Lib.hid (fun (a : Ro.A) n u W (ha : 1 ≤ a.l ∧ a.l ≤ 300) hu => by
    have h := fitsAt_any a n u 0 (spaA rs a) W ha hu (spaA_ok rs a) (spaA_len h2 a)
    rw [spaA_fit h2 ha.1] at h
    exact h)
  have HPK := Lib.hid (fun L (hL : Ro.Rkd al L) => Ro.fnd_pk (Q := Ro.grQ (Bd.exp rs)) hL)
  have HQ : Hid (∀ a : Ro.A, Ro.grQ (Bd.exp rs) a = (decide (a.l = ((Bd.exp rs).length : Int)) && Ro.fit (Bd.exp rs) a 0)) := Lib.hid (fun a => rfl)
  rw [h3] at LY
  obtain ⟨va, vc, rfl⟩ := hv.form
  obtain ⟨ua, uc, rfl, _⟩ := hu
  obtain ⟨vl, hvl⟩ : ∃ y, y = rs.length := ⟨_, rfl⟩
  rw [← hvl] at LY ⊢
  clear hv hz hN hB h1 h2 h3 h4 h6 hvl hl hal
  generalize ((Bd.exp rs).length : Int) = n at *
  generalize hPK : Ro.pk (Ro.grQ (Bd.exp rs)) al al.length = PK at *
  clear hPK
  obtain ⟨RN, hRN⟩ : ∃ x, x = (if PK < 0 then 0 else PK) := ⟨_, rfl⟩
  obtain ⟨RB, hRB⟩ : ∃ x, x = decide (0 ≤ PK) := ⟨_, rfl⟩
  rw [← hRN, ← hRB]
  have HRE := Lib.hid (And.intro hRN hRB)
  clear hRN hRB
  go_enter Try.func16, Try.ntmps16
  go_wp2_with fail
  refine LY.out.mono ?_
  rintro e w1 ⟨ov, us, rfl, ho, hb1⟩
  obtain ⟨oa, oc, rfl⟩ := ho.form
  have RK1 := Lib.hid (RK.out (.slice va vl vc) (.slice oa al.length oc) n us w.heap.size (w1.alloc (.cells #[.slice va vl vc, .int .i64 n, .slice oa al.length oc] TabT)) (ho.all (below_alloc2 (Below.refl w1.heap.size w1) _)))
  have HB1 := Lib.hid (And.intro (BlockAt.new w1 #[.slice va vl vc, .int .i64 n, .slice oa al.length oc] TabT) (below_alloc2 hb1 (.cells #[.slice va vl vc, .int .i64 n, .slice oa al.length oc] TabT)))
  have hb1s := hb1.size
  clear ho hb1 LY RK
  have x0 : World.cell? _ _ = some (.slice va vl vc) := HB1.out.1.cell 0
  have x1 : World.cell? _ _ = some (.int .i64 n) := HB1.out.1.cell 1
  have x2 : World.cell? _ _ = some (.slice oa al.length oc) := HB1.out.1.cell 2
  go_wp2_with fail
  refine RK1.out.mono ?_
  rintro e W2 ⟨g, L, rfl, hR, hb2, hg, hc, hsp⟩
  have HR := Lib.hid hR
  have HC := Lib.hid (And.intro hg (And.intro hc hsp))
  have HB2 := Lib.hid (And.intro (HB1.out.1.below hb2 HB1.out.1.lt) (below_step HB1.out.2 hb2))
  have hll := hR.len
  have HPL := Lib.hid (HPK.out L hR)
  clear hR hb2 hg hc hsp RK1 HB1 x0 x1 x2
  rw [← hll]
  go_wp2
  go_loopw [23] (fun t wr => ∃ k : Nat, k ≤ L.length ∧ t = .int .i64 k ∧ Hid (∀ j (hj : j < L.length), j < k → Ro.grQ (Bd.exp rs) L[j].a = false) ∧ Hid (Below W2.heap.size W2 wr)) (fun t _ => L.length - (intOf t).toNat)
  case atStart => exact ⟨0, Nat.zero_le _, rfl, Lib.hid (fun j _ h => absurd h (Nat.not_lt_zero _)), Lib.hid (Below.refl _ _)⟩
  case round =>
    obtain ⟨k, hk, rfl, hq, hG⟩ := hrel
    by_cases hlt : k < L.length
    · have hc := fun j u h => (hG.out.cell (p := ⟨g, k * 8 + j, none⟩) HC.out.1).trans (HC.out.2.1 k hlt j u h)
      have hom := HR.out.num L[k] (List.getElem_mem hlt)
      have hl300 := HOA.out L[k] hom.1 hom.2.1 hom.2.2
      have hn5 : -100 ≤ L[k].n ∧ L[k].n ≤ 100 := by omega
      have hsp := (HC.out.2.2 L[k] (List.getElem_mem hlt)).all hG.out
      have HAT := Lib.hid (fun h => Ro.fnd_at (Q := Ro.grQ (Bd.exp rs)) hlt hq.out h)
      have HQK := HQ.out L[k].a
      have HNX : Hid (Ro.grQ (Bd.exp rs) L[k].a = false → ∀ j (hj : j < L.length), j < k + 1 → Ro.grQ (Bd.exp rs) L[j].a = false) := Lib.hid fun h j hj hjk => by
        by_cases e : j = k
        · subst e; exact h
        · exact hq.out j hj (by omega)
      have HNN := Lib.hid (And.intro hom.1 hom.2.1)
      clear hom hq
      generalize Ro.grQ (Bd.exp rs) L[k].a = QB at *
      have c0 := hc 0 _ rfl
      have c1 := hc 1 _ rfl
      have c2 := hc 2 _ rfl
      have c3 := hc 3 _ rfl
      have c4 := hc 4 _ rfl
      have c5 := hc 5 _ rfl
      have c6 := hc 6 _ rfl
      have c7 := hc 7 _ rfl
      clear hc
      rw [Nat.add_zero] at c0
      have FAK := Lib.hid (fun W (hW : Below wr.heap.size wr W) => FA.out L[k].a L[k].n L[k].u W hl300 (hsp.all hW))
      clear hsp
      generalize L[k] = x at *
      obtain ⟨⟨al0, ala, amo, ash, afl, ap⟩, an, aua, aun, auc⟩ := x
      dsimp only [Ro.O.u] at *
      generalize Ro.fit (Bd.exp rs) ⟨al0, ala, amo, ash, afl, ap⟩ 0 = FT at *
      have HBX := Lib.hid (BlockAt.new wr #[.int .i64 al0, .int .i64 ala, .int .i64 amo, .int .i64 ash, .int .i64 afl, .int .i64 ap, .int .i64 an, .slice aua aun auc] 87)
      have hkd : decide (k < L.length) = true := decide_eq_true hlt
      have hbx := HB2.out.1.below hG.out HB2.out.1.lt
      have hbx2 := hbx.alloc (.cells #[.int .i64 al0, .int .i64 ala, .int .i64 amo, .int .i64 ash, .int .i64 afl, .int .i64 ap, .int .i64 an, .slice aua aun auc] 87)
      have x1 : World.cell? _ _ = some (.int .i64 n) := hbx2.cell 1
      have y0 : World.cell? _ _ = some (.int .i64 al0) := HBX.out.cell 0
      have y1 : World.cell? _ _ = some (.int .i64 ala) := HBX.out.cell 1
      have y2 : World.cell? _ _ = some (.int .i64 amo) := HBX.out.cell 2
      have y3 : World.cell? _ _ = some (.int .i64 ash) := HBX.out.cell 3
      have y4 : World.cell? _ _ = some (.int .i64 afl) := HBX.out.cell 4
      have y5 : World.cell? _ _ = some (.int .i64 ap) := HBX.out.cell 5
      have y6 : World.cell? _ _ = some (.int .i64 an) := HBX.out.cell 6
      have y7 : World.cell? _ _ = some (.slice aua aun auc) := HBX.out.cell 7
      clear hbx hbx2
      by_cases hln : al0 = n
      case neg =>
        have d1 : (al0 == n) = false := beq_eq_false_iff_ne.2 hln
        have d2 : decide (al0 = n) = false := decide_eq_false hln
        have hQF : QB = false := by rw [HQK, d2]; rfl
        have HN2 := Lib.hid (HNX.out hQF)
        have HB3 := Lib.hid (below_alloc2 hG.out (.cells #[.int .i64 al0, .int .i64 ala, .int .i64 amo, .int .i64 ash, .int .i64 afl, .int .i64 ap, .int .i64 an, .slice aua aun auc] 87))
        clear HNX HAT HQK hQF FAK
        go_wp2
        go_roundw
        case rel => exact ⟨k + 1, by omega, by go_num, Lib.hid HN2.out, Lib.hid HB3.out⟩
        case measure => simp [intOf]; omega
      subst hln
      have d2 : decide (al0 = al0) = true := decide_eq_true rfl
      rw [d2, Bool.true_and] at HQK
      have FAX := Lib.hid (FAK.out (wr.alloc (.cells #[.int .i64 al0, .int .i64 ala, .int .i64 amo, .int .i64 ash, .int .i64 afl, .int .i64 ap, .int .i64 an, .slice aua aun auc] 87)) (below_alloc2 (Below.refl wr.heap.size wr) _))
      have HGA := Lib.hid (below_alloc2 hG.out (.cells #[.int .i64 al0, .int .i64 ala, .int .i64 amo, .int .i64 ash, .int .i64 afl, .int .i64 ap, .int .i64 an, .slice aua aun auc] 87))
      clear FAK hG d2
      subst HQK
      go_wp2_with fail
      refine FAX.out.mono ?_
      rintro e w3 ⟨rfl, hb3⟩
      have HG3 := Lib.hid (below_step HGA.out hb3)
      have y9 := (HBX.out.below hb3 HBX.out.lt).cell 6
      clear hb3 FAX HGA c0 c1 c2 c3 c4 c5 c6 c7 x1 y0 y1 y2 y3 y4 y5 y6 y7
      cases QB
      case false =>
        have HN2 := Lib.hid (HNX.out rfl)
        clear HNX HAT y9
        go_wp2
        go_roundw
        case rel => exact ⟨k + 1, by omega, by go_num, Lib.hid HN2.out, Lib.hid HG3.out⟩
        case measure => simp [intOf]; omega
      have HF := Lib.hid (HAT.out rfl)
      have y6 : World.cell? _ _ = some (.int .i64 an) := y9
      have HB4 := Lib.hid (below_step HB2.out.2 HG3.out)
      go_wp2
      (try simp only [Exit.inBlock, Exit.then])
      refine bodyPost_ret (results_tmp3 rfl _ _ _) rfl ?_
      have hnn := HNN.out.1
      have hpk := HPL.out
      rw [HF.out] at hpk
      have hE : Ending.returned (Value.tuple #[.int .i64 an, .bool true, .int .i64 0]) = Ending.returned (Value.tuple #[.int .i64 RN, .bool RB, .int .i64 0]) := by
        rw [HRE.out.1, HRE.out.2, ← hpk, if_neg (by omega), decide_eq_true hnn]
      exact ⟨hE, HB4.out⟩
    · obtain rfl : k = L.length := by omega
      have HF := Lib.hid (Ro.fnd_no (Q := Ro.grQ (Bd.exp rs)) (L := L) (fun j hj => hq.out j hj hj))
      have HB4 := Lib.hid (below_step HB2.out.2 hG.out)
      have hkd : decide (L.length < L.length) = false := decide_eq_false (Nat.lt_irrefl _)
      clear hq hG
      go_wp2
      (try simp only [Exit.inBlock, Exit.then])
      refine bodyPost_ret (results_tmp3 rfl _ _ _) rfl ?_
      have hpk := HPL.out
      rw [HF.out] at hpk
      have hE : Ending.returned (Value.tuple #[.int .i64 0, .bool false, .int .i64 0]) = Ending.returned (Value.tuple #[.int .i64 RN, .bool RB, .int .i64 0]) := by
        rw [HRE.out.1, HRE.out.2, ← hpk]; rfl
      exact ⟨hE, HB4.out⟩
set_option maxRecDepth 20000 in
set_option maxHeartbeats 2000000 in
theorem grades_walk (v u : Value) (rs : List Bd.R) (al : List Ro.A) (w : World) (hv : Runs w v rs) (hu : Arts w u al) :
    Calls Try.prog 5 #[v, u] w fun e w' => e = .returned (.bool true) ∧ Below w.heap.size w w' := by
  have LO := Lib.hid (rollLong_any v u (.slice none 0 0) rs al.length 0 w hv (by obtain ⟨a, c, h, _⟩ := hu; exact ⟨a, c, h⟩) ⟨none, 0, rfl⟩)
  have KN := Lib.hid (fun W => rollKnown_any W)
  cases hL : (decide (100 < rs.length) || (decide (40 < al.length) || decide (400 < 0)))
  case true =>
    rw [hL] at LO
    obtain ⟨va, vc, rfl⟩ := hv.form
    obtain ⟨ua, uc, rfl, _⟩ := hu
    clear hv hL
    go_enter Try.func5, Try.ntmps5
    go_wp2_with fail
    refine LO.out.mono ?_
    rintro e w1 ⟨rfl, hb1⟩
    have HB1 := Lib.hid hb1
    clear hb1 LO
    go_wp2_with fail
    refine (KN.out _).mono ?_
    rintro e w2 ⟨rfl, hb2⟩
    have HB2 := Lib.hid (below_step HB1.out hb2)
    clear hb2 HB1 KN
    go_wp2
    go_ret
    exact ⟨rfl, HB2.out⟩
  case false =>
    rw [hL] at LO
    simp only [Bool.or_eq_false_iff, decide_eq_false_iff_not] at hL
    have hl : rs.length ≤ 1000 := by omega
    have hal : al.length ≤ 1000 := by omega
    have NF := Lib.hid (fun W (hW : Below w.heap.size w W) => numGrade_any v u rs al W (hv.all hW) (hu.all hW) hl hal)
    have RF := Lib.hid (fun W (hW : Below w.heap.size w W) => refGrade_any v u rs al W (hv.all hW) (hu.all hW) hl hal)
    generalize Ro.grN rs al = r at *
    generalize Ro.grB rs al = b at *
    generalize Ro.layE rs al = q at *
    have e2 : (q == q) = true := beq_self_eq_true _
    have e3 : (r == r) = true := beq_self_eq_true _
    have e4 : (b == b) = true := beq_self_eq_true _
    obtain ⟨va, vc, rfl⟩ := hv.form
    obtain ⟨ua, uc, rfl, _⟩ := hu
    clear hv hL hl hal
    go_enter Try.func5, Try.ntmps5
    go_wp2_with fail
    refine LO.out.mono ?_
    rintro e w1 ⟨rfl, hb1⟩
    have H1 := Lib.hid hb1
    clear hb1 LO
    go_wp2_with fail
    refine (NF.out _ H1.out).mono ?_
    rintro e w2 ⟨rfl, hb2⟩
    have H2 := Lib.hid (below_step H1.out hb2)
    clear hb2 H1 NF
    go_wp2_with fail
    refine (RF.out _ H2.out).mono ?_
    rintro e w3 ⟨rfl, hb3⟩
    have H3 := Lib.hid (below_step H2.out hb3)
    clear hb3 H2 RF
    go_wp2_with fail
    refine (KN.out _).mono ?_
    rintro e w6 ⟨rfl, hb6⟩
    have H6 := Lib.hid (below_step H3.out hb6)
    clear hb6 H3 KN
    go_wp2
    go_ret
    exact ⟨rfl, H6.out⟩
end Go.Proofs.Ytbmjjmpdlmbehaa
namespace Go.Proofs.Ytbmjjmpdlmbehaa
open Go.RowKit

/-- Ranked offers in memory. -/
def RkM (rs : List Bd.R) (g : Nat) (L : List Ro.O) (W : World) : Prop := g < W.heap.size ∧ (∀ k (hk : k < L.length) j u, (Ro.encO L[k])[j]? = some u → W.cell? ⟨g, k * 8 + j, none⟩ = some u) ∧ ∀ o ∈ L, Spns W o.u (spaA rs o.a)
theorem RkM.all {rs : List Bd.R} {g : Nat} {L : List Ro.O} {W W2 : World} (h : RkM rs g L W) (hb : Below W.heap.size W W2) : RkM rs g L W2 := ⟨Nat.lt_of_lt_of_le h.1 hb.size, fun k hk j u hu => (hb.cell (p := ⟨g, k * 8 + j, none⟩) h.1).trans (h.2.1 k hk j u hu), fun o ho => (h.2.2 o ho).all hb⟩
theorem ownsRow_setOther {e e' : TypeId} (hne : e ≠ e') {base B n size : Nat} {W : World} {cs : Array Value} {v : Value} {xs : List Value} (hB : BlockAt W B cs e') (h : W.ownsRow base e size v n xs) (i : Nat) (x : Value) : (W.setCell ⟨B, i, none⟩ x).ownsRow base e size v n xs := by
  obtain ⟨h0, h1 | ⟨g, cap, cur, h1, h2, h3, h4⟩⟩ := h
  · exact ⟨h0, .inl h1⟩
  · refine ⟨h0, .inr ⟨g, cap, cur, h1, h2, ?_, h4⟩⟩
    have hn : g ≠ B := fun e2 => by
      subst e2
      have := (show W.heap[g]? = _ from h3).symm.trans hB
      simp at this
      exact hne this.2
    rw [Below.heap_setCell _ _ _ _ hn]; exact h3
/-- How far a walk with its place in a box still is from the end. -/
def gdM (N : Nat) (t : Value) (W : World) : Nat := match t with
  | .pointer (some p) => (match W.cell? p with | some (.int _ f) => N - f.toNat | _ => 0)
  | _ => 0
theorem gdM_at {N B : Nat} {f : Int} {W : World} {T : TypeId} (h : BlockAt W B #[.int .i64 f] T) : gdM N (.pointer (some ⟨B, 0, none⟩)) W = N - f.toNat := by
  have h1 : W.cell? ⟨B, 0, none⟩ = some (.int .i64 f) := h.cell 0
  unfold gdM
  simp only [h1]
set_option maxRecDepth 20000 in
set_option maxHeartbeats 1000000 in
theorem greedy1_any (rs : List Bd.R) (h2 : Bd.fine rs) (x : Ro.O) (f : Int) (bf : Nat) (w : World) (hf : BlockAt w bf #[.int .i64 f] 3) (hl : 1 ≤ x.a.l ∧ x.a.l ≤ 300) (hu : Spns w x.u (spaA rs x.a)) :
    Calls Try.prog 32 #[.agg (Ro.encO x).toArray, .pointer (some ⟨bf, 0, none⟩)] w fun e w' => e = .returned (.bool (Ro.fit (Bd.exp rs) x.a f)) ∧ Below w.heap.size w w' := by
  have FA := Lib.hid (fun W (hW : Below w.heap.size w W) => by
    have h := fitsAt_any x.a x.n x.u f (spaA rs x.a) W hl (hu.all hW) (spaA_ok rs x.a) (spaA_len h2 x.a)
    rw [spaA_fit h2 hl.1] at h
    exact h)
  clear hu
  obtain ⟨⟨xl, xla, xmo, xsh, xfl, xp⟩, xn, xua, xun, xuc⟩ := x
  dsimp only [Ro.O.u] at FA
  change Calls Try.prog 32 #[.agg #[.int .i64 xl, .int .i64 xla, .int .i64 xmo, .int .i64 xsh, .int .i64 xfl, .int .i64 xp, .int .i64 xn, .slice xua xun xuc], .pointer (some ⟨bf, 0, none⟩)] w _
  dsimp only
  generalize Ro.fit (Bd.exp rs) ⟨xl, xla, xmo, xsh, xfl, xp⟩ f = R at *
  have HX := Lib.hid (And.intro (BlockAt.new w #[.int .i64 xl, .int .i64 xla, .int .i64 xmo, .int .i64 xsh, .int .i64 xfl, .int .i64 xp, .int .i64 xn, .slice xua xun xuc] 87) (below_alloc2 (Below.refl w.heap.size w) (.cells #[.int .i64 xl, .int .i64 xla, .int .i64 xmo, .int .i64 xsh, .int .i64 xfl, .int .i64 xp, .int .i64 xn, .slice xua xun xuc] 87)))
  have hfx := hf.alloc (.cells #[.int .i64 xl, .int .i64 xla, .int .i64 xmo, .int .i64 xsh, .int .i64 xfl, .int .i64 xp, .int .i64 xn, .slice xua xun xuc] 87)
  have z0 : World.cell? _ _ = some (.int .i64 f) := hfx.cell 0
  clear hfx hf
  have y0 : World.cell? _ _ = some (.int .i64 xl) := HX.out.1.cell 0
  have y1 : World.cell? _ _ = some (.int .i64 xla) := HX.out.1.cell 1
  have y2 : World.cell? _ _ = some (.int .i64 xmo) := HX.out.1.cell 2
  have y3 : World.cell? _ _ = some (.int .i64 xsh) := HX.out.1.cell 3
  have y4 : World.cell? _ _ = some (.int .i64 xfl) := HX.out.1.cell 4
  have y5 : World.cell? _ _ = some (.int .i64 xp) := HX.out.1.cell 5
  have y6 : World.cell? _ _ = some (.int .i64 xn) := HX.out.1.cell 6
  have y7 : World.cell? _ _ = some (.slice xua xun xuc) := HX.out.1.cell 7
  go_enter Try.func32, Try.ntmps32
  go_wp2_with fail
  refine (FA.out _ HX.out.2).mono ?_
  rintro e w1 ⟨rfl, hb1⟩
  have HB := Lib.hid (below_step HX.out.2 hb1)
  clear hb1 HX FA z0 y0 y1 y2 y3 y4 y5 y6 y7
  go_wp2
  go_ret
  exact ⟨rfl, HB.out⟩
set_option maxRecDepth 20000 in
set_option maxHeartbeats 2000000 in
theorem indexOff_any (rs : List Bd.R) (h2 : Bd.fine rs) (L : List Ro.O) (g n cap : Nat) (hn : n = L.length) (f : Int) (bf : Nat) (w : World) (hf : BlockAt w bf #[.int .i64 f] 3) (hL : ∀ o ∈ L, 1 ≤ o.a.l ∧ o.a.l ≤ 300) (hM : RkM rs g L w) (h5 : L.length ≤ 100) :
    Calls Try.prog 31 #[.slice (some ⟨g, 0, none⟩) n cap, .func (.func 32) #[] #[.pointer (some ⟨bf, 0, none⟩)]] w fun e w' => ∃ z : Int, e = .returned (.int .i64 z) ∧ ((z = -1 ∧ ∀ j (hj : j < L.length), Ro.fit (Bd.exp rs) L[j].a f = false) ∨ ∃ k : Nat, ∃ hk : k < L.length, z = k ∧ Ro.fit (Bd.exp rs) L[k].a f = true ∧ ∀ j (hj : j < L.length), j < k → Ro.fit (Bd.exp rs) L[j].a f = false) ∧ Below w.heap.size w w' := by
  subst hn
  have CC := Lib.hid (fun (x : Ro.O) W (hW : Below w.heap.size w W) hl hu => greedy1_any rs h2 x f bf W (hf.below hW hf.lt) hl hu)
  have HM := Lib.hid hM
  have HL := Lib.hid hL
  clear hf hM hL
  go_enter Try.func31, Try.ntmps31
  go_wp2
  go_loopw [8] (fun t wr => ∃ j : Nat, j ≤ L.length ∧ t = .int .i64 j ∧ Hid (∀ q (hq : q < L.length), q < j → Ro.fit (Bd.exp rs) L[q].a f = false) ∧ Hid (Below w.heap.size w wr)) (fun t _ => L.length - (intOf t).toNat)
  case atStart => exact ⟨0, Nat.zero_le _, rfl, Lib.hid (fun j _ h => absurd h (Nat.not_lt_zero _)), Lib.hid (Below.refl _ _)⟩
  case round =>
    obtain ⟨j, hj, rfl, hq, hG⟩ := hrel
    by_cases hlt : j < L.length
    · have hMr := HM.out.all hG.out
      have hc := hMr.2.1 j hlt
      have C1 := Lib.hid (CC.out L[j] wr hG.out (HL.out _ (List.getElem_mem hlt)) (hMr.2.2 _ (List.getElem_mem hlt)))
      have HJ := Lib.hid (show Ro.fit (Bd.exp rs) L[j].a f = true → ∃ k : Nat, ∃ hk : k < L.length, (j : Int) = k ∧ Ro.fit (Bd.exp rs) L[k].a f = true ∧ ∀ q (hj : q < L.length), q < k → Ro.fit (Bd.exp rs) L[q].a f = false from fun h => ⟨j, hlt, rfl, h, hq.out⟩)
      have HI : Hid (Ro.fit (Bd.exp rs) L[j].a f = false → ∀ q (hq : q < L.length), q < j + 1 → Ro.fit (Bd.exp rs) L[q].a f = false) := Lib.hid fun h q hql hqj => by
        by_cases e : q = j
        · subst e; exact h
        · exact hq.out q hql (by omega)
      have HG := Lib.hid hG.out
      clear hq hG hMr
      have c0 := hc 0 _ rfl
      have c1 := hc 1 _ rfl
      have c2 := hc 2 _ rfl
      have c3 := hc 3 _ rfl
      have c4 := hc 4 _ rfl
      have c5 := hc 5 _ rfl
      have c6 := hc 6 _ rfl
      have c7 := hc 7 _ rfl
      clear hc
      rw [Nat.add_zero] at c0
      generalize hx : Ro.fit (Bd.exp rs) L[j].a f = r at *
      clear hx
      generalize L[j] = x at *
      obtain ⟨⟨xl, xla, xmo, xsh, xfl, xp⟩, xn, xua, xun, xuc⟩ := x
      dsimp only [Ro.O.u] at c0 c1 c2 c3 c4 c5 c6 c7
      change Hid (Calls Try.prog 32 #[.agg #[.int .i64 xl, .int .i64 xla, .int .i64 xmo, .int .i64 xsh, .int .i64 xfl, .int .i64 xp, .int .i64 xn, .slice xua xun xuc], .pointer (some ⟨bf, 0, none⟩)] wr _) at C1
      go_wp2_with fail
      refine C1.out.mono ?_
      rintro e w1 ⟨rfl, hb1⟩
      have HG1 := Lib.hid (below_step HG.out hb1)
      clear C1 c0 c1 c2 c3 c4 c5 c6 c7 HG hb1
      cases r
      · have HI2 := Lib.hid (HI.out rfl)
        clear HI HJ
        go_wp2
        go_roundw
        case rel => exact ⟨j + 1, by omega, by go_num, Lib.hid HI2.out, Lib.hid HG1.out⟩
        case measure => simp [intOf]; omega
      · have HJ2 := Lib.hid (HJ.out rfl)
        clear HI HJ
        go_wp2
        go_ret
        exact ⟨(j : Int), rfl, .inr HJ2.out, HG1.out⟩
    · obtain rfl : j = L.length := by omega
      have HN := Lib.hid (fun q hql => hq.out q hql hql)
      have hw := hG.out
      clear hq hG
      go_wp2
      go_ret
      exact ⟨-1, rfl, .inl ⟨rfl, HN.out⟩, hw⟩
set_option maxRecDepth 20000 in
set_option maxHeartbeats 8000000 in
theorem numGreedy_any (v u : Value) (rs : List Bd.R) (al : List Ro.A) (w : World) (hv : Runs w v rs) (hu : Arts w u al) (hl : rs.length ≤ 1000) (hal : al.length ≤ 1000) :
    Calls Try.prog 9 #[v, u] w fun e w' => ∃ y, e = .returned (.tuple #[y, .int .i64 (Ro.layE rs al)]) ∧ OwnX w.heap.size w' y (Ro.gryR rs al) ∧ Below w.heap.size w w' := by
  obtain ⟨i0, hi, hz0, hz1, hz2⟩ := info_parts infoPc
  by_cases hz : Ro.layE rs al = 0
  case neg =>
    have LY := Lib.hid (lay_bad v u rs al w hv hu hl hal hz)
    have hR : Ro.gryR rs al = [] := if_neg hz
    rw [hR]
    obtain ⟨va, vc, rfl⟩ := hv.form
    obtain ⟨ua, uc, rfl, _⟩ := hu
    generalize Ro.layE rs al = q at *
    have hd : (q == 0) = false := beq_eq_false_iff_ne.2 hz
    have hd2 : (q != 0) = true := by rw [bne, hd]; rfl
    clear hv hz hR
    go_enter Try.func9, Try.ntmps9
    go_wp2_with fail
    refine LY.out.mono ?_
    rintro e w1 ⟨rfl, hb1⟩
    have HB := Lib.hid (below_alloc2 hb1 (.cells #[.slice none 0 0, .int .i64 0, .slice none 0 0] TabT))
    clear hb1 LY
    go_wp2
    go_ret2
    exact ⟨_, rfl, OwnX.nil _ _, HB.out⟩
  obtain ⟨h1, h2, h3, h4, h5, h6⟩ := Ro.lay_facts hz
  have LY := Lib.hid (lay_ok v u rs al w hv hu hl hal hz)
  have hR : Ro.gryR rs al = Ro.grd (Bd.exp rs) al (Bd.exp rs).length 0 := if_pos hz
  rw [hR, hz]
  have RK := Lib.hid (fun bv ov n us base W ho => ranked_any bv ov n rs al us base W ho h5)
  have HOA : Hid (∀ n : Int, 0 ≤ n → n < al.length → 1 ≤ (Ro.art al n).l ∧ (Ro.art al n).l ≤ 300) := Lib.hid (fun n o1 o2 => (Ro.okA_iff.1 (h6 _ (Ro.art_mem o1 o2))).1)
  have IX := Lib.hid (fun L g n cap hn f bf W hf hL hM h5 => indexOff_any rs h2 L g n cap hn f bf W hf hL hM h5)
  have HFE : Hid (∀ n f : Int, 0 ≤ f → Ro.fit (Bd.exp rs) (Ro.art al n) f = true → f + (Ro.art al n).l ≤ ((Bd.exp rs).length : Int)) := Lib.hid (fun n f _ h => (Ro.fit_iff.1 h).2.1)
  rw [h3] at LY
  obtain ⟨va, vc, rfl⟩ := hv.form
  obtain ⟨ua, uc, rfl, _⟩ := hu
  obtain ⟨vl, hvl⟩ : ∃ y, y = rs.length := ⟨_, rfl⟩
  rw [← hvl] at LY ⊢
  clear hv hz h1 h2 h3 h6 hR hvl hl hal
  generalize Bd.exp rs = ms at *
  have HPK := Lib.hid (fun L (hL : Ro.Rkd al L) (f : Int) => Ro.fnd_pk (Q := fun a => Ro.fit ms a f) hL)
  have HGN := Lib.hid (fun (f : Int) R xs (q : Nat) h hq hR hp => Ro.grd_none (ms := ms) (al := al) (f := f) (R := R) (xs := xs) (q := q) h hq hR hp)
  have HGS := Lib.hid (fun (f : Int) R xs (q : Nat) (b : Int) h hq hR hb hp hl => Ro.grd_some (ms := ms) (al := al) (f := f) (R := R) (xs := xs) (q := q) h hq hR (b := b) hb hp hl)
  have HGE := Lib.hid (fun (f : Int) h q => Ro.grd_end (ms := ms) (al := al) (f := f) h q)
  obtain ⟨N, hN⟩ : ∃ N, N = ms.length := ⟨_, rfl⟩
  rw [← hN] at h4 HGN HGS HGE LY HFE ⊢
  have HMN := Lib.hid hN
  clear hN
  obtain ⟨R, hR⟩ : ∃ R, R = Ro.grd ms al N 0 := ⟨_, rfl⟩
  rw [← hR]
  have HR0 : Hid (R = [] ++ Ro.grd ms al N 0) := Lib.hid hR
  clear hR
  go_enter Try.func9, Try.ntmps9
  go_wp2_with fail
  refine LY.out.mono ?_
  rintro e w1 ⟨ov, us, rfl, ho, hb1⟩
  obtain ⟨oa, oc, rfl⟩ := ho.form
  have RK1 := Lib.hid (RK.out (.slice va vl vc) (.slice oa al.length oc) N us w.heap.size (w1.alloc (.cells #[.slice va vl vc, .int .i64 N, .slice oa al.length oc] TabT)) (ho.all (below_alloc2 (Below.refl w1.heap.size w1) _)))
  have HB1 := Lib.hid (And.intro (BlockAt.new w1 #[.slice va vl vc, .int .i64 N, .slice oa al.length oc] TabT) (below_alloc2 hb1 (.cells #[.slice va vl vc, .int .i64 N, .slice oa al.length oc] TabT)))
  have hb1s := hb1.size
  clear ho hb1 LY RK
  have x0 : World.cell? _ _ = some (.slice va vl vc) := HB1.out.1.cell 0
  have x1 : World.cell? _ _ = some (.int .i64 N) := HB1.out.1.cell 1
  have x2 : World.cell? _ _ = some (.slice oa al.length oc) := HB1.out.1.cell 2
  go_wp2_with fail
  refine RK1.out.mono ?_
  rintro e W2 ⟨g, L, rfl, hR, hb2, hg, hc, hsp⟩
  have HR := Lib.hid hR
  have HRM := Lib.hid (show RkM rs g L W2 from ⟨hg, hc, hsp⟩)
  have HB2 := Lib.hid (And.intro (HB1.out.1.below hb2 HB1.out.1.lt) (below_step HB1.out.2 hb2))
  have hll := hR.len
  have HL300 : Hid (∀ o ∈ L, 1 ≤ o.a.l ∧ o.a.l ≤ 300) := Lib.hid (fun o ho => by
    obtain ⟨n1, n2, n3⟩ := hR.num o ho
    rw [n3]
    exact HOA.out o.n n1 n2)
  clear hR hb2 hg hc hsp RK1 HB1 x0 x1 x2
  have HB0 := Lib.hid (And.intro (BlockAt.new W2 #[.int .i64 0] 3) (below_alloc2 (Below.refl W2.heap.size W2) (.cells #[.int .i64 0] 3)))
  go_wp2
  go_loopw [9, 10] (fun s t wr => ∃ (f : Nat) (xs : List Ro.X) (B : Nat), (f ≤ N ∧ xs.length ≤ f ∧ W2.heap.size ≤ B) ∧ t = .pointer (some ⟨B, 0, none⟩) ∧ Hid (BlockAt wr B #[.int .i64 (f : Int)] 3) ∧ Hid (∃ q : Nat, (N : Int) ≤ (f : Int) + q ∧ R = xs ++ Ro.grd ms al q f) ∧ Hid (OwnX W2.heap.size wr s xs ∧ Below W2.heap.size W2 wr)) (fun _ t wr => gdM N t wr)
  case atStart => exact ⟨0, [], W2.heap.size, ⟨Nat.zero_le _, Nat.le_refl _, Nat.le_refl _⟩, rfl, Lib.hid HB0.out.1, Lib.hid ⟨N, by omega, HR0.out⟩, Lib.hid ⟨OwnX.nil _ _, HB0.out.2⟩⟩
  case round =>
    obtain ⟨f, xs, B, ⟨hfN, hxf, hB⟩, rfl, hBk, hh, hg⟩ := hrel
    clear HR0 HB0
    obtain ⟨ra, rc, hre, _⟩ := hg.out.1.pcs
    subst hre
    have b0 : World.cell? _ ⟨B, 0, none⟩ = some (.int .i64 (f : Int)) := hBk.out.cell 0
    have ht := HB2.out.1.below hg.out.2 HB2.out.1.lt
    have t1 : World.cell? _ _ = some (.int .i64 N) := ht.cell 1
    clear ht
    by_cases hlt : f < N
    · have jd : decide (f < N) = true := decide_eq_true hlt
      have IX1 := Lib.hid (IX.out L g al.length al.length hll.symm (f : Int) B wr hBk.out HL300.out (HRM.out.all hg.out.2) (by omega))
      go_wp2_with fail
      refine IX1.out.mono ?_
      rintro e w3 ⟨z, rfl, hzz, hb3⟩
      have HB3 := Lib.hid (hBk.out.below hb3 hBk.out.lt)
      have HG3 := Lib.hid (show OwnX W2.heap.size w3 (.slice ra xs.length rc) xs ∧ Below W2.heap.size W2 w3 from ⟨hg.out.1.all hb3, below_step hg.out.2 hb3⟩)
      have hold := gdM_at (N := N) hBk.out
      have HOLD := Lib.hid hold
      clear IX1 b0 t1 hBk hg hb3 hold
      rcases hzz with ⟨rfl, hno⟩ | ⟨k, hk, rfl, hyes, hbef⟩
      · have HP : Hid (Ro.pk (fun a => Ro.fit ms a (f : Int)) al al.length < 0) := Lib.hid (by
          rw [← HPK.out L HR.out (f : Int), Ro.fnd_no (Q := fun a => Ro.fit ms a (f : Int)) hno]
          decide)
        have HH := Lib.hid (show ∃ q : Nat, (N : Int) ≤ ((f + 1 : Nat) : Int) + q ∧ R = xs ++ Ro.grd ms al q ((f + 1 : Nat) : Int) from by
          obtain ⟨q, hq1, hq2⟩ := hh.out
          exact HGN.out (f : Int) R xs q (by omega) hq1 hq2 HP.out)
        have b0 : World.cell? _ ⟨B, 0, none⟩ = some (.int .i64 (f : Int)) := HB3.out.cell 0
        have f0 := HB3.out.frozen 0
        have hblt := HB3.out.lt
        have g1 : IntKind.i64.wrap ((f : Int) + 1) = (f : Int) + 1 := IntWalk.i64_in _ ⟨by omega, by omega⟩
        have HN := Lib.hid (show BlockAt ((w3.setCell ⟨B, 0, none⟩ (.int .i64 ((f : Int) + 1))).alloc (.cells #[.int .i64 ((f : Int) + 1)] 3)) w3.heap.size #[.int .i64 ((f : Int) + 1)] 3 ∧ OwnX W2.heap.size ((w3.setCell ⟨B, 0, none⟩ (.int .i64 ((f : Int) + 1))).alloc (.cells #[.int .i64 ((f : Int) + 1)] 3)) (.slice ra xs.length rc) xs ∧ Below W2.heap.size W2 ((w3.setCell ⟨B, 0, none⟩ (.int .i64 ((f : Int) + 1))).alloc (.cells #[.int .i64 ((f : Int) + 1)] 3)) from by
          refine ⟨?_, OwnX.alloc (ownsRow_setOther (by decide) HB3.out HG3.out.1 0 _) _, below_alloc2 (HG3.out.2.setCell (p := ⟨B, 0, none⟩) hB _) _⟩
          have h := BlockAt.new (w3.setCell ⟨B, 0, none⟩ (.int .i64 ((f : Int) + 1))) #[.int .i64 ((f : Int) + 1)] 3
          rwa [show (w3.setCell ⟨B, 0, none⟩ (.int .i64 ((f : Int) + 1))).heap.size = w3.heap.size by simp] at h)
        have hsz3 := HG3.out.2.size
        clear HP hno hh
        go_wp2
        clear b0 f0 hblt
        go_roundw
        case rel => exact ⟨f + 1, xs, w3.heap.size, ⟨by omega, by omega, hsz3⟩, rfl, Lib.hid HN.out.1, Lib.hid HH.out, Lib.hid HN.out.2⟩
        case measure => rw [gdM_at HN.out.1, HOLD.out]; omega
      · obtain ⟨n1, n2, n3⟩ := HR.out.num L[k] (List.getElem_mem hk)
        have HPB : Hid (Ro.pk (fun a => Ro.fit ms a (f : Int)) al al.length = L[k].n) := Lib.hid (by
          rw [← HPK.out L HR.out (f : Int), Ro.fnd_at (Q := fun a => Ro.fit ms a (f : Int)) hk hbef hyes])
        have hla := HL300.out L[k] (List.getElem_mem hk)
        have hend := HFE.out L[k].n (f : Int) (by omega) (by rw [← n3]; exact hyes)
        rw [← n3] at hend
        have HH := Lib.hid (show ∃ q : Nat, (N : Int) ≤ (f : Int) + L[k].a.l + q ∧ R = (xs ++ [⟨(f : Int), L[k].n⟩]) ++ Ro.grd ms al q ((f : Int) + L[k].a.l) from by
          obtain ⟨q, hq1, hq2⟩ := hh.out
          have h := HGS.out (f : Int) R xs q L[k].n (by omega) hq1 hq2 HPB.out (by omega) (by rw [← n3]; exact hla.1)
          rwa [← n3] at h)
        have HOC : Hid (∀ W, Below W2.heap.size W2 W → W.cell? ⟨g, k * 8, none⟩ = some (.int .i64 L[k].a.l) ∧ W.cell? ⟨g, k * 8 + 6, none⟩ = some (.int .i64 L[k].n)) := Lib.hid (fun W hW => ⟨(HRM.out.all hW).2.1 k hk 0 _ rfl, (HRM.out.all hW).2.1 k hk 6 _ rfl⟩)
        have hn5 : L[k].n ≤ 5 := by omega
        clear hyes hbef HPB hh n2 n3
        generalize L[k].n = xn at *
        generalize L[k].a.l = m at *
        obtain ⟨ml, rfl⟩ := Int.eq_ofNat_of_zero_le (show 0 ≤ m by omega)
        obtain ⟨hc0, hc6⟩ := HOC.out _ HG3.out.2
        have hka : k < al.length := by omega
        have hkd : decide (k < al.length) = true := decide_eq_true hka
        have hS11 : (fun W => W.cell? ⟨B, 0, none⟩ = some (.int .i64 (f : Int)) ∧ W.cell? ⟨g, k * 8 + 6, none⟩ = some (.int .i64 xn)) w3.drew := ⟨HB3.out.cell 0, hc6⟩
        have HS11 := Lib.hid hS11
        clear hS11 hc0 hc6
        go_wp2
        refine wp_region_seq [(0, true), (1, true), (2, true), (3, true), (4, true), (5, true), (6, true), (7, true), (8, false), (9, false), (10, true)] (fun W => W.cell? ⟨B, 0, none⟩ = some (.int .i64 (f : Int)) ∧ W.cell? ⟨g, k * 8 + 6, none⟩ = some (.int .i64 xn))
          (by kernel_rfl) (by kernel_rfl) (by kernel_rfl) (by kernel_rfl) (fun d _ _ _ _ h => by cases d <;> exact h) HS11.out (fun _ => ?_)
        repeat (first | (refine SeqH.take (v := ?_) rfl (by rfl) ?_ ?_; rotate_left; (· intro w hSw; (try dsimp only at hSw); obtain ⟨q0, q1⟩ := hSw; go_simp; (try rw [if_pos (by omega)]); (try with_reducible rfl)); simp only [Act.put, List.setIfInBounds_toArray, List.set_cons_zero, List.set_cons_succ]) | (refine SeqH.skip rfl (by rfl) ?_; simp only [Act.put, List.setIfInBounds_toArray, List.set_cons_zero, List.set_cons_succ]))
        refine SeqH.step rfl (by rfl) (fun K hK => ?_)
        go_simp
        try dsimp only
        refine hK.out _ _ ⟨(HB3.out.alloc _).cell 0, (HOC.out _ (below_alloc2 (below_drewN HG3.out.2 1) _)).2⟩ (fun _ => ?_)
        clear hK K
        try simp only [Act.put, List.setIfInBounds_toArray, List.set_cons_zero, List.set_cons_succ]
        refine SeqH.step rfl (by rfl) (fun K hK => ?_)
        have hown3 : OwnX W2.heap.size w3.drew (.slice ra xs.length rc) xs := HG3.out.1
        have hb3d := below_drewN HG3.out.2 1
        have hsz : W2.heap.size ≤ w3.heap.size := HG3.out.2.size
        have hca := pcC_at w3.drew ⟨(f : Int), xn⟩ 31
        unfold OwnX at hown3
        refine wp_append_own _ _ _ 26 rfl W2.heap.size 31 i0 (.agg #[.int .i64 0, .int .i64 0]) 2 16 Try.underlying26 hi hz0 hz1 hz2 rfl (by decide) _ _ _ rfl (World.ownsRow.alloc hown3 _) _ 1 1 (pcC ⟨(f : Int), xn⟩) rfl rfl hca (pcC_one _) (by unfold maxLen; omega) (by omega) (by first | omega | (simp; omega)) ?_
        intro v8 w8 hr8 hg8 _
        have hw8 := (below_alloc2 hb3d (.cells #[.int .i64 (f : Int), .int .i64 xn] 31)).grown hg8 (by first | omega | (simp; omega)) (fun j e => (World.ownsRow.lt hown3 j e).1)
        have hbx8 : BlockAt w8 B #[.int .i64 (f : Int)] 3 := by
          have h := HB3.out.alloc (.cells #[.int .i64 (f : Int), .int .i64 xn] 31)
          refine BlockAt.grown (W := w3.drew.alloc (.cells #[.int .i64 (f : Int), .int .i64 xn] 31)) h hg8 (fun e => ?_)
          change some B = (Value.slice ra xs.length rc).ownBlock at e
          obtain ⟨_, ⟨k1, _⟩ | ⟨g', cap', cur', k1, _, k3, _⟩⟩ := hown3
          · rw [k1] at e; simp [Value.ownBlock] at e
          · rw [k1] at e
            simp [Value.ownBlock] at e
            subst e
            have h5 := (show w3.heap[B]? = _ from k3).symm.trans HB3.out
            simp at h5
        try dsimp only
        refine hK.out _ _ ⟨hbx8.cell 0, (HOC.out _ hw8).2⟩ (fun _ => ?_)
        clear hK K
        try simp only [Act.put, List.setIfInBounds_toArray, List.set_cons_zero, List.set_cons_succ]
        have hp8 := OwnX.pushed (a := xs) (s := ⟨(f : Int), xn⟩) hr8
        obtain ⟨a8, c8, e8, _⟩ := hp8.pcs
        subst e8
        have HO := Lib.hid (And.intro hp8 (And.intro hw8 hbx8))
        have hl8 : (xs ++ [(⟨(f : Int), xn⟩ : Ro.X)]).length ≤ f + ml := by rw [List.length_append]; simp; omega
        clear hr8 hg8 hw8 hp8 hbx8 hown3 hca hb3d hsz HS11 HG3 HB3
        generalize xs ++ [(⟨(f : Int), xn⟩ : Ro.X)] = x8 at *
        repeat (first | (refine SeqH.take (v := ?_) rfl (by rfl) ?_ ?_; rotate_left; (· intro w hSw; (try dsimp only at hSw); obtain ⟨q0, q1⟩ := hSw; go_simp; (try rw [if_pos (by omega)]); (try with_reducible rfl)); simp only [Act.put, List.setIfInBounds_toArray, List.set_cons_zero, List.set_cons_succ]) | (refine SeqH.skip rfl (by rfl) ?_; simp only [Act.put, List.setIfInBounds_toArray, List.set_cons_zero, List.set_cons_succ]))
        refine SeqH.done ?_
        have b0 : World.cell? _ ⟨B, 0, none⟩ = some (.int .i64 (f : Int)) := HO.out.2.2.cell 0
        have f0 := HO.out.2.2.frozen 0
        have hblt := HO.out.2.2.lt
        have c0 := (HOC.out _ HO.out.2.1).1
        have g1 : IntKind.i64.wrap ((f : Int) + (ml : Int)) = (f : Int) + (ml : Int) := IntWalk.i64_in _ ⟨by omega, by omega⟩
        go_wp2
        go_region
        obtain ⟨X, hX⟩ : ∃ Z, (w8.setCell ⟨B, 0, none⟩ (.int .i64 ((f : Int) + (ml : Int)))).drew = Z := ⟨_, rfl⟩
        have HX := Lib.hid (show BlockAt X B #[.int .i64 ((f : Int) + (ml : Int))] 3 ∧ OwnX W2.heap.size X (.slice a8 x8.length c8) x8 ∧ Below W2.heap.size W2 X from by
          rw [← hX]
          exact ⟨HO.out.2.2.set 0 _, ownsRow_setOther (by decide) HO.out.2.2 HO.out.1 0 _, below_drewN (HO.out.2.1.setCell (p := ⟨B, 0, none⟩) hB _) 1⟩)
        rw [hX]
        clear hX HO b0 f0 hblt c0
        have b1 : World.cell? _ ⟨B, 0, none⟩ = some (.int .i64 ((f : Int) + (ml : Int))) := HX.out.1.cell 0
        have HN := Lib.hid (show BlockAt (X.alloc (.cells #[.int .i64 ((f : Int) + (ml : Int))] 3)) X.heap.size #[.int .i64 ((f : Int) + (ml : Int))] 3 ∧ OwnX W2.heap.size (X.alloc (.cells #[.int .i64 ((f : Int) + (ml : Int))] 3)) (.slice a8 x8.length c8) x8 ∧ Below W2.heap.size W2 (X.alloc (.cells #[.int .i64 ((f : Int) + (ml : Int))] 3)) from ⟨BlockAt.new X _ _, HX.out.2.1.alloc _, below_alloc2 HX.out.2.2 _⟩)
        have hszX := HX.out.2.2.size
        go_wp2
        go_roundw
        case rel => exact ⟨f + ml, x8, X.heap.size, ⟨by omega, hl8, hszX⟩, rfl, Lib.hid HN.out.1, Lib.hid HH.out, Lib.hid HN.out.2⟩
        case measure => rw [gdM_at HN.out.1, HOLD.out]; omega
    · obtain rfl : f = N := by omega
      have jd : decide (f < f) = false := decide_eq_false (Nat.lt_irrefl _)
      have HF := Lib.hid (show R = xs from by
        obtain ⟨q, _, hq⟩ := hh.out
        rw [hq, HGE.out (f : Int) (by omega) q, List.append_nil])
      have HG4 := Lib.hid (And.intro (show OwnX w.heap.size wr (.slice ra xs.length rc) R from by rw [HF.out]; exact hg.out.1.mono HB2.out.2.size) (below_step HB2.out.2 hg.out.2))
      clear hh hg hBk
      go_wp2
      go_ret2
      exact ⟨_, rfl, HG4.out⟩
end Go.Proofs.Ytbmjjmpdlmbehaa
