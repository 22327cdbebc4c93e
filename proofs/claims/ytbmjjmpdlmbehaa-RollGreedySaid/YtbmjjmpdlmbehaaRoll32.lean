/- The reference's Grade. -/
import Derived.Test.YtbmjjmpdlmbehaaRmR
import Derived.Test.YtbmjjmpdlmbehaaBand44
namespace Go.Proofs.Ytbmjjmpdlmbehaa
open Go.RowKit

def Ro.grQ (ms : List Bd.M) (a : Ro.A) : Bool := decide (a.l = (ms.length : Int)) && Ro.fit ms a 0
def Ro.grN (rs : List Bd.R) (al : List Ro.A) : Int := if Ro.layE rs al = 0 then (if Ro.pk (Ro.grQ (Bd.exp rs)) al al.length < 0 then 0 else Ro.pk (Ro.grQ (Bd.exp rs)) al al.length) else 0
def Ro.grB (rs : List Bd.R) (al : List Ro.A) : Bool := decide (Ro.layE rs al = 0) && decide (0 ≤ Ro.pk (Ro.grQ (Bd.exp rs)) al al.length)
theorem Ro.pk_range (Q : Ro.A → Bool) (al : List Ro.A) (k : Nat) : Ro.pk Q al k = -1 ∨ (0 ≤ Ro.pk Q al k ∧ Ro.pk Q al k < k) := by
  rcases Ro.pk_inv Q al k with ⟨h, _⟩ | ⟨h1, h2, _⟩
  · exact .inl h
  · exact .inr ⟨h1, h2⟩
theorem Ro.pk_skip {Q : Ro.A → Bool} {al : List Ro.A} {k : Nat} (hk : k < al.length) (h : Q al[k] = false) : Ro.pk Q al (k + 1) = Ro.pk Q al k := by
  rw [Ro.pk, if_neg]
  rw [Ro.art_at hk, h]; simp
theorem Ro.pk_new {Q : Ro.A → Bool} {al : List Ro.A} {k : Nat} (hk : k < al.length) (h : Q al[k] = true) (h2 : Ro.pk Q al k < 0 ∨ (Ro.art al (Ro.pk Q al k)).p < al[k].p) : Ro.pk Q al (k + 1) = k := by
  rw [Ro.pk, if_pos]
  rw [Ro.art_at hk]; exact ⟨h, h2⟩
theorem Ro.pk_old {Q : Ro.A → Bool} {al : List Ro.A} {k : Nat} (hk : k < al.length) (h1 : ¬ Ro.pk Q al k < 0) (h2 : ¬ (Ro.art al (Ro.pk Q al k)).p < al[k].p) : Ro.pk Q al (k + 1) = Ro.pk Q al k := by
  rw [Ro.pk, if_neg]
  rw [Ro.art_at hk]
  rintro ⟨_, h | h⟩
  · exact h1 h
  · exact h2 h
def GrS (ab o1 : Nat) (a1 : Ro.A) (o2 : Nat) (a2 : Ro.A) (W : World) : Prop := (ArtAt W ab o1 a1 ∧ ArtAt W ab o2 a2) ∧ ab < W.heap.size
theorem GrS.below {ab o1 o2 : Nat} {a1 a2 : Ro.A} {W W2 : World} (h : GrS ab o1 a1 o2 a2 W) (hb : Below W.heap.size W W2) : GrS ab o1 a1 o2 a2 W2 :=
  ⟨⟨h.1.1.below hb h.2, h.1.2.below hb h.2⟩, Nat.lt_of_lt_of_le h.2 hb.size⟩

set_option maxRecDepth 20000 in
set_option maxHeartbeats 4000000 in
theorem refGrade_any (v u : Value) (rs : List Bd.R) (al : List Ro.A) (w : World) (hv : Runs w v rs) (hu : Arts w u al) (hl : rs.length ≤ 1000) (hal : al.length ≤ 1000) :
    Calls Try.prog 17 #[v, u] w fun e w' => e = .returned (.tuple #[.int .i64 (Ro.grN rs al), .bool (Ro.grB rs al), .int .i64 (Ro.layE rs al)]) ∧ Below w.heap.size w w' := by
  by_cases hz : Ro.layE rs al = 0
  case neg =>
    have LY := Lib.hid (marks_bad v u rs al w hv hu hl hal hz)
    have hN : Ro.grN rs al = 0 := if_neg hz
    have hB : Ro.grB rs al = false := by unfold Ro.grB; rw [decide_eq_false hz]; rfl
    rw [hN, hB]
    obtain ⟨va, vc, rfl⟩ := hv.form
    obtain ⟨ua, uc, rfl, _⟩ := hu
    generalize Ro.layE rs al = q at *
    have hd : (q == 0) = false := beq_eq_false_iff_ne.2 hz
    have hd2 : (q != 0) = true := by rw [bne, hd]; rfl
    clear hv hz hN hB
    go_enter Try.func17, Try.ntmps17
    go_wp2_with fail
    refine LY.out.mono ?_
    rintro e w1 ⟨rfl, hb1⟩
    have HB := Lib.hid hb1
    clear hb1 LY
    go_wp2
    (try simp only [Exit.inBlock, Exit.then])
    refine bodyPost_ret (results_tmp3 rfl _ _ _) rfl ?_
    exact ⟨rfl, HB.out⟩
  obtain ⟨h1, h2, h3, h4, h5, h6⟩ := Ro.lay_facts hz
  have LY := Lib.hid (marks_ok v u rs al w hv hu hl hal hz)
  have hN : Ro.grN rs al = if Ro.pk (Ro.grQ (Bd.exp rs)) al al.length < 0 then 0 else Ro.pk (Ro.grQ (Bd.exp rs)) al al.length := if_pos hz
  have hB : Ro.grB rs al = decide (0 ≤ Ro.pk (Ro.grQ (Bd.exp rs)) al al.length) := by unfold Ro.grB; rw [decide_eq_true hz]; rfl
  rw [hN, hB, hz]
  obtain ⟨n0, hn0⟩ : ∃ n0, n0 = (if Ro.pk (Ro.grQ (Bd.exp rs)) al al.length < 0 then 0 else Ro.pk (Ro.grQ (Bd.exp rs)) al al.length) := ⟨_, rfl⟩
  obtain ⟨bb, hbb⟩ : ∃ bb, bb = decide (0 ≤ Ro.pk (Ro.grQ (Bd.exp rs)) al al.length) := ⟨_, rfl⟩
  rw [← hn0, ← hbb]
  have HN0 := Lib.hid hn0
  have HBB := Lib.hid hbb
  clear hn0 hbb
  have TF := Lib.hid (fun mv (k : Nat) (hk : k < al.length) W (hW : Below w.heap.size w W) (hm : Mks W mv (Bd.exp rs)) => refFits_any mv u (Bd.exp rs) al ⟨0, k⟩ W hm (hu.all hW) h6 h4 h5)
  have TFE := Lib.hid (fun (k : Nat) (hk : k < al.length) => Ro.fitX_in (ms := Bd.exp rs) (f := 0) hk)
  obtain ⟨va, vc, rfl⟩ := hv.form
  obtain ⟨ua, uc, rfl, hka⟩ := hu
  have HA := Lib.hid hka
  clear hv hz h1 h2 h3 h6 hN hB hka
  generalize Bd.exp rs = ms at *
  have HQ : Hid (∀ a : Ro.A, Ro.grQ ms a = (decide (a.l = (ms.length : Int)) && Ro.fit ms a 0)) := Lib.hid (fun a => rfl)
  have HP := Lib.hid (fun k => Ro.pk_range (Ro.grQ ms) al k)
  have H0 : Hid (Ro.pk (Ro.grQ ms) al 0 = -1) := Lib.hid rfl
  have HSK := Lib.hid (fun k (hk : k < al.length) h => Ro.pk_skip (Q := Ro.grQ ms) hk h)
  have HNW := Lib.hid (fun k (hk : k < al.length) h h2 => Ro.pk_new (Q := Ro.grQ ms) hk h h2)
  have HOL := Lib.hid (fun k (hk : k < al.length) h h2 => Ro.pk_old (Q := Ro.grQ ms) hk h h2)
  obtain ⟨N, hN⟩ : ∃ N, N = ms.length := ⟨_, rfl⟩
  rw [← hN] at h4 HQ
  have HMN := Lib.hid hN
  clear hN
  go_enter Try.func17, Try.ntmps17
  go_wp2_with fail
  refine LY.out.mono ?_
  rintro e w1 ⟨mv, rfl, hm, hb1⟩
  have hmk := hm.mks
  obtain ⟨ma, mc, hmv, _⟩ := hm.mks
  rw [← HMN.out] at hmv
  subst hmv
  have H1 := Lib.hid (And.intro hmk hb1)
  clear hm hmk hb1 LY
  go_wp2
  go_loopw [9, 10] (fun s t wr => ∃ k : Nat, k ≤ al.length ∧ s = .int .i64 (Ro.pk (Ro.grQ ms) al k) ∧ t = .int .i64 k ∧ Hid (Mks wr (.slice ma N mc) ms ∧ Below w.heap.size w wr)) (fun _ t _ => al.length - (intOf t).toNat)
  case atStart => exact ⟨0, Nat.zero_le _, by rw [H0.out], rfl, H1⟩
  case round =>
    obtain ⟨k, hk, rfl, rfl, hg⟩ := hrel
    clear H1
    have hpr := HP.out k
    by_cases hlt : k < al.length
    · have HG := Lib.hid hg.out
      have C := Lib.hid (TF.out (.slice ma N mc) k hlt wr.drew (below_drewN hg.out.2 1) (hg.out.1.all (below_drewN (Below.refl _ _) 1)))
      rw [TFE.out k hlt] at C
      obtain ⟨ab, ao, rfl, hab, har⟩ := HA.out k hlt
      have har2 := har.below hg.out.2 hab
      have habw : ab < wr.heap.size := Nat.lt_of_lt_of_le hab hg.out.2.size
      have hsk := HSK.out k hlt
      have hnw := HNW.out k hlt
      have hol := HOL.out k hlt
      rw [HQ.out] at hsk hnw
      obtain ⟨q, a2, HS0, hqb⟩ : ∃ (q : Nat) (a2 : Ro.A), Hid (GrS ab (ao + k * 6) al[k] (ao + q * 6) a2 wr.drew) ∧ (0 ≤ Ro.pk (Ro.grQ ms) al k → Ro.pk (Ro.grQ ms) al k = q ∧ q < al.length ∧ Ro.art al (Ro.pk (Ro.grQ ms) al k) = a2) := by
        rcases hpr with hp | ⟨hp1, hp2⟩
        · exact ⟨k, al[k], Lib.hid ⟨⟨har2, har2⟩, habw⟩, fun h => by omega⟩
        · obtain ⟨q, hq⟩ : ∃ q : Nat, Ro.pk (Ro.grQ ms) al k = q := ⟨_, (Int.toNat_of_nonneg hp1).symm⟩
          have hql : q < al.length := by omega
          obtain ⟨ab', ao', he, _, har'⟩ := HA.out q hql
          simp only [Option.some.injEq, Addr.mk.injEq, and_true] at he
          obtain ⟨rfl, rfl⟩ := he
          have har3 : ArtAt wr ab (ao + q * 6) al[q] := har'.below hg.out.2 hab
          exact ⟨q, al[q], Lib.hid ⟨⟨har2, har3⟩, habw⟩, fun _ => ⟨hq, hql, by rw [hq, Ro.art_at hql]⟩⟩
      clear hg har har2
      have HQB := Lib.hid hqb
      have HSKx := Lib.hid hsk
      have HNWx := Lib.hid hnw
      have HOLx := Lib.hid hol
      clear hqb hsk hnw hol hpr
      obtain ⟨b, hb⟩ : ∃ b, b = Ro.pk (Ro.grQ ms) al k := ⟨_, rfl⟩
      rw [← hb] at HQB HSKx HNWx HOLx
      rw [← hb]
      clear hb
      generalize Ro.fit ms al[k] 0 = r at *
      generalize al[k] = a at *
      by_cases hln : a.l = (N : Int)
      case neg =>
        have hlb : (a.l == (N : Int)) = false := beq_eq_false_iff_ne.2 hln
        have HR := Lib.hid (HSKx.out (by rw [decide_eq_false hln]; rfl))
        clear HSKx HNWx HOLx HQB C
        go_upto_region 8 with fail
        refine wp_region_seq [(0, true), (1, true), (2, true), (3, true), (4, true), (5, true), (6, true), (7, true), (8, true), (9, true), (10, true), (11, true), (12, true), (13, false), (14, true), (15, true), (16, true), (17, true), (18, true), (19, true), (20, true), (21, true), (22, true), (23, true), (24, true), (25, true), (26, true), (27, true), (28, true), (29, true), (30, true), (31, true)] (GrS ab (ao + k * 6) a (ao + q * 6) a2)
          (by kernel_rfl) (by kernel_rfl) (by kernel_rfl) (by kernel_rfl) (fun d _ _ _ _ h => by cases d <;> exact h) HS0.out (fun _ => ?_)
        repeat (first | (refine SeqH.take (v := ?_) rfl (by rfl) ?_ ?_; rotate_left; (· intro w hSw; (try dsimp only at hSw); obtain ⟨⟨⟨c0, c1, c2, c3, c4, c5⟩, ⟨d0, d1, d2, d3, d4, d5⟩⟩, _⟩ := hSw; go_simp; (try with_reducible rfl)); simp only [Act.put, List.setIfInBounds_toArray, List.set_cons_zero, List.set_cons_succ]) | (refine SeqH.skip rfl (by rfl) ?_; simp only [Act.put, List.setIfInBounds_toArray, List.set_cons_zero, List.set_cons_succ]))
        refine SeqH.pass rfl (by rfl) ‹_› ?_
        simp only [Act.put, List.setIfInBounds_toArray, List.set_cons_zero, List.set_cons_succ]
        repeat (first | (refine SeqH.take (v := ?_) rfl (by rfl) ?_ ?_; rotate_left; (· intro w hSw; (try dsimp only at hSw); obtain ⟨⟨⟨c0, c1, c2, c3, c4, c5⟩, ⟨d0, d1, d2, d3, d4, d5⟩⟩, _⟩ := hSw; go_simp; (try with_reducible rfl)); simp only [Act.put, List.setIfInBounds_toArray, List.set_cons_zero, List.set_cons_succ]) | (refine SeqH.skip rfl (by rfl) ?_; simp only [Act.put, List.setIfInBounds_toArray, List.set_cons_zero, List.set_cons_succ]))
        refine SeqH.done ?_
        have HG3 := Lib.hid (And.intro (HG.out.1.all (below_drewN (Below.refl _ _) 1)) (below_drewN HG.out.2 1))
        clear HG HS0
        go_wp2
        go_roundw
        case rel => exact ⟨k + 1, by omega, by rw [HR.out], by go_num, HG3⟩
        case measure => simp [intOf]; omega
      have hlb : (a.l == (N : Int)) = true := by rw [hln]; exact beq_self_eq_true _
      cases r
      case false =>
        have HR := Lib.hid (HSKx.out (by rw [Bool.and_false]))
        clear HSKx HNWx HOLx HQB
        go_upto_region 8 with fail
        refine wp_region_seq [(0, true), (1, true), (2, true), (3, true), (4, true), (5, true), (6, true), (7, true), (8, true), (9, true), (10, true), (11, true), (12, true), (13, false), (14, true), (15, true), (16, true), (17, true), (18, true), (19, true), (20, true), (21, true), (22, true), (23, true), (24, true), (25, true), (26, true), (27, true), (28, true), (29, true), (30, true), (31, true)] (GrS ab (ao + k * 6) a (ao + q * 6) a2)
          (by kernel_rfl) (by kernel_rfl) (by kernel_rfl) (by kernel_rfl) (fun d _ _ _ _ h => by cases d <;> exact h) HS0.out (fun _ => ?_)
        repeat (first | (refine SeqH.take (v := ?_) rfl (by rfl) ?_ ?_; rotate_left; (· intro w hSw; (try dsimp only at hSw); obtain ⟨⟨⟨c0, c1, c2, c3, c4, c5⟩, ⟨d0, d1, d2, d3, d4, d5⟩⟩, _⟩ := hSw; go_simp; (try with_reducible rfl)); simp only [Act.put, List.setIfInBounds_toArray, List.set_cons_zero, List.set_cons_succ]) | (refine SeqH.skip rfl (by rfl) ?_; simp only [Act.put, List.setIfInBounds_toArray, List.set_cons_zero, List.set_cons_succ]))
        refine SeqH.step rfl (by rfl) (fun K hK => ?_)
        go_simp
        go_at_call 35
        refine (C.out).mono ?_
        rintro e w3 ⟨rfl, hb3⟩
        try dsimp only
        refine hK.out _ _ (HS0.out.below hb3) (fun _ => ?_)
        have HG3 := Lib.hid (And.intro ((HG.out.1.all (below_drewN (Below.refl _ _) 1)).all hb3) (below_step (below_drewN HG.out.2 1) hb3))
        clear hK K hb3 HG C HS0
        try simp only [Act.put, List.setIfInBounds_toArray, List.set_cons_zero, List.set_cons_succ]
        repeat (first | (refine SeqH.take (v := ?_) rfl (by rfl) ?_ ?_; rotate_left; (· intro w hSw; (try dsimp only at hSw); obtain ⟨⟨⟨c0, c1, c2, c3, c4, c5⟩, ⟨d0, d1, d2, d3, d4, d5⟩⟩, _⟩ := hSw; go_simp; (try with_reducible rfl)); simp only [Act.put, List.setIfInBounds_toArray, List.set_cons_zero, List.set_cons_succ]) | (refine SeqH.skip rfl (by rfl) ?_; simp only [Act.put, List.setIfInBounds_toArray, List.set_cons_zero, List.set_cons_succ]))
        refine SeqH.done ?_
        go_wp2
        go_roundw
        case rel => exact ⟨k + 1, by omega, by rw [HR.out], by go_num, HG3⟩
        case measure => simp [intOf]; omega
      have hT : (decide (a.l = (N : Int)) && true) = true := by rw [decide_eq_true hln]; rfl
      by_cases hb0 : b < 0
      · have hb1 : decide (b < 0) = true := decide_eq_true hb0
        have HR := Lib.hid (HNWx.out hT (.inl hb0))
        clear HSKx HNWx HOLx HQB hT
        go_upto_region 8 with fail
        refine wp_region_seq [(0, true), (1, true), (2, true), (3, true), (4, true), (5, true), (6, true), (7, true), (8, true), (9, true), (10, true), (11, true), (12, true), (13, false), (14, true), (15, true), (16, true), (17, true), (18, true), (19, true), (20, true), (21, true), (22, true), (23, true), (24, true), (25, true), (26, true), (27, true), (28, true), (29, true), (30, true), (31, true)] (GrS ab (ao + k * 6) a (ao + q * 6) a2)
          (by kernel_rfl) (by kernel_rfl) (by kernel_rfl) (by kernel_rfl) (fun d _ _ _ _ h => by cases d <;> exact h) HS0.out (fun _ => ?_)
        repeat (first | (refine SeqH.take (v := ?_) rfl (by rfl) ?_ ?_; rotate_left; (· intro w hSw; (try dsimp only at hSw); obtain ⟨⟨⟨c0, c1, c2, c3, c4, c5⟩, ⟨d0, d1, d2, d3, d4, d5⟩⟩, _⟩ := hSw; go_simp; (try with_reducible rfl)); simp only [Act.put, List.setIfInBounds_toArray, List.set_cons_zero, List.set_cons_succ]) | (refine SeqH.skip rfl (by rfl) ?_; simp only [Act.put, List.setIfInBounds_toArray, List.set_cons_zero, List.set_cons_succ]))
        refine SeqH.step rfl (by rfl) (fun K hK => ?_)
        go_simp
        go_at_call 35
        refine (C.out).mono ?_
        rintro e w3 ⟨rfl, hb3⟩
        try dsimp only
        refine hK.out _ _ (HS0.out.below hb3) (fun _ => ?_)
        have HG3 := Lib.hid (And.intro ((HG.out.1.all (below_drewN (Below.refl _ _) 1)).all hb3) (below_step (below_drewN HG.out.2 1) hb3))
        clear hK K hb3 HG C HS0
        try simp only [Act.put, List.setIfInBounds_toArray, List.set_cons_zero, List.set_cons_succ]
        repeat (first | (refine SeqH.take (v := ?_) rfl (by rfl) ?_ ?_; rotate_left; (· intro w hSw; (try dsimp only at hSw); obtain ⟨⟨⟨c0, c1, c2, c3, c4, c5⟩, ⟨d0, d1, d2, d3, d4, d5⟩⟩, _⟩ := hSw; go_simp; (try with_reducible rfl)); simp only [Act.put, List.setIfInBounds_toArray, List.set_cons_zero, List.set_cons_succ]) | (refine SeqH.skip rfl (by rfl) ?_; simp only [Act.put, List.setIfInBounds_toArray, List.set_cons_zero, List.set_cons_succ]))
        refine SeqH.done ?_
        go_wp2
        go_roundw
        case rel => exact ⟨k + 1, by omega, by rw [HR.out], by go_num, HG3⟩
        case measure => simp [intOf]; omega
      · have hb1 : decide (b < 0) = false := decide_eq_false hb0
        obtain ⟨hbq, hql, har⟩ := HQB.out (by omega)
        subst hbq
        rw [har] at HNWx HOLx
        by_cases hpp : a2.p < a.p
        · have hpd : decide (a2.p < a.p) = true := decide_eq_true hpp
          have HR := Lib.hid (HNWx.out hT (.inr (by omega)))
          clear HSKx HNWx HOLx HQB hT har
          go_upto_region 8 with fail
          refine wp_region_seq [(0, true), (1, true), (2, true), (3, true), (4, true), (5, true), (6, true), (7, true), (8, true), (9, true), (10, true), (11, true), (12, true), (13, false), (14, true), (15, true), (16, true), (17, true), (18, true), (19, true), (20, true), (21, true), (22, true), (23, true), (24, true), (25, true), (26, true), (27, true), (28, true), (29, true), (30, true), (31, true)] (GrS ab (ao + k * 6) a (ao + q * 6) a2)
            (by kernel_rfl) (by kernel_rfl) (by kernel_rfl) (by kernel_rfl) (fun d _ _ _ _ h => by cases d <;> exact h) HS0.out (fun _ => ?_)
          repeat (first | (refine SeqH.take (v := ?_) rfl (by rfl) ?_ ?_; rotate_left; (· intro w hSw; (try dsimp only at hSw); obtain ⟨⟨⟨c0, c1, c2, c3, c4, c5⟩, ⟨d0, d1, d2, d3, d4, d5⟩⟩, _⟩ := hSw; go_simp; (try with_reducible rfl)); simp only [Act.put, List.setIfInBounds_toArray, List.set_cons_zero, List.set_cons_succ]) | (refine SeqH.skip rfl (by rfl) ?_; simp only [Act.put, List.setIfInBounds_toArray, List.set_cons_zero, List.set_cons_succ]))
          refine SeqH.step rfl (by rfl) (fun K hK => ?_)
          go_simp
          go_at_call 35
          refine (C.out).mono ?_
          rintro e w3 ⟨rfl, hb3⟩
          try dsimp only
          refine hK.out _ _ (HS0.out.below hb3) (fun _ => ?_)
          have HG3 := Lib.hid (And.intro ((HG.out.1.all (below_drewN (Below.refl _ _) 1)).all hb3) (below_step (below_drewN HG.out.2 1) hb3))
          clear hK K hb3 HG C HS0
          try simp only [Act.put, List.setIfInBounds_toArray, List.set_cons_zero, List.set_cons_succ]
          repeat (first | (refine SeqH.take (v := ?_) rfl (by rfl) ?_ ?_; rotate_left; (· intro w hSw; (try dsimp only at hSw); obtain ⟨⟨⟨c0, c1, c2, c3, c4, c5⟩, ⟨d0, d1, d2, d3, d4, d5⟩⟩, _⟩ := hSw; go_simp; (try with_reducible rfl)); simp only [Act.put, List.setIfInBounds_toArray, List.set_cons_zero, List.set_cons_succ]) | (refine SeqH.skip rfl (by rfl) ?_; simp only [Act.put, List.setIfInBounds_toArray, List.set_cons_zero, List.set_cons_succ]))
          refine SeqH.done ?_
          go_wp2
          go_roundw
          case rel => exact ⟨k + 1, by omega, by rw [HR.out], by go_num, HG3⟩
          case measure => simp [intOf]; omega
        · have hpd : decide (a2.p < a.p) = false := decide_eq_false hpp
          have HR := Lib.hid (HOLx.out (by omega) (by omega))
          clear HSKx HNWx HOLx HQB hT har
          go_upto_region 8 with fail
          refine wp_region_seq [(0, true), (1, true), (2, true), (3, true), (4, true), (5, true), (6, true), (7, true), (8, true), (9, true), (10, true), (11, true), (12, true), (13, false), (14, true), (15, true), (16, true), (17, true), (18, true), (19, true), (20, true), (21, true), (22, true), (23, true), (24, true), (25, true), (26, true), (27, true), (28, true), (29, true), (30, true), (31, true)] (GrS ab (ao + k * 6) a (ao + q * 6) a2)
            (by kernel_rfl) (by kernel_rfl) (by kernel_rfl) (by kernel_rfl) (fun d _ _ _ _ h => by cases d <;> exact h) HS0.out (fun _ => ?_)
          repeat (first | (refine SeqH.take (v := ?_) rfl (by rfl) ?_ ?_; rotate_left; (· intro w hSw; (try dsimp only at hSw); obtain ⟨⟨⟨c0, c1, c2, c3, c4, c5⟩, ⟨d0, d1, d2, d3, d4, d5⟩⟩, _⟩ := hSw; go_simp; (try with_reducible rfl)); simp only [Act.put, List.setIfInBounds_toArray, List.set_cons_zero, List.set_cons_succ]) | (refine SeqH.skip rfl (by rfl) ?_; simp only [Act.put, List.setIfInBounds_toArray, List.set_cons_zero, List.set_cons_succ]))
          refine SeqH.step rfl (by rfl) (fun K hK => ?_)
          go_simp
          go_at_call 35
          refine (C.out).mono ?_
          rintro e w3 ⟨rfl, hb3⟩
          try dsimp only
          refine hK.out _ _ (HS0.out.below hb3) (fun _ => ?_)
          have HG3 := Lib.hid (And.intro ((HG.out.1.all (below_drewN (Below.refl _ _) 1)).all hb3) (below_step (below_drewN HG.out.2 1) hb3))
          clear hK K hb3 HG C HS0
          try simp only [Act.put, List.setIfInBounds_toArray, List.set_cons_zero, List.set_cons_succ]
          repeat (first | (refine SeqH.take (v := ?_) rfl (by rfl) ?_ ?_; rotate_left; (· intro w hSw; (try dsimp only at hSw); obtain ⟨⟨⟨c0, c1, c2, c3, c4, c5⟩, ⟨d0, d1, d2, d3, d4, d5⟩⟩, _⟩ := hSw; go_simp; (try with_reducible rfl)); simp only [Act.put, List.setIfInBounds_toArray, List.set_cons_zero, List.set_cons_succ]) | (refine SeqH.skip rfl (by rfl) ?_; simp only [Act.put, List.setIfInBounds_toArray, List.set_cons_zero, List.set_cons_succ]))
          refine SeqH.done ?_
          go_wp2
          go_roundw
          case rel => exact ⟨k + 1, by omega, by rw [HR.out], by go_num, HG3⟩
          case measure => simp [intOf]; omega
    · obtain rfl : k = al.length := by omega
      have HW := Lib.hid hg.out.2
      clear hg
      generalize Ro.pk (Ro.grQ ms) al al.length = b at *
      by_cases hb0 : b < 0
      · have hb1 : decide (b < 0) = true := decide_eq_true hb0
        have hx : bb = false := by rw [HBB.out]; exact decide_eq_false (by omega)
        have hy : n0 = 0 := by rw [HN0.out]; exact if_pos hb0
        clear HN0 HBB
        subst hx hy
        go_wp2
        (try simp only [Exit.inBlock, Exit.then])
        refine bodyPost_ret (results_tmp3 rfl _ _ _) rfl ?_
        exact ⟨rfl, HW.out⟩
      · have hb1 : decide (b < 0) = false := decide_eq_false hb0
        have hx : bb = true := by rw [HBB.out]; exact decide_eq_true (by omega)
        have hy : n0 = b := by rw [HN0.out]; exact if_neg hb0
        clear HN0 HBB
        subst hx hy
        go_wp2
        (try simp only [Exit.inBlock, Exit.then])
        refine bodyPost_ret (results_tmp3 rfl _ _ _) rfl ?_
        exact ⟨rfl, HW.out⟩
end Go.Proofs.Ytbmjjmpdlmbehaa
