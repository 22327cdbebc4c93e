/- The reference's Greedy. -/
import Derived.Test.YtbmjjmpdlmbehaaRoll32
import Derived.Test.YtbmjjmpdlmbehaaRmT
namespace Go.Proofs.Ytbmjjmpdlmbehaa
open Go.RowKit

def Ro.gryR (rs : List Bd.R) (al : List Ro.A) : List Ro.X := if Ro.layE rs al = 0 then Ro.grd (Bd.exp rs) al (Bd.exp rs).length 0 else []
theorem Ro.grd_end {ms : List Bd.M} {al : List Ro.A} {f : Int} (h : ¬ f < ms.length) : ∀ q : Nat, Ro.grd ms al q f = []
  | 0 => rfl
  | q + 1 => by rw [Ro.grd, if_neg h]
theorem Ro.grd_none {ms : List Bd.M} {al : List Ro.A} {f : Int} {R xs : List Ro.X} {q : Nat} (h : f < ms.length) (hq : (ms.length : Int) ≤ f + q) (hR : R = xs ++ Ro.grd ms al q f) (hp : Ro.pk (fun a => Ro.fit ms a f) al al.length < 0) : ∃ q' : Nat, (ms.length : Int) ≤ f + 1 + q' ∧ R = xs ++ Ro.grd ms al q' (f + 1) := by
  cases q with
  | zero => omega
  | succ q => rw [Ro.grd, if_pos h, if_pos (show Ro.pkAt ms al f < 0 from hp)] at hR; exact ⟨q, by omega, hR⟩
theorem Ro.grd_some {ms : List Bd.M} {al : List Ro.A} {f : Int} {R xs : List Ro.X} {q : Nat} (h : f < ms.length) (hq : (ms.length : Int) ≤ f + q) (hR : R = xs ++ Ro.grd ms al q f) {b : Int} (hb : Ro.pk (fun a => Ro.fit ms a f) al al.length = b) (hp : ¬ b < 0) (hl : 1 ≤ (Ro.art al b).l) : ∃ q' : Nat, (ms.length : Int) ≤ f + (Ro.art al b).l + q' ∧ R = (xs ++ [⟨f, b⟩]) ++ Ro.grd ms al q' (f + (Ro.art al b).l) := by
  cases q with
  | zero => omega
  | succ q =>
    rw [Ro.grd, if_pos h, if_neg (by unfold Ro.pkAt; rw [hb]; exact hp)] at hR
    unfold Ro.pkAt at hR
    rw [hb] at hR
    exact ⟨q, by omega, by rw [hR, List.append_assoc]; rfl⟩

set_option maxRecDepth 20000 in
set_option maxHeartbeats 4000000 in
theorem refGreedy_any (v u : Value) (rs : List Bd.R) (al : List Ro.A) (w : World) (hv : Runs w v rs) (hu : Arts w u al) (hl : rs.length ≤ 1000) (hal : al.length ≤ 1000) :
    Calls Try.prog 10 #[v, u] w fun e w' => ∃ y, e = .returned (.tuple #[y, .int .i64 (Ro.layE rs al)]) ∧ OwnX w.heap.size w' y (Ro.gryR rs al) ∧ Below w.heap.size w w' := by
  obtain ⟨i0, hi, hz0, hz1, hz2⟩ := info_parts infoPc
  by_cases hz : Ro.layE rs al = 0
  case neg =>
    have LY := Lib.hid (marks_bad v u rs al w hv hu hl hal hz)
    have hR : Ro.gryR rs al = [] := if_neg hz
    rw [hR]
    obtain ⟨va, vc, rfl⟩ := hv.form
    obtain ⟨ua, uc, rfl, _⟩ := hu
    generalize Ro.layE rs al = q at *
    have hd : (q == 0) = false := beq_eq_false_iff_ne.2 hz
    have hd2 : (q != 0) = true := by rw [bne, hd]; rfl
    clear hv hz hR
    go_enter Try.func10, Try.ntmps10
    go_wp2_with fail
    refine LY.out.mono ?_
    rintro e w1 ⟨rfl, hb1⟩
    have HB := Lib.hid hb1
    clear hb1 LY
    go_wp2
    go_ret2
    exact ⟨_, rfl, OwnX.nil _ _, HB.out⟩
  obtain ⟨h1, h2, h3, h4, h5, h6⟩ := Ro.lay_facts hz
  have LY := Lib.hid (marks_ok v u rs al w hv hu hl hal hz)
  have hR : Ro.gryR rs al = Ro.grd (Bd.exp rs) al (Bd.exp rs).length 0 := if_pos hz
  rw [hR, hz]
  have TF := Lib.hid (fun mv (k : Nat) (f : Int) W (hW : Below w.heap.size w W) (hm : Mks W mv (Bd.exp rs)) => refFits_any mv u (Bd.exp rs) al ⟨f, k⟩ W hm (hu.all hW) h6 h4 h5)
  have TFE := Lib.hid (fun (k : Nat) (f : Int) (hk : k < al.length) => Ro.fitX_in (ms := Bd.exp rs) (f := f) hk)
  have HOK := Lib.hid (fun (k : Nat) (hk : k < al.length) => (Ro.okA_iff.1 (h6 _ (List.getElem_mem hk))).1)
  obtain ⟨va, vc, rfl⟩ := hv.form
  obtain ⟨ua, uc, rfl, hka⟩ := hu
  have HA := Lib.hid hka
  clear hv hz h1 h2 h3 h6 hR hka
  generalize Bd.exp rs = ms at *
  have HP := Lib.hid (fun f k => Ro.pk_range (fun a => Ro.fit ms a f) al k)
  have HPI := Lib.hid (fun f => Ro.pk_is (fun a => Ro.fit ms a f) al)
  have H0 : Hid (∀ f, Ro.pk (fun a => Ro.fit ms a f) al 0 = -1) := Lib.hid (fun f => rfl)
  have HSK := Lib.hid (fun f k (hk : k < al.length) h => Ro.pk_skip (Q := fun a => Ro.fit ms a f) hk h)
  have HNW := Lib.hid (fun f k (hk : k < al.length) h h2 => Ro.pk_new (Q := fun a => Ro.fit ms a f) hk h h2)
  have HOL := Lib.hid (fun f k (hk : k < al.length) h h2 => Ro.pk_old (Q := fun a => Ro.fit ms a f) hk h h2)
  have HGN := Lib.hid (fun (f : Int) R xs (q : Nat) h hq hR hp => Ro.grd_none (ms := ms) (al := al) (f := f) (R := R) (xs := xs) (q := q) h hq hR hp)
  have HGS := Lib.hid (fun (f : Int) R xs (q : Nat) (b : Int) h hq hR hb hp hl => Ro.grd_some (ms := ms) (al := al) (f := f) (R := R) (xs := xs) (q := q) h hq hR (b := b) hb hp hl)
  have HGE := Lib.hid (fun (f : Int) h q => Ro.grd_end (ms := ms) (al := al) (f := f) h q)
  obtain ⟨N, hN⟩ : ∃ N, N = ms.length := ⟨_, rfl⟩
  rw [← hN] at h4 HGN HGS HGE ⊢
  have HMN := Lib.hid hN
  clear hN
  obtain ⟨R, hR⟩ : ∃ R, R = Ro.grd ms al N 0 := ⟨_, rfl⟩
  rw [← hR]
  have HR0 : Hid (R = [] ++ Ro.grd ms al N 0) := Lib.hid hR
  clear hR
  go_enter Try.func10, Try.ntmps10
  go_wp2_with fail
  refine LY.out.mono ?_
  rintro e w1 ⟨mv, rfl, hm, hb1⟩
  have HM := Lib.hid hm.mks
  obtain ⟨ma, mc, hmv, _⟩ := hm.mks
  rw [← HMN.out] at hmv
  subst hmv
  have H1 := Lib.hid hb1
  clear hm hb1 LY
  go_wp2
  go_loopw [8, 9] (fun s t wr => ∃ (f : Nat) (xs : List Ro.X), f ≤ N ∧ xs.length ≤ f ∧ t = .int .i64 f ∧ Hid (∃ q : Nat, (N : Int) ≤ (f : Int) + q ∧ R = xs ++ Ro.grd ms al q f) ∧ Hid (OwnX w1.heap.size wr s xs ∧ Below w1.heap.size w1 wr)) (fun _ t _ => N - (intOf t).toNat)
  case atStart => exact ⟨0, [], Nat.zero_le _, Nat.le_refl _, rfl, Lib.hid ⟨N, by omega, HR0.out⟩, Lib.hid ⟨OwnX.nil _ _, Below.refl _ _⟩⟩
  case round =>
    obtain ⟨f, xs, hfN, hxf, rfl, hh, hg⟩ := hrel
    clear HR0
    obtain ⟨ra, rc, hre, _⟩ := hg.out.1.pcs
    subst hre
    by_cases hlt : f < N
    · have HI0 := hg
      clear hg
      go_wp2
      go_loopw [10, 11] (fun s t wr => ∃ k : Nat, k ≤ al.length ∧ s = .int .i64 (Ro.pk (fun a => Ro.fit ms a (f : Int)) al k) ∧ t = .int .i64 k ∧ Hid (OwnX w1.heap.size wr (.slice ra xs.length rc) xs ∧ Below w1.heap.size w1 wr)) (fun _ t _ => al.length - (intOf t).toNat)
      case atStart => exact ⟨0, Nat.zero_le _, by rw [H0.out], rfl, HI0⟩
      case round =>
        obtain ⟨k, hk, rfl, rfl, hg⟩ := hrel
        clear HI0
        have hpr := HP.out (f : Int) k
        by_cases hkl : k < al.length
        · have HG := Lib.hid hg.out
          have hbw := below_step H1.out hg.out.2
          have C := Lib.hid (TF.out (.slice ma N mc) k (f : Int) wr.drew (below_drewN hbw 1) (HM.out.all (below_drewN hg.out.2 1)))
          rw [TFE.out k (f : Int) hkl] at C
          obtain ⟨ab, ao, rfl, hab, har⟩ := HA.out k hkl
          have har2 := har.below hbw hab
          have habw : ab < wr.heap.size := Nat.lt_of_lt_of_le hab hbw.size
          have HSKx := Lib.hid (HSK.out (f : Int) k hkl)
          have HNWx := Lib.hid (HNW.out (f : Int) k hkl)
          have HOLx := Lib.hid (HOL.out (f : Int) k hkl)
          obtain ⟨b, hb⟩ : ∃ b, b = Ro.pk (fun a => Ro.fit ms a (f : Int)) al k := ⟨_, rfl⟩
          rw [← hb] at HSKx HNWx HOLx hpr
          obtain ⟨q, a2, HS0, hqb⟩ : ∃ (q : Nat) (a2 : Ro.A), Hid (GrS ab (ao + k * 6) al[k] (ao + q * 6) a2 wr.drew) ∧ (0 ≤ b → b = q ∧ q < al.length ∧ Ro.art al b = a2) := by
            rcases hpr with hp | ⟨hp1, hp2⟩
            · exact ⟨k, al[k], Lib.hid ⟨⟨har2, har2⟩, habw⟩, fun h => by omega⟩
            · obtain ⟨q, hq⟩ : ∃ q : Nat, b = q := ⟨_, (Int.toNat_of_nonneg hp1).symm⟩
              have hql : q < al.length := by omega
              obtain ⟨ab', ao', he, _, har'⟩ := HA.out q hql
              simp only [Option.some.injEq, Addr.mk.injEq, and_true] at he
              obtain ⟨rfl, rfl⟩ := he
              have har3 : ArtAt wr ab (ao + q * 6) al[q] := har'.below hbw hab
              exact ⟨q, al[q], Lib.hid ⟨⟨har2, har3⟩, habw⟩, fun _ => ⟨hq, hql, by rw [hq, Ro.art_at hql]⟩⟩
          have HQB := Lib.hid hqb
          clear hg har har2 hqb hpr hbw
          rw [← hb]
          clear hb
          try dsimp only at HSKx HNWx HOLx
          generalize Ro.fit ms al[k] (f : Int) = r at *
          generalize al[k] = a at *
          cases r
          case false =>
            have HR := Lib.hid (HSKx.out rfl)
            clear HSKx HNWx HOLx HQB
            go_upto_region 11 with fail
            refine wp_region_seq [(0, true), (1, true), (2, true), (3, true), (4, true), (5, false), (6, true), (7, true), (8, true), (9, true), (10, true), (11, true), (12, true), (13, true), (14, true), (15, true), (16, true), (17, true), (18, true), (19, true), (20, true), (21, true), (22, true)] (GrS ab (ao + k * 6) a (ao + q * 6) a2)
              (by kernel_rfl) (by kernel_rfl) (by kernel_rfl) (by kernel_rfl) (fun d _ _ _ _ h => by cases d <;> exact h) HS0.out (fun _ => ?_)
            repeat (first | (refine SeqH.take (v := ?_) rfl (by rfl) ?_ ?_; rotate_left; (· intro w hSw; (try dsimp only at hSw); obtain ⟨⟨⟨c0, c1, c2, c3, c4, c5⟩, ⟨d0, d1, d2, d3, d4, d5⟩⟩, _⟩ := hSw; go_simp; (try with_reducible rfl)); simp only [Act.put, List.setIfInBounds_toArray, List.set_cons_zero, List.set_cons_succ]) | (refine SeqH.skip rfl (by rfl) ?_; simp only [Act.put, List.setIfInBounds_toArray, List.set_cons_zero, List.set_cons_succ]))
            refine SeqH.step rfl (by rfl) (fun K hK => ?_)
            go_simp
            go_at_call 35
            refine (C.out).mono ?_
            rintro e w3 ⟨rfl, hb3⟩
            try dsimp only
            refine hK.out _ _ (HS0.out.below hb3) (fun _ => ?_)
            have HG3 := Lib.hid (And.intro ((HG.out.1.all (below_drewN (Below.refl _ _) 1)).all hb3) (below_step (below_drewN HG.out.2 1) hb3))
            clear hK K hb3 HG C HS0
            try simp only [Act.put, List.setIfInBounds_toArray, List.set_cons_zero, List.set_cons_succ]
            repeat (first | (refine SeqH.take (v := ?_) rfl (by rfl) ?_ ?_; rotate_left; (· intro w hSw; (try dsimp only at hSw); obtain ⟨⟨⟨c0, c1, c2, c3, c4, c5⟩, ⟨d0, d1, d2, d3, d4, d5⟩⟩, _⟩ := hSw; go_simp; (try with_reducible rfl)); simp only [Act.put, List.setIfInBounds_toArray, List.set_cons_zero, List.set_cons_succ]) | (refine SeqH.skip rfl (by rfl) ?_; simp only [Act.put, List.setIfInBounds_toArray, List.set_cons_zero, List.set_cons_succ]))
            refine SeqH.done ?_
            go_wp2
            go_roundw
            case rel => exact ⟨k + 1, by omega, by rw [HR.out], by go_num, HG3⟩
            case measure => simp [intOf]; omega
          by_cases hb0 : b < 0
          · have hb1 : decide (b < 0) = true := decide_eq_true hb0
            have HR := Lib.hid (HNWx.out rfl (.inl hb0))
            clear HSKx HNWx HOLx HQB
            go_upto_region 11 with fail
            refine wp_region_seq [(0, true), (1, true), (2, true), (3, true), (4, true), (5, false), (6, true), (7, true), (8, true), (9, true), (10, true), (11, true), (12, true), (13, true), (14, true), (15, true), (16, true), (17, true), (18, true), (19, true), (20, true), (21, true), (22, true)] (GrS ab (ao + k * 6) a (ao + q * 6) a2)
              (by kernel_rfl) (by kernel_rfl) (by kernel_rfl) (by kernel_rfl) (fun d _ _ _ _ h => by cases d <;> exact h) HS0.out (fun _ => ?_)
            repeat (first | (refine SeqH.take (v := ?_) rfl (by rfl) ?_ ?_; rotate_left; (· intro w hSw; (try dsimp only at hSw); obtain ⟨⟨⟨c0, c1, c2, c3, c4, c5⟩, ⟨d0, d1, d2, d3, d4, d5⟩⟩, _⟩ := hSw; go_simp; (try with_reducible rfl)); simp only [Act.put, List.setIfInBounds_toArray, List.set_cons_zero, List.set_cons_succ]) | (refine SeqH.skip rfl (by rfl) ?_; simp only [Act.put, List.setIfInBounds_toArray, List.set_cons_zero, List.set_cons_succ]))
            refine SeqH.step rfl (by rfl) (fun K hK => ?_)
            go_simp
            go_at_call 35
            refine (C.out).mono ?_
            rintro e w3 ⟨rfl, hb3⟩
            try dsimp only
            refine hK.out _ _ (HS0.out.below hb3) (fun _ => ?_)
            have HG3 := Lib.hid (And.intro ((HG.out.1.all (below_drewN (Below.refl _ _) 1)).all hb3) (below_step (below_drewN HG.out.2 1) hb3))
            clear hK K hb3 HG C HS0
            try simp only [Act.put, List.setIfInBounds_toArray, List.set_cons_zero, List.set_cons_succ]
            repeat (first | (refine SeqH.take (v := ?_) rfl (by rfl) ?_ ?_; rotate_left; (· intro w hSw; (try dsimp only at hSw); obtain ⟨⟨⟨c0, c1, c2, c3, c4, c5⟩, ⟨d0, d1, d2, d3, d4, d5⟩⟩, _⟩ := hSw; go_simp; (try with_reducible rfl)); simp only [Act.put, List.setIfInBounds_toArray, List.set_cons_zero, List.set_cons_succ]) | (refine SeqH.skip rfl (by rfl) ?_; simp only [Act.put, List.setIfInBounds_toArray, List.set_cons_zero, List.set_cons_succ]))
            refine SeqH.done ?_
            go_wp2
            go_roundw
            case rel => exact ⟨k + 1, by omega, by rw [HR.out], by go_num, HG3⟩
            case measure => simp [intOf]; omega
          · have hb1 : decide (b < 0) = false := decide_eq_false hb0
            obtain ⟨hbq, hql, har⟩ := HQB.out (by omega)
            subst hbq
            rw [har] at HNWx HOLx
            by_cases hpp : a2.p < a.p
            · have hpd : decide (a2.p < a.p) = true := decide_eq_true hpp
              have HR := Lib.hid (HNWx.out rfl (.inr (by omega)))
              clear HSKx HNWx HOLx HQB har
              go_upto_region 11 with fail
              refine wp_region_seq [(0, true), (1, true), (2, true), (3, true), (4, true), (5, false), (6, true), (7, true), (8, true), (9, true), (10, true), (11, true), (12, true), (13, true), (14, true), (15, true), (16, true), (17, true), (18, true), (19, true), (20, true), (21, true), (22, true)] (GrS ab (ao + k * 6) a (ao + q * 6) a2)
                (by kernel_rfl) (by kernel_rfl) (by kernel_rfl) (by kernel_rfl) (fun d _ _ _ _ h => by cases d <;> exact h) HS0.out (fun _ => ?_)
              repeat (first | (refine SeqH.take (v := ?_) rfl (by rfl) ?_ ?_; rotate_left; (· intro w hSw; (try dsimp only at hSw); obtain ⟨⟨⟨c0, c1, c2, c3, c4, c5⟩, ⟨d0, d1, d2, d3, d4, d5⟩⟩, _⟩ := hSw; go_simp; (try with_reducible rfl)); simp only [Act.put, List.setIfInBounds_toArray, List.set_cons_zero, List.set_cons_succ]) | (refine SeqH.skip rfl (by rfl) ?_; simp only [Act.put, List.setIfInBounds_toArray, List.set_cons_zero, List.set_cons_succ]))
              refine SeqH.step rfl (by rfl) (fun K hK => ?_)
              go_simp
              go_at_call 35
              refine (C.out).mono ?_
              rintro e w3 ⟨rfl, hb3⟩
              try dsimp only
              refine hK.out _ _ (HS0.out.below hb3) (fun _ => ?_)
              have HG3 := Lib.hid (And.intro ((HG.out.1.all (below_drewN (Below.refl _ _) 1)).all hb3) (below_step (below_drewN HG.out.2 1) hb3))
              clear hK K hb3 HG C HS0
              try simp only [Act.put, List.setIfInBounds_toArray, List.set_cons_zero, List.set_cons_succ]
              repeat (first | (refine SeqH.take (v := ?_) rfl (by rfl) ?_ ?_; rotate_left; (· intro w hSw; (try dsimp only at hSw); obtain ⟨⟨⟨c0, c1, c2, c3, c4, c5⟩, ⟨d0, d1, d2, d3, d4, d5⟩⟩, _⟩ := hSw; go_simp; (try with_reducible rfl)); simp only [Act.put, List.setIfInBounds_toArray, List.set_cons_zero, List.set_cons_succ]) | (refine SeqH.skip rfl (by rfl) ?_; simp only [Act.put, List.setIfInBounds_toArray, List.set_cons_zero, List.set_cons_succ]))
              refine SeqH.done ?_
              go_wp2
              go_roundw
              case rel => exact ⟨k + 1, by omega, by rw [HR.out], by go_num, HG3⟩
              case measure => simp [intOf]; omega
            · have hpd : decide (a2.p < a.p) = false := decide_eq_false hpp
              have HR := Lib.hid (HOLx.out (by omega) (by omega))
              clear HSKx HNWx HOLx HQB har
              go_upto_region 11 with fail
              refine wp_region_seq [(0, true), (1, true), (2, true), (3, true), (4, true), (5, false), (6, true), (7, true), (8, true), (9, true), (10, true), (11, true), (12, true), (13, true), (14, true), (15, true), (16, true), (17, true), (18, true), (19, true), (20, true), (21, true), (22, true)] (GrS ab (ao + k * 6) a (ao + q * 6) a2)
                (by kernel_rfl) (by kernel_rfl) (by kernel_rfl) (by kernel_rfl) (fun d _ _ _ _ h => by cases d <;> exact h) HS0.out (fun _ => ?_)
              repeat (first | (refine SeqH.take (v := ?_) rfl (by rfl) ?_ ?_; rotate_left; (· intro w hSw; (try dsimp only at hSw); obtain ⟨⟨⟨c0, c1, c2, c3, c4, c5⟩, ⟨d0, d1, d2, d3, d4, d5⟩⟩, _⟩ := hSw; go_simp; (try with_reducible rfl)); simp only [Act.put, List.setIfInBounds_toArray, List.set_cons_zero, List.set_cons_succ]) | (refine SeqH.skip rfl (by rfl) ?_; simp only [Act.put, List.setIfInBounds_toArray, List.set_cons_zero, List.set_cons_succ]))
              refine SeqH.step rfl (by rfl) (fun K hK => ?_)
              go_simp
              go_at_call 35
              refine (C.out).mono ?_
              rintro e w3 ⟨rfl, hb3⟩
              try dsimp only
              refine hK.out _ _ (HS0.out.below hb3) (fun _ => ?_)
              have HG3 := Lib.hid (And.intro ((HG.out.1.all (below_drewN (Below.refl _ _) 1)).all hb3) (below_step (below_drewN HG.out.2 1) hb3))
              clear hK K hb3 HG C HS0
              try simp only [Act.put, List.setIfInBounds_toArray, List.set_cons_zero, List.set_cons_succ]
              repeat (first | (refine SeqH.take (v := ?_) rfl (by rfl) ?_ ?_; rotate_left; (· intro w hSw; (try dsimp only at hSw); obtain ⟨⟨⟨c0, c1, c2, c3, c4, c5⟩, ⟨d0, d1, d2, d3, d4, d5⟩⟩, _⟩ := hSw; go_simp; (try with_reducible rfl)); simp only [Act.put, List.setIfInBounds_toArray, List.set_cons_zero, List.set_cons_succ]) | (refine SeqH.skip rfl (by rfl) ?_; simp only [Act.put, List.setIfInBounds_toArray, List.set_cons_zero, List.set_cons_succ]))
              refine SeqH.done ?_
              go_wp2
              go_roundw
              case rel => exact ⟨k + 1, by omega, by rw [HR.out], by go_num, HG3⟩
              case measure => simp [intOf]; omega
        · obtain rfl : k = al.length := by omega
          have hpi := HPI.out (f : Int)
          have hgn := HGN.out (f : Int) R xs
          have hgs := HGS.out (f : Int) R xs
          generalize Ro.pk (fun a => Ro.fit ms a (f : Int)) al al.length = b at *
          by_cases hb0 : b < 0
          · have hb1 : decide (b < 0) = true := decide_eq_true hb0
            have HH := Lib.hid (show ∃ q : Nat, (N : Int) ≤ ((f + 1 : Nat) : Int) + q ∧ R = xs ++ Ro.grd ms al q ((f + 1 : Nat) : Int) by
              obtain ⟨q, hq1, hq2⟩ := hh.out
              obtain ⟨q', e1, e2⟩ := hgn q (by omega) hq1 hq2 hb0
              exact ⟨q', by omega, by rw [e2]; rfl⟩)
            have HN := hg
            clear hpi hgn hgs hh hg
            go_wp2
            go_roundw
            case rel => exact ⟨f + 1, xs, by omega, by omega, by go_num, HH, HN⟩
            case measure => simp [intOf]; omega
          · have hb1 : decide (b < 0) = false := decide_eq_false hb0
            obtain ⟨n, rfl⟩ : ∃ n : Nat, b = n := ⟨b.toNat, by omega⟩
            rcases hpi with ⟨hp, _⟩ | ⟨_, hnl, hft, _⟩
            · exact absurd hp (by omega)
            have hnl2 : n < al.length := by omega
            rw [Ro.art_at hnl2] at hft
            obtain ⟨_, hfl, _⟩ := Ro.fit_iff.1 hft
            rw [← HMN.out] at hfl
            have hok := HOK.out n hnl2
            obtain ⟨m, hm⟩ : ∃ m : Nat, al[n].l = m := ⟨al[n].l.toNat, by omega⟩
            rw [hm] at hfl hok
            have HH := Lib.hid (show ∃ q : Nat, (N : Int) ≤ ((f + m : Nat) : Int) + q ∧ R = (xs ++ [⟨(f : Int), (n : Int)⟩]) ++ Ro.grd ms al q ((f + m : Nat) : Int) by
              obtain ⟨q, hq1, hq2⟩ := hh.out
              obtain ⟨q', e1, e2⟩ := hgs q (n : Int) (by omega) hq1 hq2 rfl (by omega) (by rw [Ro.art_at hnl2, hm]; omega)
              rw [Ro.art_at hnl2, hm] at e1 e2
              exact ⟨q', by omega, by rw [e2]; rfl⟩)
            have hown := hg.out.1
            have hw := hg.out.2
            have hbw := below_step H1.out hw
            have hsz := hw.size
            obtain ⟨ab, ao, rfl, hab, har⟩ := HA.out n hnl2
            have hca := pcC_at wr ⟨(f : Int), (n : Int)⟩ PcT
            clear hgn hgs hh hg hft
            go_wp2_with (at_builtin; refine wpList_append_own _ rfl _ _ 26 rfl w1.heap.size 31 i0 (.agg #[.int .i64 0, .int .i64 0]) 2 16 Try.underlying26 hi hz0 hz1 hz2 rfl (by decide) _ _ _ rfl (hown.alloc _) ⟨wr.heap.size, 0, none⟩ 1 1 (pcC ⟨(f : Int), (n : Int)⟩) rfl rfl ?c1 (pcC_one _) ?c3 ?c4 ?c5 ?_)
            case c1 => first | exact hca | exact fun j u h => h
            case c3 => unfold maxLen; omega
            case c4 => omega
            case c5 => first | omega | (simp; omega)
            intro v' w9 hr9 hg9 _
            have hw9 := (below_alloc2 hw (.cells #[.int .i64 (f : Int), .int .i64 (n : Int)] PcT)).grown hg9 (by simp; omega) (fun j e => (World.ownsRow.lt hown j e).1)
            have hp9 : OwnX w1.heap.size w9 v' (xs ++ [⟨(f : Int), (n : Int)⟩]) := OwnX.pushed hr9
            have HN := Lib.hid (And.intro hp9 hw9)
            obtain ⟨c0, _, _, _, _, _⟩ := har.below (below_step H1.out hw9) hab
            rw [hm] at c0
            have hwf : IntKind.i64.wrap ((f : Int) + (m : Int)) = ((f + m : Nat) : Int) := by rw [IntWalk.i64_in _ ⟨by omega, by omega⟩]; omega
            clear hown hw hbw hca hr9 hg9 hw9 hp9 har hm
            go_wp2
            go_roundw
            case rel => exact ⟨f + m, _, by omega, by rw [List.length_append, List.length_singleton]; omega, by go_num, HH, HN⟩
            case measure => simp [intOf]; omega
    · have HH : Hid (R = xs) := Lib.hid (by
        obtain ⟨q, _, hq2⟩ := hh.out
        rw [HGE.out (f : Int) (by omega) q, List.append_nil] at hq2
        exact hq2)
      have HN := hg
      have HSZ := Lib.hid H1.out.size
      clear hg hh
      go_wp2
      go_ret2
      exact ⟨_, rfl, by rw [HH.out]; exact HN.out.1.mono HSZ.out, below_step H1.out HN.out.2⟩
end Go.Proofs.Ytbmjjmpdlmbehaa
