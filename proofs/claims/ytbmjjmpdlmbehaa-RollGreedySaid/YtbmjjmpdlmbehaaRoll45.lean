/- RollGreedy returns true, whatever the band and the articles. -/
import Derived.Test.YtbmjjmpdlmbehaaRmW
import Derived.Test.YtbmjjmpdlmbehaaRmR
import Derived.Test.YtbmjjmpdlmbehaaRmT
namespace Go.Proofs.Ytbmjjmpdlmbehaa
open Go.RowKit

theorem Ro.grd_len {ms : List Bd.M} {al : List Ro.A} : ∀ (k : Nat) (f : Int), (Ro.grd ms al k f).length ≤ k
  | 0, f => by simp [Ro.grd]
  | k + 1, f => by
    rw [Ro.grd]
    split
    · split
      · exact Nat.le_trans (Ro.grd_len k _) (by omega)
      · rw [List.length_cons]
        exact Nat.succ_le_succ (Ro.grd_len k _)
    · simp
theorem Ro.gry_facts {rs : List Bd.R} {al : List Ro.A} : (Ro.gryR rs al).length ≤ 300 ∧ (Ro.layE rs al = 0 → Ro.chkE rs al (Ro.gryR rs al) = 0 ∧ Ro.valV rs al (Ro.gryR rs al) ≤ Ro.W (Bd.exp rs) al (Bd.exp rs).length) := by
  by_cases hz : Ro.layE rs al = 0
  · obtain ⟨h1, h2, h3, h4, h5, h6⟩ := Ro.lay_facts hz
    have hR : Ro.gryR rs al = Ro.grd (Bd.exp rs) al (Bd.exp rs).length 0 := if_pos hz
    rw [hR]
    have hc := Ro.grd_chk (ms := Bd.exp rs) h6 (Bd.exp rs).length 0 (Int.le_refl 0)
    have hE : Ro.chkE rs al (Ro.grd (Bd.exp rs) al (Bd.exp rs).length 0) = 0 := by unfold Ro.chkE; rw [if_pos hz]; exact hc
    refine ⟨Nat.le_trans (Ro.grd_len _ _) h4, fun _ => ⟨hE, ?_⟩⟩
    unfold Ro.valV
    rw [if_pos hE]
    exact Ro.val_le_W h6 hc
  · have hR : Ro.gryR rs al = [] := if_neg hz
    exact ⟨by rw [hR]; simp, fun h => absurd h hz⟩
set_option maxRecDepth 20000 in
set_option maxHeartbeats 4000000 in
theorem greedy_walk (v u : Value) (rs : List Bd.R) (al : List Ro.A) (w : World) (hv : Runs w v rs) (hu : Arts w u al) :
    Calls Try.prog 3 #[v, u] w fun e w' => e = .returned (.bool true) ∧ Below w.heap.size w w' := by
  have LO := Lib.hid (rollLong_any v u (.slice none 0 0) rs al.length 0 w hv (by obtain ⟨a, c, h, _⟩ := hu; exact ⟨a, c, h⟩) ⟨none, 0, rfl⟩)
  have KN := Lib.hid (fun W => rollKnown_any W)
  cases hL : (decide (100 < rs.length) || (decide (40 < al.length) || decide (400 < 0)))
  case true =>
    rw [hL] at LO
    obtain ⟨va, vc, rfl⟩ := hv.form
    obtain ⟨ua, uc, rfl, _⟩ := hu
    clear hv hL
    go_enter Try.func3, Try.ntmps3
    go_wp2_with fail
    refine LO.out.mono ?_
    rintro e w1 ⟨rfl, hb1⟩
    have HB1 := Lib.hid hb1
    clear hb1 LO
    go_wp2_with fail
    refine (KN.out _).mono ?_
    rintro e w2 ⟨rfl, hb2⟩
    have HB2 := Lib.hid (below_step HB1.out hb2)
    clear hb2 HB1 KN
    go_wp2
    go_ret
    exact ⟨rfl, HB2.out⟩
  case false =>
    rw [hL] at LO
    simp only [Bool.or_eq_false_iff, decide_eq_false_iff_not] at hL
    have hl : rs.length ≤ 1000 := by omega
    have hal : al.length ≤ 1000 := by omega
    have NF := Lib.hid (fun W (hW : Below w.heap.size w W) => numGreedy_any v u rs al W (hv.all hW) (hu.all hW) hl hal)
    have RF := Lib.hid (fun W (hW : Below w.heap.size w W) => refGreedy_any v u rs al W (hv.all hW) (hu.all hW) hl hal)
    obtain ⟨hg300, hgf⟩ := Ro.gry_facts (rs := rs) (al := al)
    have NV := Lib.hid (fun x W (hW : Below w.heap.size w W) hx => numValue_any v u x rs al (Ro.gryR rs al) W (hv.all hW) (hu.all hW) hx hl hal (by omega))
    have BG := Lib.hid (fun hz W (hW : Below w.heap.size w W) => best_good v u rs al W (hv.all hW) (hu.all hW) hl hal hz)
    have HGF := Lib.hid hgf
    clear hgf
    generalize Ro.W (Bd.exp rs) al (Bd.exp rs).length = WW at *
    generalize Ro.valV rs al (Ro.gryR rs al) = VV at *
    generalize Ro.chkE rs al (Ro.gryR rs al) = CE at *
    generalize Ro.gryR rs al = ss at *
    generalize Ro.layE rs al = q at *
    have e2 : (q == q) = true := beq_self_eq_true _
    have e22 : (q != q) = false := by rw [bne, e2]; rfl
    have q7 : ((ss.length : Int) == (ss.length : Int)) = true := beq_self_eq_true _
    have q8 : ((ss.length : Int) != (ss.length : Int)) = false := by rw [bne, q7]; rfl
    obtain ⟨va, vc, rfl⟩ := hv.form
    obtain ⟨ua, uc, rfl, _⟩ := hu
    clear hv hL hl hal
    go_enter Try.func3, Try.ntmps3
    go_wp2_with fail
    refine LO.out.mono ?_
    rintro e w1 ⟨rfl, hb1⟩
    have H1 := Lib.hid hb1
    clear hb1 LO
    go_wp2_with fail
    refine (NF.out _ H1.out).mono ?_
    rintro e w2 ⟨y, rfl, hy, hb2⟩
    have hy2 := hy.pcs
    obtain ⟨ya, yc, rfl, _⟩ := hy.pcs
    have H2 := Lib.hid (And.intro hy2 (below_step H1.out hb2))
    clear hb2 H1 NF hy hy2
    go_wp2_with fail
    refine (RF.out _ H2.out.2).mono ?_
    rintro e w3 ⟨z, rfl, hz, hb3⟩
    have hz2 := hz.pcs
    obtain ⟨za, zc, rfl, _⟩ := hz.pcs
    have H3 := Lib.hid (And.intro (H2.out.1.all hb3) (And.intro hz2 (below_step H2.out.2 hb3)))
    clear hb3 H2 RF hz hz2
    obtain ⟨ya2, yc2, he, hk⟩ := H3.out.1
    simp only [Value.slice.injEq, true_and] at he
    obtain ⟨rfl, rfl⟩ := he
    obtain ⟨za2, zc2, he, hk2⟩ := H3.out.2.1
    simp only [Value.slice.injEq, true_and] at he
    obtain ⟨rfl, rfl⟩ := he
    have HK := Lib.hid hk
    have HK2 := Lib.hid hk2
    clear hk hk2
    go_wp2
    clear q7 q8 e2 e22
    go_loopw [9] (fun t wr => ∃ k : Nat, k ≤ ss.length ∧ t = .int .i64 k ∧ Hid (Below w3.heap.size w3 wr)) (fun t _ => ss.length - (intOf t).toNat)
    case atStart => exact ⟨0, Nat.zero_le _, rfl, Lib.hid (Below.refl _ _)⟩
    case round =>
      obtain ⟨k, hk, rfl, hg⟩ := hrel
      by_cases hlt : k < ss.length
      · obtain ⟨b, off, hya, hb, hx⟩ := HK.out k hlt
        obtain ⟨b2, off2, hza, hb2, hx2⟩ := HK2.out k hlt
        subst hya hza
        obtain ⟨c0, c1⟩ := hx.below hg.out hb
        obtain ⟨d0, d1⟩ := hx2.below hg.out hb2
        clear hx hx2
        generalize ss[k] = z at *
        have g1 : (z.f == z.f) = true := beq_self_eq_true _
        have g2 : (z.a == z.a) = true := beq_self_eq_true _
        go_wp2_with fail
        go_quiet (fail)
        clear c0 c1 d0 d1
        go_wp2
        go_roundw
        case rel => exact ⟨k + 1, by omega, by go_num, Lib.hid (below_drewN hg.out _)⟩
        case measure => simp [intOf]; omega
      · obtain rfl : k = ss.length := by omega
        have HB := Lib.hid (below_step H3.out.2.2 hg.out)
        have hkd : decide (ss.length < ss.length) = false := decide_eq_false (Nat.lt_irrefl _)
        by_cases hz : q = 0
        case neg =>
          have d1 : (q == 0) = false := beq_eq_false_iff_ne.2 hz
          have d2 : (q != 0) = true := by rw [bne, d1]; rfl
          clear hg NV BG HGF
          go_wp2_with fail
          refine (KN.out _).mono ?_
          rintro e w4 ⟨rfl, hb4⟩
          have HB2 := Lib.hid (below_step HB.out hb4)
          clear hb4 HB KN
          go_wp2
          go_ret
          exact ⟨rfl, HB2.out⟩
        obtain ⟨f1, f2⟩ := HGF.out hz
        have BG1 := Lib.hid (BG.out hz)
        subst hz f1
        have NV1 := Lib.hid (NV.out (.slice ya ss.length yc) wr HB.out (H3.out.1.all hg.out))
        clear hg NV BG HGF
        go_wp2_with fail
        refine NV1.out.mono ?_
        rintro e w4 ⟨rfl, hb4⟩
        have HB4 := Lib.hid (below_step HB.out hb4)
        clear hb4 HB NV1
        go_wp2_with fail
        refine (BG1.out _ HB4.out).mono ?_
        rintro e w5 ⟨ba, bc, bs, rfl, _, _, _, hb5⟩
        have HB5 := Lib.hid (below_step HB4.out hb5)
        have dle : decide (VV ≤ WW) = true := decide_eq_true f2
        clear hb5 HB4 BG1
        go_wp2_with fail
        refine (KN.out _).mono ?_
        rintro e w6 ⟨rfl, hb6⟩
        have HB6 := Lib.hid (below_step HB5.out hb6)
        clear hb6 HB5 KN
        go_wp2
        go_ret
        exact ⟨rfl, HB6.out⟩
end Go.Proofs.Ytbmjjmpdlmbehaa
