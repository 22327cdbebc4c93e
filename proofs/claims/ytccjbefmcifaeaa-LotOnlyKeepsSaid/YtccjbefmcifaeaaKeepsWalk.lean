/- LotOnlyKeeps returns true, whatever the genealogy, the set and the pair. -/
import Derived.Test.YtccjbefmcifaeaaKeepN
import Derived.Test.YtccjbefmcifaeaaLong
import Derived.Test.YtccjbefmcifaeaaKnowns
import Derived.Test.YtccjbefmcifaeaaPath1
import Derived.Test.YtccjbefmcifaeaaSeq3
namespace Go.Proofs.Ytccjbefmcifaeaa
open Go.RowKit

theorem keeps {ls : List Lt.L} {ks : List Int} (hE : onlyE ls ks = 0) {a b : Nat} (ha : a < (onlyO ls ks).length) (hb : b < (onlyO ls ks).length) : ∃ o i : Nat, (onlyO ls ks).getD a 0 = (o : Int) ∧ (onlyO ls ks).getD b 0 = (i : Int) ∧
    shE (onlyR ls ks) a b = shE ls o i ∧ shN (onlyR ls ks) a b = shN ls o i ∧ shD (onlyR ls ks) a b = shD ls o i ∧ pathsR (onlyR ls ks) a b = pathsR ls o i ∧ numE (onlyR ls ks) [(a : Int), (b : Int)] = 0 ∧ numE ls [(o : Int), (i : Int)] = 0 := by
  have h0 : Lt.valE ls = 0 := by
    unfold onlyE at hE
    by_cases h : Lt.valE ls = 0
    · exact h
    · rw [if_neg h] at hE; exact absurd hE h
  have hs : setB ls.length ks = true := by
    unfold onlyE at hE
    rw [if_pos h0] at hE
    by_cases h : setB ls.length ks = true
    · exact h
    · rw [if_neg h] at hE; cases hE
  have hsub := Kp.sub_lead h0 hs
  have hR : onlyR ls ks = Kp.RR ls (leadP ls ks) := by unfold onlyR; rw [if_pos hE]
  have hO : onlyO ls ks = selK (leadP ls ks) ls.length := by unfold onlyO; rw [if_pos hE]
  rw [hR]
  rw [hO] at ha hb ⊢
  generalize leadP ls ks = K at *
  obtain ⟨o, o1, o2, rfl⟩ := Kp.nu_hit (K := K) (n := ls.length) ha
  obtain ⟨i, i1, i2, rfl⟩ := Kp.nu_hit (K := K) (n := ls.length) hb
  obtain ⟨s1, s2, s3⟩ := hsub.shares o1 o2 i1 i2
  refine ⟨o, i, by rw [List.getD_eq_getElem?_getD, Kp.sel_at o2 o1]; rfl, by rw [List.getD_eq_getElem?_getD, Kp.sel_at i2 i1]; rfl, s1, s2, s3, ?_, hsub.numR o1 o2 i1 i2, hsub.num o1 i1⟩
  unfold pathsR
  rw [if_pos (hsub.numR o1 o2 i1 i2), if_pos (hsub.num o1 i1)]
  simp only [Int.toNat_natCast]
  exact hsub.paths o1 o2 i i1 i2

set_option maxRecDepth 20000 in
set_option maxHeartbeats 2000000 in
theorem onlyKeeps_walk (v u : Value) (ls : List Lt.L) (ks : List Int) (n m : Int) (w : World) (hv : Lots w v ls) (hu : Ints w u ks) :
    Calls Try.prog 13 #[v, u, .agg #[.int .i64 n, .int .i64 m]] w fun e w' => e = .returned (.bool true) ∧ Below w.heap.size w w' := by
  have hw0 := below_alloc (Below.refl w.heap.size w) (.cells #[.int .i64 n, .int .i64 m] 41)
  have bP := BlockAt.new w #[.int .i64 n, .int .i64 m] 41
  have L := Lib.hid (long_any v ls _ (hv.all hw0))
  have KN := Lib.hid (fun W => known_any W)
  have H0 := Lib.hid (And.intro hw0 bP)
  clear hw0 bP
  cases hb : longB ls with
  | true =>
    rw [hb] at L
    clear hb hv hu
    go_enter Try.func13, Try.ntmps13
    go_wp2_with fail
    refine L.out.mono ?_
    rintro e w1 ⟨rfl, rfl⟩
    go_wp2_with fail
    refine (KN.out _).mono ?_
    rintro e w2 ⟨rfl, hb2⟩
    have h2 := below_step H0.out.1 hb2
    go_wp2
    go_ret
    exact ⟨rfl, h2⟩
  | false =>
    rw [hb] at L
    have hsh := (longB_short hb).short
    obtain ⟨ka, kc, hku, _⟩ := hu.look
    by_cases hk60 : ks.length ≤ 60
    · have hdk : decide ((60 : Int) < (ks.length : Int)) = false := decide_eq_false (by omega)
      have hgk : ¬ (60 : Int) < (ks.length : Int) := by omega
      have C2 := Lib.hid (fun W (hW : Below w.heap.size w W) => lotOnly_any v u ls ks W (hv.all hW) (hu.all hW) hsh (by omega))
      have HRS := Lib.hid (Kp.onlyR_short ks hsh)
      have hOl := Kp.onlyO_len ks hsh
      have HKP := Lib.hid (fun (hE : onlyE ls ks = 0) (a b : Nat) (ha : a < (onlyO ls ks).length) (hb : b < (onlyO ls ks).length) => keeps hE ha hb)
      have HV := Lib.hid (And.intro hv hsh)
      obtain ⟨la, lc, rfl⟩ := hv.form
      generalize onlyR ls ks = R at *
      generalize onlyO ls ks = O at *
      generalize onlyE ls ks = E at *
      subst hku
      clear hb hv hu hsh
      go_enter Try.func13, Try.ntmps13
      go_wp2_with fail
      refine L.out.mono ?_
      rintro e w1 ⟨rfl, rfl⟩
      clear L
      go_wp2_with fail
      refine (C2.out _ H0.out.1).mono ?_
      rintro e w3 ⟨y1, z1, us1, rfl, hy1, hz1, hb3⟩
      have HW2 := Lib.hid (And.intro (below_step H0.out.1 hb3) (H0.out.2.below hb3 H0.out.2.lt))
      have HY := Lib.hid hy1.lots
      have HZ := Lib.hid hz1.ints
      clear hy1 hz1 hb3 C2 H0
      have p0 := HW2.out.2.cell 0
      have p1 := HW2.out.2.cell 1
      obtain ⟨oa, oc, rfl, hok⟩ := HZ.out.look
      have HOK := Lib.hid hok
      clear hok HZ
      by_cases hE : E = 0
      · subst hE
        by_cases hn0 : 0 ≤ n
        · by_cases hm0 : 0 ≤ m
          · by_cases hn1 : n < O.length
            · by_cases hm1 : m < O.length
              · obtain ⟨a, rfl⟩ : ∃ a : Nat, n = (a : Int) := ⟨n.toNat, by omega⟩
                obtain ⟨b, rfl⟩ : ∃ b : Nat, m = (b : Int) := ⟨m.toNat, by omega⟩
                have haO : a < O.length := by omega
                have hbO : b < O.length := by omega
                obtain ⟨o, i, e1, e2, k1, k2, k3, k4, k5, k6⟩ := HKP.out rfl a b haO hbO
                obtain ⟨ob, oo, rfl, hob, hca⟩ := HOK.out a haO
                obtain ⟨ob', oo', he, _, hcb⟩ := HOK.out b hbO
                simp only [Option.some.injEq, Addr.mk.injEq, and_true] at he
                obtain ⟨rfl, rfl⟩ := he
                rw [e1] at hca
                rw [e2] at hcb
                have C3 := Lib.hid (share_any y1 R a b w3 HY.out HRS.out)
                have C4 := Lib.hid (fun W (hW : Below w.heap.size w W) => share_any (.slice la ls.length lc) ls o i W (HV.out.1.all hW) HV.out.2)
                have C5 := Lib.hid (fun W (hW : Lots W y1 R) => lotPaths_any y1 R a b W hW HRS.out)
                have C6 := Lib.hid (fun W (hW : Below w.heap.size w W) => lotPaths_any (.slice la ls.length lc) ls o i W (HV.out.1.all hW) HV.out.2)
                rw [k1, k2, k3] at C3
                rw [k4, k5] at C5
                rw [k6] at C6
                generalize shE ls o i = re at *
                generalize shN ls o i = r1 at *
                generalize shD ls o i = r2 at *
                generalize pathsR ls o i = pr at *
                have q1 : (r1 == r1) = true := by simp
                have q2 : (r2 == r2) = true := by simp
                have q3 : (re == re) = true := by simp
                have q4 : (pr == pr) = true := by simp
                have HCA := Lib.hid (And.intro hob (And.intro hca hcb))
                clear e1 e2 k1 k2 k3 k4 k5 k6 HKP HOK hca hcb HV HRS
                go_wp2_with fail
                refine C3.out.mono ?_
                rintro e w4 ⟨rfl, hb4⟩
                obtain ⟨w5, hw5⟩ : ∃ X, X = w4.alloc (.cells #[.int .i64 r1, .int .i64 r2] 43) := ⟨_, rfl⟩
                have hb5 : Below w3.heap.size w3 w5 := by rw [hw5]; exact below_alloc hb4 _
                have HS := Lib.hid (show BlockAt w5 w4.heap.size #[.int .i64 r1, .int .i64 r2] 43 by rw [hw5]; exact BlockAt.new _ _ _)
                have HW5 := Lib.hid (below_step HW2.out.1 hb5)
                have HYR := Lib.hid (HY.out.all hb5)
                have bP := HW2.out.2.below hb5 HW2.out.2.lt
                have HC := Lib.hid (show ∀ W, Below w5.heap.size w5 W → (fun W => W.cell? ⟨w.heap.size, 0, none⟩ = some (.int .i64 (a : Int)) ∧ W.cell? ⟨w.heap.size, 1, none⟩ = some (.int .i64 (b : Int)) ∧ W.cell? ⟨ob, oo + a, none⟩ = some (.int .i64 (o : Int)) ∧ W.cell? ⟨ob, oo + b, none⟩ = some (.int .i64 (i : Int))) W from fun W hW => ⟨(hW.cell (p := ⟨w.heap.size, 0, none⟩) bP.lt).trans (bP.cell 0), (hW.cell (p := ⟨w.heap.size, 1, none⟩) bP.lt).trans (bP.cell 1), (hW.cell (p := ⟨ob, oo + a, none⟩) (Nat.lt_of_lt_of_le HCA.out.1 hb5.size)).trans ((hb5.cell (p := ⟨ob, oo + a, none⟩) HCA.out.1).trans HCA.out.2.1), (hW.cell (p := ⟨ob, oo + b, none⟩) (Nat.lt_of_lt_of_le HCA.out.1 hb5.size)).trans ((hb5.cell (p := ⟨ob, oo + b, none⟩) HCA.out.1).trans HCA.out.2.2)⟩)
                clear C3 hb4 hb5 bP p0 p1 HY HCA HW2 hob
                go_wp2
                rw [← hw5]
                clear hw5
                generalize w4.heap.size = b10 at *
                try dsimp only at HC
                go_wp2_with fail
                refine wp_region_meet (β := Nat) (.take 0 (.take 1 (.take 2 (.take 3 (.take 4 (.take 5 (.take 6 (.take 7 (.take 8 (.take 9 (.take 10 (.two 11 (.take 12 (.take 13 (.take 14 (.one 15 (.one 16 (.take 17 .done)))))) 15 (.one 11 (.take 12 (.take 13 (.take 14 (.one 16 (.take 17 .done))))))))))))))))))
                  (fun W => W.cell? ⟨w.heap.size, 0, none⟩ = some (.int .i64 (a : Int)) ∧ W.cell? ⟨w.heap.size, 1, none⟩ = some (.int .i64 (b : Int)) ∧ W.cell? ⟨ob, oo + a, none⟩ = some (.int .i64 (o : Int)) ∧ W.cell? ⟨ob, oo + b, none⟩ = some (.int .i64 (i : Int)))
                  (fun x => [(70, .slice la ls.length lc), (71, .slice (some ⟨ob, oo, none⟩) O.length oc), (72, .pointer (some ⟨w.heap.size, 0, none⟩)), (73, .int .i64 (a : Int)), (74, .pointer (some ⟨ob, oo + a, none⟩)), (75, .int .i64 (o : Int)), (76, .slice (some ⟨ob, oo, none⟩) O.length oc), (77, .pointer (some ⟨w.heap.size, 1, none⟩)), (78, .int .i64 (b : Int)), (79, .pointer (some ⟨ob, oo + b, none⟩)), (80, .int .i64 (i : Int)), (81, .tuple #[rat r1 r2, .int .i64 re]), (69, .tuple #[rat r1 r2, .int .i64 re]), (82, rat r1 r2), (83, .int .i64 re), (12, .pointer (some ⟨x, 0, none⟩)), (13, .int .i64 re)])
                  (fun x Y => Below w5.heap.size w5 Y ∧ BlockAt Y x #[.int .i64 r1, .int .i64 r2] 43)
                  (by kernel_rfl) (by kernel_rfl) (by kernel_rfl) (by kernel_rfl) (HC.out _ (Below.refl w5.heap.size w5).drew) (fun hS => ?_) ?_
                · have HM := Lib.hid ((Below.refl w5.heap.size w5).drew)
                  generalize w5.drew = X0 at *
                  clear hS
                  repeat (refine SeqT.ld (v := ?_) rfl (by rfl) ?_ ?_; rotate_left; (· intro w hSw; (try dsimp only at hSw); (try (obtain ⟨f0, f1, f2, f3⟩ := hSw)); go_simp; (try with_reducible rfl)); simp only [Act.put, List.setIfInBounds_toArray, List.set_cons_zero, List.set_cons_succ])
                  refine ⟨wpOp_stepS rfl (by rfl) (fun K hK => ?_), wpOp_stepS rfl (by rfl) (fun K hK => ?_)⟩
                  · go_simp
                    refine (C4.out _ (below_step HW5.out HM.out)).mono ?_
                    rintro e X1 ⟨rfl, hbY⟩
                    have HM := Lib.hid (below_step HM.out hbY)
                    clear hbY
                    try dsimp only
                    refine hK.out _ _ (HC.out _ HM.out) (fun _ => ?_)
                    clear hK K
                    try simp only [Act.put, List.setIfInBounds_toArray, List.set_cons_zero, List.set_cons_succ]
                    repeat (refine SeqT.ld (v := ?_) rfl (by rfl) ?_ ?_; rotate_left; (· intro w hSw; (try dsimp only at hSw); (try (obtain ⟨f0, f1, f2, f3⟩ := hSw)); go_simp; (try with_reducible rfl)); simp only [Act.put, List.setIfInBounds_toArray, List.set_cons_zero, List.set_cons_succ])
                    refine wpOp_stepS rfl (by rfl) (fun K hK => ?_)
                    go_simp
                    have hxs5 := HM.out.size
                    obtain ⟨X2, hY⟩ : ∃ Y, X1.alloc (.cells #[.int .i64 0, .int .i64 0] 43) = Y := ⟨_, rfl⟩
                    have hN : BlockAt X2 X1.heap.size #[.int .i64 0, .int .i64 0] 43 := by rw [← hY]; exact BlockAt.new _ _ _
                    have HM := Lib.hid (show Below w5.heap.size w5 X2 by rw [← hY]; exact below_alloc HM.out _)
                    rw [hY]
                    generalize X1.heap.size = x at *
                    have HA := Lib.hid (And.intro hN hxs5)
                    clear hY hN hxs5
                    try dsimp only
                    refine hK.out _ _ (HC.out _ HM.out) (fun _ => ?_)
                    clear hK K
                    try simp only [Act.put, List.setIfInBounds_toArray, List.set_cons_zero, List.set_cons_succ]
                    repeat (refine SeqT.ld (v := ?_) rfl (by rfl) ?_ ?_; rotate_left; (· intro w hSw; (try dsimp only at hSw); (try (obtain ⟨f0, f1, f2, f3⟩ := hSw)); go_simp; (try with_reducible rfl)); simp only [Act.put, List.setIfInBounds_toArray, List.set_cons_zero, List.set_cons_succ])
                    refine wpOp_stepS rfl (by rfl) (fun K hK => ?_)
                    have d0 := HA.out.1.cell 0
                    have d1 := HA.out.1.cell 1
                    have e0 := HA.out.1.frozen 0
                    have e1' := HA.out.1.frozen 1
                    have hxs := HA.out.1.lt
                    go_simp
                    obtain ⟨X3, hY⟩ : ∃ Y, (X2.setCell ⟨x, 0, none⟩ (.int .i64 r1)).setCell ⟨x, 1, none⟩ (.int .i64 r2) = Y := ⟨_, rfl⟩
                    have hN : BlockAt X3 x #[.int .i64 r1, .int .i64 r2] 43 := by rw [← hY]; exact (HA.out.1.set 0 _).set 1 _
                    have HM := Lib.hid (show Below w5.heap.size w5 X3 by rw [← hY]; exact (HM.out.setCell (p := ⟨x, 0, none⟩) HA.out.2 _).setCell (p := ⟨x, 1, none⟩) HA.out.2 _)
                    rw [hY]
                    have HA := Lib.hid (And.intro hN HA.out.2)
                    clear hY hN d0 d1 e0 e1' hxs
                    try dsimp only
                    refine hK.out _ _ (HC.out _ HM.out) (fun _ => ?_)
                    clear hK K
                    try simp only [Act.put, List.setIfInBounds_toArray, List.set_cons_zero, List.set_cons_succ]
                    repeat (refine SeqT.ld (v := ?_) rfl (by rfl) ?_ ?_; rotate_left; (· intro w hSw; (try dsimp only at hSw); (try (obtain ⟨f0, f1, f2, f3⟩ := hSw)); go_simp; (try with_reducible rfl)); simp only [Act.put, List.setIfInBounds_toArray, List.set_cons_zero, List.set_cons_succ])
                    exact SeqT.fin ⟨rfl, x, by simp only [putAll, Act.put, List.setIfInBounds_toArray, List.set_cons_zero, List.set_cons_succ], HM.out, HA.out.1⟩
                  · go_simp
                    have hxs5 := HM.out.size
                    obtain ⟨X1, hY⟩ : ∃ Y, X0.alloc (.cells #[.int .i64 0, .int .i64 0] 43) = Y := ⟨_, rfl⟩
                    have hN : BlockAt X1 X0.heap.size #[.int .i64 0, .int .i64 0] 43 := by rw [← hY]; exact BlockAt.new _ _ _
                    have HM := Lib.hid (show Below w5.heap.size w5 X1 by rw [← hY]; exact below_alloc HM.out _)
                    rw [hY]
                    generalize X0.heap.size = x at *
                    have HA := Lib.hid (And.intro hN hxs5)
                    clear hY hN hxs5
                    try dsimp only
                    refine hK.out _ _ (HC.out _ HM.out) (fun _ => ?_)
                    clear hK K
                    try simp only [Act.put, List.setIfInBounds_toArray, List.set_cons_zero, List.set_cons_succ]
                    repeat (refine SeqT.ld (v := ?_) rfl (by rfl) ?_ ?_; rotate_left; (· intro w hSw; (try dsimp only at hSw); (try (obtain ⟨f0, f1, f2, f3⟩ := hSw)); go_simp; (try with_reducible rfl)); simp only [Act.put, List.setIfInBounds_toArray, List.set_cons_zero, List.set_cons_succ])
                    refine wpOp_stepS rfl (by rfl) (fun K hK => ?_)
                    go_simp
                    refine (C4.out _ (below_step HW5.out HM.out)).mono ?_
                    rintro e X2 ⟨rfl, hbY⟩
                    have HM := Lib.hid (below_step HM.out hbY)
                    have HA := Lib.hid (And.intro (HA.out.1.below hbY HA.out.1.lt) HA.out.2)
                    clear hbY
                    try dsimp only
                    refine hK.out _ _ (HC.out _ HM.out) (fun _ => ?_)
                    clear hK K
                    try simp only [Act.put, List.setIfInBounds_toArray, List.set_cons_zero, List.set_cons_succ]
                    repeat (refine SeqT.ld (v := ?_) rfl (by rfl) ?_ ?_; rotate_left; (· intro w hSw; (try dsimp only at hSw); (try (obtain ⟨f0, f1, f2, f3⟩ := hSw)); go_simp; (try with_reducible rfl)); simp only [Act.put, List.setIfInBounds_toArray, List.set_cons_zero, List.set_cons_succ])
                    refine wpOp_stepS rfl (by rfl) (fun K hK => ?_)
                    have d0 := HA.out.1.cell 0
                    have d1 := HA.out.1.cell 1
                    have e0 := HA.out.1.frozen 0
                    have e1' := HA.out.1.frozen 1
                    have hxs := HA.out.1.lt
                    go_simp
                    obtain ⟨X3, hY⟩ : ∃ Y, (X2.setCell ⟨x, 0, none⟩ (.int .i64 r1)).setCell ⟨x, 1, none⟩ (.int .i64 r2) = Y := ⟨_, rfl⟩
                    have hN : BlockAt X3 x #[.int .i64 r1, .int .i64 r2] 43 := by rw [← hY]; exact (HA.out.1.set 0 _).set 1 _
                    have HM := Lib.hid (show Below w5.heap.size w5 X3 by rw [← hY]; exact (HM.out.setCell (p := ⟨x, 0, none⟩) HA.out.2 _).setCell (p := ⟨x, 1, none⟩) HA.out.2 _)
                    rw [hY]
                    have HA := Lib.hid (And.intro hN HA.out.2)
                    clear hY hN d0 d1 e0 e1' hxs
                    try dsimp only
                    refine hK.out _ _ (HC.out _ HM.out) (fun _ => ?_)
                    clear hK K
                    try simp only [Act.put, List.setIfInBounds_toArray, List.set_cons_zero, List.set_cons_succ]
                    repeat (refine SeqT.ld (v := ?_) rfl (by rfl) ?_ ?_; rotate_left; (· intro w hSw; (try dsimp only at hSw); (try (obtain ⟨f0, f1, f2, f3⟩ := hSw)); go_simp; (try with_reducible rfl)); simp only [Act.put, List.setIfInBounds_toArray, List.set_cons_zero, List.set_cons_succ])
                    exact SeqT.fin ⟨rfl, x, by simp only [putAll, Act.put, List.setIfInBounds_toArray, List.set_cons_zero, List.set_cons_succ], HM.out, HA.out.1⟩
                · intro x X hF
                  have HM := Lib.hid hF.1
                  have HA := Lib.hid hF.2
                  clear hF
                  simp only [putAll, Act.put, List.setIfInBounds_toArray, List.set_cons_zero, List.set_cons_succ]
                  obtain ⟨p0, p1, _, _⟩ := HC.out _ HM.out
                  go_wp2_with fail
                  refine (C5.out _ (HYR.out.all HM.out)).mono ?_
                  rintro e X1 ⟨rfl, hbY⟩
                  have HM := Lib.hid (below_step HM.out hbY)
                  have HA := Lib.hid (HA.out.below hbY HA.out.lt)
                  clear hbY p0 p1 C5
                  go_wp2_with fail
                  refine wp_region_seq [(0, true), (1, true), (2, true), (3, true), (4, true), (5, true), (6, true), (7, true), (8, true), (9, true), (10, true), (11, false), (12, true), (13, true), (14, true), (15, true), (16, true)] (fun W => W.cell? ⟨w.heap.size, 0, none⟩ = some (.int .i64 (a : Int)) ∧ W.cell? ⟨w.heap.size, 1, none⟩ = some (.int .i64 (b : Int)) ∧ W.cell? ⟨ob, oo + a, none⟩ = some (.int .i64 (o : Int)) ∧ W.cell? ⟨ob, oo + b, none⟩ = some (.int .i64 (i : Int)))
                    (by kernel_rfl) (by kernel_rfl) (by kernel_rfl) (by kernel_rfl) (fun d _ _ _ _ h => by cases d <;> exact h) (HC.out _ HM.out.drew) (fun hS => ?_)
                  have HM := Lib.hid HM.out.drew
                  have HA := Lib.hid HA.out.drew
                  generalize X1.drew = X2 at *
                  clear hS
                  repeat (refine SeqH.take (v := ?_) rfl (by rfl) ?_ ?_; rotate_left; (· intro w hSw; (try dsimp only at hSw); (try (obtain ⟨f0, f1, f2, f3⟩ := hSw)); go_simp; (try with_reducible rfl)); simp only [Act.put, List.setIfInBounds_toArray, List.set_cons_zero, List.set_cons_succ])
                  refine SeqH.step rfl (by rfl) (fun K hK => ?_)
                  go_simp
                  refine (C6.out _ (below_step HW5.out HM.out)).mono ?_
                  rintro e X3 ⟨rfl, hbY⟩
                  have HM := Lib.hid (below_step HM.out hbY)
                  have HA := Lib.hid (HA.out.below hbY HA.out.lt)
                  clear hbY
                  try dsimp only
                  refine hK.out _ _ (HC.out _ HM.out) (fun _ => ?_)
                  clear hK K
                  try simp only [Act.put, List.setIfInBounds_toArray, List.set_cons_zero, List.set_cons_succ]
                  repeat (refine SeqH.take (v := ?_) rfl (by rfl) ?_ ?_; rotate_left; (· intro w hSw; (try dsimp only at hSw); (try (obtain ⟨f0, f1, f2, f3⟩ := hSw)); go_simp; (try with_reducible rfl)); simp only [Act.put, List.setIfInBounds_toArray, List.set_cons_zero, List.set_cons_succ])
                  refine SeqH.done ?_
                  have bS := HS.out.below HM.out HS.out.lt
                  have x0 := bS.cell 0
                  have x1 := bS.cell 1
                  have y0 := HA.out.cell 0
                  have y1 := HA.out.cell 1
                  have HWX := Lib.hid (below_step HW5.out HM.out)
                  clear bS HS HA HC HM
                  go_wp2_with fail
                  refine (KN.out _).mono ?_
                  rintro e w9 ⟨rfl, hb9⟩
                  have h9 := below_step HWX.out hb9
                  go_wp2
                  go_ret
                  exact ⟨rfl, h9⟩
              · have d4 : decide ((O.length : Int) ≤ m) = true := decide_eq_true (by omega)
                have d1 : decide (n < 0) = false := decide_eq_false (by omega)
                have d2 : decide (m < 0) = false := decide_eq_false (by omega)
                have d3 : decide ((O.length : Int) ≤ n) = false := decide_eq_false (by omega)
                go_wp2_with fail
                refine (KN.out _).mono ?_
                rintro e w9 ⟨rfl, hb9⟩
                have h9 := below_step HW2.out.1 hb9
                go_wp2
                go_ret
                exact ⟨rfl, h9⟩
            · have d3 : decide ((O.length : Int) ≤ n) = true := decide_eq_true (by omega)
              have d1 : decide (n < 0) = false := decide_eq_false (by omega)
              have d2 : decide (m < 0) = false := decide_eq_false (by omega)
              go_wp2_with fail
              refine (KN.out _).mono ?_
              rintro e w9 ⟨rfl, hb9⟩
              have h9 := below_step HW2.out.1 hb9
              go_wp2
              go_ret
              exact ⟨rfl, h9⟩
          · have d2 : decide (m < 0) = true := decide_eq_true (by omega)
            have d1 : decide (n < 0) = false := decide_eq_false (by omega)
            go_wp2_with fail
            refine (KN.out _).mono ?_
            rintro e w9 ⟨rfl, hb9⟩
            have h9 := below_step HW2.out.1 hb9
            go_wp2
            go_ret
            exact ⟨rfl, h9⟩
        · have d1 : decide (n < 0) = true := decide_eq_true (by omega)
          go_wp2_with fail
          refine (KN.out _).mono ?_
          rintro e w9 ⟨rfl, hb9⟩
          have h9 := below_step HW2.out.1 hb9
          go_wp2
          go_ret
          exact ⟨rfl, h9⟩
      · have hne : (E != 0) = true := by simpa using hE
        go_wp2_with fail
        refine (KN.out _).mono ?_
        rintro e w9 ⟨rfl, hb9⟩
        have h9 := below_step HW2.out.1 hb9
        go_wp2
        go_ret
        exact ⟨rfl, h9⟩
    · have hdk : decide ((60 : Int) < (ks.length : Int)) = true := decide_eq_true (by omega)
      have hgk : (60 : Int) < (ks.length : Int) := by omega
      subst hku
      clear hb hv hu hsh
      go_enter Try.func13, Try.ntmps13
      go_wp2_with fail
      refine L.out.mono ?_
      rintro e w1 ⟨rfl, rfl⟩
      go_wp2_with fail
      refine (KN.out _).mono ?_
      rintro e w2 ⟨rfl, hb2⟩
      have h2 := below_step H0.out.1 hb2
      go_wp2
      go_ret
      exact ⟨rfl, h2⟩
end Go.Proofs.Ytccjbefmcifaeaa
