/- TopShares returns true, whatever the genealogy and the pair. -/
import Derived.Test.YtccjbefmcifaeaaTopPath
import Derived.Test.YtccjbefmcifaeaaAns5
import Derived.Test.YtccjbefmcifaeaaLong
import Derived.Deep.CutRange
namespace Go.Proofs.Ytccjbefmcifaeaa
open Go.RowKit

/-- One received lot. -/
def lsA : List Lt.L := [⟨0, 1, []⟩]
theorem lotsA {W : World} {B : Nat} (h : BlockAt W B #[.int .i64 0, .int .i64 1, .slice none 0 0] 25) : Lots W (.slice (some ⟨B, 0, none⟩) 1 1) lsA := by
  refine .inr ⟨B, 0, 1, rfl, by decide, h.lt, fun k hk => ?_⟩
  obtain rfl : k = 0 := by have : k < 1 := hk; omega
  exact ⟨.slice none 0 0, h.cell 0, h.cell 1, h.cell 2, .inl ⟨none, 0, rfl, rfl, fun _ => rfl⟩⟩
theorem lsA_valid : Lt.valE lsA = 0 := by decide +kernel
theorem lsA_short : short lsA := ⟨by decide, by
  intro j hj
  obtain rfl : j = 0 := by have : j < 1 := hj; omega
  decide⟩
theorem lsA_S : Sh.S lsA (oneO 0) 0 = 1 := by decide +kernel
theorem lsA_D : Sh.D lsA (0 + 1) = 1 := by decide +kernel
theorem shareA_any (B : Nat) (W : World) (h : BlockAt W B #[.int .i64 0, .int .i64 1, .slice none 0 0] 25) :
    Calls Try.prog 30 #[.slice (some ⟨B, 0, none⟩) 1 1, .int .i64 0, .int .i64 0] W fun e w' => e = .returned (.tuple #[rat 1 1, .int .i64 0]) ∧ Below W.heap.size W w' := by
  have S := share_ok _ lsA 0 0 W (lotsA h) lsA_short lsA_valid (by decide) (by decide) (fun a d _ h1 h2 => div_all h1 h2)
  rw [lsA_S, lsA_D, show Rd.rN 1 1 = 1 from by decide +kernel, show Rd.rD 1 1 = 1 from by decide +kernel, show Rd.rE 1 1 = 0 from by decide +kernel] at S
  exact S
theorem rat_bounds {s d : Nat} (hd : 0 < d) (hle : s ≤ d) : (-1099511627776 ≤ Rd.rN s d ∧ Rd.rN s d ≤ 1099511627776) ∧ 0 ≤ Rd.rD s d ∧ Rd.rD s d ≤ 1048576 := by
  by_cases hb : d / Nat.gcd s d ≤ 1048576
  · have := Fr.ok_iff.1 (Tp.red_is hd hle (by unfold Rd.rE; rw [if_pos hb])).1
    omega
  · unfold Rd.rN Rd.rD
    rw [if_neg hb, if_neg hb]
    decide
theorem mass_step {ls : List Lt.L} (herr : ∀ j, j < ls.length → Lt.errAt ls j = 0) {of k : Nat} (hk : k < ls.length) {fa fb rn rd : Int} (h : Tp.IsS fa fb (Sh.D ls ls.length : Int) (Tp.mass ls of k))
    (hr : Tp.IsS rn rd (Sh.D ls (k + 1) : Int) (Sh.S ls (oneO of) k : Int)) (hk0 : Fr.er (Tp.wt ls k) 1 = 0) (hm : Fr.mulE rn rd (Fr.nu (Tp.wt ls k) 1) (Fr.de (Tp.wt ls k) 1) = 0)
    (hg : Fr.sumE fa fb (Fr.mulN rn rd (Fr.nu (Tp.wt ls k) 1) (Fr.de (Tp.wt ls k) 1)) (Fr.mulD rn rd (Fr.nu (Tp.wt ls k) 1) (Fr.de (Tp.wt ls k) 1)) = 0) :
    Tp.IsS (Fr.sumN fa fb (Fr.mulN rn rd (Fr.nu (Tp.wt ls k) 1) (Fr.de (Tp.wt ls k) 1)) (Fr.mulD rn rd (Fr.nu (Tp.wt ls k) 1) (Fr.de (Tp.wt ls k) 1)))
      (Fr.sumD fa fb (Fr.mulN rn rd (Fr.nu (Tp.wt ls k) 1) (Fr.de (Tp.wt ls k) 1)) (Fr.mulD rn rd (Fr.nu (Tp.wt ls k) 1) (Fr.de (Tp.wt ls k) 1))) (Sh.D ls ls.length : Int) (Tp.mass ls of (k + 1)) := by
  have hs := hr.scale (Sh.Kf ls ls.length k : Int)
  rw [← Int.natCast_mul, ← Sh.D_K ls hk] at hs
  have hkv := Fr.val_mk hk0
  have hkd := Fr.ok_iff.1 (Fr.ok_mk hk0)
  rw [Tp.mass_succ]
  have ht := Tp.IsS.mul (pr := 1) (T := 1) (m := Tp.wt ls k) (X := (Sh.D ls ls.length : Int)) hs (by omega) hkv hm (by simp)
  have := Tp.IsS.step h ht hg
  rw [Int.mul_one] at this
  unfold Tp.nK Sh.numK
  rw [Int.natCast_mul]
  exact this
theorem wt_bd {ls : List Lt.L} (h0 : Lt.valE ls = 0) {k : Nat} (hk : k < ls.length) : (0 ≤ Lt.left ls k ∧ Lt.left ls k ≤ 100000) ∧ -100000 ≤ lostI (ls.getD k default) ∧ lostI (ls.getD k default) ≤ 600000 := by
  obtain ⟨hl, herr, _⟩ := Lt.valE_zero h0
  have hf := Lt.fine_of (herr k hk)
  have hb := Lt.takes_bd hf.2.2
  have h1 := hf.1
  have h2 := hf.2.1
  refine ⟨left_le h0 hk, ?_⟩
  unfold lostI
  split <;> omega

set_option maxRecDepth 20000 in
set_option maxHeartbeats 4000000 in
theorem top_walk (v : Value) (ls : List Lt.L) (n m : Int) (w : World) (hv : Lots w v ls) :
    Calls Try.prog 15 #[v, .agg #[.int .i64 n, .int .i64 m]] w fun e w' => e = .returned (.bool true) ∧ Below w.heap.size w w' := by
  have hw0 := below_alloc (below_alloc (Below.refl w.heap.size w) (.cells #[.int .i64 n, .int .i64 m] 41)) (.cells #[.int .i64 0, .int .i64 1, .slice none 0 0] 25)
  have bP := (BlockAt.new w #[.int .i64 n, .int .i64 m] 41).alloc (.cells #[.int .i64 0, .int .i64 1, .slice none 0 0] 25)
  have CA := Lib.hid (shareA_any _ _ (BlockAt.new (w.alloc (.cells #[.int .i64 n, .int .i64 m] 41)) #[.int .i64 0, .int .i64 1, .slice none 0 0] 25))
  simp only [World.size_alloc] at CA
  have L := Lib.hid (fun W (hW : Below w.heap.size w W) => long_any v ls W (hv.all hW))
  have H0 := Lib.hid (And.intro hw0 bP)
  have HV := Lib.hid hv
  clear hw0 bP
  cases hb : longB ls with
  | true =>
    rw [hb] at L
    clear hb hv
    go_enter Try.func15, Try.ntmps15
    go_wp2_with fail
    refine CA.out.mono ?_
    rintro e w1 ⟨rfl, hb1⟩
    have HW1 := Lib.hid (below_alloc (H0.out.1.trans (hb1.mono (by omega))) (.cells #[.int .i64 1, .int .i64 1] 43))
    go_wp2_with fail
    refine (L.out _ HW1.out).mono ?_
    rintro e w2 ⟨rfl, rfl⟩
    go_wp2
    go_ret
    exact ⟨rfl, HW1.out⟩
  | false =>
    rw [hb] at L
    have hsh := (longB_short hb).short
    have VA := Lib.hid (fun W (hW : Below w.heap.size w W) => validate_any v ls W (hv.all hW) hsh)
    have HSH := Lib.hid hsh
    obtain ⟨la, lc, hvl, hlk⟩ := hv.look
    subst hvl
    clear hb hv hsh hlk
    go_enter Try.func15, Try.ntmps15
    go_wp2_with fail
    refine CA.out.mono ?_
    rintro e w1 ⟨rfl, hb1⟩
    have hw1 := H0.out.1.trans (hb1.mono (by omega))
    have HW1 := Lib.hid (And.intro (below_alloc hw1 (.cells #[.int .i64 1, .int .i64 1] 43)) ((H0.out.2.below hb1 (by omega)).alloc (.cells #[.int .i64 1, .int .i64 1] 43)))
    clear hb1 hw1 H0 CA
    go_wp2_with fail
    refine (L.out _ HW1.out.1).mono ?_
    rintro e w2 ⟨rfl, rfl⟩
    clear L
    go_wp2_with fail
    refine (VA.out _ HW1.out.1).mono ?_
    rintro e w3 ⟨rfl, hb3⟩
    have HW3 := Lib.hid (And.intro (below_step HW1.out.1 hb3) (HW1.out.2.below hb3 HW1.out.2.lt))
    clear hb3 HW1 VA
    have p0 := HW3.out.2.cell 0
    have p1 := HW3.out.2.cell 1
    generalize hz : Lt.valE ls = E at *
    by_cases hE : E = 0
    · subst hE
      by_cases hn0 : 0 ≤ n
      · by_cases hm0 : 0 ≤ m
        · by_cases hn1 : n < ls.length
          · by_cases hm1 : m < ls.length
            · obtain ⟨of, rfl⟩ : ∃ a : Nat, n = (a : Int) := ⟨n.toNat, by omega⟩
              obtain ⟨i, rfl⟩ : ∃ a : Nat, m = (a : Int) := ⟨m.toNat, by omega⟩
              have ho : of < ls.length := by omega
              have hi : i < ls.length := by omega
              have HZ := Lib.hid hz
              clear hz hn0 hm0 hn1 hm1
              obtain ⟨hl, herr, _⟩ := Lt.valE_zero HZ.out
              have HE := Lib.hid herr
              obtain ⟨wA, hwA⟩ : ∃ X, X = w3 := ⟨_, rfl⟩
              have BP := Lib.hid (byPaths_any (.slice la ls.length lc) ls of w3.heap.size w3 hl herr (HV.out.all HW3.out.1) ho (Nat.le_refl _) i hi (w3.alloc (.cells #[.int .i64 3000] 3)) 3000 (by decide) (by decide) (BlockAt.new _ _ _) (below_alloc (Below.refl _ _) _))
              have SI := Lib.hid (fun W (hW : Below w.heap.size w W) (o j : Nat) (ho : o < ls.length) (hj : j < ls.length) => share_ok (.slice la ls.length lc) ls o j W (HV.out.all hW) HSH.out HZ.out ho hj (fun a d _ h1 h2 => div_all h1 h2))
              have HSL := Lib.hid (fun o j (hj : j < ls.length) => Sh.S_le (early_of herr) (oneO o) j hj)
              clear herr hwA
              have r0 := (HW3.out.2.alloc (.cells #[.int .i64 3000] 3)).cell 0
              have r1 := (HW3.out.2.alloc (.cells #[.int .i64 3000] 3)).cell 1
              go_wp2_with fail
              refine BP.out.mono ?_
              rintro e w4 ⟨a, b, ok, rfl, hP⟩
              have HR := Lib.hid (And.intro hP.out.1 hP.out.2.1)
              have hk4 := below_kb (below_alloc (Below.refl w3.heap.size w3) (.cells #[.int .i64 3000] 3)) (Nat.le_refl _) hP.out.2.2.2
              have hk5 := below_alloc hk4 (.cells #[.int .i64 a, .int .i64 b] 43)
              have HW4 := Lib.hid (And.intro (below_step HW3.out.1 hk5) (And.intro (HW3.out.2.below hk5 HW3.out.2.lt) (BlockAt.new w4 #[.int .i64 a, .int .i64 b] 43)))
              clear hk4 hk5 hP BP HW3 p0 p1 r0 r1
              have p0 := HW4.out.2.1.cell 0
              have p1 := HW4.out.2.1.cell 1
              have a0 := HW4.out.2.2.cell 0
              have a1 := HW4.out.2.2.cell 1
              go_upto_if 97 with fail
              go_cut [] from 97 to 97 (fun X => Hid (Below w.heap.size w X ∧ BlockAt X w.heap.size #[.int .i64 of, .int .i64 i] 41))
              case first =>
                cases ok with
                | false =>
                  go_wp2
                  go_meet
                  exact Lib.hid ⟨HW4.out.1, HW4.out.2.1⟩
                | true =>
                  obtain ⟨e1, e2, e3⟩ := (HR.out.2 rfl).red (Sh.D_pos ls (i + 1))
                  have C1 := Lib.hid (SI.out _ HW4.out.1 of i ho hi)
                  rw [e1, e2, e3] at C1
                  have q1 : (a != a) = false := by simp
                  have q2 : (b != b) = false := by simp
                  have q3 : (a == a) = true := by simp
                  have q4 : (b == b) = true := by simp
                  clear e1 e2 e3
                  go_wp2_with fail
                  refine C1.out.mono ?_
                  rintro e w5 ⟨rfl, hb5⟩
                  have hb6 := below_alloc hb5 (.cells #[.int .i64 a, .int .i64 b] 43)
                  have HW5 := Lib.hid (And.intro (below_step HW4.out.1 hb6) (HW4.out.2.1.below hb6 HW4.out.2.1.lt))
                  have A := HW4.out.2.2.below hb6 HW4.out.2.2.lt
                  have B := BlockAt.new w5 #[.int .i64 a, .int .i64 b] 43
                  have a0 := A.cell 0
                  have a1 := A.cell 1
                  have b0 := B.cell 0
                  have b1 := B.cell 1
                  clear A B C1 hb5 hb6 p0 p1
                  go_wp2
                  go_meet
                  exact HW5
              case rest =>
                have HW5 := hcut
                clear HW4 HR hcut p0 p1 a0 a1
                have p0 := HW5.out.2.cell 0
                have p1 := HW5.out.2.cell 1
                have hN1 : numE ls [(i : Int)] = 0 := by
                  rw [numE_one, if_pos HZ.out, show inR ls (i : Int) = true by unfold inR; simp; omega]; rfl
                have SR := Lib.hid (lotSources_any (.slice la ls.length lc) ls i wc (HV.out.all HW5.out.1) HSH.out)
                rw [hN1, show srcR ls (i : Int) = selK (srcP ls i) ls.length by unfold srcR; rw [if_pos hN1, Int.toNat_natCast]] at SR
                have HRS := Lib.hid (And.intro (Tp.src_sum hl HE.out hi) (fun x (hx : x ∈ selK (srcP ls i) ls.length) => Tp.sel_in hx))
                have hRl := selK_len (srcP ls i) ls.length
                generalize selK (srcP ls i) ls.length = R at *
                clear hN1
                go_wp2_with fail
                refine SR.out.mono ?_
                rintro e w6 ⟨u, rfl, hown, hb6⟩
                have HW6 := Lib.hid (And.intro (below_step HW5.out.1 hb6) (HW5.out.2.below hb6 HW5.out.2.lt))
                obtain ⟨ra, rc, rfl, hrk⟩ := hown.ints.look
                have HRK := Lib.hid hrk
                have H6 := Lib.hid (And.intro (BlockAt.new w6 #[.int .i64 0, .int .i64 1] 43) (below_alloc (Below.refl w6.heap.size w6) (.cells #[.int .i64 0, .int .i64 1] 43)))
                clear SR hown hb6 hrk HW5 p0 p1
                go_wp2
                go_loopw [15, 16] (fun s t wr => ∃ (k : Nat) (ok : Bool) (sa sb : Int), k ≤ R.length ∧ t = .int .i64 k ∧ s = .bool ok ∧ Hid (Fr.ok sa sb = true ∧ (ok = true → Tp.IsS sa sb (Sh.D ls (i + 1) : Int) (Tp.lsum ls i (R.take k) : Int)) ∧ BlockAt wr w6.heap.size #[.int .i64 sa, .int .i64 sb] 43 ∧ Below w6.heap.size w6 wr)) (fun _ t _ => R.length - (intOf t).toNat)
                case atStart => exact ⟨0, true, 0, 1, Nat.zero_le _, rfl, rfl, Lib.hid ⟨by decide, fun _ => Tp.IsS.zero _, H6.out⟩⟩
                case round =>
                  obtain ⟨k, ok, sa, sb, hk, rfl, rfl, hg⟩ := hrel
                  clear H6
                  by_cases hlt : k < R.length
                  · obtain ⟨rb, roff, rfl, hrb, hrc⟩ := HRK.out k hlt
                    have hxin := HRS.out.2 R[k] (List.getElem_mem hlt)
                    rw [show R.getD k 0 = R[k] by simp [hlt]] at hrc
                    have HTK := Lib.hid (Tp.lsum_take ls i hlt)
                    generalize R[k] = xx at *
                    obtain ⟨o, rfl⟩ : ∃ o : Nat, xx = (o : Int) := ⟨xx.toNat, by omega⟩
                    have hol : o < ls.length := by omega
                    rw [Int.toNat_natCast] at HTK
                    have hwr := below_step HW6.out.1 hg.out.2.2.2
                    have SC := Lib.hid (fun W (hW : Below w.heap.size w W) => SI.out W hW o i hol hi)
                    have hbd := rat_bounds (Sh.D_pos ls (i + 1)) (HSL.out o i hi)
                    have hval := fun h => Tp.red_is (Sh.D_pos ls (i + 1)) (HSL.out o i hi) h
                    generalize Rd.rN (Sh.S ls (oneO o) i) (Sh.D ls (i + 1)) = rn at *
                    generalize Rd.rD (Sh.S ls (oneO o) i) (Sh.D ls (i + 1)) = rd at *
                    generalize Rd.rE (Sh.S ls (oneO o) i) (Sh.D ls (i + 1)) = re at *
                    have HVAL := Lib.hid hval
                    have HBD := Lib.hid hbd
                    have hsab := Fr.ok_iff.1 hg.out.1
                    have AD := Lib.hid (fun W => numAdd_any sa sb rn rd W (by omega) (by omega) (by omega) (by omega) (by omega) (by omega) (by omega) (by omega))
                    obtain ⟨un, hun⟩ : ∃ t, t = Fr.sumN sa sb rn rd := ⟨_, rfl⟩
                    obtain ⟨ud, hud⟩ : ∃ t, t = Fr.sumD sa sb rn rd := ⟨_, rfl⟩
                    obtain ⟨ue, hue⟩ : ∃ t, t = Fr.sumE sa sb rn rd := ⟨_, rfl⟩
                    rw [← hun, ← hud, ← hue] at AD
                    have HT := Lib.hid (And.intro hun (And.intro hud hue))
                    have HC := Lib.hid (show ∀ W, Below wr.heap.size wr W → (fun W => W.cell? ⟨rb, roff + k, none⟩ = some (.int .i64 (o : Int)) ∧ W.cell? ⟨w.heap.size, 1, none⟩ = some (.int .i64 (i : Int))) W from fun W hW => ⟨((below_step hg.out.2.2.2 hW).cell (p := ⟨rb, roff + k, none⟩) hrb).trans hrc, ((below_step hg.out.2.2.2 hW).cell (p := ⟨w.heap.size, 1, none⟩) HW6.out.2.lt).trans (HW6.out.2.cell 1)⟩)
                    have HB := Lib.hid (fun W (hW : Below wr.heap.size wr W) => below_step hwr hW)
                    clear hrc hrb hxin hbd hval hsab hun hud hue hwr
                    go_wp2_with fail
                    refine wp_region_meet (β := Nat) (.take 0 (.take 1 (.take 2 (.take 3 (.take 4 (.take 5 (.take 6 (.two 7 (.take 8 (.take 9 (.take 10 (.one 11 (.one 12 (.take 13 .done)))))) 11 (.one 7 (.take 8 (.take 9 (.take 10 (.one 12 (.take 13 .done))))))))))))))
                      (fun W => W.cell? ⟨rb, roff + k, none⟩ = some (.int .i64 (o : Int)) ∧ W.cell? ⟨w.heap.size, 1, none⟩ = some (.int .i64 (i : Int)))
                      (fun x => [(131, .slice la ls.length lc), (132, .slice (some ⟨rb, roff, none⟩) R.length rc), (133, .int .i64 k), (134, .pointer (some ⟨rb, roff + k, none⟩)), (135, .int .i64 o), (136, .pointer (some ⟨w.heap.size, 1, none⟩)), (137, .int .i64 i), (138, .tuple #[rat rn rd, .int .i64 re]), (130, .tuple #[rat rn rd, .int .i64 re]), (139, rat rn rd), (140, .int .i64 re), (17, .pointer (some ⟨x, 0, none⟩)), (18, .int .i64 re)])
                      (fun x Y => Below wr.heap.size wr Y ∧ BlockAt Y x #[.int .i64 rn, .int .i64 rd] 43 ∧ wr.heap.size ≤ x)
                      (by kernel_rfl) (by kernel_rfl) (by kernel_rfl) (by kernel_rfl) (HC.out _ (Below.refl wr.heap.size wr).drew) (fun hS => ?_) ?_
                    · have HM := Lib.hid ((Below.refl wr.heap.size wr).drew)
                      generalize wr.drew = X0 at *
                      clear hS
                      repeat (refine SeqT.ld (v := ?_) rfl (by rfl) ?_ ?_; rotate_left; (· intro w hSw; (try dsimp only at hSw); (try (obtain ⟨f0, f1⟩ := hSw)); go_simp; (try with_reducible rfl)); simp only [Act.put, List.setIfInBounds_toArray, List.set_cons_zero, List.set_cons_succ])
                      refine ⟨wpOp_stepS rfl (by rfl) (fun K hK => ?_), wpOp_stepS rfl (by rfl) (fun K hK => ?_)⟩
                      · skip
                        go_simp
                        refine (SC.out _ (HB.out _ HM.out)).mono ?_
                        rintro e X1 ⟨rfl, hbY⟩
                        have HM := Lib.hid (below_step HM.out hbY)
                        clear hbY
                        try dsimp only
                        refine hK.out _ _ (HC.out _ HM.out) (fun _ => ?_)
                        clear hK K
                        try simp only [Act.put, List.setIfInBounds_toArray, List.set_cons_zero, List.set_cons_succ]
                        repeat (refine SeqT.ld (v := ?_) rfl (by rfl) ?_ ?_; rotate_left; (· intro w hSw; (try dsimp only at hSw); (try (obtain ⟨f0, f1⟩ := hSw)); go_simp; (try with_reducible rfl)); simp only [Act.put, List.setIfInBounds_toArray, List.set_cons_zero, List.set_cons_succ])
                        refine wpOp_stepS rfl (by rfl) (fun K hK => ?_)
                        go_simp
                        have hxs5 := HM.out.size
                        obtain ⟨X2, hY⟩ : ∃ Y, X1.alloc (.cells #[.int .i64 0, .int .i64 0] 43) = Y := ⟨_, rfl⟩
                        have hN : BlockAt X2 X1.heap.size #[.int .i64 0, .int .i64 0] 43 := by rw [← hY]; exact BlockAt.new _ _ _
                        have HM := Lib.hid (show Below wr.heap.size wr X2 by rw [← hY]; exact below_alloc HM.out _)
                        rw [hY]
                        generalize X1.heap.size = x at *
                        have HA := Lib.hid (And.intro hN hxs5)
                        clear hY hN hxs5
                        try dsimp only
                        refine hK.out _ _ (HC.out _ HM.out) (fun _ => ?_)
                        clear hK K
                        try simp only [Act.put, List.setIfInBounds_toArray, List.set_cons_zero, List.set_cons_succ]
                        repeat (refine SeqT.ld (v := ?_) rfl (by rfl) ?_ ?_; rotate_left; (· intro w hSw; (try dsimp only at hSw); (try (obtain ⟨f0, f1⟩ := hSw)); go_simp; (try with_reducible rfl)); simp only [Act.put, List.setIfInBounds_toArray, List.set_cons_zero, List.set_cons_succ])
                        refine wpOp_stepS rfl (by rfl) (fun K hK => ?_)
                        have d0 := HA.out.1.cell 0
                        have d1 := HA.out.1.cell 1
                        have e0 := HA.out.1.frozen 0
                        have e1' := HA.out.1.frozen 1
                        have hxs := HA.out.1.lt
                        go_simp
                        obtain ⟨X3, hY⟩ : ∃ Y, (X2.setCell ⟨x, 0, none⟩ (.int .i64 rn)).setCell ⟨x, 1, none⟩ (.int .i64 rd) = Y := ⟨_, rfl⟩
                        have hN : BlockAt X3 x #[.int .i64 rn, .int .i64 rd] 43 := by rw [← hY]; exact (HA.out.1.set 0 _).set 1 _
                        have HM := Lib.hid (show Below wr.heap.size wr X3 by rw [← hY]; exact (HM.out.setCell (p := ⟨x, 0, none⟩) HA.out.2 _).setCell (p := ⟨x, 1, none⟩) HA.out.2 _)
                        rw [hY]
                        have HA := Lib.hid (And.intro hN HA.out.2)
                        clear hY hN d0 d1 e0 e1' hxs
                        try dsimp only
                        refine hK.out _ _ (HC.out _ HM.out) (fun _ => ?_)
                        clear hK K
                        try simp only [Act.put, List.setIfInBounds_toArray, List.set_cons_zero, List.set_cons_succ]
                        repeat (refine SeqT.ld (v := ?_) rfl (by rfl) ?_ ?_; rotate_left; (· intro w hSw; (try dsimp only at hSw); (try (obtain ⟨f0, f1⟩ := hSw)); go_simp; (try with_reducible rfl)); simp only [Act.put, List.setIfInBounds_toArray, List.set_cons_zero, List.set_cons_succ])
                        exact SeqT.fin ⟨rfl, x, by simp only [putAll, Act.put, List.setIfInBounds_toArray, List.set_cons_zero, List.set_cons_succ], HM.out, HA.out.1, HA.out.2⟩
                      · skip
                        go_simp
                        have hxs5 := HM.out.size
                        obtain ⟨X1, hY⟩ : ∃ Y, X0.alloc (.cells #[.int .i64 0, .int .i64 0] 43) = Y := ⟨_, rfl⟩
                        have hN : BlockAt X1 X0.heap.size #[.int .i64 0, .int .i64 0] 43 := by rw [← hY]; exact BlockAt.new _ _ _
                        have HM := Lib.hid (show Below wr.heap.size wr X1 by rw [← hY]; exact below_alloc HM.out _)
                        rw [hY]
                        generalize X0.heap.size = x at *
                        have HA := Lib.hid (And.intro hN hxs5)
                        clear hY hN hxs5
                        try dsimp only
                        refine hK.out _ _ (HC.out _ HM.out) (fun _ => ?_)
                        clear hK K
                        try simp only [Act.put, List.setIfInBounds_toArray, List.set_cons_zero, List.set_cons_succ]
                        repeat (refine SeqT.ld (v := ?_) rfl (by rfl) ?_ ?_; rotate_left; (· intro w hSw; (try dsimp only at hSw); (try (obtain ⟨f0, f1⟩ := hSw)); go_simp; (try with_reducible rfl)); simp only [Act.put, List.setIfInBounds_toArray, List.set_cons_zero, List.set_cons_succ])
                        refine wpOp_stepS rfl (by rfl) (fun K hK => ?_)
                        go_simp
                        refine (SC.out _ (HB.out _ HM.out)).mono ?_
                        rintro e X2 ⟨rfl, hbY⟩
                        have HM := Lib.hid (below_step HM.out hbY)
                        have HA := Lib.hid (And.intro (HA.out.1.below hbY HA.out.1.lt) HA.out.2)
                        clear hbY
                        try dsimp only
                        refine hK.out _ _ (HC.out _ HM.out) (fun _ => ?_)
                        clear hK K
                        try simp only [Act.put, List.setIfInBounds_toArray, List.set_cons_zero, List.set_cons_succ]
                        repeat (refine SeqT.ld (v := ?_) rfl (by rfl) ?_ ?_; rotate_left; (· intro w hSw; (try dsimp only at hSw); (try (obtain ⟨f0, f1⟩ := hSw)); go_simp; (try with_reducible rfl)); simp only [Act.put, List.setIfInBounds_toArray, List.set_cons_zero, List.set_cons_succ])
                        refine wpOp_stepS rfl (by rfl) (fun K hK => ?_)
                        have d0 := HA.out.1.cell 0
                        have d1 := HA.out.1.cell 1
                        have e0 := HA.out.1.frozen 0
                        have e1' := HA.out.1.frozen 1
                        have hxs := HA.out.1.lt
                        go_simp
                        obtain ⟨X3, hY⟩ : ∃ Y, (X2.setCell ⟨x, 0, none⟩ (.int .i64 rn)).setCell ⟨x, 1, none⟩ (.int .i64 rd) = Y := ⟨_, rfl⟩
                        have hN : BlockAt X3 x #[.int .i64 rn, .int .i64 rd] 43 := by rw [← hY]; exact (HA.out.1.set 0 _).set 1 _
                        have HM := Lib.hid (show Below wr.heap.size wr X3 by rw [← hY]; exact (HM.out.setCell (p := ⟨x, 0, none⟩) HA.out.2 _).setCell (p := ⟨x, 1, none⟩) HA.out.2 _)
                        rw [hY]
                        have HA := Lib.hid (And.intro hN HA.out.2)
                        clear hY hN d0 d1 e0 e1' hxs
                        try dsimp only
                        refine hK.out _ _ (HC.out _ HM.out) (fun _ => ?_)
                        clear hK K
                        try simp only [Act.put, List.setIfInBounds_toArray, List.set_cons_zero, List.set_cons_succ]
                        repeat (refine SeqT.ld (v := ?_) rfl (by rfl) ?_ ?_; rotate_left; (· intro w hSw; (try dsimp only at hSw); (try (obtain ⟨f0, f1⟩ := hSw)); go_simp; (try with_reducible rfl)); simp only [Act.put, List.setIfInBounds_toArray, List.set_cons_zero, List.set_cons_succ])
                        exact SeqT.fin ⟨rfl, x, by simp only [putAll, Act.put, List.setIfInBounds_toArray, List.set_cons_zero, List.set_cons_succ], HM.out, HA.out.1, HA.out.2⟩
                    · intro x X hF
                      have HM := Lib.hid hF.1
                      have HA := Lib.hid hF.2
                      clear hF SC HC
                      simp only [putAll, Act.put, List.setIfInBounds_toArray, List.set_cons_zero, List.set_cons_succ]
                      have bS := hg.out.2.2.1.below HM.out hg.out.2.2.1.lt
                      have bA := HA.out.1
                      have HX := Lib.hid (And.intro bS (And.intro (below_step hg.out.2.2.2 HM.out) (And.intro hg.out.1 hg.out.2.1)))
                      have s0 := bS.cell 0
                      have s1 := bS.cell 1
                      have x0 := bA.cell 0
                      have x1 := bA.cell 1
                      clear bS bA hg HA HM HB
                      go_wp2_with fail
                      refine (AD.out _).mono ?_
                      rintro e w8 ⟨rfl, hb8⟩
                      have HX8 := Lib.hid (And.intro (HX.out.1.below hb8 HX.out.1.lt) (And.intro (below_step HX.out.2.1 hb8) HX.out.2.2))
                      clear s0 s1 x0 x1 hb8 AD HX
                      cases ok with
                      | false =>
                        go_wp2
                        go_roundw
                        case rel => exact ⟨k + 1, false, sa, sb, by omega, by go_num, rfl, Lib.hid ⟨HX8.out.2.2.1, (fun h => Bool.noConfusion h), HX8.out.1.alloc _, below_alloc HX8.out.2.1 _⟩⟩
                        case measure => simp [intOf]; omega
                      | true =>
                        by_cases hre : re = 0
                        · by_cases hue : ue = 0
                          · subst hre hue
                            have HNV := Lib.hid (show Tp.IsS un ud (Sh.D ls (i + 1) : Int) (Tp.lsum ls i (R.take (k + 1)) : Int) by
                              rw [HTK.out, Int.natCast_add, HT.out.1, HT.out.2.1]
                              exact (HX8.out.2.2.2 rfl).step (HVAL.out rfl) HT.out.2.2.symm)
                            have q0 := HX8.out.1.cell 0
                            have q1 := HX8.out.1.cell 1
                            have g0 := HX8.out.1.frozen 0
                            have g1 := HX8.out.1.frozen 1
                            have hql := HX8.out.1.lt
                            have bN := ((HX8.out.1.set 0 (.int .i64 un)).set 1 (.int .i64 ud)).alloc (.cells #[.int .i64 un, .int .i64 ud] 43)
                            have hwN := below_alloc ((HX8.out.2.1.setCell (p := ⟨w6.heap.size, 0, none⟩) (Nat.le_refl _) (.int .i64 un)).setCell (p := ⟨w6.heap.size, 1, none⟩) (Nat.le_refl _) (.int .i64 ud)) (.cells #[.int .i64 un, .int .i64 ud] 43)
                            have HNW := Lib.hid (And.intro bN hwN)
                            clear bN hwN
                            go_wp2
                            go_roundw
                            case rel => exact ⟨k + 1, true, un, ud, by omega, by go_num, rfl, Lib.hid ⟨HNV.out.1, (fun _ => HNV.out), HNW.out⟩⟩
                            case measure => simp [intOf]; omega
                          · have hne : (ue == 0) = false := by simpa using hue
                            subst hre
                            clear hue
                            go_wp2
                            go_roundw
                            case rel => exact ⟨k + 1, false, sa, sb, by omega, by go_num, rfl, Lib.hid ⟨HX8.out.2.2.1, (fun h => Bool.noConfusion h), HX8.out.1.alloc _, below_alloc HX8.out.2.1 _⟩⟩
                            case measure => simp [intOf]; omega
                        · have hne : (re == 0) = false := by simpa using hre
                          clear hre
                          go_wp2
                          go_roundw
                          case rel => exact ⟨k + 1, false, sa, sb, by omega, by go_num, rfl, Lib.hid ⟨HX8.out.2.2.1, (fun h => Bool.noConfusion h), HX8.out.1.alloc _, below_alloc HX8.out.2.1 _⟩⟩
                          case measure => simp [intOf]; omega
                  · obtain rfl : k = R.length := by omega
                    have hwr := below_step HW6.out.1 hg.out.2.2.2
                    have s0 := hg.out.2.2.1.cell 0
                    have s1 := hg.out.2.2.1.cell 1
                    have HPW := Lib.hid (And.intro hwr (HW6.out.2.below hg.out.2.2.2 HW6.out.2.lt))
                    have hfin : ok = true → sa = 1 ∧ sb = 1 := fun h => by
                      have := hg.out.2.1 h
                      rw [List.take_length, HRS.out.1] at this
                      have h1 : Tp.IsS sa sb (Sh.D ls (i + 1) : Int) (1 * (Sh.D ls (i + 1) : Int)) := by rw [Int.one_mul]; exact this
                      exact h1.fin (by have := Sh.D_pos ls (i + 1); omega)
                    clear hg hwr HRS HRK HW6
                    have hcase : ok = false ∨ (ok = true ∧ sa = 1 ∧ sb = 1) := by
                      cases ok with
                      | false => exact .inl rfl
                      | true => exact .inr ⟨rfl, hfin rfl⟩
                    have AU := Lib.hid (audit_any (.slice la ls.length lc) ls wr (HV.out.all HPW.out.1) HSH.out)
                    have hAud : ∀ z, audE ls z = z := fun z => if_pos HZ.out
                    rw [hAud, hAud, hAud, hAud, HZ.out] at AU
                    have hbal := Lt.balance HE.out
                    have hb3 := sums_take_bd (ls := ls) (fun j hj => Lt.fine_of (HE.out j hj)) hl ls.length
                    rw [List.take_length] at hb3
                    have hb4 := leftK_bd HZ.out ls.length (Nat.le_refl _)
                    generalize Lt.recvAll ls = xr at *
                    generalize Lt.leftK ls ls.length = xl at *
                    generalize Lt.lostAll ls = xo at *
                    generalize Lt.airAll ls = xa at *
                    have hq : ((xr + xa) != (xl + xo)) = false := by simp; omega
                    obtain ⟨a', c', he, hlk⟩ := HV.out.look
                    simp only [Value.slice.injEq, true_and] at he
                    obtain ⟨rfl, rfl⟩ := he
                    obtain ⟨bb, off, uu, rfl, hbl, hlot⟩ := hlk of ho
                    have hmass := Tp.mass_all HE.out ho
                    generalize hx : ls.getD of default = x at *
                    obtain ⟨xk, xm, qs⟩ := x
                    dsimp only at *
                    obtain ⟨e0, e1, e2, hps'⟩ := hlot
                    obtain ⟨pa, pc, rfl⟩ := hps'.form
                    have HC := Lib.hid (And.intro hbl (And.intro e1 e2))
                    have HMA := Lib.hid hmass
                    clear e0 e1 e2 hps' hlk hmass hx hfin hAud hbal hbl
                    go_upto_region 24 with fail
                    go_cut [168] from 168 to 168 (fun t wx => t = .bool false ∧ Hid (wx = wr))
                    case first =>
                      rcases hcase with rfl | ⟨rfl, rfl, rfl⟩
                      · go_wp2_with fail
                        go_meet
                        exact ⟨rfl, Lib.hid rfl⟩
                      · go_wp2_with fail
                        go_meet
                        exact ⟨rfl, Lib.hid rfl⟩
                    case rest =>
                      obtain ⟨rfl, hwx⟩ := hcut
                      have hwx := hwx.out
                      subst hwx
                      go_wp2_with fail
                      refine AU.out.mono ?_
                      rintro e w9 ⟨rfl, hb9⟩
                      have HW9 := Lib.hid (And.intro (below_step HPW.out.1 hb9) (HPW.out.2.below hb9 HPW.out.2.lt))
                      clear hb9 HPW AU s0 s1 hcase
                      have p0 := HW9.out.2.cell 0
                      have c1 := (HW9.out.1.cell (p := ⟨bb, off + of * 3 + 1, none⟩) HC.out.1).trans HC.out.2.1
                      have c2 := (HW9.out.1.cell (p := ⟨bb, off + of * 3 + 2, none⟩) HC.out.1).trans HC.out.2.2
                      by_cases hair : 0 < xa
                      · have hd : decide (0 < xa) = true := decide_eq_true hair
                        go_wp2
                        go_ret
                        exact ⟨rfl, HW9.out.1⟩
                      · have hd : decide (0 < xa) = false := decide_eq_false hair
                        by_cases hx0 : qs.length = 0
                        · have hd2 : decide ((0 : Int) < (qs.length : Int)) = false := decide_eq_false (by omega)
                          have hd3 : decide (0 < qs.length) = false := decide_eq_false (by omega)
                          have HX0 := Lib.hid hx0
                          have H9 := Lib.hid (And.intro (BlockAt.new w9 #[.int .i64 0, .int .i64 1] 43) (below_alloc (Below.refl w9.heap.size w9) (.cells #[.int .i64 0, .int .i64 1] 43)))
                          clear hx0
                          go_wp2
                          clear hq hd hd2 hd3 hb3 hb4 c1 c2 p0 hair
                          go_loopw [26] (fun t wr => ∃ (k : Nat) (fa fb : Int), k ≤ ls.length ∧ t = .int .i64 k ∧ Hid (Tp.IsS fa fb (Sh.D ls ls.length : Int) (Tp.mass ls of k) ∧ BlockAt wr w9.heap.size #[.int .i64 fa, .int .i64 fb] 43 ∧ Below w9.heap.size w9 wr)) (fun t _ => ls.length - (intOf t).toNat)
                          case atStart => exact ⟨0, 0, 1, Nat.zero_le _, rfl, Lib.hid ⟨Tp.IsS.zero _, H9.out⟩⟩
                          case round =>
                            obtain ⟨k, fa, fb, hk, rfl, hg⟩ := hrel
                            clear H9
                            by_cases hkl : k < ls.length
                            · have hwz := below_step HW9.out.1 hg.out.2.2
                              have hNk : numE ls [(k : Int)] = 0 := by
                                rw [numE_one, if_pos HZ.out, show inR ls (k : Int) = true by unfold inR; simp; omega]; rfl
                              have LF := Lib.hid (left_any (.slice (some ⟨bb, off, none⟩) ls.length lc) ls k wr (HV.out.all hwz) HSH.out)
                              have LO := Lib.hid (fun W (hW : Below w.heap.size w W) => lost_any (.slice (some ⟨bb, off, none⟩) ls.length lc) ls k W (HV.out.all hW) HSH.out)
                              rw [hNk, show leftR ls (k : Int) = Lt.left ls k by unfold leftR; rw [if_pos hNk, Int.toNat_natCast]] at LF
                              rw [hNk, show lostR ls (k : Int) = lostI (ls.getD k default) by unfold lostR; rw [if_pos hNk, Int.toNat_natCast]] at LO
                              have hbd := wt_bd HZ.out hkl
                              have MST := Lib.hid (fun rn rd hr => mass_step HE.out hkl (rn := rn) (rd := rd) hg.out.1 hr)
                              unfold Tp.wt at MST
                              have SC := Lib.hid (fun W (hW : Below w.heap.size w W) => SI.out W hW of k ho hkl)
                              have hrb := rat_bounds (Sh.D_pos ls (k + 1)) (HSL.out of k hkl)
                              have hval := fun h => Tp.red_is (Sh.D_pos ls (k + 1)) (HSL.out of k hkl) h
                              generalize Rd.rN (Sh.S ls (oneO of) k) (Sh.D ls (k + 1)) = rn at *
                              generalize Rd.rD (Sh.S ls (oneO of) k) (Sh.D ls (k + 1)) = rd at *
                              generalize Rd.rE (Sh.S ls (oneO of) k) (Sh.D ls (k + 1)) = re at *
                              generalize Lt.left ls k = lv at *
                              generalize lostI (ls.getD k default) = lo at *
                              have MK := Lib.hid (fun W => make_any (lv + lo) 1 W (by omega) (by omega) (by omega) (by omega))
                              have hkb := And.intro (Fr.nu_bound (lv + lo) 1) (Fr.de_bound (lv + lo) 1)
                              generalize Fr.nu (lv + lo) 1 = kn at *
                              generalize Fr.de (lv + lo) 1 = kd at *
                              generalize Fr.er (lv + lo) 1 = ke at *
                              have MST2 := Lib.hid (fun h => MST.out rn rd (hval h))
                              have ML := Lib.hid (fun W => numMul_any rn rd kn kd W (by omega) (by omega) (by omega) (by omega) (by omega) (by omega) (by omega) (by omega))
                              have hmb := mul_boundsT rn rd kn kd
                              obtain ⟨tn, htn⟩ : ∃ t, t = Fr.mulN rn rd kn kd := ⟨_, rfl⟩
                              obtain ⟨td, htd⟩ : ∃ t, t = Fr.mulD rn rd kn kd := ⟨_, rfl⟩
                              obtain ⟨te, hte⟩ : ∃ t, t = Fr.mulE rn rd kn kd := ⟨_, rfl⟩
                              rw [← htn, ← htd, ← hte] at ML
                              rw [← htn, ← htd] at hmb
                              rw [← htn, ← htd, ← hte] at MST2
                              have hfb := Fr.ok_iff.1 hg.out.1.1
                              have AD := Lib.hid (fun W => numAdd_any fa fb tn td W (by omega) (by omega) (by omega) (by omega) (by omega) (by omega) (by omega) (by omega))
                              obtain ⟨un, hun⟩ : ∃ t, t = Fr.sumN fa fb tn td := ⟨_, rfl⟩
                              obtain ⟨ud, hud⟩ : ∃ t, t = Fr.sumD fa fb tn td := ⟨_, rfl⟩
                              obtain ⟨ue, hue⟩ : ∃ t, t = Fr.sumE fa fb tn td := ⟨_, rfl⟩
                              rw [← hun, ← hud, ← hue] at AD
                              rw [← hun, ← hud, ← hue] at MST2
                              have HWZ := Lib.hid hwz
                              have HG := Lib.hid (And.intro hg.out.2.1 hg.out.2.2)
                              clear hNk MST htn htd hte hun hud hue hmb hfb hkb hrb hval hwz hg
                              go_wp2_with fail
                              refine LF.out.mono ?_
                              rintro e y1 ⟨rfl, hb1⟩
                              go_wp2_with fail
                              refine (LO.out _ (below_step HWZ.out hb1)).mono ?_
                              rintro e y2 ⟨rfl, hb2⟩
                              have HY2 := Lib.hid (below_step hb1 hb2)
                              clear hb1 hb2 LF LO
                              go_wp2_with fail
                              refine (MK.out _).mono ?_
                              rintro e y3 ⟨rfl, hb3⟩
                              have hb3 := below_alloc (below_step HY2.out hb3) (.cells #[.int .i64 kn, .int .i64 kd] 43)
                              have HY3 := Lib.hid (And.intro hb3 (BlockAt.new y3 #[.int .i64 kn, .int .i64 kd] 43))
                              have p0 := (HW9.out.2.below (below_step HG.out.2 hb3) HW9.out.2.lt).cell 0
                              clear hb3 HY2 MK
                              go_wp2_with fail
                              refine (SC.out _ (below_step HWZ.out HY3.out.1)).mono ?_
                              rintro e y4 ⟨rfl, hb4⟩
                              have hb4 := below_alloc hb4 (.cells #[.int .i64 rn, .int .i64 rd] 43)
                              have HY4 := Lib.hid (below_step HY3.out.1 hb4)
                              have bK := HY3.out.2.below hb4 HY3.out.2.lt
                              have bR := BlockAt.new y4 #[.int .i64 rn, .int .i64 rd] 43
                              have k0 := bK.cell 0
                              have k1 := bK.cell 1
                              have r0 := bR.cell 0
                              have r1 := bR.cell 1
                              clear hb4 bK bR HY3 SC p0
                              go_wp2_with fail
                              refine (ML.out _).mono ?_
                              rintro e y5 ⟨rfl, hb5⟩
                              have hb5 := below_alloc (below_step HY4.out hb5) (.cells #[.int .i64 tn, .int .i64 td] 43)
                              have HY5 := Lib.hid hb5
                              have bT := BlockAt.new y5 #[.int .i64 tn, .int .i64 td] 43
                              have bF := HG.out.1.below hb5 HG.out.1.lt
                              clear k0 k1 r0 r1 hb5 HY4 ML
                              have k0 := bT.cell 0
                              have k1 := bT.cell 1
                              have r0 := bF.cell 0
                              have r1 := bF.cell 1
                              clear bT bF
                              go_wp2_with fail
                              refine (AD.out _).mono ?_
                              rintro e y6 ⟨rfl, hb6⟩
                              have hy6 := below_step HY5.out hb6
                              have HY6 := Lib.hid (And.intro (below_step HG.out.2 hy6) (HG.out.1.below hy6 HG.out.1.lt))
                              have HRET := Lib.hid (below_alloc (below_step HWZ.out hy6) (.cells #[.int .i64 un, .int .i64 ud] 43))
                              clear k0 k1 r0 r1 hb6 hy6 HY5 AD HG
                              by_cases hke : ke = 0
                              · by_cases hre : re = 0
                                · by_cases hte : te = 0
                                  · by_cases hue : ue = 0
                                    · subst hke hre hte hue
                                      have HNV := Lib.hid (MST2.out rfl rfl rfl rfl)
                                      have q0 := HY6.out.2.cell 0
                                      have q1 := HY6.out.2.cell 1
                                      have g0 := HY6.out.2.frozen 0
                                      have g1 := HY6.out.2.frozen 1
                                      have hql := HY6.out.2.lt
                                      have bN := ((HY6.out.2.set 0 (.int .i64 un)).set 1 (.int .i64 ud)).alloc (.cells #[.int .i64 un, .int .i64 ud] 43)
                                      have hwN := below_alloc ((HY6.out.1.setCell (p := ⟨w9.heap.size, 0, none⟩) (Nat.le_refl _) (.int .i64 un)).setCell (p := ⟨w9.heap.size, 1, none⟩) (Nat.le_refl _) (.int .i64 ud)) (.cells #[.int .i64 un, .int .i64 ud] 43)
                                      have HNW := Lib.hid (And.intro bN hwN)
                                      clear bN hwN MST2 HY6 HRET
                                      go_wp2
                                      go_roundw
                                      case rel => exact ⟨k + 1, un, ud, by omega, by go_num, Lib.hid ⟨HNV.out, HNW.out⟩⟩
                                      case measure => simp [intOf]; omega
                                    · have hne : (ue != 0) = true := by simpa using hue
                                      subst hke hre hte
                                      clear hue
                                      go_wp2
                                      go_ret
                                      exact ⟨rfl, HRET.out⟩
                                  · have hne : (te != 0) = true := by simpa using hte
                                    subst hke hre
                                    clear hte
                                    go_wp2
                                    go_ret
                                    exact ⟨rfl, HRET.out⟩
                                · have hne : (re != 0) = true := by simpa using hre
                                  subst hke
                                  clear hre
                                  go_wp2
                                  go_ret
                                  exact ⟨rfl, HRET.out⟩
                              · have hne : (ke != 0) = true := by simpa using hke
                                clear hke
                                go_wp2
                                go_ret
                                exact ⟨rfl, HRET.out⟩
                            · obtain rfl : k = ls.length := by omega
                              have hfin := hg.out.1
                              rw [HMA.out HX0.out] at hfin
                              obtain ⟨rfl, rfl⟩ := hfin.fin (by have := Sh.D_pos ls ls.length; omega)
                              have hwz := below_step HW9.out.1 hg.out.2.2
                              have s0 := hg.out.2.1.cell 0
                              have s1 := hg.out.2.1.cell 1
                              have p0 := (HW9.out.2.below hg.out.2.2 HW9.out.2.lt).cell 0
                              have c1 := (hwz.cell (p := ⟨bb, off + of * 3 + 1, none⟩) HC.out.1).trans HC.out.2.1
                              have q1 : (fa == fa) = true := by simp
                              have HRET := Lib.hid hwz
                              clear hg hfin hwz
                              go_wp2
                              go_quiet (fail)
                              go_wp2
                              go_ret
                              exact ⟨rfl, by first | exact below_drewN HRET.out _ | exact HRET.out⟩
                        · have hd2 : decide ((0 : Int) < (qs.length : Int)) = true := decide_eq_true (by omega)
                          have hd3 : decide (0 < qs.length) = true := decide_eq_true (by omega)
                          go_wp2
                          go_ret
                          exact ⟨rfl, HW9.out.1⟩
            · go_wp2; go_ret; exact ⟨rfl, HW3.out.1⟩
          · go_wp2; go_ret; exact ⟨rfl, HW3.out.1⟩
        · go_wp2; go_ret; exact ⟨rfl, HW3.out.1⟩
      · go_wp2; go_ret; exact ⟨rfl, HW3.out.1⟩
    · have hne : (E != 0) = true := by simpa using hE
      go_wp2; go_ret; exact ⟨rfl, HW3.out.1⟩
end Go.Proofs.Ytccjbefmcifaeaa
