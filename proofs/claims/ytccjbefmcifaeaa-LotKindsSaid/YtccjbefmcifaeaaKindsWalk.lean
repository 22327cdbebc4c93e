/- LotKinds returns true, whatever the genealogy and the number. -/
import Derived.Test.YtccjbefmcifaeaaKindsN
import Derived.Test.YtccjbefmcifaeaaLong
import Derived.Test.YtccjbefmcifaeaaKnowns
import Derived.Test.YtccjbefmcifaeaaSeq3
import Derived.Deep.QuietTactic
import Derived.BigQuiet
namespace Go.Proofs.Ytccjbefmcifaeaa
open Go.RowKit

theorem sum_boundsK (an ad bn bd : Int) : (-1099511627776 ≤ Fr.sumN an ad bn bd ∧ Fr.sumN an ad bn bd ≤ 1099511627776) ∧ 0 ≤ Fr.sumD an ad bn bd ∧ Fr.sumD an ad bn bd ≤ 1048576 := by
  unfold Fr.sumN Fr.sumD
  split
  · exact ⟨Fr.nu_bound _ _, Fr.de_bound _ _⟩
  · decide
theorem kdE_zero {ls : List Lt.L} {n : Int} (h : kdE ls n = 0) : numE ls [n] = 0 ∧ kOk ls n.toNat = true := by
  unfold kdE at h
  by_cases hz : numE ls [n] = 0
  · rw [if_pos hz] at h
    by_cases hk : kOk ls n.toNat = true
    · exact ⟨hz, hk⟩
    · rw [if_neg hk] at h; cases h
  · rw [if_neg hz] at h; exact absurd h hz
/-- What the law's loop needs of the shares: X is the denominator, F the numerators. -/
theorem kinds_facts (ls : List Lt.L) (n : Int) : (kdE ls n ≠ 0 ∧ kdR ls n = []) ∨ (kdE ls n = 0 ∧ (kdR ls n).length = 8 ∧ ∃ (X : Nat) (F : Nat → Nat), 0 < X ∧ Kd.sm F 8 = X ∧ ∀ k, k < 8 → 0 < ((kdR ls n).getD k (0, 0)).2 ∧ ((kdR ls n).getD k (0, 0)).1 * (X : Int) = ((kdR ls n).getD k (0, 0)).2 * (F k : Int) ∧ (-1099511627776 ≤ ((kdR ls n).getD k (0, 0)).1 ∧ ((kdR ls n).getD k (0, 0)).1 ≤ 1099511627776) ∧ ((kdR ls n).getD k (0, 0)).2 ≤ 1048576) := by
  by_cases h : kdE ls n = 0
  · refine .inr ⟨h, by unfold kdR; rw [if_pos h]; simp, ?_⟩
    obtain ⟨hz, hk⟩ := kdE_zero h
    obtain ⟨h0, h1, h2⟩ := numE_zero hz
    obtain ⟨_, herr, _⟩ := Lt.valE_zero h0
    have hi : n.toNat < ls.length := by omega
    refine ⟨Sh.D ls (n.toNat + 1), fun kd => Sh.S ls (kindO ls kd) n.toNat, Sh.D_pos ls _, Kd.kinds_sum herr _ hi, fun k hk8 => ?_⟩
    have := Kd.kind_val (kOk_at hk hk8) (Sh.S_le (early_of herr) (kindO ls k) n.toNat hi)
    rw [show (kdR ls n).getD k (0, 0) = (kN ls n.toNat k, kD ls n.toNat k) by unfold kdR; rw [if_pos h]; simp [List.getD, hk8]]
    exact this
  · exact .inl ⟨h, by unfold kdR; rw [if_neg h]⟩

set_option maxRecDepth 20000 in
set_option maxHeartbeats 2000000 in
theorem kinds_walk (v : Value) (ls : List Lt.L) (n : Int) (w : World) (hv : Lots w v ls) :
    Calls Try.prog 11 #[v, .int .i64 n] w fun e w' => e = .returned (.bool true) ∧ Below w.heap.size w w' := by
  have L := Lib.hid (long_any v ls _ hv)
  have KN := Lib.hid (fun W => known_any W)
  cases hb : longB ls with
  | true =>
    rw [hb] at L
    clear hb hv
    go_enter Try.func11, Try.ntmps11
    go_wp2_with fail
    refine L.out.mono ?_
    rintro e w1 ⟨rfl, rfl⟩
    go_wp2_with fail
    refine (KN.out _).mono ?_
    rintro e w2 ⟨rfl, hb2⟩
    have h2 := hb2
    go_wp2
    go_ret
    exact ⟨rfl, h2⟩
  | false =>
    rw [hb] at L
    have hsh := (longB_short hb).short
    have C1 := Lib.hid (lotKinds_any v ls n w hv hsh)
    have C2 := Lib.hid (fun W (hW : Below w.heap.size w W) => refKinds_any v ls n W (hv.all hW) hsh)
    have hf := kinds_facts ls n
    obtain ⟨la, lc, rfl⟩ := hv.form
    generalize kdE ls n = E at *
    generalize kdR ls n = R at *
    have q1 : (E != E) = false := by simp
    have q2 : ((R.length : Int) != (R.length : Int)) = false := by simp
    have HF := Lib.hid hf
    clear hb hv hsh hf
    go_enter Try.func11, Try.ntmps11
    go_wp2_with fail
    refine L.out.mono ?_
    rintro e w1 ⟨rfl, rfl⟩
    clear L
    go_wp2_with fail
    refine C1.out.mono ?_
    rintro e w2 ⟨y, rfl, hy, hb2⟩
    have HW := Lib.hid hb2
    have HY := Lib.hid hy
    clear hy hb2 C1
    go_wp2_with fail
    refine (C2.out _ HW.out).mono ?_
    rintro e w3 ⟨z, rfl, hz, hb3⟩
    have HW := Lib.hid (below_step HW.out hb3)
    have HY := Lib.hid (HY.out.all hb3)
    have HZ := Lib.hid hz
    obtain ⟨ya, yc, rfl⟩ := HY.out.form
    obtain ⟨za, zc, rfl⟩ := hz.form
    have H0 := Lib.hid (And.intro (BlockAt.new w3 #[.int .i64 0, .int .i64 1] 43) (below_alloc (Below.refl w3.heap.size w3) (.cells #[.int .i64 0, .int .i64 1] 43)))
    clear hz hb3 C2
    go_wp2
    clear q1 q2
    go_loopw [10, 11] (fun s t wr => ∃ (k : Nat) (ok : Bool) (sa sb : Int), k ≤ R.length ∧ t = .int .i64 k ∧ s = .bool ok ∧ Hid ((-1099511627776 ≤ sa ∧ sa ≤ 1099511627776) ∧ (0 ≤ sb ∧ sb ≤ 1048576) ∧ (∀ (X : Nat) (F : Nat → Nat), 0 < X → ok = true → (∀ k, k < 8 → 0 < (R.getD k (0, 0)).2 ∧ (R.getD k (0, 0)).1 * (X : Int) = (R.getD k (0, 0)).2 * (F k : Int)) → Kd.IsSum sa sb X (Kd.sm F k)) ∧ BlockAt wr w3.heap.size #[.int .i64 sa, .int .i64 sb] 43 ∧ Below w3.heap.size w3 wr)) (fun _ t _ => R.length - (intOf t).toNat)
    case atStart => exact ⟨0, true, 0, 1, Nat.zero_le _, rfl, rfl, Lib.hid ⟨by decide, by decide, fun X F _ _ _ => Kd.IsSum.zero X, H0.out⟩⟩
    case round =>
      obtain ⟨k, ok, sa, sb, hk, rfl, rfl, hg⟩ := hrel
      clear H0
      by_cases hlt : k < R.length
      · obtain ⟨rfl, hR8, X, F, hX, hsm, hFk⟩ : E = 0 ∧ R.length = 8 ∧ ∃ (X : Nat) (F : Nat → Nat), 0 < X ∧ Kd.sm F 8 = X ∧ ∀ k, k < 8 → 0 < (R.getD k (0, 0)).2 ∧ (R.getD k (0, 0)).1 * (X : Int) = (R.getD k (0, 0)).2 * (F k : Int) ∧ (-1099511627776 ≤ (R.getD k (0, 0)).1 ∧ (R.getD k (0, 0)).1 ≤ 1099511627776) ∧ (R.getD k (0, 0)).2 ≤ 1048576 := by
          rcases HF.out with ⟨_, h⟩ | h
          · rw [h] at hlt; simp at hlt
          · exact h
        have HFK := Lib.hid (And.intro hX hFk)
        have hk8 := hFk k (by omega)
        obtain ⟨ab, ac, hya, hab, hac⟩ : ∃ b c, (Value.slice ya R.length yc) = .slice (some ⟨b, 0, none⟩) R.length c ∧ b < w3.heap.size ∧ (w3.cell? ⟨b, k * 2, none⟩ = some (.int .i64 (R.getD k (0, 0)).1) ∧ w3.cell? ⟨b, k * 2 + 1, none⟩ = some (.int .i64 (R.getD k (0, 0)).2)) := by
          rcases HY.out with ⟨_, h⟩ | ⟨b, cap, h1, h2, h3⟩
          · rw [h] at hlt; simp at hlt
          · exact ⟨b, cap, h1, h2, h3 k hlt⟩
        obtain ⟨zb, zc', hza, hzb, hzc⟩ : ∃ b c, (Value.slice za R.length zc) = .slice (some ⟨b, 0, none⟩) R.length c ∧ b < w3.heap.size ∧ (w3.cell? ⟨b, k * 2, none⟩ = some (.int .i64 (R.getD k (0, 0)).1) ∧ w3.cell? ⟨b, k * 2 + 1, none⟩ = some (.int .i64 (R.getD k (0, 0)).2)) := by
          rcases HZ.out with ⟨_, h⟩ | ⟨b, cap, h1, h2, h3⟩
          · rw [h] at hlt; simp at hlt
          · exact ⟨b, cap, h1, h2, h3 k hlt⟩
        simp only [Value.slice.injEq, true_and] at hya hza
        obtain ⟨rfl, rfl⟩ := hya
        obtain ⟨rfl, rfl⟩ := hza
        have x0 := (hg.out.2.2.2.2.cell (p := ⟨ab, k * 2, none⟩) hab).trans hac.1
        have x1 := (hg.out.2.2.2.2.cell (p := ⟨ab, k * 2 + 1, none⟩) hab).trans hac.2
        have y0 := (hg.out.2.2.2.2.cell (p := ⟨zb, k * 2, none⟩) hzb).trans hzc.1
        have y1 := (hg.out.2.2.2.2.cell (p := ⟨zb, k * 2 + 1, none⟩) hzb).trans hzc.2
        generalize hrr : R.getD k (0, 0) = rr at *
        obtain ⟨rn, rd⟩ := rr
        dsimp only at *
        have q1 : (rn != rn) = false := by simp
        have q2 : (rd != rd) = false := by simp
        have q3 : (rn == rn) = true := by simp
        have q4 : (rd == rd) = true := by simp
        have HG := Lib.hid hg.out
        have HAB := Lib.hid (And.intro hab hac)
        clear hg hac hzc hFk
        have HR8 := Lib.hid (And.intro (show k < 8 by omega) hrr)
        have hk9 : k < 8 := by omega
        have hrb := (show (-1099511627776 ≤ rn ∧ rn ≤ 1099511627776) ∧ 0 < rd ∧ rd ≤ 1048576 from ⟨hk8.2.2.1, hk8.1, hk8.2.2.2⟩)
        have AD := Lib.hid (fun W => numAdd_any sa sb rn rd W (by have := HG.out.1; omega) (by have := HG.out.1; omega) (by have := HG.out.2.1; omega) (by have := HG.out.2.1; omega) (by omega) (by omega) (by omega) (by omega))
        have hsb := sum_boundsK sa sb rn rd
        obtain ⟨t1, ht1⟩ : ∃ t1, t1 = Fr.sumN sa sb rn rd := ⟨_, rfl⟩
        obtain ⟨t2, ht2⟩ : ∃ t2, t2 = Fr.sumD sa sb rn rd := ⟨_, rfl⟩
        obtain ⟨te, hte⟩ : ∃ te, te = Fr.sumE sa sb rn rd := ⟨_, rfl⟩
        rw [← ht1, ← ht2] at hsb
        rw [← ht1, ← ht2, ← hte] at AD
        have HT : Hid ((te = 0 → Fr.sumE sa sb rn rd = 0) ∧ t1 = Fr.sumN sa sb rn rd ∧ t2 = Fr.sumD sa sb rn rd ∧ (-1099511627776 ≤ t1 ∧ t1 ≤ 1099511627776) ∧ (0 ≤ t2 ∧ t2 ≤ 1048576)) := Lib.hid ⟨fun h => by rw [← hte]; exact h, ht1, ht2, hsb⟩
        clear hR8 hsm hX hk8 hrr hrb hsb ht1 ht2 hte hab hzb HFK
        go_wp2
        go_quiet (fail)
        obtain ⟨w5, hw5⟩ : ∃ X, X = wr.drewN nq := ⟨_, rfl⟩
        have hdr : Below wr.heap.size wr w5 := by rw [hw5]; exact below_drewN (Below.refl _ _) _
        rw [← hw5]
        have bS5 := HG.out.2.2.2.1.below hdr HG.out.2.2.2.1.lt
        have hw35 := below_step HG.out.2.2.2.2 hdr
        have HS := Lib.hid (And.intro bS5 hw35)
        have HC := Lib.hid (show ∀ W, Below w5.heap.size w5 W → (fun W => W.cell? ⟨w3.heap.size, 0, none⟩ = some (.int .i64 sa) ∧ W.cell? ⟨w3.heap.size, 1, none⟩ = some (.int .i64 sb) ∧ W.cell? ⟨ab, k * 2, none⟩ = some (.int .i64 rn) ∧ W.cell? ⟨ab, k * 2 + 1, none⟩ = some (.int .i64 rd)) W from fun W hW => ⟨(hW.cell (p := ⟨w3.heap.size, 0, none⟩) bS5.lt).trans (bS5.cell 0), (hW.cell (p := ⟨w3.heap.size, 1, none⟩) bS5.lt).trans (bS5.cell 1), (hW.cell (p := ⟨ab, k * 2, none⟩) (Nat.lt_of_lt_of_le HAB.out.1 hw35.size)).trans ((hw35.cell (p := ⟨ab, k * 2, none⟩) HAB.out.1).trans HAB.out.2.1), (hW.cell (p := ⟨ab, k * 2 + 1, none⟩) (Nat.lt_of_lt_of_le HAB.out.1 hw35.size)).trans ((hw35.cell (p := ⟨ab, k * 2 + 1, none⟩) HAB.out.1).trans HAB.out.2.2)⟩)
        clear hw5 hdr bS5 hw35 x0 x1 y0 y1 q1 q2 q3 q4
        go_wp2_with fail
        refine wp_region_meet (β := Nat) (.take 0 (.take 1 (.take 2 (.take 3 (.take 4 (.two 5 (.take 6 (.take 7 (.take 8 (.one 9 (.one 10 (.take 11 .done)))))) 9 (.one 5 (.take 6 (.take 7 (.take 8 (.one 10 (.take 11 .done))))))))))))
          (fun W => W.cell? ⟨w3.heap.size, 0, none⟩ = some (.int .i64 sa) ∧ W.cell? ⟨w3.heap.size, 1, none⟩ = some (.int .i64 sb) ∧ W.cell? ⟨ab, k * 2, none⟩ = some (.int .i64 rn) ∧ W.cell? ⟨ab, k * 2 + 1, none⟩ = some (.int .i64 rd))
          (fun x => [(56, rat sa sb), (57, .slice (some ⟨ab, 0, none⟩) R.length yc), (58, .int .i64 (k : Int)), (59, .pointer (some ⟨ab, k * 2, none⟩)), (60, rat rn rd), (61, .tuple #[rat t1 t2, .int .i64 te]), (55, .tuple #[rat t1 t2, .int .i64 te]), (62, rat t1 t2), (63, .int .i64 te), (12, .pointer (some ⟨x, 0, none⟩)), (13, .int .i64 te)])
          (fun x Y => Below w5.heap.size w5 Y ∧ BlockAt Y x #[.int .i64 t1, .int .i64 t2] 43 ∧ w5.heap.size ≤ x)
          (by kernel_rfl) (by kernel_rfl) (by kernel_rfl) (by kernel_rfl) (HC.out _ (Below.refl w5.heap.size w5).drew) (fun hS => ?_) ?_
        · have HM := Lib.hid ((Below.refl w5.heap.size w5).drew)
          generalize w5.drew = X0 at *
          clear hS
          repeat (refine SeqT.ld (v := ?_) rfl (by rfl) ?_ ?_; rotate_left; (· intro w hSw; (try dsimp only at hSw); (try (obtain ⟨f0, f1, f2, f3⟩ := hSw)); go_simp; (try with_reducible rfl)); simp only [Act.put, List.setIfInBounds_toArray, List.set_cons_zero, List.set_cons_succ])
          refine ⟨wpOp_stepS rfl (by rfl) (fun K hK => ?_), wpOp_stepS rfl (by rfl) (fun K hK => ?_)⟩
          · go_simp
            refine (AD.out _).mono ?_
            rintro e X1 ⟨rfl, hbY⟩
            have HM := Lib.hid (below_step HM.out hbY)
            clear hbY
            try dsimp only
            refine hK.out _ _ (HC.out _ HM.out) (fun _ => ?_)
            clear hK K
            try simp only [Act.put, List.setIfInBounds_toArray, List.set_cons_zero, List.set_cons_succ]
            repeat (refine SeqT.ld (v := ?_) rfl (by rfl) ?_ ?_; rotate_left; (· intro w hSw; (try dsimp only at hSw); (try (obtain ⟨f0, f1, f2, f3⟩ := hSw)); go_simp; (try with_reducible rfl)); simp only [Act.put, List.setIfInBounds_toArray, List.set_cons_zero, List.set_cons_succ])
            refine wpOp_stepS rfl (by rfl) (fun K hK => ?_)
            go_simp
            have hxs5 := HM.out.size
            obtain ⟨X2, hY⟩ : ∃ Y, X1.alloc (.cells #[.int .i64 0, .int .i64 0] 43) = Y := ⟨_, rfl⟩
            have hN : BlockAt X2 X1.heap.size #[.int .i64 0, .int .i64 0] 43 := by rw [← hY]; exact BlockAt.new _ _ _
            have HM := Lib.hid (show Below w5.heap.size w5 X2 by rw [← hY]; exact below_alloc HM.out _)
            rw [hY]
            generalize X1.heap.size = x at *
            have HA := Lib.hid (And.intro hN hxs5)
            clear hY hN hxs5
            try dsimp only
            refine hK.out _ _ (HC.out _ HM.out) (fun _ => ?_)
            clear hK K
            try simp only [Act.put, List.setIfInBounds_toArray, List.set_cons_zero, List.set_cons_succ]
            repeat (refine SeqT.ld (v := ?_) rfl (by rfl) ?_ ?_; rotate_left; (· intro w hSw; (try dsimp only at hSw); (try (obtain ⟨f0, f1, f2, f3⟩ := hSw)); go_simp; (try with_reducible rfl)); simp only [Act.put, List.setIfInBounds_toArray, List.set_cons_zero, List.set_cons_succ])
            refine wpOp_stepS rfl (by rfl) (fun K hK => ?_)
            have d0 := HA.out.1.cell 0
            have d1 := HA.out.1.cell 1
            have e0 := HA.out.1.frozen 0
            have e1' := HA.out.1.frozen 1
            have hxs := HA.out.1.lt
            go_simp
            obtain ⟨X3, hY⟩ : ∃ Y, (X2.setCell ⟨x, 0, none⟩ (.int .i64 t1)).setCell ⟨x, 1, none⟩ (.int .i64 t2) = Y := ⟨_, rfl⟩
            have hN : BlockAt X3 x #[.int .i64 t1, .int .i64 t2] 43 := by rw [← hY]; exact (HA.out.1.set 0 _).set 1 _
            have HM := Lib.hid (show Below w5.heap.size w5 X3 by rw [← hY]; exact (HM.out.setCell (p := ⟨x, 0, none⟩) HA.out.2 _).setCell (p := ⟨x, 1, none⟩) HA.out.2 _)
            rw [hY]
            have HA := Lib.hid (And.intro hN HA.out.2)
            clear hY hN d0 d1 e0 e1' hxs
            try dsimp only
            refine hK.out _ _ (HC.out _ HM.out) (fun _ => ?_)
            clear hK K
            try simp only [Act.put, List.setIfInBounds_toArray, List.set_cons_zero, List.set_cons_succ]
            repeat (refine SeqT.ld (v := ?_) rfl (by rfl) ?_ ?_; rotate_left; (· intro w hSw; (try dsimp only at hSw); (try (obtain ⟨f0, f1, f2, f3⟩ := hSw)); go_simp; (try with_reducible rfl)); simp only [Act.put, List.setIfInBounds_toArray, List.set_cons_zero, List.set_cons_succ])
            exact SeqT.fin ⟨rfl, x, by simp only [putAll, Act.put, List.setIfInBounds_toArray, List.set_cons_zero, List.set_cons_succ], HM.out, HA.out.1, HA.out.2⟩
          · go_simp
            have hxs5 := HM.out.size
            obtain ⟨X1, hY⟩ : ∃ Y, X0.alloc (.cells #[.int .i64 0, .int .i64 0] 43) = Y := ⟨_, rfl⟩
            have hN : BlockAt X1 X0.heap.size #[.int .i64 0, .int .i64 0] 43 := by rw [← hY]; exact BlockAt.new _ _ _
            have HM := Lib.hid (show Below w5.heap.size w5 X1 by rw [← hY]; exact below_alloc HM.out _)
            rw [hY]
            generalize X0.heap.size = x at *
            have HA := Lib.hid (And.intro hN hxs5)
            clear hY hN hxs5
            try dsimp only
            refine hK.out _ _ (HC.out _ HM.out) (fun _ => ?_)
            clear hK K
            try simp only [Act.put, List.setIfInBounds_toArray, List.set_cons_zero, List.set_cons_succ]
            repeat (refine SeqT.ld (v := ?_) rfl (by rfl) ?_ ?_; rotate_left; (· intro w hSw; (try dsimp only at hSw); (try (obtain ⟨f0, f1, f2, f3⟩ := hSw)); go_simp; (try with_reducible rfl)); simp only [Act.put, List.setIfInBounds_toArray, List.set_cons_zero, List.set_cons_succ])
            refine wpOp_stepS rfl (by rfl) (fun K hK => ?_)
            go_simp
            refine (AD.out _).mono ?_
            rintro e X2 ⟨rfl, hbY⟩
            have HM := Lib.hid (below_step HM.out hbY)
            have HA := Lib.hid (And.intro (HA.out.1.below hbY HA.out.1.lt) HA.out.2)
            clear hbY
            try dsimp only
            refine hK.out _ _ (HC.out _ HM.out) (fun _ => ?_)
            clear hK K
            try simp only [Act.put, List.setIfInBounds_toArray, List.set_cons_zero, List.set_cons_succ]
            repeat (refine SeqT.ld (v := ?_) rfl (by rfl) ?_ ?_; rotate_left; (· intro w hSw; (try dsimp only at hSw); (try (obtain ⟨f0, f1, f2, f3⟩ := hSw)); go_simp; (try with_reducible rfl)); simp only [Act.put, List.setIfInBounds_toArray, List.set_cons_zero, List.set_cons_succ])
            refine wpOp_stepS rfl (by rfl) (fun K hK => ?_)
            have d0 := HA.out.1.cell 0
            have d1 := HA.out.1.cell 1
            have e0 := HA.out.1.frozen 0
            have e1' := HA.out.1.frozen 1
            have hxs := HA.out.1.lt
            go_simp
            obtain ⟨X3, hY⟩ : ∃ Y, (X2.setCell ⟨x, 0, none⟩ (.int .i64 t1)).setCell ⟨x, 1, none⟩ (.int .i64 t2) = Y := ⟨_, rfl⟩
            have hN : BlockAt X3 x #[.int .i64 t1, .int .i64 t2] 43 := by rw [← hY]; exact (HA.out.1.set 0 _).set 1 _
            have HM := Lib.hid (show Below w5.heap.size w5 X3 by rw [← hY]; exact (HM.out.setCell (p := ⟨x, 0, none⟩) HA.out.2 _).setCell (p := ⟨x, 1, none⟩) HA.out.2 _)
            rw [hY]
            have HA := Lib.hid (And.intro hN HA.out.2)
            clear hY hN d0 d1 e0 e1' hxs
            try dsimp only
            refine hK.out _ _ (HC.out _ HM.out) (fun _ => ?_)
            clear hK K
            try simp only [Act.put, List.setIfInBounds_toArray, List.set_cons_zero, List.set_cons_succ]
            repeat (refine SeqT.ld (v := ?_) rfl (by rfl) ?_ ?_; rotate_left; (· intro w hSw; (try dsimp only at hSw); (try (obtain ⟨f0, f1, f2, f3⟩ := hSw)); go_simp; (try with_reducible rfl)); simp only [Act.put, List.setIfInBounds_toArray, List.set_cons_zero, List.set_cons_succ])
            exact SeqT.fin ⟨rfl, x, by simp only [putAll, Act.put, List.setIfInBounds_toArray, List.set_cons_zero, List.set_cons_succ], HM.out, HA.out.1, HA.out.2⟩
        · intro x X hF
          have HM := Lib.hid hF.1
          have HA := Lib.hid hF.2
          clear hF
          simp only [putAll, Act.put, List.setIfInBounds_toArray, List.set_cons_zero, List.set_cons_succ]
          have bS := HS.out.1.below HM.out HS.out.1.lt
          have hwX := below_step HS.out.2 HM.out
          have bA := HA.out.1
          have hxne : w3.heap.size ≠ x := by have := HS.out.1.lt; have := HA.out.2; omega
          cases ok with
          | false =>
            have HN := Lib.hid (And.intro bS hwX)
            clear HC HM HS bS hwX bA HA
            go_wp2
            go_roundw
            case rel => exact ⟨k + 1, false, sa, sb, by omega, by go_num, rfl, Lib.hid ⟨HG.out.1, HG.out.2.1, (fun X F _ h _ => by cases h), HN.out.1, HN.out.2⟩⟩
            case measure => simp [intOf]; omega
          | true =>
            by_cases hte : te = 0
            · subst hte
              have x0 := bA.cell 0
              have x1 := bA.cell 1
              have s0 := bS.cell 0
              have s1 := bS.cell 1
              have g0 := bS.frozen 0
              have g1 := bS.frozen 1
              have hsl := bS.lt
              have bS2 := (bS.set 0 (.int .i64 t1)).set 1 (.int .i64 t2)
              have hwX2 := (hwX.setCell (p := ⟨w3.heap.size, 0, none⟩) (Nat.le_refl _) (.int .i64 t1)).setCell (p := ⟨w3.heap.size, 1, none⟩) (Nat.le_refl _) (.int .i64 t2)
              have HN := Lib.hid (And.intro bS2 hwX2)
              clear HC HM HS bS hwX bA HA bS2 hwX2
              go_wp2
              go_roundw
              case rel => exact ⟨k + 1, true, t1, t2, by omega, by go_num, rfl, Lib.hid ⟨HT.out.2.2.2.1, HT.out.2.2.2.2, fun X F hX _ hF => by
                have hk := hF k HR8.out.1
                rw [HR8.out.2] at hk
                have := (HG.out.2.2.1 X F hX rfl hF).step hk.1 hk.2 (HT.out.1 rfl)
                rw [HT.out.2.1, HT.out.2.2.1]
                exact this, HN.out.1, HN.out.2⟩⟩
              case measure => simp [intOf]; omega
            · have hteb : (te == 0) = false := by simpa using hte
              have HN := Lib.hid (And.intro bS hwX)
              clear HC HM HS bS hwX bA HA hte
              go_wp2
              go_roundw
              case rel => exact ⟨k + 1, false, sa, sb, by omega, by go_num, rfl, Lib.hid ⟨HG.out.1, HG.out.2.1, (fun X F _ h _ => by cases h), HN.out.1, HN.out.2⟩⟩
              case measure => simp [intOf]; omega
      · obtain rfl : k = R.length := by omega
        have HWF := Lib.hid (below_step HW.out hg.out.2.2.2.2)
        have bS := hg.out.2.2.2.1
        have s0 := bS.cell 0
        have s1 := bS.cell 1
        by_cases hE : E = 0
        · cases ok with
          | false =>
            subst hE
            clear hg bS HF
            go_wp2_with fail
            refine (KN.out _).mono ?_
            rintro e w9 ⟨rfl, hb9⟩
            have h9 := below_step HWF.out hb9
            go_wp2
            go_ret
            exact ⟨rfl, h9⟩
          | true =>
            obtain ⟨rfl, rfl⟩ : sa = 1 ∧ sb = 1 := by
              rcases HF.out with ⟨h, _⟩ | ⟨_, hR8, X, F, hX, hsm, hFk⟩
              · exact absurd hE h
              · have := hg.out.2.2.1 X F hX rfl (fun k hk => ⟨(hFk k hk).1, (hFk k hk).2.1⟩)
                rw [hR8, hsm] at this
                exact this.fin hX
            subst hE
            clear hg bS HF
            go_wp2_with fail
            refine (KN.out _).mono ?_
            rintro e w9 ⟨rfl, hb9⟩
            have h9 := below_step HWF.out hb9
            go_wp2
            go_ret
            exact ⟨rfl, h9⟩
        · have hne : (E != 0) = true := by simpa using hE
          clear hg bS HF hE
          go_wp2_with fail
          refine (KN.out _).mono ?_
          rintro e w9 ⟨rfl, hb9⟩
          have h9 := below_step HWF.out hb9
          go_wp2
          go_ret
          exact ⟨rfl, h9⟩
end Go.Proofs.Ytccjbefmcifaeaa
