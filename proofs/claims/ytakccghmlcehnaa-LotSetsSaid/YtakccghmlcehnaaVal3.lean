/- Whether a lot keeps the rule, and its first error: the program's. -/
import Derived.Test.YtakccghmlcehnaaVal2
namespace Go.Proofs.Ytakccghmlcehnaa
open Go.RowKit

def lot3 (W : World) (B : Nat) (k m : Int) (u : Value) : Prop := W.cell? ⟨B, 0, none⟩ = some (.int .i64 k) ∧ W.cell? ⟨B, 1, none⟩ = some (.int .i64 m) ∧ W.cell? ⟨B, 2, none⟩ = some u

set_option maxRecDepth 20000 in
set_option maxHeartbeats 1000000 in
theorem keepsRule_any (v : Value) (ls : List Lt.L) (x : Lt.L) (u : Value) (w : World) (hv : Lots w v ls) (hl : ls.length ≤ 1000) (hp : Parts w u x.ps) (ht : tame x.ps) (hin : ∀ p ∈ x.ps, 0 ≤ p.l ∧ p.l < ls.length) :
    Calls Try.prog 92 #[v, lotV x u] w fun e w' => e = .returned (.bool (Lt.ruleOk ls x)) ∧ Below w.heap.size w w' := by
  obtain ⟨kk, mm, ps⟩ := x
  dsimp only at hp ht hin ⊢
  obtain ⟨a, c, rfl⟩ := hp.form
  obtain ⟨la, lc, rfl⟩ := hv.form
  have hlen := ht.1
  have hb1 := below_alloc (Below.refl w.heap.size w) (.cells #[.slice la ls.length lc] 22)
  have hb2 := below_alloc hb1 (.cells #[.int .i64 kk, .int .i64 mm, .slice a ps.length c] 25)
  have RC := Lib.hid (received_any ⟨kk, mm, ps⟩ a c ((w.alloc (.cells #[.slice la ls.length lc] 22)).alloc (.cells #[.int .i64 kk, .int .i64 mm, .slice a ps.length c] 25)) (by dsimp only; omega))
  have bL := (BlockAt.new w #[.slice la ls.length lc] 22).alloc (.cells #[.int .i64 kk, .int .i64 mm, .slice a ps.length c] 25)
  have bX := BlockAt.new (w.alloc (.cells #[.slice la ls.length lc] 22)) #[.int .i64 kk, .int .i64 mm, .slice a ps.length c] 25
  simp only [World.size_alloc] at bX
  have HB := Lib.hid (And.intro hb2 (And.intro bL bX))
  have HPV := Lib.hid (And.intro hp (And.intro ht (And.intro hin hv)))
  clear hb1 hb2 bL bX hp ht hin hv
  dsimp only at RC
  by_cases h0 : ps.length = 0
  · have hd : decide (ps.length = 0) = true := by simpa using h0
    have HR : Hid (Lt.ruleOk ls ⟨kk, mm, ps⟩ = (!(kk == 5) && !(kk == 6) && !(kk == 7))) := Lib.hid (by unfold Lt.ruleOk; dsimp only; rw [if_pos h0])
    rw [hd] at RC
    clear h0 hd
    have goal2 : ∀ b5 b6 b7 : Bool, (kk == 5) = b5 → (kk == 6) = b6 → (kk == 7) = b7 → Lt.ruleOk ls ⟨kk, mm, ps⟩ = (!b5 && !b6 && !b7) := fun b5 b6 b7 h1 h2 h3 => by rw [HR.out, h1, h2, h3]
    have G := Lib.hid goal2
    clear goal2 HR
    by_cases k5 : kk = 5
    · have e5 : (kk == 5) = true := by simp [k5]
      have e6 : (kk == 6) = false := by simp; omega
      have e7 : (kk == 7) = false := by simp; omega
      have HG := Lib.hid (G.out _ _ _ e5 e6 e7)
      subst k5
      clear G e5 e6 e7
      go_enter Try.func92, Try.ntmps92
      go_wp2_with fail
      refine RC.out.mono ?_
      rintro e w1 ⟨rfl, hb1⟩
      obtain ⟨hb2, bL, bX⟩ := HB.out
      have bX := bX.below hb1 bX.lt
      have c0 := bX.cell 0
      have hb := below_step hb2 hb1
      clear HB hb2 bL bX hb1
      go_wp2
      go_ret
      exact ⟨ret_bool (by rw [HG.out]; rfl), hb⟩
    · by_cases k6 : kk = 6
      · have e5 : (kk == 5) = false := by simp; omega
        have e6 : (kk == 6) = true := by simp [k6]
        have e7 : (kk == 7) = false := by simp; omega
        have HG := Lib.hid (G.out _ _ _ e5 e6 e7)
        subst k6
        clear G e5 e6 e7
        go_enter Try.func92, Try.ntmps92
        go_wp2_with fail
        refine RC.out.mono ?_
        rintro e w1 ⟨rfl, hb1⟩
        obtain ⟨hb2, bL, bX⟩ := HB.out
        have bX := bX.below hb1 bX.lt
        have c0 := bX.cell 0
        have hb := below_step hb2 hb1
        clear HB hb2 bL bX hb1
        go_wp2
        go_ret
        exact ⟨ret_bool (by rw [HG.out]; rfl), hb⟩
      · have e5 : (kk == 5) = false := by simp; omega
        have e6 : (kk == 6) = false := by simp; omega
        cases e7 : (kk == 7)
        all_goals
          have HG := Lib.hid (G.out _ _ _ e5 e6 e7)
          have e7' : (kk != 7) = !(kk == 7) := rfl
          rw [e7] at e7'
          have e5' : (kk != 5) = true := by simp; omega
          have e6' : (kk != 6) = true := by simp; omega
          clear G e5 e6 e7 k5 k6
          go_enter Try.func92, Try.ntmps92
          go_wp2_with fail
          refine RC.out.mono ?_
          rintro e w1 ⟨rfl, hb1⟩
          obtain ⟨hb2, bL, bX⟩ := HB.out
          have bX := bX.below hb1 bX.lt
          have c0 := bX.cell 0
          have hb := below_step hb2 hb1
          clear HB hb2 bL bX hb1
          go_wp2
          go_ret
          exact ⟨ret_bool (by rw [HG.out]; rfl), hb⟩
  · have hd : decide (ps.length = 0) = false := by simpa using h0
    have HR : Hid (Lt.ruleOk ls ⟨kk, mm, ps⟩ = (decide (mm ≤ Lt.takes ps) || (kk == 5 && Lt.oil ls ps))) := Lib.hid (by unfold Lt.ruleOk; dsimp only; rw [if_neg h0])
    rw [hd] at RC
    clear h0 hd
    go_enter Try.func92, Try.ntmps92
    go_wp2_with fail
    refine RC.out.mono ?_
    rintro e w1 ⟨rfl, hb1⟩
    obtain ⟨hb2, bL, bX⟩ := HB.out
    have bX := bX.below hb1 bX.lt
    have bL := bL.below hb1 bL.lt
    have hb := below_step hb2 hb1
    have hS0 : lot3 w1.drew (w.heap.size + 1) kk mm (.slice a ps.length c) := ⟨bX.cell 0, bX.cell 1, bX.cell 2⟩
    have HB := Lib.hid (And.intro hb (And.intro bL bX))
    clear hb2 bL bX hb1 hb RC
    go_wp2_with fail
    refine wp_region_seq [(0, true), (1, true), (2, true), (3, false), (4, true)] (fun W => lot3 W (w.heap.size + 1) kk mm (.slice a ps.length c))
      (by kernel_rfl) (by kernel_rfl) (by kernel_rfl) (by kernel_rfl) (fun d _ _ _ _ h => by cases d <;> exact h) hS0 (fun hS => ?_)
    clear hS0
    repeat (refine SeqH.take (v := ?_) rfl (by rfl) ?_ ?_; rotate_left; (· intro w hSw; (try dsimp only at hSw); obtain ⟨q0, q1, q2⟩ := hSw; go_simp; (try with_reducible rfl)); simp only [Act.put, List.setIfInBounds_toArray, List.set_cons_zero, List.set_cons_succ])
    refine SeqH.step rfl (by rfl) (fun K hK => ?_)
    go_simp
    obtain ⟨hb, bL, bX⟩ := HB.out
    obtain ⟨hp, ht, hin, hv⟩ := HPV.out
    refine (taken_any ⟨kk, mm, ps⟩ (.slice a ps.length c) w1.drew (hp.all hb.drew) ht).mono ?_
    rintro e w2 ⟨rfl, hb2⟩
    dsimp only at *
    have bX := bX.drew.below hb2 bX.lt
    have bL := bL.drew.below hb2 bL.lt
    have hb := below_step hb.drew hb2
    have hSn : lot3 w2 (w.heap.size + 1) kk mm (.slice a ps.length c) := ⟨bX.cell 0, bX.cell 1, bX.cell 2⟩
    refine hK.out _ _ hSn (fun _ => ?_)
    clear hK K hSn hS hb2
    try simp only [Act.put, List.setIfInBounds_toArray, List.set_cons_zero, List.set_cons_succ]
    repeat (refine SeqH.take (v := ?_) rfl (by rfl) ?_ ?_; rotate_left; (· intro w hSw; (try dsimp only at hSw); go_simp; (try with_reducible rfl)); simp only [Act.put, List.setIfInBounds_toArray, List.set_cons_zero, List.set_cons_succ])
    refine SeqH.done ?_
    have c0 := bX.cell 0
    have c2 := bX.cell 2
    have CO := Lib.hid (containsOil_any (.slice a ps.length c) ps w.heap.size (.slice la ls.length lc) ls w2 (hp.all hb) (by omega) hin (bL.cell 0) bL.lt (hv.all hb) hl)
    have HBB := Lib.hid hb
    clear bL bX hb hp ht hin hv HB HPV
    by_cases hm : mm ≤ Lt.takes ps
    · have HM := Lib.hid hm
      go_wp2
      go_ret
      exact ⟨ret_bool (by rw [HR.out, decide_eq_true HM.out]; simp), HBB.out⟩
    · have HM := Lib.hid hm
      by_cases k5 : kk = 5
      · subst k5
        go_wp2_with fail
        refine CO.out.mono ?_
        rintro e w3 ⟨rfl, hb3⟩
        go_wp2
        go_ret
        exact ⟨ret_bool (by rw [HR.out, decide_eq_false (show ¬ mm ≤ Lt.takes ps from by have := HM.out; omega)]; simp), below_step HBB.out hb3⟩
      · have e5 : (kk == 5) = false := by simp; omega
        have HE5 := Lib.hid e5
        go_wp2
        go_ret
        exact ⟨ret_bool (by rw [HR.out, HE5.out, decide_eq_false (show ¬ mm ≤ Lt.takes ps from by have := HM.out; omega)]; simp), HBB.out⟩
end Go.Proofs.Ytakccghmlcehnaa
