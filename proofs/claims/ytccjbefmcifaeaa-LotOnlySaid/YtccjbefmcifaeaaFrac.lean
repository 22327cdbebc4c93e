/- How a share compares with a fraction: the program's. -/
import Derived.Test.YtccjbefmcifaeaaCmpN
namespace Go.Proofs.Ytccjbefmcifaeaa
open Go.RowKit

/-- What is held while a share is compared. -/
def StF (w X : World) (BF BR BP s : Nat) (bl : Value) (rn rd p : Nat) : Prop :=
  BlockAt X BF #[wV s 0, wV s 1, wV s 2, wV s 3, wV s 4, wV s 5, wV s 6, wV s 7, bl] 87 ∧ BlockAt X BR #[.int .i64 rn, .int .i64 rd] 43 ∧ BlockAt X BP #[wV p 0, wV p 1, wV p 2, wV p 3, wV p 4, wV p 5, wV p 6, wV p 7] 85 ∧ Below w.heap.size w X
theorem StF.below {w X Y : World} {BF BR BP s rn rd p : Nat} {bl : Value} (h : StF w X BF BR BP s bl rn rd p) (hb : Below X.heap.size X Y) : StF w Y BF BR BP s bl rn rd p :=
  ⟨h.1.below hb h.1.lt, h.2.1.below hb h.2.1.lt, h.2.2.1.below hb h.2.2.1.lt, below_step h.2.2.2 hb⟩
theorem StF.drew {w X : World} {BF BR BP s rn rd p : Nat} {bl : Value} (h : StF w X BF BR BP s bl rn rd p) : StF w X.drew BF BR BP s bl rn rd p :=
  ⟨h.1.drew, h.2.1.drew, h.2.2.1.drew, h.2.2.2.drew⟩
theorem StF.cells {w X : World} {BF BR BP s rn rd p : Nat} {bl : Value} (h : StF w X BF BR BP s bl rn rd p) :
    (X.cell? ⟨BF, 0, none⟩ = some (wV s 0) ∧ X.cell? ⟨BF, 1, none⟩ = some (wV s 1) ∧ X.cell? ⟨BF, 2, none⟩ = some (wV s 2) ∧ X.cell? ⟨BF, 3, none⟩ = some (wV s 3) ∧ X.cell? ⟨BF, 4, none⟩ = some (wV s 4) ∧ X.cell? ⟨BF, 5, none⟩ = some (wV s 5) ∧ X.cell? ⟨BF, 6, none⟩ = some (wV s 6) ∧ X.cell? ⟨BF, 7, none⟩ = some (wV s 7)) ∧
    (X.cell? ⟨BR, 0, none⟩ = some (.int .i64 rn) ∧ X.cell? ⟨BR, 1, none⟩ = some (.int .i64 rd)) ∧
    (X.cell? ⟨BP, 0, none⟩ = some (wV p 0) ∧ X.cell? ⟨BP, 1, none⟩ = some (wV p 1) ∧ X.cell? ⟨BP, 2, none⟩ = some (wV p 2) ∧ X.cell? ⟨BP, 3, none⟩ = some (wV p 3) ∧ X.cell? ⟨BP, 4, none⟩ = some (wV p 4) ∧ X.cell? ⟨BP, 5, none⟩ = some (wV p 5) ∧ X.cell? ⟨BP, 6, none⟩ = some (wV p 6) ∧ X.cell? ⟨BP, 7, none⟩ = some (wV p 7)) :=
  ⟨⟨h.1.cell 0, h.1.cell 1, h.1.cell 2, h.1.cell 3, h.1.cell 4, h.1.cell 5, h.1.cell 6, h.1.cell 7⟩, ⟨h.2.1.cell 0, h.2.1.cell 1⟩, ⟨h.2.2.1.cell 0, h.2.2.1.cell 1, h.2.2.1.cell 2, h.2.2.1.cell 3, h.2.2.1.cell 4, h.2.2.1.cell 5, h.2.2.1.cell 6, h.2.2.1.cell 7⟩⟩
theorem times_one (n q : Nat) (hq : q < 9223372036854775808) : ∀ b X, BlockAt X b #[.int .i64 q] 3 → Calls Try.prog 96 #[natV n, .slice (some ⟨b, 0, none⟩) 1 1] X fun e w' => e = .returned (natV (n * q)) ∧ Below X.heap.size X w' := by
  intro b X hX
  have := times_any n (.slice (some ⟨b, 0, none⟩) 1 1) [q] X (.inr ⟨b, 0, 1, rfl, Nat.le_refl _, hX.lt, fun k hk => by
    obtain rfl : k = 0 := by simpa using hk
    exact hX.cell 0⟩) (by simp) (fun k hk => by
    obtain rfl : k = 0 := by simpa using hk
    simp; omega)
  simpa [prodL] using this

set_option maxRecDepth 20000 in
set_option maxHeartbeats 2000000 in
theorem fracCompare_any (s : Nat) (v : Value) (fs : List Nat) (rn rd : Nat) (w : World) (hv : Nums w v fs) (hl : fs.length ≤ 1000) (hf : ∀ k, k < fs.length → fs.getD k 0 < 9223372036854775808) (hrn : rn < 9223372036854775808) (hrd : rd < 9223372036854775808)
    (h1 : s * rd < Wd.B ^ 8) (h2 : prodL fs * rn < Wd.B ^ 8) :
    Calls Try.prog 78 #[fracV s v, .agg #[.int .i64 rn, .int .i64 rd]] w fun e w' => e = .returned (.int .i64 (cmpN (s * rd) (prodL fs * rn))) ∧ Below w.heap.size w w' := by
  have bF := (BlockAt.new w #[wV s 0, wV s 1, wV s 2, wV s 3, wV s 4, wV s 5, wV s 6, wV s 7, v] 87).alloc (.cells #[.int .i64 rn, .int .i64 rd] 43)
  have bR := BlockAt.new (w.alloc (.cells #[wV s 0, wV s 1, wV s 2, wV s 3, wV s 4, wV s 5, wV s 6, wV s 7, v] 87)) #[.int .i64 rn, .int .i64 rd] 43
  have hw0 := below_alloc (below_alloc (Below.refl w.heap.size w) (.cells #[wV s 0, wV s 1, wV s 2, wV s 3, wV s 4, wV s 5, wV s 6, wV s 7, v] 87)) (.cells #[.int .i64 rn, .int .i64 rd] 43)
  simp only [World.size_alloc] at bR
  have TM := Lib.hid (times_any 1 v fs _ (hv.all hw0) hl hf)
  rw [Nat.one_mul] at TM
  have TA := Lib.hid (times_one s rd hrd)
  have TB := Lib.hid (times_one (prodL fs) rn hrn)
  have CC := Lib.hid (fun W => natCmp_any (s * rd) (prodL fs * rn) W h1 h2)
  generalize hcv : cmpN (s * rd) (prodL fs * rn) = cv at *
  have HCV := Lib.hid hcv
  generalize s * rd = sa at *
  generalize prodL fs * rn = sb at *
  generalize prodL fs = p at *
  have d0 := bR.cell 0
  have e8 := bF.cell 8
  have hrn0 : ¬ ((rn : Int) < 0) := by omega
  have H0 := Lib.hid (And.intro bF (And.intro bR hw0))
  obtain ⟨a, n, c, rfl⟩ : ∃ a n c, v = .slice a n c := by
    rcases hv with ⟨a, c, h, _⟩ | ⟨b, off, cap, h, _⟩
    · exact ⟨a, 0, c, h⟩
    · exact ⟨_, _, _, h⟩
  clear bF bR hw0 hv hf h1 h2 hrn hrd hcv hl
  go_enter Try.func78, Try.ntmps78
  go_wp2_with fail
  refine TM.out.mono ?_
  rintro e X ⟨rfl, hb1⟩
  obtain ⟨bF, bR, hw0⟩ := H0.out
  have hw1 := below_step hw0 hb1
  have HM := Lib.hid (show StF w (X.alloc (.cells #[wV p 0, wV p 1, wV p 2, wV p 3, wV p 4, wV p 5, wV p 6, wV p 7] 85)) w.heap.size (w.heap.size + 1) X.heap.size s (.slice a n c) rn rd p from
    ⟨(bF.below hb1 bF.lt).alloc _, (bR.below hb1 bR.lt).alloc _, BlockAt.new _ _ _, below_alloc hw1 _⟩)
  clear bF bR hw0 hw1 hb1 H0 TM d0 e8
  go_wp2_with fail
  generalize X.alloc (.cells #[wV p 0, wV p 1, wV p 2, wV p 3, wV p 4, wV p 5, wV p 6, wV p 7] 85) = X0 at *
  generalize X.heap.size = BP at *
  refine wp_region_meet (β := Nat × Nat) (.take 0 (.take 1 (.take 2 (.take 3 (.take 6 (.take 7 (.take 8 (.two 4 (.two 5 (.one 9 (.one 10 (.one 11 (.take 12 .done)))) 9 (.one 5 (.one 10 (.one 11 (.take 12 .done))))) 9 (.one 4 (.one 5 (.one 10 (.one 11 (.take 12 .done)))))))))))))
    (fun W => (W.cell? ⟨w.heap.size, 0, none⟩ = some (wV s 0) ∧ W.cell? ⟨w.heap.size, 1, none⟩ = some (wV s 1) ∧ W.cell? ⟨w.heap.size, 2, none⟩ = some (wV s 2) ∧ W.cell? ⟨w.heap.size, 3, none⟩ = some (wV s 3) ∧ W.cell? ⟨w.heap.size, 4, none⟩ = some (wV s 4) ∧ W.cell? ⟨w.heap.size, 5, none⟩ = some (wV s 5) ∧ W.cell? ⟨w.heap.size, 6, none⟩ = some (wV s 6) ∧ W.cell? ⟨w.heap.size, 7, none⟩ = some (wV s 7)) ∧
      (W.cell? ⟨w.heap.size + 1, 0, none⟩ = some (.int .i64 rn) ∧ W.cell? ⟨w.heap.size + 1, 1, none⟩ = some (.int .i64 rd)) ∧
      (W.cell? ⟨BP, 0, none⟩ = some (wV p 0) ∧ W.cell? ⟨BP, 1, none⟩ = some (wV p 1) ∧ W.cell? ⟨BP, 2, none⟩ = some (wV p 2) ∧ W.cell? ⟨BP, 3, none⟩ = some (wV p 3) ∧ W.cell? ⟨BP, 4, none⟩ = some (wV p 4) ∧ W.cell? ⟨BP, 5, none⟩ = some (wV p 5) ∧ W.cell? ⟨BP, 6, none⟩ = some (wV p 6) ∧ W.cell? ⟨BP, 7, none⟩ = some (wV p 7)))
    (fun x => [(13, .pointer (some ⟨w.heap.size, 0, none⟩)), (14, natV s), (15, .pointer (some ⟨w.heap.size + 1, 1, none⟩)), (16, .int .i64 rd), (17, .slice (some ⟨x.1, 0, none⟩) 1 1), (18, natV sa), (19, natV p), (20, .pointer (some ⟨w.heap.size + 1, 0, none⟩)), (21, .int .i64 rn), (22, .slice (some ⟨x.2, 0, none⟩) 1 1), (23, natV sb), (24, .int .i64 cv), (4, .int .i64 cv)])
    (fun _ Y => StF w Y w.heap.size (w.heap.size + 1) BP s (.slice a n c) rn rd p)
    (by kernel_rfl) (by kernel_rfl) (by kernel_rfl) (by kernel_rfl) HM.out.drew.cells (fun hS => ?_) ?_
  · have HM := Lib.hid (HM.out.drew)
    generalize X0.drew = X1 at *
    clear hS
    repeat (refine SeqT.ld (v := ?_) rfl (by rfl) ?_ ?_; rotate_left; (· intro w hSw; (try dsimp only at hSw); obtain ⟨⟨f0, f1, f2, f3, f4, f5, f6, f7⟩, ⟨r0, r1⟩, p0, p1, p2, p3, p4, p5, p6, p7⟩ := hSw; go_simp; (try with_reducible rfl)); simp only [Act.put, List.setIfInBounds_toArray, List.set_cons_zero, List.set_cons_succ])
    refine ⟨wpOp_stepS rfl (by rfl) (fun K hK => ?_), wpOp_stepS rfl (by rfl) (fun K hK => ?_)⟩
    · go_simp
      obtain ⟨X2, hY⟩ : ∃ Y, X1.alloc (.cells #[.int .i64 (rd : Int)] 3) = Y := ⟨_, rfl⟩
      have hbY : Below X1.heap.size X1 X2 := by rw [← hY]; exact below_alloc (Below.refl _ _) _
      have hN : BlockAt X2 X1.heap.size #[.int .i64 (rd : Int)] 3 := by rw [← hY]; exact BlockAt.new _ _ _
      rw [hY]
      have HM := Lib.hid (HM.out.below hbY)
      generalize X1.heap.size = bA at *
      have HA := Lib.hid hN
      clear hY hbY hN
      try dsimp only
      refine hK.out _ _ HM.out.cells (fun _ => ?_)
      clear hK K
      try simp only [Act.put, List.setIfInBounds_toArray, List.set_cons_zero, List.set_cons_succ]
      refine ⟨wpOp_stepS rfl (by rfl) (fun K hK => ?_), wpOp_stepS rfl (by rfl) (fun K hK => ?_)⟩
      · go_simp
        refine (TA.out bA _ HA.out).mono ?_
        rintro e X3 ⟨rfl, hbY⟩
        have HM := Lib.hid (HM.out.below hbY)
        have HA := Lib.hid (HA.out.below hbY HA.out.lt)
        clear hbY
        try dsimp only
        refine hK.out _ _ HM.out.cells (fun _ => ?_)
        clear hK K
        try simp only [Act.put, List.setIfInBounds_toArray, List.set_cons_zero, List.set_cons_succ]
        refine wpOp_stepS rfl (by rfl) (fun K hK => ?_)
        go_simp
        obtain ⟨X4, hY⟩ : ∃ Y, X3.alloc (.cells #[.int .i64 (rn : Int)] 3) = Y := ⟨_, rfl⟩
        have hbY : Below X3.heap.size X3 X4 := by rw [← hY]; exact below_alloc (Below.refl _ _) _
        have hN : BlockAt X4 X3.heap.size #[.int .i64 (rn : Int)] 3 := by rw [← hY]; exact BlockAt.new _ _ _
        rw [hY]
        have HM := Lib.hid (HM.out.below hbY)
        have HA := Lib.hid (HA.out.below hbY HA.out.lt)
        generalize X3.heap.size = bB at *
        have HB := Lib.hid hN
        clear hY hbY hN
        try dsimp only
        refine hK.out _ _ HM.out.cells (fun _ => ?_)
        clear hK K
        try simp only [Act.put, List.setIfInBounds_toArray, List.set_cons_zero, List.set_cons_succ]
        refine wpOp_stepS rfl (by rfl) (fun K hK => ?_)
        go_simp
        refine (TB.out bB _ HB.out).mono ?_
        rintro e X5 ⟨rfl, hbY⟩
        have HM := Lib.hid (HM.out.below hbY)
        have HA := Lib.hid (HA.out.below hbY HA.out.lt)
        have HB := Lib.hid (HB.out.below hbY HB.out.lt)
        clear hbY
        try dsimp only
        refine hK.out _ _ HM.out.cells (fun _ => ?_)
        clear hK K
        try simp only [Act.put, List.setIfInBounds_toArray, List.set_cons_zero, List.set_cons_succ]
        refine wpOp_stepS rfl (by rfl) (fun K hK => ?_)
        go_simp
        refine (CC.out _).mono ?_
        rintro e X6 ⟨rfl, hbY⟩
        have HM := Lib.hid (HM.out.below hbY)
        have HA := Lib.hid (HA.out.below hbY HA.out.lt)
        have HB := Lib.hid (HB.out.below hbY HB.out.lt)
        clear hbY
        try dsimp only
        refine hK.out _ _ HM.out.cells (fun _ => ?_)
        clear hK K
        try simp only [Act.put, List.setIfInBounds_toArray, List.set_cons_zero, List.set_cons_succ]
        repeat (refine SeqT.ld (v := ?_) rfl (by rfl) ?_ ?_; rotate_left; (· intro w hSw; (try dsimp only at hSw); obtain ⟨⟨f0, f1, f2, f3, f4, f5, f6, f7⟩, ⟨r0, r1⟩, p0, p1, p2, p3, p4, p5, p6, p7⟩ := hSw; go_simp; (try with_reducible rfl)); simp only [Act.put, List.setIfInBounds_toArray, List.set_cons_zero, List.set_cons_succ])
        exact SeqT.fin ⟨rfl, ⟨bA, bB⟩, by simp only [putAll, Act.put, List.setIfInBounds_toArray, List.set_cons_zero, List.set_cons_succ], HM.out⟩
      · go_simp
        obtain ⟨X3, hY⟩ : ∃ Y, X2.alloc (.cells #[.int .i64 (rn : Int)] 3) = Y := ⟨_, rfl⟩
        have hbY : Below X2.heap.size X2 X3 := by rw [← hY]; exact below_alloc (Below.refl _ _) _
        have hN : BlockAt X3 X2.heap.size #[.int .i64 (rn : Int)] 3 := by rw [← hY]; exact BlockAt.new _ _ _
        rw [hY]
        have HM := Lib.hid (HM.out.below hbY)
        have HA := Lib.hid (HA.out.below hbY HA.out.lt)
        generalize X2.heap.size = bB at *
        have HB := Lib.hid hN
        clear hY hbY hN
        try dsimp only
        refine hK.out _ _ HM.out.cells (fun _ => ?_)
        clear hK K
        try simp only [Act.put, List.setIfInBounds_toArray, List.set_cons_zero, List.set_cons_succ]
        refine wpOp_stepS rfl (by rfl) (fun K hK => ?_)
        go_simp
        refine (TA.out bA _ HA.out).mono ?_
        rintro e X4 ⟨rfl, hbY⟩
        have HM := Lib.hid (HM.out.below hbY)
        have HA := Lib.hid (HA.out.below hbY HA.out.lt)
        have HB := Lib.hid (HB.out.below hbY HB.out.lt)
        clear hbY
        try dsimp only
        refine hK.out _ _ HM.out.cells (fun _ => ?_)
        clear hK K
        try simp only [Act.put, List.setIfInBounds_toArray, List.set_cons_zero, List.set_cons_succ]
        refine wpOp_stepS rfl (by rfl) (fun K hK => ?_)
        go_simp
        refine (TB.out bB _ HB.out).mono ?_
        rintro e X5 ⟨rfl, hbY⟩
        have HM := Lib.hid (HM.out.below hbY)
        have HA := Lib.hid (HA.out.below hbY HA.out.lt)
        have HB := Lib.hid (HB.out.below hbY HB.out.lt)
        clear hbY
        try dsimp only
        refine hK.out _ _ HM.out.cells (fun _ => ?_)
        clear hK K
        try simp only [Act.put, List.setIfInBounds_toArray, List.set_cons_zero, List.set_cons_succ]
        refine wpOp_stepS rfl (by rfl) (fun K hK => ?_)
        go_simp
        refine (CC.out _).mono ?_
        rintro e X6 ⟨rfl, hbY⟩
        have HM := Lib.hid (HM.out.below hbY)
        have HA := Lib.hid (HA.out.below hbY HA.out.lt)
        have HB := Lib.hid (HB.out.below hbY HB.out.lt)
        clear hbY
        try dsimp only
        refine hK.out _ _ HM.out.cells (fun _ => ?_)
        clear hK K
        try simp only [Act.put, List.setIfInBounds_toArray, List.set_cons_zero, List.set_cons_succ]
        repeat (refine SeqT.ld (v := ?_) rfl (by rfl) ?_ ?_; rotate_left; (· intro w hSw; (try dsimp only at hSw); obtain ⟨⟨f0, f1, f2, f3, f4, f5, f6, f7⟩, ⟨r0, r1⟩, p0, p1, p2, p3, p4, p5, p6, p7⟩ := hSw; go_simp; (try with_reducible rfl)); simp only [Act.put, List.setIfInBounds_toArray, List.set_cons_zero, List.set_cons_succ])
        exact SeqT.fin ⟨rfl, ⟨bA, bB⟩, by simp only [putAll, Act.put, List.setIfInBounds_toArray, List.set_cons_zero, List.set_cons_succ], HM.out⟩
    · go_simp
      obtain ⟨X2, hY⟩ : ∃ Y, X1.alloc (.cells #[.int .i64 (rn : Int)] 3) = Y := ⟨_, rfl⟩
      have hbY : Below X1.heap.size X1 X2 := by rw [← hY]; exact below_alloc (Below.refl _ _) _
      have hN : BlockAt X2 X1.heap.size #[.int .i64 (rn : Int)] 3 := by rw [← hY]; exact BlockAt.new _ _ _
      rw [hY]
      have HM := Lib.hid (HM.out.below hbY)
      generalize X1.heap.size = bB at *
      have HB := Lib.hid hN
      clear hY hbY hN
      try dsimp only
      refine hK.out _ _ HM.out.cells (fun _ => ?_)
      clear hK K
      try simp only [Act.put, List.setIfInBounds_toArray, List.set_cons_zero, List.set_cons_succ]
      refine wpOp_stepS rfl (by rfl) (fun K hK => ?_)
      go_simp
      obtain ⟨X3, hY⟩ : ∃ Y, X2.alloc (.cells #[.int .i64 (rd : Int)] 3) = Y := ⟨_, rfl⟩
      have hbY : Below X2.heap.size X2 X3 := by rw [← hY]; exact below_alloc (Below.refl _ _) _
      have hN : BlockAt X3 X2.heap.size #[.int .i64 (rd : Int)] 3 := by rw [← hY]; exact BlockAt.new _ _ _
      rw [hY]
      have HM := Lib.hid (HM.out.below hbY)
      have HB := Lib.hid (HB.out.below hbY HB.out.lt)
      generalize X2.heap.size = bA at *
      have HA := Lib.hid hN
      clear hY hbY hN
      try dsimp only
      refine hK.out _ _ HM.out.cells (fun _ => ?_)
      clear hK K
      try simp only [Act.put, List.setIfInBounds_toArray, List.set_cons_zero, List.set_cons_succ]
      refine wpOp_stepS rfl (by rfl) (fun K hK => ?_)
      go_simp
      refine (TA.out bA _ HA.out).mono ?_
      rintro e X4 ⟨rfl, hbY⟩
      have HM := Lib.hid (HM.out.below hbY)
      have HB := Lib.hid (HB.out.below hbY HB.out.lt)
      have HA := Lib.hid (HA.out.below hbY HA.out.lt)
      clear hbY
      try dsimp only
      refine hK.out _ _ HM.out.cells (fun _ => ?_)
      clear hK K
      try simp only [Act.put, List.setIfInBounds_toArray, List.set_cons_zero, List.set_cons_succ]
      refine wpOp_stepS rfl (by rfl) (fun K hK => ?_)
      go_simp
      refine (TB.out bB _ HB.out).mono ?_
      rintro e X5 ⟨rfl, hbY⟩
      have HM := Lib.hid (HM.out.below hbY)
      have HB := Lib.hid (HB.out.below hbY HB.out.lt)
      have HA := Lib.hid (HA.out.below hbY HA.out.lt)
      clear hbY
      try dsimp only
      refine hK.out _ _ HM.out.cells (fun _ => ?_)
      clear hK K
      try simp only [Act.put, List.setIfInBounds_toArray, List.set_cons_zero, List.set_cons_succ]
      refine wpOp_stepS rfl (by rfl) (fun K hK => ?_)
      go_simp
      refine (CC.out _).mono ?_
      rintro e X6 ⟨rfl, hbY⟩
      have HM := Lib.hid (HM.out.below hbY)
      have HB := Lib.hid (HB.out.below hbY HB.out.lt)
      have HA := Lib.hid (HA.out.below hbY HA.out.lt)
      clear hbY
      try dsimp only
      refine hK.out _ _ HM.out.cells (fun _ => ?_)
      clear hK K
      try simp only [Act.put, List.setIfInBounds_toArray, List.set_cons_zero, List.set_cons_succ]
      repeat (refine SeqT.ld (v := ?_) rfl (by rfl) ?_ ?_; rotate_left; (· intro w hSw; (try dsimp only at hSw); obtain ⟨⟨f0, f1, f2, f3, f4, f5, f6, f7⟩, ⟨r0, r1⟩, p0, p1, p2, p3, p4, p5, p6, p7⟩ := hSw; go_simp; (try with_reducible rfl)); simp only [Act.put, List.setIfInBounds_toArray, List.set_cons_zero, List.set_cons_succ])
      exact SeqT.fin ⟨rfl, ⟨bA, bB⟩, by simp only [putAll, Act.put, List.setIfInBounds_toArray, List.set_cons_zero, List.set_cons_succ], HM.out⟩
  · rintro x Y hY
    have hw := hY.2.2.2
    clear hY HM
    simp only [putAll, Act.put, List.setIfInBounds_toArray, List.set_cons_zero, List.set_cons_succ]
    go_wp2
    go_ret
    exact ⟨rfl, hw⟩
end Go.Proofs.Ytccjbefmcifaeaa
