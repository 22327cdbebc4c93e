/- LoftProofs returns true, whatever the lofts, the goods and the window. -/
import Derived.Test.YtabfcnfddemblaaLf31
import Derived.Test.YtabfcnfddemblaaLfS
namespace Go.Proofs.Ytabfcnfddemblaa.Lo
open Go.RowKit

abbrev FirmT : TypeId := 74
abbrev SpanT : TypeId := 89
set_option maxRecDepth 100000 in
set_option maxHeartbeats 2000000 in
theorem large_nil (ua va : Option Addr) (n m : Nat) (uc vc : Nat) (w : World) : Calls Try.prog 43 #[.agg #[.slice ua n uc, .slice va m vc], .slice none 0 0] w fun e w' => e = .returned (.bool (decide (10 < n) || decide (20 < m))) ∧ Below w.heap.size w w' := by
  have HX := Lib.hid (And.intro (BlockAt.new w #[.slice ua n uc, .slice va m vc] FirmT) (below_alloc2 (Below.refl w.heap.size w) (.cells #[.slice ua n uc, .slice va m vc] FirmT)))
  have x0 : World.cell? _ _ = some (.slice ua n uc) := HX.out.1.cell 0
  have x1 : World.cell? _ _ = some (.slice va m vc) := HX.out.1.cell 1
  by_cases h1 : 10 < n
  · have d1 : decide ((n : Int) > 10) = true := decide_eq_true (by omega)
    have d2 : decide (10 < (n : Int)) = true := decide_eq_true (by omega)
    have d3 : decide (10 < n) = true := decide_eq_true h1
    rw [d3, Bool.true_or]
    go_enter Try.func43, Try.ntmps43
    go_wp2
    go_ret
    exact ⟨rfl, HX.out.2⟩
  have d1 : decide ((n : Int) > 10) = false := decide_eq_false (by omega)
  have d2 : decide (10 < (n : Int)) = false := decide_eq_false (by omega)
  have d3 : decide (10 < n) = false := decide_eq_false h1
  rw [d3, Bool.false_or]
  by_cases h2 : 20 < m
  · have d4 : decide ((m : Int) > 20) = true := decide_eq_true (by omega)
    have d5 : decide (20 < (m : Int)) = true := decide_eq_true (by omega)
    have d6 : decide (20 < m) = true := decide_eq_true h2
    rw [d6]
    go_enter Try.func43, Try.ntmps43
    go_wp2
    go_ret
    exact ⟨rfl, HX.out.2⟩
  have d4 : decide ((m : Int) > 20) = false := decide_eq_false (by omega)
  have d5 : decide (20 < (m : Int)) = false := decide_eq_false (by omega)
  have d6 : decide (20 < m) = false := decide_eq_false h2
  rw [d6]
  go_enter Try.func43, Try.ntmps43
  go_wp2
  clear x0 x1
  go_loopw [5] (fun t wr => t = .int .i64 0 ∧ Hid (Below w.heap.size w wr)) (fun _ _ => 0)
  case atStart => exact ⟨rfl, Lib.hid HX.out.2⟩
  case round =>
    obtain ⟨rfl, hg⟩ := hrel
    go_wp2
    go_ret
    exact ⟨rfl, hg.out⟩
/-- What lies in memory while the law looks at proofs. -/
def LPS (w : World) (u v : Value) (a b : Int) (W : World) : Prop := BlockAt W w.heap.size #[u, v] FirmT ∧ BlockAt W (w.heap.size + 1) (winA a b) SpanT ∧ Below w.heap.size w W
theorem LPS.step {w : World} {u v : Value} {a b : Int} {W W2 : World} (h : LPS w u v a b W) (hb : Below W.heap.size W W2) : LPS w u v a b W2 := ⟨h.1.below hb h.1.lt, h.2.1.below hb h.2.1.lt, below_step h.2.2 hb⟩
theorem LPS.al {w : World} {u v : Value} {a b : Int} {W : World} (h : LPS w u v a b W) (o : Obj) : LPS w u v a b (W.alloc o) := ⟨h.1.alloc o, h.2.1.alloc o, below_alloc2 h.2.2 o⟩
theorem LPS.drew {w : World} {u v : Value} {a b : Int} {W : World} (h : LPS w u v a b W) : LPS w u v a b W.drew := ⟨h.1.drew, h.2.1.drew, below_drewN h.2.2 1⟩
set_option maxRecDepth 100000 in
set_option maxHeartbeats 8000000 in
theorem proofs_walk (u v : Value) (ls : List Lf.F) (gs : List Lf.G) (a b : Int) (w : World) (hu : Lofts w u ls) (hv : Goods w v gs) :
    Calls Try.prog 12 #[.agg #[u, v], winV a b] w fun e w' => e = .returned (.bool true) ∧ Below w.heap.size w w' := by
  have CA := Lib.hid (fun W (hW : Below w.heap.size w W) => proveF_any u v ls gs W (hu.all hW) (hv.all hW))
  have CB := Lib.hid (fun W (hW : Below w.heap.size w W) => rproveF_any u v ls gs W (hu.all hW) (hv.all hW))
  have CC := Lib.hid (fun W (hW : Below w.heap.size w W) => isProofF_any u v ls gs a b W (hu.all hW) (hv.all hW))
  have CD := Lib.hid (fun W (hW : Below w.heap.size w W) => risProofF_any u v ls gs a b W (hu.all hW) (hv.all hW))
  have CS := Lib.hid (fun W => sane_any W)
  obtain ⟨ua, uc, rfl⟩ := hu.form
  obtain ⟨va, vc, rfl⟩ := hv.form
  have CL := Lib.hid (fun W => large_nil ua va ls.length gs.length uc vc W)
  have H0 := Lib.hid (show LPS w (.slice ua ls.length uc) (.slice va gs.length vc) a b ((w.alloc (.cells #[.slice ua ls.length uc, .slice va gs.length vc] FirmT)).alloc (.cells (winA a b) SpanT)) from
    ⟨(BlockAt.new w #[.slice ua ls.length uc, .slice va gs.length vc] FirmT).alloc _, by have := BlockAt.new (w.alloc (.cells #[.slice ua ls.length uc, .slice va gs.length vc] FirmT)) (winA a b) SpanT; simpa using this, below_alloc2 (below_alloc2 (Below.refl w.heap.size w) _) _⟩)
  clear hu hv
  unfold oV at CA CB
  generalize oa (pv ls gs) = p at *
  generalize ob (pv ls gs) = q at *
  generalize (pv ls gs).isSome = f at *
  generalize Lf.bthE ls gs = E at *
  generalize Lf.isP ls gs a b = R at *
  generalize hL : (decide (10 < ls.length) || decide (20 < gs.length)) = L at *
  clear hL
  have x0 : World.cell? _ _ = some (.slice ua ls.length uc) := H0.out.1.cell 0
  have x1 : World.cell? _ _ = some (.slice va gs.length vc) := H0.out.1.cell 1
  have x2 : World.cell? _ _ = some (.int .i64 a) := H0.out.2.1.cell 0
  have x3 : World.cell? _ _ = some (.int .i64 b) := H0.out.2.1.cell 1
  go_enter Try.func12, Try.ntmps12
  go_wp2_with fail
  refine (CL.out _).mono ?_
  rintro e w1 ⟨rfl, hb1⟩
  have H1 := Lib.hid (LPS.step H0.out hb1)
  clear hb1 x0 x1 x2 x3
  cases L
  case true =>
    go_wp2_with fail
    refine (CS.out _).mono ?_
    rintro e w4 ⟨rfl, hb1⟩
    have H4 := Lib.hid (LPS.step H1.out hb1)
    clear hb1
    go_wp2
    go_ret
    exact ⟨rfl, H4.out.2.2⟩
  have x0 : World.cell? _ _ = some (.slice ua ls.length uc) := H1.out.1.cell 0
  have x1 : World.cell? _ _ = some (.slice va gs.length vc) := H1.out.1.cell 1
  have x2 : World.cell? _ _ = some (.int .i64 a) := H1.out.2.1.cell 0
  have x3 : World.cell? _ _ = some (.int .i64 b) := H1.out.2.1.cell 1
  go_wp2_with fail
  refine (CA.out _ H1.out.2.2).mono ?_
  rintro e w1 ⟨rfl, hb1⟩
  have H2 := Lib.hid (LPS.step H1.out hb1)
  have HP := Lib.hid (BlockAt.new w1 (winA p q) WinT)
  have H2a := Lib.hid (LPS.al H2.out (.cells (winA p q) WinT))
  clear hb1 x0 x1 x2 x3
  have x0 : World.cell? _ _ = some (.slice ua ls.length uc) := H2a.out.1.cell 0
  have x1 : World.cell? _ _ = some (.slice va gs.length vc) := H2a.out.1.cell 1
  have x2 : World.cell? _ _ = some (.int .i64 a) := H2a.out.2.1.cell 0
  have x3 : World.cell? _ _ = some (.int .i64 b) := H2a.out.2.1.cell 1
  go_wp2_with fail
  refine (CB.out _ H2a.out.2.2).mono ?_
  rintro e w2 ⟨rfl, hb1⟩
  have H3 := Lib.hid (LPS.drew (LPS.al (LPS.step H2a.out hb1) (.cells (winA p q) RWinT)))
  have HP1 := Lib.hid ((HP.out.below hb1 HP.out.lt).alloc (.cells (winA p q) RWinT)).drew
  have HP2 := Lib.hid (BlockAt.new w2 (winA p q) RWinT).drew
  clear hb1 x0 x1 x2 x3 HP
  have x0 : World.cell? _ _ = some (.slice ua ls.length uc) := H3.out.1.cell 0
  have x1 : World.cell? _ _ = some (.slice va gs.length vc) := H3.out.1.cell 1
  have x2 : World.cell? _ _ = some (.int .i64 a) := H3.out.2.1.cell 0
  have x3 : World.cell? _ _ = some (.int .i64 b) := H3.out.2.1.cell 1
  go_upto_region 5 with fail
  clear x0 x1 x2 x3
  refine wp_region_seq [(0, true), (1, true), (2, true), (3, true), (4, true), (5, true), (6, true), (7, true), (8, true), (10, true), (11, true), (12, true), (13, true), (14, true), (15, true), (16, true), (17, true), (18, true), (9, false), (19, false), (20, true)] (fun W => World.cell? W ⟨w.heap.size, 0, none⟩ = some (.slice ua ls.length uc) ∧ World.cell? W ⟨w.heap.size, 1, none⟩ = some (.slice va gs.length vc) ∧ World.cell? W ⟨w.heap.size + 1, 0, none⟩ = some (.int .i64 a) ∧ World.cell? W ⟨w.heap.size + 1, 1, none⟩ = some (.int .i64 b))
    (by kernel_rfl) (by kernel_rfl) (by kernel_rfl) (by kernel_rfl) (fun d _ _ _ _ h => by cases d <;> exact h) ⟨H3.out.1.cell 0, H3.out.1.cell 1, H3.out.2.1.cell 0, H3.out.2.1.cell 1⟩ (fun _ => ?_)
  repeat (first | (refine SeqH.take (v := ?_) rfl (by rfl) ?_ ?_; rotate_left; (· intro w hSw; (try dsimp only at hSw); obtain ⟨a0, a1, a2, a3⟩ := hSw; go_simp; (try with_reducible rfl)); simp only [Act.put, List.setIfInBounds_toArray, List.set_cons_zero, List.set_cons_succ]) | (refine SeqH.skip rfl (by rfl) ?_; simp only [Act.put, List.setIfInBounds_toArray, List.set_cons_zero, List.set_cons_succ]))
  refine SeqH.step rfl (by rfl) (fun K hK => ?_)
  go_simp
  go_at_call 55
  refine (CC.out _ H3.out.2.2).mono ?_
  rintro e w7 ⟨rfl, hb1⟩
  try dsimp only
  have H4 := Lib.hid (LPS.step H3.out hb1)
  have HQ1 := Lib.hid (HP1.out.below hb1 HP1.out.lt)
  have HQ2 := Lib.hid (HP2.out.below hb1 HP2.out.lt)
  refine hK.out _ _ (⟨H4.out.1.cell 0, H4.out.1.cell 1, H4.out.2.1.cell 0, H4.out.2.1.cell 1⟩) (fun _ => ?_)
  clear hK K
  try simp only [Act.put, List.setIfInBounds_toArray, List.set_cons_zero, List.set_cons_succ]
  repeat (first | (refine SeqH.take (v := ?_) rfl (by rfl) ?_ ?_; rotate_left; (· intro w hSw; (try dsimp only at hSw); obtain ⟨a0, a1, a2, a3⟩ := hSw; go_simp; (try with_reducible rfl)); simp only [Act.put, List.setIfInBounds_toArray, List.set_cons_zero, List.set_cons_succ]) | (refine SeqH.skip rfl (by rfl) ?_; simp only [Act.put, List.setIfInBounds_toArray, List.set_cons_zero, List.set_cons_succ]))
  refine SeqH.step rfl (by rfl) (fun K hK => ?_)
  go_simp
  go_at_call 56
  refine (CD.out _ H4.out.2.2).mono ?_
  rintro e w7 ⟨rfl, hb1⟩
  try dsimp only
  have H5 := Lib.hid (LPS.step H4.out hb1)
  have HR1 := Lib.hid (HQ1.out.below hb1 HQ1.out.lt)
  have HR2 := Lib.hid (HQ2.out.below hb1 HQ2.out.lt)
  refine hK.out _ _ (⟨H5.out.1.cell 0, H5.out.1.cell 1, H5.out.2.1.cell 0, H5.out.2.1.cell 1⟩) (fun _ => ?_)
  clear hK K
  try simp only [Act.put, List.setIfInBounds_toArray, List.set_cons_zero, List.set_cons_succ]
  repeat (first | (refine SeqH.take (v := ?_) rfl (by rfl) ?_ ?_; rotate_left; (· intro w hSw; (try dsimp only at hSw); obtain ⟨a0, a1, a2, a3⟩ := hSw; go_simp; (try with_reducible rfl)); simp only [Act.put, List.setIfInBounds_toArray, List.set_cons_zero, List.set_cons_succ]) | (refine SeqH.skip rfl (by rfl) ?_; simp only [Act.put, List.setIfInBounds_toArray, List.set_cons_zero, List.set_cons_succ]))
  refine SeqH.done ?_
  have x0 : World.cell? _ _ = some (.int .i64 p) := HR1.out.cell 0
  have x1 : World.cell? _ _ = some (.int .i64 q) := HR1.out.cell 1
  have x2 : World.cell? _ _ = some (.int .i64 p) := HR2.out.cell 0
  have x3 : World.cell? _ _ = some (.int .i64 q) := HR2.out.cell 1
  go_wp2_with fail
  refine (CS.out _).mono ?_
  rintro e w5 ⟨rfl, hb1⟩
  have H6 := Lib.hid (LPS.step H5.out hb1)
  clear hb1
  go_wp2
  go_ret
  exact ⟨rfl, H6.out.2.2⟩
end Go.Proofs.Ytabfcnfddemblaa.Lo
