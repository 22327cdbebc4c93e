/- LotShares returns true, whatever the genealogy and the numbers. -/
import Derived.Test.YtccjbefmcifaeaaRShare
import Derived.Test.YtccjbefmcifaeaaLong
namespace Go.Proofs.Ytccjbefmcifaeaa
open Go.RowKit

set_option maxRecDepth 20000 in
set_option maxHeartbeats 1000000 in
theorem shares_walk (v : Value) (ls : List Lt.L) (n m : Int) (w : World) (hv : Lots w v ls) :
    Calls Try.prog 5 #[v, .agg #[.int .i64 n, .int .i64 m]] w fun e w' => e = .returned (.bool true) ∧ Below w.heap.size w w' := by
  have hw0 := below_alloc (Below.refl w.heap.size w) (.cells #[.int .i64 n, .int .i64 m] 41)
  have L := Lib.hid (long_any v ls _ (hv.all hw0))
  have HW := Lib.hid hw0
  have bB := BlockAt.new w #[.int .i64 n, .int .i64 m] 41
  have HBB := Lib.hid bB
  clear hw0 bB
  cases hb : longB ls with
  | true =>
    rw [hb] at L
    clear hb hv
    go_enter Try.func5, Try.ntmps5
    go_wp2_with fail
    refine L.out.mono ?_
    rintro e w1 ⟨rfl, rfl⟩
    go_wp2_with fail
    refine (known_any _).mono ?_
    rintro e w2 ⟨rfl, hb2⟩
    have h2 := below_step HW.out hb2
    go_wp2
    go_ret
    exact ⟨rfl, h2⟩
  | false =>
    rw [hb] at L
    have hsh := (longB_short hb).short
    have C1 := Lib.hid (fun W (hW : Below w.heap.size w W) => share_any v ls n m W (hv.all hW) hsh)
    have C2 := Lib.hid (fun W (hW : Below w.heap.size w W) => refShare_any v ls n m W (hv.all hW) hsh)
    clear hb hv hsh
    generalize shN ls n m = r1 at *
    generalize shD ls n m = r2 at *
    generalize shE ls n m = e1 at *
    have q1 : (r1 == r1) = true := by simp
    have q2 : (e1 == e1) = true := by simp
    have q3 : (r2 == r2) = true := by simp
    go_enter Try.func5, Try.ntmps5
    go_wp2_with fail
    refine L.out.mono ?_
    rintro e w1 ⟨rfl, rfl⟩
    have p0 := HBB.out.cell 0
    have p1 := HBB.out.cell 1
    go_wp2_with fail
    refine (C1.out _ HW.out).mono ?_
    rintro e w1 ⟨rfl, h1⟩
    have bS := BlockAt.new w1 #[.int .i64 r1, .int .i64 r2] 43
    have HBB := Lib.hid ((HBB.out.below h1 (by simp)).alloc (.cells #[.int .i64 r1, .int .i64 r2] 43))
    have h1 := below_alloc (below_step HW.out h1) (.cells #[.int .i64 r1, .int .i64 r2] 43)
    clear p0 p1
    have p0 := HBB.out.cell 0
    have p1 := HBB.out.cell 1
    have HS := Lib.hid bS
    clear bS
    go_wp2_with fail
    refine (C2.out _ h1).mono ?_
    rintro e w2 ⟨rfl, h2⟩
    have bT := BlockAt.new w2 #[.int .i64 r1, .int .i64 r2] 43
    have bS := (HS.out.below h2 HS.out.lt).alloc (.cells #[.int .i64 r1, .int .i64 r2] 43)
    have h2 := below_alloc (below_step h1 h2) (.cells #[.int .i64 r1, .int .i64 r2] 43)
    have x0 := bS.cell 0
    have x1 := bS.cell 1
    have y0 := bT.cell 0
    have y1 := bT.cell 1
    clear p0 p1 bS bT HS HBB h1 C1 C2
    go_wp2_with fail
    refine (known_any _).mono ?_
    rintro e w7 ⟨rfl, h7⟩
    have h7 := below_step h2 h7
    go_wp2
    go_ret
    exact ⟨rfl, h7⟩
end Go.Proofs.Ytccjbefmcifaeaa
