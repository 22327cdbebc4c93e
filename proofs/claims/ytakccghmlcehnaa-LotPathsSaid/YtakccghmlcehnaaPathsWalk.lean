/- LotPaths returns true, whatever the genealogy and the numbers. -/
import Derived.Test.YtakccghmlcehnaaPath2
import Derived.Test.YtakccghmlcehnaaKnown2
namespace Go.Proofs.Ytakccghmlcehnaa
open Go.RowKit

set_option maxRecDepth 20000 in
set_option maxHeartbeats 1000000 in
theorem paths_walk (v : Value) (ls : List Lt.L) (n m : Int) (w : World) (hv : Lots w v ls) :
    Calls Try.prog 8 #[v, .agg #[.int .i64 n, .int .i64 m]] w fun e w' => e = .returned (.bool true) ∧ Below w.heap.size w w' := by
  have hw0 := below_alloc (Below.refl w.heap.size w) (.cells #[.int .i64 n, .int .i64 m] 41)
  have HV := Lib.hid (hv.all hw0)
  have L := Lib.hid (long_any v ls _ (hv.all hw0))
  have HW := Lib.hid hw0
  have bB := BlockAt.new w #[.int .i64 n, .int .i64 m] 41
  have HBB := Lib.hid bB
  clear hw0 bB
  cases hb : longB ls with
  | true =>
    rw [hb] at L
    clear hb hv
    go_enter Try.func8, Try.ntmps8
    go_wp2_with fail
    refine L.out.mono ?_
    rintro e w1 ⟨rfl, rfl⟩
    go_wp2_with fail
    refine (known_any _).mono ?_
    rintro e w2 ⟨rfl, hb2⟩
    have h2 := below_step HW.out hb2
    go_wp2
    go_ret
    exact ⟨rfl, h2⟩
  | false =>
    rw [hb] at L
    have hsh := (longB_short hb).short
    have C1 := Lib.hid (fun W (hW : Below w.heap.size w W) => lotPaths_any v ls n m W (hv.all hW) hsh)
    have C2 := Lib.hid (fun W (hW : Below w.heap.size w W) => refPaths_any v ls n m W (hv.all hW) hsh)
    have C3 := Lib.hid (fun W (hW : Below w.heap.size w W) => lotDepth_any v ls m W (hv.all hW) hsh)
    have C4 := Lib.hid (fun W (hW : Below w.heap.size w W) => refDepth_any v ls m W (hv.all hW) hsh)
    clear hb hv hsh HV
    generalize pathsR ls n m = r1 at *
    generalize numE ls [n, m] = e1 at *
    generalize depthR ls m = r2 at *
    generalize numE ls [m] = e2 at *
    have q1 : (r1 == r1) = true := by simp
    have q2 : (e1 == e1) = true := by simp
    have q3 : (r2 == r2) = true := by simp
    have q4 : (e2 == e2) = true := by simp
    go_enter Try.func8, Try.ntmps8
    go_wp2_with fail
    refine L.out.mono ?_
    rintro e w1 ⟨rfl, rfl⟩
    have p0 := HBB.out.cell 0
    have p1 := HBB.out.cell 1
    go_wp2_with fail
    refine (C1.out _ HW.out).mono ?_
    rintro e w1 ⟨rfl, h1⟩
    have HBB := Lib.hid (HBB.out.below h1 (by simp))
    have h1 := below_step HW.out h1
    clear p0 p1
    have p0 := HBB.out.cell 0
    have p1 := HBB.out.cell 1
    go_wp2_with fail
    refine (C2.out _ h1).mono ?_
    rintro e w2 ⟨rfl, h2⟩
    have HBB := Lib.hid (HBB.out.below h2 HBB.out.lt)
    have h2 := below_step h1 h2
    clear p0 p1
    have p1 := HBB.out.cell 1
    go_wp2_with fail
    refine (C3.out _ h2).mono ?_
    rintro e w3 ⟨rfl, h3⟩
    have HBB := Lib.hid (HBB.out.below h3 HBB.out.lt)
    have h3 := below_step h2 h3
    clear p1
    have p1 := HBB.out.cell 1
    go_wp2_with fail
    refine (C4.out _ h3).mono ?_
    rintro e w4 ⟨rfl, h4⟩
    have h4 := below_step h3 h4
    clear h1 h2 h3 C1 C2 C3 C4 p1
    go_wp2_with fail
    refine (known_any _).mono ?_
    rintro e w7 ⟨rfl, h7⟩
    have h7 := below_step h4 h7
    go_wp2
    go_ret
    exact ⟨rfl, h7⟩
end Go.Proofs.Ytakccghmlcehnaa
