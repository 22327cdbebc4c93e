/- LotMasses returns true, whatever the genealogy and the numbers. -/
import Derived.Test.YtakccghmlcehnaaAns3
import Derived.Test.YtakccghmlcehnaaKnown2
namespace Go.Proofs.Ytakccghmlcehnaa
open Go.RowKit

set_option maxRecDepth 20000 in
set_option maxHeartbeats 1000000 in
theorem masses_walk (v : Value) (ls : List Lt.L) (n kind : Int) (w : World) (hv : Lots w v ls) :
    Calls Try.prog 4 #[v, .int .i64 n, .int .i64 kind] w fun e w' => e = .returned (.bool true) ∧ Below w.heap.size w w' := by
  have L := Lib.hid (long_any v ls w hv)
  cases hb : longB ls with
  | true =>
    rw [hb] at L
    clear hb hv
    go_enter Try.func4, Try.ntmps4
    go_wp2_with fail
    refine L.out.mono ?_
    rintro e w1 ⟨rfl, rfl⟩
    go_wp2_with fail
    refine (known_any _).mono ?_
    rintro e w2 ⟨rfl, hb2⟩
    go_wp2
    go_ret
    exact ⟨rfl, hb2⟩
  | false =>
    rw [hb] at L
    have hsh := (longB_short hb).short
    have C1 := Lib.hid (fun W (hW : Below w.heap.size w W) => left_any v ls n W (hv.all hW) hsh)
    have C2 := Lib.hid (fun W (hW : Below w.heap.size w W) => refLeft_any v ls n W (hv.all hW) hsh)
    have C3 := Lib.hid (fun W (hW : Below w.heap.size w W) => lost_any v ls n W (hv.all hW) hsh)
    have C4 := Lib.hid (fun W (hW : Below w.heap.size w W) => refLost_any v ls n W (hv.all hW) hsh)
    have C5 := Lib.hid (fun W (hW : Below w.heap.size w W) => recv_any v ls kind W (hv.all hW) hsh)
    have C6 := Lib.hid (fun W (hW : Below w.heap.size w W) => refRecv_any v ls kind W (hv.all hW) hsh)
    clear hb hv hsh
    generalize leftR ls n = r1 at *
    generalize numE ls [n] = e1 at *
    generalize lostR ls n = r2 at *
    generalize recvR ls kind = r3 at *
    generalize recvE ls kind = e3 at *
    have q1 : (r1 == r1) = true := by simp
    have q2 : (e1 == e1) = true := by simp
    have q3 : (r2 == r2) = true := by simp
    have q4 : (r3 == r3) = true := by simp
    have q5 : (e3 == e3) = true := by simp
    go_enter Try.func4, Try.ntmps4
    go_wp2_with fail
    refine L.out.mono ?_
    rintro e w1 ⟨rfl, rfl⟩
    go_wp2_with fail
    refine (C1.out _ (Below.refl _ _)).mono ?_
    rintro e w1 ⟨rfl, h1⟩
    go_wp2_with fail
    refine (C2.out _ h1).mono ?_
    rintro e w2 ⟨rfl, h2⟩
    have h2 := below_step h1 h2
    go_wp2_with fail
    refine (C3.out _ h2).mono ?_
    rintro e w3 ⟨rfl, h3⟩
    have h3 := below_step h2 h3
    go_wp2_with fail
    refine (C4.out _ h3).mono ?_
    rintro e w4 ⟨rfl, h4⟩
    have h4 := below_step h3 h4
    go_wp2_with fail
    refine (C5.out _ h4).mono ?_
    rintro e w5 ⟨rfl, h5⟩
    have h5 := below_step h4 h5
    go_wp2_with fail
    refine (C6.out _ h5).mono ?_
    rintro e w6 ⟨rfl, h6⟩
    have h6 := below_step h5 h6
    clear h1 h2 h3 h4 h5 C1 C2 C3 C4 C5 C6
    go_wp2_with fail
    refine (known_any _).mono ?_
    rintro e w7 ⟨rfl, h7⟩
    have h7 := below_step h6 h7
    go_wp2
    go_ret
    exact ⟨rfl, h7⟩
end Go.Proofs.Ytakccghmlcehnaa
