/- The law on discounts. -/
import Derived.Test.YtcljpklgpedolaaGreatDoorBkQC
namespace Go.Proofs.YtcljpklgpedolaaGreatDoor
open Go.RowKit Go.Sort

set_option maxRecDepth 20000 in
set_option maxHeartbeats 2000000 in
theorem discounts_walk (p n d : Int) (w : World) (hE : EnvB w) (p1 : -9223372036854775808 ≤ p) (p2 : p ≤ 9223372036854775807) (n1 : -9223372036854775808 ≤ n) (n2 : n ≤ 9223372036854775807) (d1 : -9223372036854775808 ≤ d) (d2 : d ≤ 9223372036854775807) :
    Calls Tryz.prog 13 #[.int .i64 p, rat n d] w fun e w' => e = .returned (.bool true) ∧ Below w.heap.size w w' := by
  have HE := Lib.hid hE
  have SA := Lib.hid (fun W hW => sane_any W hW)
  have P := Lib.hid (fun W => discount_any p n d W p1 p2 n1 n2 d1 d2)
  have Q := Lib.hid (fun W => refDiscount_any p n d W p1 p2 n1 n2 d1 d2)
  have R0 := RatAt.fresh w n d RatT
  have hw0 := below_alloc (Below.refl w.heap.size w) (.cells #[.int .i64 n, .int .i64 d] RatT)
  clear hE
  generalize Bk.disV p n d = V at *
  generalize Bk.disE p n d = E at *
  go_enter Tryz.func13, Tryz.ntmps13
  obtain ⟨c0, c1, _, _, _⟩ := id R0
  go_wp2_with fail
  refine (P.out _).mono ?_
  rintro e w1 ⟨rfl, hb1⟩
  have R1 := R0.all hb1
  have hw1 := below_step hw0 hb1
  clear hb1 hw0 R0 c0 c1 P
  obtain ⟨c0, c1, _, _, _⟩ := id R1
  go_wp2_with fail
  refine (Q.out _).mono ?_
  rintro e w2 ⟨rfl, hb2⟩
  have hw2 := below_step hw1 hb2
  clear hb2 hw1 R1 c0 c1 Q
  go_wp2_with fail
  refine (SA.out _ (HE.out.all hw2)).mono ?_
  rintro e w3 ⟨rfl, hb3⟩
  have hw3 := below_step hw2 hb3
  clear hb3 hw2
  go_wp2
  go_ret
  exact ⟨rfl, hw3⟩
end Go.Proofs.YtcljpklgpedolaaGreatDoor
