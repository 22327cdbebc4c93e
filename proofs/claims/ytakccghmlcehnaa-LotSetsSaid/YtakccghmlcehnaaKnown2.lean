/- The law's own look at one answer. -/
import Derived.Test.YtakccghmlcehnaaKnown
namespace Go.Proofs.Ytakccghmlcehnaa
open Go.RowKit

theorem ls0_valid : Lt.valE ls0 = 0 := by decide +kernel
theorem ls0_short : short ls0 := ⟨by decide, by
  intro j hj
  have : j = 0 ∨ j = 1 ∨ j = 2 := by have : j < 3 := hj; omega
  rcases this with rfl | rfl | rfl <;> decide⟩
theorem ls0_S : Sh.S ls0 (oneO 0) 2 = 60 := by decide +kernel
theorem ls0_D : Sh.D ls0 3 = 100 := by decide +kernel

set_option maxRecDepth 20000 in
theorem known_any (w : World) :
    Calls Try.prog 17 #[] w fun e w' => e = .returned (.bool true) ∧ Below w.heap.size w w' := by
  have hb1 := below_alloc (Below.refl w.heap.size w) (.cells #[.int .i64 0, .int .i64 60, .int .i64 1, .int .i64 40] 35)
  have hb2 := below_alloc hb1 (.cells #[.int .i64 0, .int .i64 100, .slice none 0 0, .int .i64 0, .int .i64 100, .slice none 0 0, .int .i64 5, .int .i64 110, .slice (some ⟨w.heap.size, 0, none⟩) 2 2] 25)
  have b1 := (BlockAt.new w #[.int .i64 0, .int .i64 60, .int .i64 1, .int .i64 40] 35).alloc (.cells #[.int .i64 0, .int .i64 100, .slice none 0 0, .int .i64 0, .int .i64 100, .slice none 0 0, .int .i64 5, .int .i64 110, .slice (some ⟨w.heap.size, 0, none⟩) 2 2] 25)
  have b2 := BlockAt.new (w.alloc (.cells #[.int .i64 0, .int .i64 60, .int .i64 1, .int .i64 40] 35)) #[.int .i64 0, .int .i64 100, .slice none 0 0, .int .i64 0, .int .i64 100, .slice none 0 0, .int .i64 5, .int .i64 110, .slice (some ⟨w.heap.size, 0, none⟩) 2 2] 25
  have S := share_ok _ ls0 0 2 _ (lots0 b2 b1) ls0_short ls0_valid (by decide) (by decide) (fun a d ha hd hd2 => small_div (by rw [ls0_S] at ha; omega) hd)
  rw [ls0_S, ls0_D, show Rd.rN 60 100 = 3 from by decide +kernel, show Rd.rD 60 100 = 5 from by decide +kernel, show Rd.rE 60 100 = 0 from by decide +kernel] at S
  simp only [World.size_alloc] at S
  have HS := Lib.hid S
  have HB := Lib.hid hb2
  clear hb1 hb2 b1 b2 S
  go_enter Try.func17, Try.ntmps17
  go_wp2_with fail
  refine HS.out.mono ?_
  rintro e w1 ⟨rfl, hb⟩
  have hw := HB.out.trans (hb.mono (by omega))
  go_wp2
  go_ret
  exact ⟨rfl, below_alloc hw _⟩
end Go.Proofs.Ytakccghmlcehnaa
