/- BandMarks returns true, whatever the list of runs and the place. -/
import Derived.Test.YtgnpbcgfhmhhgaaBand35
import Derived.Test.YtgnpbcgfhmhhgaaBand8
namespace Go.Proofs.Ytgnpbcgfhmhhgaa
open Go.RowKit

set_option maxRecDepth 20000 in
set_option maxHeartbeats 2000000 in
theorem marks_walk (v : Value) (rs : List Bd.R) (p : Int) (w : World) (hv : Runs w v rs) :
    Calls Try.prog 4 #[v, .int .i64 p] w fun e w' => e = .returned (.bool true) ∧ Below w.heap.size w w' := by
  by_cases hl : 100 < rs.length
  · have L := Lib.hid (long_true v rs w hv hl)
    clear hv hl
    go_enter Try.func4, Try.ntmps4
    go_wp2_with fail
    refine L.out.mono ?_
    rintro e w1 ⟨rfl, hb1⟩
    go_wp2_with fail
    refine (known_any _).mono ?_
    rintro e w2 ⟨rfl, hb2⟩
    go_wp2
    go_ret
    exact ⟨rfl, below_step hb1 hb2⟩
  have l1 : rs.length ≤ 100 := by omega
  have l2 : rs.length ≤ 1000 := by omega
  have A0 := Lib.hid (long_false v rs w hv l1)
  have A1 := Lib.hid (fun W (hW : Below w.heap.size w W) => num_at_any v rs p W (hv.all hW) l2)
  have A2 := Lib.hid (fun W (hW : Below w.heap.size w W) => ref_at_any v rs p W (hv.all hW) l2)
  have A3 := Lib.hid (fun W (hW : Below w.heap.size w W) => num_places_any v rs W (hv.all hW) l2)
  have A4 := Lib.hid (fun W (hW : Below w.heap.size w W) => ref_places_any v rs W (hv.all hW) l2)
  have hpl : (Bd.plcR rs).length ≤ 1000 := by
    unfold Bd.plcR; split
    · have := Bd.norm_length rs
      simp [Bd.plc]; omega
    · simp
  obtain ⟨ao, c, rfl⟩ := hv.form
  clear hl hv
  generalize Bd.atM rs p = m at *
  generalize Bd.atE rs p = E1 at *
  generalize Bd.plcR rs = ps at *
  generalize Bd.valE rs = E2 at *
  go_enter Try.func4, Try.ntmps4
  go_wp2_with fail
  refine A0.out.mono ?_
  rintro e w1 ⟨rfl, hc1⟩
  go_wp2_with fail
  refine (A1.out _ hc1).mono ?_
  rintro e w2 ⟨rfl, hb2⟩
  have hc2 := below_step hc1 hb2
  have bX := BlockAt.new w2 #[.int .i64 m.t, .int .i64 m.s, .int .i64 m.f] 35
  have hc2' := hc2.alloc hc2.size (.cells #[.int .i64 m.t, .int .i64 m.s, .int .i64 m.f] 35)
  obtain ⟨W2, hW2⟩ : ∃ W2, w2.alloc (.cells #[.int .i64 m.t, .int .i64 m.s, .int .i64 m.f] 35) = W2 := ⟨_, rfl⟩
  rw [hW2] at bX hc2'
  have HW2 := Lib.hid hW2
  clear hb2 hW2 A0 A1
  go_wp2_with fail
  rw [HW2.out]
  refine (A2.out _ hc2').mono ?_
  rintro e w3 ⟨rfl, hb3⟩
  have hc3 := below_step hc2' hb3
  have bX := bX.below hb3 bX.lt
  have hX3 := bX.lt
  have bX := bX.alloc (.cells #[.int .i64 m.t, .int .i64 m.s, .int .i64 m.f] 35)
  have bY := BlockAt.new w3 #[.int .i64 m.t, .int .i64 m.s, .int .i64 m.f] 35
  have hc3' := hc3.alloc hc3.size (.cells #[.int .i64 m.t, .int .i64 m.s, .int .i64 m.f] 35)
  obtain ⟨W3, hW3⟩ : ∃ W3, w3.alloc (.cells #[.int .i64 m.t, .int .i64 m.s, .int .i64 m.f] 35) = W3 := ⟨_, rfl⟩
  rw [hW3] at bX bY hc3'
  have HW3 := Lib.hid hW3
  clear hb3 hW3 A2 HW2 hc2' hc2 hc1
  go_wp2_with fail
  rw [HW3.out]
  refine (A3.out _ hc3').mono ?_
  rintro e w4 ⟨l, rfl, hl, hb4⟩
  have hc4 := below_step hc3' hb4
  have bX := bX.below hb4 bX.lt
  have bY := bY.below hb4 bY.lt
  have hl := hl.ints
  obtain ⟨la, lc, rfl, _⟩ := id hl
  clear hb4 A3 HW3 hc3' hc3
  go_wp2_with fail
  refine (A4.out _ hc4).mono ?_
  rintro e w5 ⟨k, rfl, hk, hb5⟩
  have hc5 := below_step hc4 hb5
  have bX := bX.below hb5 bX.lt
  have bY := bY.below hb5 bY.lt
  have hl := hl.all hb5
  have hk := hk.ints
  obtain ⟨la', lc', e1, hlk⟩ := hl
  obtain ⟨rfl, rfl⟩ : la = la' ∧ lc = lc' := by simpa using e1
  obtain ⟨ka, kc, rfl, hkk⟩ := hk
  have x0 := bX.cell 0
  have x1 := bX.cell 1
  have x2 := bX.cell 2
  have y0 := bY.cell 0
  have y1 := bY.cell 1
  have y2 := bY.cell 2
  have HL := Lib.hid hlk
  have HK := Lib.hid hkk
  clear hb5 A4 hc4 hl hlk hkk bX bY e1
  go_wp2
  have hw0 := Below.refl w5.heap.size w5
  go_loopw [13] (fun t wr => ∃ k : Nat, k ≤ ps.length ∧ t = .int .i64 k ∧ Hid (Below w5.heap.size w5 wr)) (fun t _ => ps.length - (intOf t).toNat)
  case atStart => exact ⟨0, Nat.zero_le _, rfl, Lib.hid hw0⟩
  case round =>
    obtain ⟨j, hj, rfl, hg⟩ := hrel
    clear hw0 x0 x1 x2 y0 y1 y2
    by_cases hlt : j < ps.length
    · obtain ⟨b, off, rfl, hb, c0⟩ := HL.out j hlt
      obtain ⟨b2, off2, rfl, hb2, c1⟩ := HK.out j hlt
      have c0 := (hg.out.cell (p := ⟨b, off + j, none⟩) hb).trans c0
      have c1 := (hg.out.cell (p := ⟨b2, off2 + j, none⟩) hb2).trans c1
      clear HL HK
      generalize ps[j] = x at *
      go_wp2
      go_quiet (fail)
      clear c0 c1
      go_wp2
      go_roundw
      case rel => exact ⟨j + 1, by omega, by go_num, Lib.hid (below_drewN hg.out _)⟩
      case measure => simp [intOf]; omega
    · obtain rfl : j = ps.length := by omega
      clear HL HK
      go_wp2_with fail
      refine (known_any _).mono ?_
      rintro e w6 ⟨rfl, hb6⟩
      go_wp2
      go_ret
      exact ⟨rfl, below_step (below_step hc5 hg.out) hb6⟩
end Go.Proofs.Ytgnpbcgfhmhhgaa
