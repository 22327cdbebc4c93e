/- The law's sanity check; hangings as the law hands them over. -/
import Derived.Test.YtabfcnfddemblaaLfMe
namespace Go.Proofs.Ytabfcnfddemblaa.Lo
open Go.RowKit

theorem RowsOf.laid {α : Type} {c : Nat} {cs : α → List Value} (hc : ∀ x, (cs x).length = c) {w : World} {B n : Nat} {ys : Array Value} {t : TypeId} {xs : List α} (h : BlockAt w B ys t) (hn : n = xs.length) (hy : ys = (xs.flatMap cs).toArray) :
    RowsOf c cs w (.slice (some ⟨B, 0, none⟩) n n) xs := by
  subst hn
  refine ⟨_, _, rfl, Nat.le_refl _, fun k hk => ⟨B, 0, rfl, h.lt, fun j u hj => ?_⟩⟩
  have h2 := h.cell (0 + k * c + j)
  rw [h2, hy, Nat.zero_add]
  have hjc : j < c := by
    have := (List.getElem?_eq_some_iff.1 hj).1
    rwa [hc] at this
  rw [List.getElem?_toArray, flat_at hc xs k hk j hjc]
  exact hj
theorem intL_len (x : Int) : (intL x).length = 1 := rfl
theorem OwnI.ints {base : Nat} {w : World} {v : Value} {xs : List Int} (h : OwnI base w v xs) : Ints w v xs := OwnG.rows intL_len h
set_option maxRecDepth 20000 in
set_option maxHeartbeats 2000000 in
theorem sameInts_any (u v : Value) (xs : List Int) (w : World) (hu : Ints w u xs) (hv : Ints w v xs) (hl : xs.length ≤ 1000000) :
    Calls Try.prog 24 #[u, v] w fun e w' => e = .returned (.bool true) ∧ Below w.heap.size w w' := by
  obtain ⟨ua, uc, rfl, _, huk⟩ := hu
  obtain ⟨va, vc, rfl, _, hvk⟩ := hv
  have HU := Lib.hid huk
  have HV := Lib.hid hvk
  have hw0 := Lib.hid (Below.refl w.heap.size w)
  clear huk hvk
  go_enter Try.func24, Try.ntmps24
  go_wp2
  go_loopw [5] (fun t wr => ∃ k : Nat, k ≤ xs.length ∧ t = .int .i64 k ∧ Hid (Below w.heap.size w wr)) (fun t _ => xs.length - (intOf t).toNat)
  case atStart => exact ⟨0, Nat.zero_le _, rfl, hw0⟩
  case round =>
    obtain ⟨k, hk, rfl, hg⟩ := hrel
    by_cases hlt : k < xs.length
    · obtain ⟨b, off, rfl, hb, hr⟩ := HU.out k hlt
      obtain ⟨b2, off2, rfl, hb2, hr2⟩ := HV.out k hlt
      have c0 := int_at (hr.below hg.out hb)
      have d0 := int_at (hr2.below hg.out hb2)
      rw [Nat.mul_one] at c0 d0
      clear hr hr2
      generalize xs[k] = a at *
      go_wp2
      go_quiet (fail)
      go_wp2
      go_roundw
      case rel => exact ⟨k + 1, by omega, by go_num, Lib.hid (below_drewN hg.out _)⟩
      case measure => simp [intOf]; omega
    · go_wp2
      go_ret
      exact ⟨rfl, hg.out⟩
set_option maxRecDepth 20000 in
theorem mine_any (h : Lf.H) (w : World) : Calls Try.prog 17 #[hangV h] w fun e w' => e = .returned (hangV h) ∧ Below w.heap.size w w' := by
  have HW := Lib.hid (below_alloc2 (Below.refl w.heap.size w) (.cells (hangA h) 23))
  have HB := Lib.hid (BlockAt.new w (hangA h) 23)
  have x0 : World.cell? _ _ = some (.int .i64 h.d) := HB.out.cell 0
  have x1 : World.cell? _ _ = some (.int .i64 h.s) := HB.out.cell 1
  have x2 : World.cell? _ _ = some (.int .i64 h.y) := HB.out.cell 2
  have x3 : World.cell? _ _ = some (.int .i64 h.r) := HB.out.cell 3
  have x4 : World.cell? _ _ = some (.int .i64 h.f) := HB.out.cell 4
  obtain ⟨hd, hs, hy, hr, hf⟩ := h
  dsimp only at *
  go_enter Try.func17, Try.ntmps17
  go_wp2
  exact bodyPost_ret (v := hangV ⟨hd, hs, hy, hr, hf⟩) (by simp [results, Try.results17, go_sem]) rfl ⟨rfl, below_alloc2 HW.out _⟩
set_option maxRecDepth 20000 in
theorem other_any (h : Lf.H) (w : World) : Calls Try.prog 19 #[hangV h] w fun e w' => e = .returned (hangV h) ∧ Below w.heap.size w w' := by
  have HW := Lib.hid (below_alloc2 (Below.refl w.heap.size w) (.cells (hangA h) 23))
  have HB := Lib.hid (BlockAt.new w (hangA h) 23)
  have x0 : World.cell? _ _ = some (.int .i64 h.d) := HB.out.cell 0
  have x1 : World.cell? _ _ = some (.int .i64 h.s) := HB.out.cell 1
  have x2 : World.cell? _ _ = some (.int .i64 h.y) := HB.out.cell 2
  have x3 : World.cell? _ _ = some (.int .i64 h.r) := HB.out.cell 3
  have x4 : World.cell? _ _ = some (.int .i64 h.f) := HB.out.cell 4
  obtain ⟨hd, hs, hy, hr, hf⟩ := h
  dsimp only at *
  go_enter Try.func19, Try.ntmps19
  go_wp2
  exact bodyPost_ret (v := hangV ⟨hd, hs, hy, hr, hf⟩) (by simp [results, Try.results19, go_sem]) rfl ⟨rfl, below_alloc2 HW.out _⟩
theorem ex_pR : Lf.pR ⟨10, [0, 1, 2, 4, 8]⟩ 7 10 = [1, 2, 3] := by decide +kernel
theorem ex_pB : Lf.pB ⟨10, [0, 1, 2, 4, 8]⟩ 7 10 = true := by decide +kernel
theorem ex_pE : Lf.pE ⟨10, [0, 1, 2, 4, 8]⟩ 7 10 = 0 := by decide +kernel
set_option maxRecDepth 100000 in
set_option maxHeartbeats 4000000 in
theorem sane_any (w : World) : Calls Try.prog 25 #[] w fun e w' => e = .returned (.bool true) ∧ Below w.heap.size w w' := by
  have C1 : Calls Try.prog 16 #[.int .i64 50, hangV ⟨10, 5, 0, 0, 0⟩] w fun e w' => ∃ a c, e = .returned (.tuple #[.slice a 3 c, .int .i64 0]) ∧ OwnI w.heap.size w' (.slice a 3 c) [5, 25, 45] ∧ Below w.heap.size w w' := by
    have h := poles_any ⟨10, 5, 0, 0, 0⟩ 50 w
    rw [Lf.ex_polL, Lf.ex_polE] at h
    exact h
  have C2 : ∀ (u : Value) (W : World), Ints W u [0, 1, 2, 4, 8] → Calls Try.prog 41 #[loftV 10 u, .int .i64 7, .int .i64 10] W fun e w' => ∃ a c, e = .returned (.tuple #[.slice a 3 c, .bool true, .int .i64 0]) ∧ OwnI W.heap.size w' (.slice a 3 c) [1, 2, 3] ∧ Below W.heap.size W w' := fun u W hI => by
    have h := progF_any 10 u [0, 1, 2, 4, 8] 7 10 W hI
    rw [ex_pR, ex_pB, ex_pE] at h
    exact h
  have H1 := Lib.hid C1
  have H2 := Lib.hid C2
  have HSI := Lib.hid (fun u v xs W hu hv hl => sameInts_any u v xs W hu hv hl)
  clear C1 C2
  go_enter Try.func25, Try.ntmps25
  go_wp2_with fail
  refine H1.out.mono ?_
  rintro e w1 ⟨a1, c1, rfl, ho1, hb1⟩
  have HB1 := Lib.hid hb1
  have HO1 := Lib.hid ho1
  have hB := BlockAt.new w1 #[.int .i64 0, .int .i64 1, .int .i64 2, .int .i64 4, .int .i64 8] 3
  have hI : Ints (w1.alloc (.cells #[.int .i64 0, .int .i64 1, .int .i64 2, .int .i64 4, .int .i64 8] 3)) (.slice (some ⟨w1.heap.size, 0, none⟩) 5 5) [0, 1, 2, 4, 8] := RowsOf.laid intL_len hB rfl rfl
  have C2 := Lib.hid (H2.out _ _ hI)
  have HB2 := Lib.hid (below_alloc2 HB1.out (.cells #[.int .i64 0, .int .i64 1, .int .i64 2, .int .i64 4, .int .i64 8] 3))
  have HO2 := Lib.hid (HO1.out.all (below_alloc2 (Below.refl w1.heap.size w1) (.cells #[.int .i64 0, .int .i64 1, .int .i64 2, .int .i64 4, .int .i64 8] 3)))
  clear hb1 ho1 hB hI H1 H2 HB1 HO1
  go_wp2_with fail
  refine C2.out.mono ?_
  rintro e w2 ⟨a2, c2, rfl, ho2, hb2⟩
  have HB3 := Lib.hid (below_step HB2.out hb2)
  have HO3 := Lib.hid (HO2.out.all hb2)
  have HP3 := Lib.hid ho2
  have hB := BlockAt.new w2 #[.int .i64 5, .int .i64 25, .int .i64 45] 3
  have hI : Ints (w2.alloc (.cells #[.int .i64 5, .int .i64 25, .int .i64 45] 3)) (.slice (some ⟨w2.heap.size, 0, none⟩) 3 3) [5, 25, 45] := RowsOf.laid intL_len hB rfl rfl
  have C3 := Lib.hid (HSI.out (.slice a1 3 c1) (.slice (some ⟨w2.heap.size, 0, none⟩) 3 3) [5, 25, 45] _ (OwnI.ints (HO3.out.all (below_alloc2 (Below.refl w2.heap.size w2) (.cells #[.int .i64 5, .int .i64 25, .int .i64 45] 3)))) hI (by decide))
  have HB4 := Lib.hid (below_alloc2 HB3.out (.cells #[.int .i64 5, .int .i64 25, .int .i64 45] 3))
  have HP4 := Lib.hid (HP3.out.all (below_alloc2 (Below.refl w2.heap.size w2) (.cells #[.int .i64 5, .int .i64 25, .int .i64 45] 3)))
  clear hb2 ho2 hB hI C2 HB2 HO2 HB3 HO3 HP3
  go_wp2_with fail
  refine C3.out.mono ?_
  rintro e w3 ⟨rfl, hb3⟩
  have HB5 := Lib.hid (below_step HB4.out hb3)
  have HP5 := Lib.hid (HP4.out.all hb3)
  have hB := BlockAt.new w3 #[.int .i64 1, .int .i64 2, .int .i64 3] 3
  have hI : Ints (w3.alloc (.cells #[.int .i64 1, .int .i64 2, .int .i64 3] 3)) (.slice (some ⟨w3.heap.size, 0, none⟩) 3 3) [1, 2, 3] := RowsOf.laid intL_len hB rfl rfl
  have C4 := Lib.hid (HSI.out (.slice a2 3 c2) (.slice (some ⟨w3.heap.size, 0, none⟩) 3 3) [1, 2, 3] _ (OwnI.ints (HP5.out.all (below_alloc2 (Below.refl w3.heap.size w3) (.cells #[.int .i64 1, .int .i64 2, .int .i64 3] 3)))) hI (by decide))
  have HB6 := Lib.hid (below_alloc2 HB5.out (.cells #[.int .i64 1, .int .i64 2, .int .i64 3] 3))
  clear hb3 hB hI C3 HB4 HP4 HB5 HP5
  go_wp2_with fail
  refine C4.out.mono ?_
  rintro e w4 ⟨rfl, hb4⟩
  have HB7 := Lib.hid (below_step HB6.out hb4)
  clear hb4 C4 HB6
  go_wp2
  go_ret
  exact ⟨rfl, HB7.out⟩
end Go.Proofs.Ytabfcnfddemblaa.Lo
