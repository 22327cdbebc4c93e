/- The first example is parsed: known. -/
import Derived.Test.YtigigmjdockdeaaGreatDoorPat29
namespace Go.Proofs.YtigigmjdockdeaaGreatDoor
open Go.RowKit Go.Sort

abbrev knownT : List UInt8 := [98, 114, 105, 99, 107, 115, 32, 50, 32, 50, 32, 48, 32, 48, 49, 47, 49, 48]
theorem itoa_two : Lib.itoa 2 = [50] := by
  have := Tx.itoa_nat 2
  rw [Tx.dec_small (by decide)] at this
  exact this
theorem itoa_zero : Lib.itoa 0 = [48] := by
  have := Tx.itoa_nat 0
  rw [Tx.dec_small (by decide)] at this
  exact this
theorem known_words : Tx.spl 32 knownT = [bricksW, Lib.itoa 2, Lib.itoa 2, Lib.itoa 0, [48, 49, 47, 49, 48]] := by
  rw [itoa_two, itoa_zero]
  decide +kernel
theorem known_rows : Tx.spl 47 [48, 49, 47, 49, 48] = [[48, 49], [49, 48]] := by decide +kernel
theorem known_cells : rowsV [[48, 49], [49, 48]] = [0, 1, 1, 0] := by decide +kernel
abbrev knownF : Int → Int → Int := Pt.col ⟨2, 0, 2⟩ (csF [0, 1, 1, 0])
theorem known_ok : (⟨2, 0, 2⟩ : Pt.Lat).ok := ⟨by decide, by decide, by decide, by decide⟩
theorem known_isB : Pt.IsB (Pt.Per knownF) ⟨2, 1, 1⟩ := by
  have hper : ∀ x y, Pt.inL ⟨2, 0, 2⟩ x y → Pt.Per knownF x y := fun x y h => Pt.col_per known_ok _ h
  have hm := fun dx dy => moved_per known_ok hper dx dy
  refine ⟨⟨by decide, by decide, by decide, by decide⟩, (hm 2 0).1 (by decide +kernel), (hm 1 1).1 (by decide +kernel), fun a h1 h2 hg => ?_, fun b c h1 h2 _ _ _ => absurd h1 (by have h3 : c < 1 := h2; omega)⟩
  obtain rfl : a = 1 := by dsimp only at h2; omega
  have := (hm 1 0).2 hg
  revert this
  decide +kernel
theorem known_valid : validE 2 0 2 [0, 1, 1, 0] = 0 := by decide +kernel
theorem known_ans : ansC 0 ⟨2, 1, 1⟩ knownF = [0, 1] := by decide +kernel

set_option maxRecDepth 20000 in
set_option maxHeartbeats 2000000 in
theorem parse_known (w : World) (hE : Env w) :
    Calls Tryz.prog 55 #[.string ⟨knownT.toArray⟩] w fun e w' => ∃ u, e = .returned (.tuple #[patV ⟨2, 1, 1⟩ u, .int .i64 0]) ∧ OwnI w.heap.size w' u [0, 1] ∧ Below w.heap.size w w' := by
  have hmf : ∀ (fn : Fn) (first cap : Array Value) (w : World), (Instr.makeFunc fn first cap).run Tryz.prog w = .ok (.func fn first cap) w := fun _ _ _ _ => rfl
  have RD := Lib.hid (fun W (hX : Below w.heap.size w W) => read_ok 2 2 0 [48, 49, 47, 49, 48] knownT W (hE.all hX) (by decide) known_words (by decide) (by decide) (by decide) (by decide) (by decide) (by decide) (by decide) (by rw [known_rows]; rfl) (by
    rw [known_rows]
    intro r hr
    simp only [List.mem_cons, List.not_mem_nil, or_false] at hr
    rcases hr with rfl | rfl
    · exact ⟨rfl, by intro i hi; have : i < 2 := hi; match i, this with | 0, _ => decide +kernel | 1, _ => decide +kernel⟩
    · exact ⟨rfl, by intro i hi; have : i < 2 := hi; match i, this with | 0, _ => decide +kernel | 1, _ => decide +kernel⟩) (by rw [known_rows, known_cells]; decide))
  rw [known_rows, known_cells] at RD
  have PT := Lib.hid (fun (v : Value) W (hv : Ints W v [0, 1, 1, 0]) => bricksPat_ok 2 0 2 v [0, 1, 1, 0] ⟨2, 1, 1⟩ W hv (by decide) (by decide) (by decide) (fun _ => known_isB))
  rw [known_valid] at PT
  unfold PatRes at PT
  rw [known_ans] at PT
  have b0 := (BlockAt.new w #[.int .i64 0, .int .i64 0, .int .i64 0, .slice none 0 0] 24).alloc (.cells #[.int .i64 0] 27)
  have b1 := BlockAt.new (w.alloc (.cells #[.int .i64 0, .int .i64 0, .int .i64 0, .slice none 0 0] 24)) #[.int .i64 0] 27
  simp only [World.size_alloc] at b1
  have hw := below_alloc (below_alloc (Below.refl w.heap.size w) (.cells #[.int .i64 0, .int .i64 0, .int .i64 0, .slice none 0 0] 24)) (.cells #[.int .i64 0] 27)
  have HB := Lib.hid (And.intro b0 (And.intro b1 hw))
  clear b0 b1 hw hE
  go_enter_defers Tryz.func55, Tryz.ntmps55
  go_wp2_with fail
  refine (RD.out _ HB.out.2.2).mono ?_
  rintro e w1 ⟨u, rfl, hown, hb1⟩
  obtain ⟨ua, uc, rfl⟩ := hown.form
  have H1 := Lib.hid (And.intro (HB.out.1.below hb1 HB.out.1.lt) (And.intro (HB.out.2.1.below hb1 HB.out.2.1.lt) (below_step HB.out.2.2 hb1)))
  have HP := Lib.hid (PT.out _ _ hown.ints)
  clear hown hb1 HB RD PT
  go_wp2_with fail
  refine HP.out.mono ?_
  rintro e w2 ⟨v, rfl, hown, hb2⟩
  obtain ⟨va, vc, rfl⟩ := hown.form
  have hB0 := H1.out.1.below hb2 H1.out.1.lt
  have hB1 := H1.out.2.1.below hb2 H1.out.2.1.lt
  have hw2 := below_step H1.out.2.2 hb2
  have d0 : World.cell? _ _ = some (.int .i64 0) := hB0.cell 0
  have d1 : World.cell? _ _ = some (.int .i64 0) := hB0.cell 1
  have d2 : World.cell? _ _ = some (.int .i64 0) := hB0.cell 2
  have d3 : World.cell? _ _ = some (.slice none 0 0) := hB0.cell 3
  have e0 : World.cell? _ _ = some (.int .i64 0) := hB1.cell 0
  have r0 := hB0.frozen 0
  have r1 := hB0.frozen 1
  have r2 := hB0.frozen 2
  have r3 := hB0.frozen 3
  have s0 := hB1.frozen 0
  have hlt := hB0.lt
  have hlt1 := hB1.lt
  have hsz1 := H1.out.2.1.lt
  have HZ := Lib.hid (And.intro hown hw2)
  clear hown hb2 hB0 hB1 hw2 H1 HP
  go_wp2
  refine leaves_cons (f := 98) (args := #[.pointer (some ⟨w.heap.size, 0, none⟩), .pointer (some ⟨w.heap.size + 1, 0, none⟩)]) (by simp) (by simp [go_sem]) ?_
  refine (catch_idle ⟨w.heap.size, 0, none⟩ ⟨w.heap.size + 1, 0, none⟩ _).mono ?_
  rintro e u' w'' ⟨rfl, rfl, rfl⟩
  simp [Leaves, settle, results, Tryz.results55, go_sem, d0, d1, d2, d3, e0, hlt, hlt1]
  refine ⟨_, ⟨rfl, rfl, rfl, rfl⟩, ?_, ?_⟩
  · refine OwnI.mono (base := w1.heap.size) ?_ (by omega)
    iterate 5 (refine OwnI.setOld ?_ (by dsimp only; omega) _)
    exact HZ.out.1
  · iterate 5 (refine Below.setCell ?_ (by dsimp only; omega) _)
    exact HZ.out.2

set_option maxRecDepth 20000 in
set_option maxHeartbeats 2000000 in
theorem known_any (w : World) (hE : Env w) :
    Calls Tryz.prog 18 #[] w fun e w' => e = .returned (.bool true) ∧ Below w.heap.size w w' := by
  have PA := Lib.hid (parse_known w hE)
  clear hE
  go_enter Tryz.func18, Tryz.ntmps18
  go_wp2_with fail
  refine PA.out.mono ?_
  rintro e w1 ⟨u, rfl, hown, hb1⟩
  have hi := hown.ints
  obtain ⟨b, off, cap, hu, _, hb, hc⟩ : ∃ b off cap, u = .slice (some ⟨b, off, none⟩) 2 cap ∧ 2 ≤ cap ∧ b < w1.heap.size ∧ ∀ k, k < 2 → w1.cell? ⟨b, off + k, none⟩ = some (.int .i64 ([0, 1].getD k 0)) := by
    rcases hi with ⟨_, _, _, h⟩ | h
    · simp at h
    · exact h
  subst hu
  have c0 : w1.cell? ⟨b, off, none⟩ = some (.int .i64 0) := hc 0 (by decide)
  have c1 : w1.cell? ⟨b, off + 1, none⟩ = some (.int .i64 1) := hc 1 (by decide)
  have hne : ¬ w1.heap.size = b := by omega
  have hne2 : ¬ b = w1.heap.size := by omega
  have HZ := Lib.hid hb1
  clear hi hc hown hb1 PA
  go_wp2
  go_ret
  exact ⟨rfl, below_alloc HZ.out _⟩
end Go.Proofs.YtigigmjdockdeaaGreatDoor
