/- The first example is parsed: known. -/
import Derived.Test.YtigigmjdockdeaaGreatDoorPat28
import Derived.Laws.Pointers
namespace Go.Proofs.YtigigmjdockdeaaGreatDoor
open Go.RowKit Go.Sort

set_option maxRecDepth 20000 in
set_option maxHeartbeats 2000000 in
theorem read_ok (A C d : Int) (x : List UInt8) (t : List UInt8) (w : World) (hE : Env w) (ht : t.length ≤ 4000) (h : Tx.spl 32 t = [bricksW, Lib.itoa A, Lib.itoa C, Lib.itoa d, x]) (hx : x.length ≤ 100000)
    (h1 : 1 ≤ A) (h2 : A ≤ 100000) (h3 : 0 ≤ C) (h4 : C ≤ 100000) (h5 : -100000 ≤ d) (h6 : d ≤ 100000) (hh : ((Tx.spl 47 x).length : Int) = C) (hrs : ∀ r ∈ Tx.spl 47 x, (r.length : Int) = A ∧ allDig ⟨r.toArray⟩) (hn : (rowsV (Tx.spl 47 x)).length ≤ 100000) :
    Calls Tryz.prog 99 #[.string ⟨t.toArray⟩] w fun e w' => ∃ u, e = .returned (exprV ⟨bricksW.toArray⟩ ⟨A, d % A, C⟩ u (.slice none 0 0) (.slice none 0 0)) ∧ OwnI w.heap.size w' u (rowsV (Tx.spl 47 x)) ∧ Below w.heap.size w w' := by
  have RQ := Lib.hid (fun W => require_ok W)
  have SP := Lib.hid (fun W (hX : Below w.heap.size w W) => splitLib_any t 32 W (hE.all hX) (by omega))
  rw [h] at SP
  unfold SplitSays at SP
  have EX := Lib.hid (fun (R g : Nat) W (hX : Below w.heap.size w W) (hR : w.heap.size ≤ R) (hr : RdAt W R g _) => expr_ok w R g A C d x [] W hE hX hR hr (by simp) hx h1 h2 h3 h4 h5 h6 hh hrs hn)
  have b0 := BlockAt.new w exprZ 93
  have hw0 := below_alloc (Below.refl w.heap.size w) (.cells exprZ 93)
  have H0 := Lib.hid (And.intro b0 hw0)
  have HF : Hid (∀ W W' : World, ∀ c, BlockAt W w.heap.size c 93 → W'.heap[w.heap.size]? = W.heap[w.heap.size]? → BlockAt W' w.heap.size c 93) := Lib.hid fun W W' c h e => e.trans h
  clear hE h hh hrs hn b0 hw0
  generalize rowsV (Tx.spl 47 x) = cells at *
  generalize d % A = dm at *
  generalize Lib.itoa A = tA at *
  generalize Lib.itoa C = tC at *
  generalize Lib.itoa d = td at *
  go_enter Tryz.func99, Tryz.ntmps99
  go_wp2_with fail
  refine (SP.out _ H0.out.2).mono ?_
  rintro e w1 ⟨rfl, hcell, hlt1, hb1⟩
  have hB1 := H0.out.1.below hb1 H0.out.1.lt
  have hw1 := below_step H0.out.2 hb1
  have hlt0 := H0.out.1.lt
  have hlt0' := hB1.lt
  simp only [World.size_alloc] at hlt1 hcell
  have hR : RdAt (w1.alloc (.cells #[.slice (some ⟨w.heap.size + 1, 0, none⟩) 5 5] 125)) w1.heap.size (w.heap.size + 1) [bricksW, tA, tC, td, x] := ⟨0, 5, BlockAt.new _ _ _, by simp, by simp; omega, by omega, fun k hk => by
    rw [Nat.zero_add]
    exact ((below_alloc (Below.refl w1.heap.size w1) _).cell (p := ⟨w.heap.size + 1, k, none⟩) hlt1).trans (hcell k hk)⟩
  have H1 := Lib.hid (And.intro hR (And.intro (hB1.alloc (.cells #[.slice (some ⟨w.heap.size + 1, 0, none⟩) 5 5] 125)) (below_alloc hw1 (.cells #[.slice (some ⟨w.heap.size + 1, 0, none⟩) 5 5] 125))))
  have HX := Lib.hid (EX.out w1.heap.size (w.heap.size + 1) _ H1.out.2.2 hw1.size H1.out.1)
  clear hcell hb1 hB1 hw1 hR SP EX
  go_wp2_with fail
  refine HX.out.mono ?_
  rintro e w2 ⟨u, rfl, hown, hr, hk⟩
  obtain ⟨ua, uc, rfl⟩ := hown.form
  have hP2 := H1.out.2.1.kb hk (by omega)
  have hw2 := below_kb H1.out.2.2 (by omega) hk
  have hr2 := hr.below ((Below.refl _ _).alloc (Nat.le_refl _) (.cells #[.string ⟨bricksW.toArray⟩, .int .i64 A, .int .i64 dm, .int .i64 C, .slice ua cells.length uc, .slice none 0 0, .slice none 0 0] 93))
  obtain ⟨off, cap, hrb, _⟩ := hr2
  have hwsz := hk.size
  simp only [World.size_alloc] at hwsz
  have hne5 : ¬ w2.heap.size = w1.heap.size := by omega
  have hne6 : ¬ w1.heap.size = w2.heap.size := by omega
  have hlt2 : w1.heap.size < w2.heap.size := by omega
  have c0 : World.cell? w2 ⟨w1.heap.size, 0, none⟩ = some (.slice (some ⟨w.heap.size + 1, off, none⟩) 0 cap) := by
    have := hrb.cell 0
    rw [World.cell?_of_block (w := w2) (Below.heap_alloc _ _ _ hlt2)] at this
    exact this
  have d0 : World.cell? _ _ = some (.string ⟨#[]⟩) := hP2.cell 0
  have d1 : World.cell? _ _ = some (.int .i64 0) := hP2.cell 1
  have d2 : World.cell? _ _ = some (.int .i64 0) := hP2.cell 2
  have d3 : World.cell? _ _ = some (.int .i64 0) := hP2.cell 3
  have d4 : World.cell? _ _ = some (.slice none 0 0) := hP2.cell 4
  have d5 : World.cell? _ _ = some (.slice none 0 0) := hP2.cell 5
  have d6 : World.cell? _ _ = some (.slice none 0 0) := hP2.cell 6
  have r0 := hP2.frozen 0
  have r1 := hP2.frozen 1
  have r2 := hP2.frozen 2
  have r3 := hP2.frozen 3
  have r4 := hP2.frozen 4
  have r5 := hP2.frozen 5
  have r6 := hP2.frozen 6
  have hplt := hP2.lt
  have hne3 : ¬ w2.heap.size = w.heap.size := by omega
  have hne4 : ¬ w.heap.size = w2.heap.size := by omega
  have HZ := Lib.hid (And.intro hown hw2)
  clear hr hk hown hrb hP2 hw2 HX H1 H0 HF
  go_wp2_with fail
  refine (RQ.out _).mono ?_
  rintro e w3 ⟨rfl, rfl⟩
  go_wp2
  refine bodyPost_ret (v := exprV ⟨bricksW.toArray⟩ ⟨A, dm, C⟩ (.slice ua cells.length uc) (.slice none 0 0) (.slice none 0 0)) (by simp [results, Tryz.results99, go_sem, d0, d1, d2, d3, d4, d5, d6, hplt, hne3, hne4]) rfl ⟨_, rfl, ?_, ?_⟩
  · have h1 := HZ.out.1
    refine OwnI.mono (base := w1.heap.size + 1) ?_ (by omega)
    refine OwnI.alloc ?_ _
    iterate 7 (refine OwnI.setOld ?_ (by dsimp only; omega) _)
    simpa using h1
  · refine below_alloc ?_ _
    iterate 7 (refine Below.setCell ?_ (by dsimp only; omega) _)
    exact HZ.out.2

theorem catch_idle (p q : Addr) (w : World) :
    CallsD Tryz.prog 98 #[.pointer (some p), .pointer (some q)] .returning w fun e u' w' => e = .returned (.tuple #[]) ∧ u' = .returning ∧ w' = w := by
  refine callsD_of_wpS Tryz.func98 rfl fun c₀ cs hu => ?_
  apply wpS_seq
  apply wpS_region
  simp [wpOpsS, go_sem, recoverD, hu, Tryz.ntmps98, Exit.thenS]
  refine wpS_cond (t := false) (by simp [Act.eval, Array.replicate]) ?_
  simp only [Bool.false_eq_true, if_false]
  refine wpS_of_wp (wp_skip ?_)
  cases c₀
  simp_all [bodyPostS, results, Tryz.results98]
end Go.Proofs.YtigigmjdockdeaaGreatDoor
