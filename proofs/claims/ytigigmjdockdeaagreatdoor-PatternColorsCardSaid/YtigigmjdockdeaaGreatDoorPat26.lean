/- The parser of patterns reads the bricks of the first example. -/
import Derived.Test.YtigigmjdockdeaaGreatDoorPat25
namespace Go.Proofs.YtigigmjdockdeaaGreatDoor
open Go.RowKit Go.Sort

theorem RdAt.other {W : World} {R g B i : Nat} {ws : List (List UInt8)} (h : RdAt W R g ws) (h1 : R ≠ B) (h2 : g ≠ B) (u : Value) : RdAt (W.setCell ⟨B, i, none⟩ u) R g ws := by
  obtain ⟨off, cap, g1, g2, g3, g4, g5⟩ := h
  exact ⟨off, cap, g1.other h1 _, g2, by simpa [World.setCell] using g3, g4, fun k hk => (World.cell?_of_block (w := W) (Below.heap_setCell _ _ _ _ h2)).trans (g5 k hk)⟩

set_option maxRecDepth 20000 in
set_option maxHeartbeats 2000000 in
theorem bricks_ok (w0 : World) (R g : Nat) (A C d : Int) (x : List UInt8) (ws : List (List UInt8)) (w : World) (hE : Env w0) (hW : Below w0.heap.size w0 w) (hR : w0.heap.size ≤ R) (h : RdAt w R g (Lib.itoa A :: Lib.itoa C :: Lib.itoa d :: x :: ws)) (hl : ws.length ≤ 10000) (hx : x.length ≤ 100000)
    (h1 : 1 ≤ A) (h2 : A ≤ 100000) (h3 : 0 ≤ C) (h4 : C ≤ 100000) (h5 : -100000 ≤ d) (h6 : d ≤ 100000) (hh : ((Tx.spl 47 x).length : Int) = C) (hrs : ∀ r ∈ Tx.spl 47 x, (r.length : Int) = A ∧ allDig ⟨r.toArray⟩) (hn : (rowsV (Tx.spl 47 x)).length ≤ 100000) :
    Calls Tryz.prog 137 #[.pointer (some ⟨R, 0, none⟩)] w fun e w' => ∃ u, e = .returned (patV ⟨A, d % A, C⟩ u) ∧ OwnI w.heap.size w' u (rowsV (Tx.spl 47 x)) ∧ RdAt w' R g ws ∧ Kb R w w' := by
  have hlt := h.lt
  have hgt := h.lt2
  have N1 := Lib.hid (fun W (hX : Below w0.heap.size w0 W) (hr : RdAt W R g _) => number_ok w0 R g A (Lib.itoa C :: Lib.itoa d :: x :: ws) W hE hX hR hr (by simp; omega) (by omega) (by omega))
  have N2 := Lib.hid (fun W (hX : Below w0.heap.size w0 W) (hr : RdAt W R g _) => number_ok w0 R g C (Lib.itoa d :: x :: ws) W hE hX hR hr (by simp; omega) (by omega) (by omega))
  have N3 := Lib.hid (fun W (hX : Below w0.heap.size w0 W) (hr : RdAt W R g _) => number_ok w0 R g d (x :: ws) W hE hX hR hr (by simp; omega) (by omega) (by omega))
  have RS := Lib.hid (fun W (hX : Below w0.heap.size w0 W) (hr : RdAt W R g _) => rows_ok w0 R g A C x ws W hE hX hR hr (by omega) hx h1 h2 hh hrs hn)
  have MD := Lib.hid (fun W => modulo_any d A W h1 (by omega) (by omega) (by omega))
  have b0 := BlockAt.new w #[.int .i64 0, .int .i64 0, .int .i64 0, .slice none 0 0] 24
  have H0 := Lib.hid (And.intro (h.below ((Below.refl _ _).alloc (Nat.le_refl _) (.cells #[.int .i64 0, .int .i64 0, .int .i64 0, .slice none 0 0] 24))) (And.intro b0 ((Kb.refl R w).alloc (.cells #[.int .i64 0, .int .i64 0, .int .i64 0, .slice none 0 0] 24))))
  have HW := Lib.hid (fun W' (k : Kb R w W') => below_kb hW hR k)
  have hne : w.heap.size ≠ R := by omega
  clear h hE hW hrs hh b0 hn
  generalize rowsV (Tx.spl 47 x) = cells at *
  generalize d % A = dm at *
  generalize Lib.itoa A = tA at *
  generalize Lib.itoa C = tC at *
  generalize Lib.itoa d = td at *
  go_enter Tryz.func137, Tryz.ntmps137
  go_wp2_with fail
  refine (N1.out _ (HW.out _ H0.out.2.2) H0.out.1).mono ?_
  rintro e w1 ⟨rfl, hr, hk⟩
  have H1 := Lib.hid (And.intro hr (And.intro (H0.out.2.1.kb hk hne) (H0.out.2.2.trans hk)))
  clear hr hk H0 N1
  go_wp2_with fail
  refine (N2.out _ (HW.out _ H1.out.2.2) H1.out.1).mono ?_
  rintro e w2 ⟨rfl, hr, hk⟩
  have hb2 := BlockAt.new w2 #[.int .i64 A, .int .i64 0, .int .i64 C, .slice none 0 0] 24
  have hsz2 := (H1.out.2.2.trans hk).size
  have H2 := Lib.hid (And.intro (hr.below ((Below.refl _ _).alloc (Nat.le_refl _) (.cells #[.int .i64 A, .int .i64 0, .int .i64 C, .slice none 0 0] 24))) (And.intro ((H1.out.2.1.kb hk hne).alloc (.cells #[.int .i64 A, .int .i64 0, .int .i64 C, .slice none 0 0] 24)) (And.intro hb2 ((H1.out.2.2.trans hk).alloc (.cells #[.int .i64 A, .int .i64 0, .int .i64 C, .slice none 0 0] 24)))))
  have hlt2 := (H1.out.2.1.kb hk hne).lt
  have hrlt2 := hr.lt
  clear hr hk H1 N2 hb2
  have hne2 : w2.heap.size ≠ R := by omega
  go_wp2_with fail
  refine (N3.out _ (HW.out _ H2.out.2.2.2) H2.out.1).mono ?_
  rintro e w3 ⟨rfl, hr, hk⟩
  have H3 := Lib.hid (And.intro hr (And.intro (H2.out.2.1.kb hk hne) (And.intro (H2.out.2.2.1.kb hk hne2) (H2.out.2.2.2.trans hk))))
  clear hr hk H2 N3
  have c0 : World.cell? _ _ = some (.int .i64 A) := H3.out.2.2.1.cell 0
  have c2 : World.cell? _ _ = some (.int .i64 C) := H3.out.2.2.1.cell 2
  go_wp2_with fail
  refine (RS.out _ (HW.out _ H3.out.2.2.2) H3.out.1).mono ?_
  rintro e w4 ⟨u, rfl, hown, hr, hk⟩
  obtain ⟨ua, uc, rfl⟩ := hown.form
  have hsz3 := H3.out.2.2.1.lt
  have hB4 := H3.out.2.2.1.kb hk hne2
  have c0 : World.cell? _ _ = some (.int .i64 A) := hB4.cell 0
  have c2 : World.cell? _ _ = some (.int .i64 C) := hB4.cell 2
  have c1 : World.cell? _ _ = some (.int .i64 0) := hB4.cell 1
  have c3 : World.cell? _ _ = some (.slice none 0 0) := hB4.cell 3
  have f1 := hB4.frozen 1
  have f3 := hB4.frozen 3
  have hlt4 := hB4.lt
  have hP4 := H3.out.2.1.kb hk hne
  have d0 : World.cell? _ _ = some (.int .i64 0) := hP4.cell 0
  have d1 : World.cell? _ _ = some (.int .i64 0) := hP4.cell 1
  have d2 : World.cell? _ _ = some (.int .i64 0) := hP4.cell 2
  have d3 : World.cell? _ _ = some (.slice none 0 0) := hP4.cell 3
  have r0 := hP4.frozen 0
  have r1 := hP4.frozen 1
  have r2 := hP4.frozen 2
  have r3 := hP4.frozen 3
  have hplt := hP4.lt
  have hne3 : ¬ w2.heap.size = w.heap.size := by omega
  have hne4 : ¬ w.heap.size = w2.heap.size := by omega
  have HZ := Lib.hid (And.intro hr (And.intro hown (H3.out.2.2.2.trans hk)))
  have HS3 := Lib.hid H3.out.2.2.2.size
  clear hr hk hown hB4 hP4 H3 RS
  go_wp2_with fail
  refine (MD.out _).mono ?_
  rintro e w5 ⟨rfl, rfl⟩
  go_wp2
  refine bodyPost_ret (v := patV ⟨A, dm, C⟩ (.slice ua cells.length uc)) (by simp [results, Tryz.results137, go_sem, d0, d1, d2, d3, hplt, hne3, hne4]) rfl ⟨_, rfl, ?_, ?_, ?_⟩
  · have h0 := HS3.out
    have h1 := HZ.out.2.1
    refine OwnI.mono (base := w3.heap.size) ?_ h0
    repeat (refine OwnI.setOld ?_ (by dsimp only; omega) _)
    exact h1
  · repeat (refine RdAt.other ?_ (by omega) (by omega) _)
    exact HZ.out.1
  · repeat (refine Kb.set ?_ (by dsimp only; omega) _)
    exact HZ.out.2.2
end Go.Proofs.YtigigmjdockdeaaGreatDoor
