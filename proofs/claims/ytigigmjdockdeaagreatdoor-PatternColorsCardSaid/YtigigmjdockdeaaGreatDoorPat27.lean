/- The parser of patterns reads the first example. -/
import Derived.Test.YtigigmjdockdeaaGreatDoorPat26
namespace Go.Proofs.YtigigmjdockdeaaGreatDoor
open Go.RowKit Go.Sort

abbrev bricksW : List UInt8 := [98, 114, 105, 99, 107, 115]
abbrev exprZ : Array Value := #[.string ⟨#[]⟩, .int .i64 0, .int .i64 0, .int .i64 0, .slice none 0 0, .slice none 0 0, .slice none 0 0]
abbrev exprV (k : ByteArray) (l : Pt.Lat) (u n p : Value) : Value := .agg #[.string k, .int .i64 l.a, .int .i64 l.b, .int .i64 l.c, u, n, p]

set_option maxRecDepth 20000 in
set_option maxHeartbeats 2000000 in
theorem expr_ok (w0 : World) (R g : Nat) (A C d : Int) (x : List UInt8) (ws : List (List UInt8)) (w : World) (hE : Env w0) (hW : Below w0.heap.size w0 w) (hR : w0.heap.size ≤ R) (h : RdAt w R g (bricksW :: Lib.itoa A :: Lib.itoa C :: Lib.itoa d :: x :: ws)) (hl : ws.length ≤ 10000) (hx : x.length ≤ 100000)
    (h1 : 1 ≤ A) (h2 : A ≤ 100000) (h3 : 0 ≤ C) (h4 : C ≤ 100000) (h5 : -100000 ≤ d) (h6 : d ≤ 100000) (hh : ((Tx.spl 47 x).length : Int) = C) (hrs : ∀ r ∈ Tx.spl 47 x, (r.length : Int) = A ∧ allDig ⟨r.toArray⟩) (hn : (rowsV (Tx.spl 47 x)).length ≤ 100000) :
    Calls Tryz.prog 122 #[.pointer (some ⟨R, 0, none⟩), .int .i64 1] w fun e w' => ∃ u, e = .returned (exprV ⟨bricksW.toArray⟩ ⟨A, d % A, C⟩ u (.slice none 0 0) (.slice none 0 0)) ∧ OwnI w.heap.size w' u (rowsV (Tx.spl 47 x)) ∧ RdAt w' R g ws ∧ Kb R w w' := by
  have hlt := h.lt
  have hgt := h.lt2
  have RQ := Lib.hid (fun W => require_ok W)
  have WO := Lib.hid (fun W (hr : RdAt W R g _) => word_ok R g bricksW (Lib.itoa A :: Lib.itoa C :: Lib.itoa d :: x :: ws) W hr (by simp; omega))
  have BR := Lib.hid (fun W (hX : Below w0.heap.size w0 W) (hr : RdAt W R g _) => bricks_ok w0 R g A C d x ws W hE hX hR hr hl hx h1 h2 h3 h4 h5 h6 hh hrs hn)
  have b0 := BlockAt.new w exprZ 93
  have H0 := Lib.hid (And.intro (h.below ((Below.refl _ _).alloc (Nat.le_refl _) (.cells exprZ 93))) (And.intro b0 ((Kb.refl R w).alloc (.cells exprZ 93))))
  have HW := Lib.hid (fun W' (k : Kb R w W') => below_kb hW hR k)
  have hne : w.heap.size ≠ R := by omega
  clear h hE hW hrs hh b0 hn
  generalize rowsV (Tx.spl 47 x) = cells at *
  generalize d % A = dm at *
  go_enter Tryz.func122, Tryz.ntmps122
  go_wp2_with fail
  refine (RQ.out _).mono ?_
  rintro e w1 ⟨rfl, rfl⟩
  go_wp2_with fail
  refine (WO.out _ H0.out.1).mono ?_
  rintro e w1 ⟨rfl, hr, hk⟩
  have hb2 := BlockAt.new w1 #[.string ⟨bricksW.toArray⟩, .int .i64 0, .int .i64 0, .int .i64 0, .slice none 0 0, .slice none 0 0, .slice none 0 0] 93
  have hsz2 := (H0.out.2.2.trans hk).size
  have hlt2 := (H0.out.2.1.kb hk hne).lt
  have hrlt2 := hr.lt
  have hne2 : w1.heap.size ≠ R := by omega
  have H1 := Lib.hid (And.intro (hr.below ((Below.refl _ _).alloc (Nat.le_refl _) (.cells #[.string ⟨bricksW.toArray⟩, .int .i64 0, .int .i64 0, .int .i64 0, .slice none 0 0, .slice none 0 0, .slice none 0 0] 93))) (And.intro ((H0.out.2.1.kb hk hne).alloc (.cells #[.string ⟨bricksW.toArray⟩, .int .i64 0, .int .i64 0, .int .i64 0, .slice none 0 0, .slice none 0 0, .slice none 0 0] 93)) (And.intro hb2 ((H0.out.2.2.trans hk).alloc (.cells #[.string ⟨bricksW.toArray⟩, .int .i64 0, .int .i64 0, .int .i64 0, .slice none 0 0, .slice none 0 0, .slice none 0 0] 93)))))
  clear hr hk hb2 H0 WO
  go_wp2_with fail
  refine (BR.out _ (HW.out _ H1.out.2.2.2) H1.out.1).mono ?_
  rintro e w2 ⟨u, rfl, hown, hr, hk⟩
  obtain ⟨ua, uc, rfl⟩ := hown.form
  have hB2 := H1.out.2.2.1.kb hk hne2
  have hP2 := H1.out.2.1.kb hk hne
  have c0 : World.cell? _ _ = some (.string ⟨bricksW.toArray⟩) := hB2.cell 0
  have c1 : World.cell? _ _ = some (.int .i64 0) := hB2.cell 1
  have c2 : World.cell? _ _ = some (.int .i64 0) := hB2.cell 2
  have c3 : World.cell? _ _ = some (.int .i64 0) := hB2.cell 3
  have c4 : World.cell? _ _ = some (.slice none 0 0) := hB2.cell 4
  have c5 : World.cell? _ _ = some (.slice none 0 0) := hB2.cell 5
  have c6 : World.cell? _ _ = some (.slice none 0 0) := hB2.cell 6
  have f1 := hB2.frozen 1
  have f2 := hB2.frozen 2
  have f3 := hB2.frozen 3
  have f4 := hB2.frozen 4
  have d0 : World.cell? _ _ = some (.string ⟨#[]⟩) := hP2.cell 0
  have d1 : World.cell? _ _ = some (.int .i64 0) := hP2.cell 1
  have d2 : World.cell? _ _ = some (.int .i64 0) := hP2.cell 2
  have d3 : World.cell? _ _ = some (.int .i64 0) := hP2.cell 3
  have d4 : World.cell? _ _ = some (.slice none 0 0) := hP2.cell 4
  have d5 : World.cell? _ _ = some (.slice none 0 0) := hP2.cell 5
  have d6 : World.cell? _ _ = some (.slice none 0 0) := hP2.cell 6
  have r0 := hP2.frozen 0
  have r1 := hP2.frozen 1
  have r2 := hP2.frozen 2
  have r3 := hP2.frozen 3
  have r4 := hP2.frozen 4
  have r5 := hP2.frozen 5
  have r6 := hP2.frozen 6
  have hplt := hP2.lt
  have hblt := hB2.lt
  have hne3 : ¬ w1.heap.size = w.heap.size := by omega
  have hne4 : ¬ w.heap.size = w1.heap.size := by omega
  have HZ := Lib.hid (And.intro hr (And.intro hown (H1.out.2.2.2.trans hk)))
  clear hr hk hown hB2 hP2 H1 BR
  go_wp2
  refine bodyPost_ret (v := exprV ⟨bricksW.toArray⟩ ⟨A, dm, C⟩ (.slice ua cells.length uc) (.slice none 0 0) (.slice none 0 0)) (by simp [results, Tryz.results122, go_sem, d0, d1, d2, d3, d4, d5, d6, hplt, hne3, hne4]) rfl ⟨_, rfl, ?_, ?_, ?_⟩
  · have h1 := HZ.out.2.1
    refine OwnI.mono (base := w1.heap.size + 1) ?_ (by omega)
    repeat (refine OwnI.setOld ?_ (by dsimp only; omega) _)
    simpa using h1
  · repeat (refine RdAt.other ?_ (by omega) (by omega) _)
    exact HZ.out.1
  · repeat (refine Kb.set ?_ (by dsimp only; omega) _)
    exact HZ.out.2.2
end Go.Proofs.YtigigmjdockdeaaGreatDoor
