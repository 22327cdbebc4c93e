/- The plane of a pattern: pattern.planeOf. -/
import Derived.Test.YtigigmjdockdeaaGreatDoorPat7
import Derived.Laws.EntriesVeiled
namespace Go.Proofs.YtigigmjdockdeaaGreatDoor
open Go.RowKit

abbrev planeV (n : Int) (l : Pt.Lat) (B : Nat) : Value := .agg #[.int .i64 n, .func (.func 109) #[latV l] #[], .func (.func 110) #[] #[.pointer (some ⟨B, 0, none⟩)]]
theorem BlockAt.pat {W : World} {B : Nat} {l : Pt.Lat} {v : Value} {t : TypeId} (h : BlockAt W B #[.int .i64 l.a, .int .i64 l.b, .int .i64 l.c, v] t) : PatAt W B l v := ⟨h.cell 0, h.cell 1, h.cell 2, h.cell 3, h.lt⟩
theorem PatAt.other {W : World} {B B' i : Nat} {l : Pt.Lat} {v : Value} (h : PatAt W B l v) (hne : B ≠ B') (u : Value) : PatAt (W.setCell ⟨B', i, none⟩ u) B l v := by
  have hb : (W.setCell ⟨B', i, none⟩ u).heap[B]? = W.heap[B]? := Below.heap_setCell _ _ _ _ hne
  obtain ⟨h0, h1, h2, h3, h4⟩ := h
  exact ⟨(World.cell?_of_block (w := W) hb).trans h0, (World.cell?_of_block (w := W) hb).trans h1, (World.cell?_of_block (w := W) hb).trans h2, (World.cell?_of_block (w := W) hb).trans h3, by simp; exact h4⟩

set_option maxRecDepth 20000 in
set_option maxHeartbeats 2000000 in
theorem planeOf_any (l : Pt.Lat) (n : Nat) (a : Option Addr) (c : Nat) (w : World) (hn : n ≤ 1000000) :
    Calls Tryz.prog 72 #[patV l (.slice a n c)] w fun e w' => e = .returned (planeV n l w.heap.size) ∧ PatAt w' w.heap.size l (.slice a n c) ∧ w.heap.size < w'.heap.size ∧ Below w.heap.size w w' := by
  have L := Lib.hid (fun W => latticeOf_any l (.slice a n c) W rfl)
  have b0 := (BlockAt.new w #[.int .i64 l.a, .int .i64 l.b, .int .i64 l.c, .slice a n c] 24).alloc (.cells #[.int .i64 0, .nilFunc, .nilFunc] 78)
  have b1 := BlockAt.new (w.alloc (.cells #[.int .i64 l.a, .int .i64 l.b, .int .i64 l.c, .slice a n c] 24)) #[.int .i64 0, .nilFunc, .nilFunc] 78
  simp only [World.size_alloc] at b1
  have hw := below_alloc (below_alloc (Below.refl w.heap.size w) (.cells #[.int .i64 l.a, .int .i64 l.b, .int .i64 l.c, .slice a n c] 24)) (.cells #[.int .i64 0, .nilFunc, .nilFunc] 78)
  go_enter Tryz.func72, Tryz.ntmps72
  have P0 := b0.pat
  have HB := Lib.hid (And.intro b0 (And.intro b1 hw))
  clear b0 b1 hw
  go_upto_region 1 with fail
  refine wp_region_seq [(0, true), (1, true), (3, true), (6, true), (2, true), (4, false), (5, true), (7, true), (8, false)] (fun W => PatAt W w.heap.size l (.slice a n c))
    (by kernel_rfl) (by kernel_rfl) (by kernel_rfl) (by kernel_rfl) (fun d _ _ _ _ h => by cases d <;> exact h) P0 (fun hS => ?_)
  repeat (first
    | (refine SeqH.take (v := ?_) rfl (by rfl) ?_ ?_; rotate_left; (· intro w hSw; (try dsimp only at hSw); obtain ⟨c0, c1, c2, c3, _⟩ := hSw; go_simp; (try with_reducible rfl)); simp only [Act.put, List.setIfInBounds_toArray, List.set_cons_zero, List.set_cons_succ]))
  refine SeqH.step rfl (by rfl) (fun K hK => ?_)
  go_simp
  go_at_call 63
  refine (L.out _).mono ?_
  rintro e w1 ⟨rfl, hb1⟩
  try dsimp only
  have hP1 : PatAt w1 w.heap.size l (.slice a n c) := hS.all hb1
  have HN := Lib.hid (And.intro (HB.out.2.1.drew.below hb1 HB.out.2.1.drew.lt) (below_step HB.out.2.2.drew hb1))
  refine hK.out _ _ hP1 (fun _ => ?_)
  clear hK K hb1 hS P0 HB
  try simp only [Act.put, List.setIfInBounds_toArray, List.set_cons_zero, List.set_cons_succ]
  repeat (first
    | (refine SeqH.take (v := ?_) rfl (by rfl) ?_ ?_; rotate_left; (· intro w hSw; (try dsimp only at hSw); obtain ⟨c0, c1, c2, c3, _⟩ := hSw; go_simp; (try with_reducible rfl)); simp only [Act.put, List.setIfInBounds_toArray, List.set_cons_zero, List.set_cons_succ]))
  have c0 : World.cell? _ _ = some (.int .i64 0) := HN.out.1.cell 0
  have c1 : World.cell? _ _ = some .nilFunc := HN.out.1.cell 1
  have c2 : World.cell? _ _ = some .nilFunc := HN.out.1.cell 2
  have f0 := HN.out.1.frozen 0
  have f1 := HN.out.1.frozen 1
  have f2 := HN.out.1.frozen 2
  refine SeqH.step rfl (by rfl) (fun K hK => ?_)
  go_simp
  have hP2 : PatAt (((w1.setCell ⟨w.heap.size + 1, 0, none⟩ (.int .i64 n)).setCell ⟨w.heap.size + 1, 1, none⟩ (.func (.func 109) #[latV l] #[])).setCell ⟨w.heap.size + 1, 2, none⟩ (.func (.func 110) #[] #[.pointer (some ⟨w.heap.size, 0, none⟩)])) w.heap.size l (.slice a n c) := by
    exact ((hP1.other (by omega) _).other (by omega) _).other (by omega) _
  refine hK.out _ _ hP2 (fun _ => ?_)
  clear hK K
  try simp only [Act.put, List.setIfInBounds_toArray, List.set_cons_zero, List.set_cons_succ]
  refine SeqH.done ?_
  go_wp2
  refine bodyPost_ret (v := planeV n l w.heap.size) (by simp [results, Tryz.results72, go_sem, c0, c1, c2]) rfl ⟨rfl, hP2, by have := HN.out.1.lt; simp; omega, ?_⟩
  exact ((HN.out.2.setCell (by simp) _).setCell (by simp) _).setCell (by simp) _
end Go.Proofs.YtigigmjdockdeaaGreatDoor
