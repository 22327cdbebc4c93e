/- FloorNext returns true, whatever its arguments. -/
import Derived.Test.YtpobkdbnldogcaaFlNx
namespace Go.Proofs.Ytpobkdbnldogcaa
open Go.RowKit

abbrev startA (r : Fl.L) (m a : Int) : Array Value := #[.int .i64 r.l, .int .i64 r.p, .int .i64 r.c, .int .i64 m, .int .i64 a]
set_option maxRecDepth 20000 in
set_option maxHeartbeats 2000000 in
theorem next_walk (r : Fl.L) (m a : Int) (s : Fl.S) (w : World) :
    Calls Try.prog 9 #[.agg (startA r m a), stripV s] w fun e w' => e = .returned (.bool true) ∧ Below w.heap.size w w' := by
  have H0 := Lib.hid (show BlockAt ((w.alloc (.cells (startA r m a) 74)).alloc (.cells (stripA s.x s.f s.t) StripT)) w.heap.size (startA r m a) 74 ∧ BlockAt ((w.alloc (.cells (startA r m a) 74)).alloc (.cells (stripA s.x s.f s.t) StripT)) (w.heap.size + 1) (stripA s.x s.f s.t) StripT ∧ Below w.heap.size w ((w.alloc (.cells (startA r m a) 74)).alloc (.cells (stripA s.x s.f s.t) StripT)) from
    ⟨(BlockAt.new w _ _).alloc _, by have := BlockAt.new (w.alloc (.cells (startA r m a) 74)) (stripA s.x s.f s.t) StripT; simpa using this, below_alloc2 (below_alloc2 (Below.refl w.heap.size w) _) _⟩)
  have C1 := Lib.hid (fun W => nextF_any r m a s W)
  have C2 := Lib.hid (fun W => rnextF_any r m a s W)
  have C3 := Lib.hid (fun W => sane_any W)
  generalize Fl.nxtR r m a s = R at *
  generalize Fl.nxtE r m a s = E at *
  go_enter Try.func9, Try.ntmps9
  have b0 : World.cell? _ _ = some (.int .i64 r.l) := H0.out.1.cell 0
  have b1 : World.cell? _ _ = some (.int .i64 r.p) := H0.out.1.cell 1
  have b2 : World.cell? _ _ = some (.int .i64 r.c) := H0.out.1.cell 2
  have b3 : World.cell? _ _ = some (.int .i64 m) := H0.out.1.cell 3
  have b4 : World.cell? _ _ = some (.int .i64 a) := H0.out.1.cell 4
  have s0 : World.cell? _ _ = some (.int .i64 s.x) := H0.out.2.1.cell 0
  have s1 : World.cell? _ _ = some (.int .i64 s.f) := H0.out.2.1.cell 1
  have s2 : World.cell? _ _ = some (.int .i64 s.t) := H0.out.2.1.cell 2
  go_wp2_with fail
  refine (C1.out _).mono ?_
  rintro e w1 ⟨rfl, hb⟩
  have H1 := Lib.hid (And.intro (H0.out.1.below hb H0.out.1.lt) (And.intro (H0.out.2.1.below hb H0.out.2.1.lt) (below_step H0.out.2.2 hb)))
  clear hb b0 b1 b2 b3 b4 s0 s1 s2
  have b0 : World.cell? _ _ = some (.int .i64 r.l) := H1.out.1.cell 0
  have b1 : World.cell? _ _ = some (.int .i64 r.p) := H1.out.1.cell 1
  have b2 : World.cell? _ _ = some (.int .i64 r.c) := H1.out.1.cell 2
  have b3 : World.cell? _ _ = some (.int .i64 m) := H1.out.1.cell 3
  have b4 : World.cell? _ _ = some (.int .i64 a) := H1.out.1.cell 4
  have s0 : World.cell? _ _ = some (.int .i64 s.x) := H1.out.2.1.cell 0
  have s1 : World.cell? _ _ = some (.int .i64 s.f) := H1.out.2.1.cell 1
  have s2 : World.cell? _ _ = some (.int .i64 s.t) := H1.out.2.1.cell 2
  go_wp2_with fail
  refine (C2.out _).mono ?_
  rintro e w2 ⟨rfl, hb⟩
  have H2 := Lib.hid (And.intro (H1.out.1.below hb H1.out.1.lt) (And.intro (H1.out.2.1.below hb H1.out.2.1.lt) (below_step H1.out.2.2 hb)))
  clear hb b0 b1 b2 b3 b4 s0 s1 s2
  go_wp2_with fail
  refine (C3.out _).mono ?_
  rintro e w3 ⟨rfl, hb⟩
  have H3 := Lib.hid (below_step H2.out.2.2 hb)
  clear hb
  go_wp2
  go_ret
  exact ⟨rfl, H3.out⟩
end Go.Proofs.Ytpobkdbnldogcaa
