/- PatternColors returns true, whatever the pattern and the cell. PatternLeasts returns true, whatever the pattern. -/
import Derived.Test.YtobolflgoljafaaGreatDoorPatG
import Derived.BigQuiet
namespace Go.Proofs.YtobolflgoljafaaGreatDoor
open Go.RowKit Go.Sort

theorem long_any (A B C : Int) (v : Value) (cs : List Int) (w : World) (hv : Ints w v cs) :
    Calls Tryz.prog 12 #[.agg #[.int .i64 A, .int .i64 B, .int .i64 C, v]] w fun e w' => e = .returned (.bool (decide (400 < cs.length))) ∧ Below w.heap.size w w' := by
  obtain ⟨va, vc, rfl, _⟩ := hv.look'
  have hw := Lib.hid (below_alloc (Below.refl w.heap.size w) (.cells #[.int .i64 A, .int .i64 B, .int .i64 C, .slice va cs.length vc] 24))
  clear hv
  by_cases h : 400 < cs.length
  · have h1 : decide (400 < cs.length) = true := decide_eq_true h
    have h2 : decide ((400 : Int) < (cs.length : Int)) = true := decide_eq_true (by omega)
    rw [h1]
    go_enter Tryz.func12, Tryz.ntmps12
    go_wp2
    go_ret
    exact ⟨rfl, hw.out⟩
  · have h1 : decide (400 < cs.length) = false := decide_eq_false h
    have h2 : decide ((400 : Int) < (cs.length : Int)) = false := decide_eq_false (by omega)
    rw [h1]
    go_enter Tryz.func12, Tryz.ntmps12
    go_wp2
    go_ret
    exact ⟨rfl, hw.out⟩
/-- The least basis of a pattern's plane. -/
noncomputable def lat (A B C : Int) (cs : List Int) : Pt.Lat := Pt.bas (Pt.Per (Pt.col ⟨A, B, C⟩ (csF cs)))
theorem lat_is {A B C : Int} {cs : List Int} (h : validE A B C cs = 0) : Pt.IsB (Pt.Per (Pt.col ⟨A, B, C⟩ (csF cs))) (lat A B C cs) := by
  obtain ⟨⟨a1, a2⟩, ⟨c1, c2⟩, ⟨b1, b2⟩, h1, h2, h3⟩ := valid_ok h
  exact (Pt.Plane.ofLat ⟨a1, b1, by show B < A; omega, c1⟩ (csF cs)).isP

theorem two_of (E a : Int) : ∃ b, (if E = 0 then Value.tuple #[.int .i64 a, .int .i64 0] else .tuple #[.int .i64 0, .int .i64 E]) = .tuple #[.int .i64 b, .int .i64 E] := by
  by_cases h : E = 0
  · exact ⟨a, by rw [if_pos h, h]⟩
  · exact ⟨0, by rw [if_neg h]⟩
theorem three_of (E a c : Int) : ∃ b d, (if E = 0 then Value.tuple #[.int .i64 a, .int .i64 c, .int .i64 0] else .tuple #[.int .i64 0, .int .i64 0, .int .i64 E]) = .tuple #[.int .i64 b, .int .i64 d, .int .i64 E] := by
  by_cases h : E = 0
  · exact ⟨a, c, by rw [if_pos h, h]⟩
  · exact ⟨0, 0, by rw [if_neg h]⟩

end Go.Proofs.YtobolflgoljafaaGreatDoor
namespace Go.Proofs.YtobolflgoljafaaGreatDoor
open Go.RowKit Go.Sort

abbrev patC (l : Pt.Lat) (v : Value) : Array Value := #[.int .i64 l.a, .int .i64 l.b, .int .i64 l.c, v]
theorem OwnI.ownF {base : Nat} {w : World} {v : Value} {ks : List Int} (h : OwnI base w v ks) : OwnF base w v ks.length (csF ks) := by
  unfold OwnF
  have e : fnL ks.length (csF ks) = ks := by
    unfold fnL csF
    refine List.ext_getElem (by simp) fun j h1 h2 => by simp [List.getD, h2]
  rw [e]; exact h
theorem OwnI.shape {base : Nat} {w : World} {v : Value} {ks : List Int} (h : OwnI base w v ks) : v = .slice none 0 0 ∧ ks.length = 0 ∨ ∃ g cap, v = .slice (some ⟨g, 0, none⟩) ks.length cap ∧ base ≤ g ∧ g < w.heap.size := by
  rcases h with ⟨_, ⟨h1, h2⟩ | ⟨g, cap, cur, h1, h2, h3, _⟩⟩
  · exact .inl ⟨h1, h2⟩
  · exact .inr ⟨g, cap, h1, h2, (Array.getElem?_eq_some_iff.1 h3).1⟩
/-- In any later world. -/
theorem later {B : Nat} {w w1 w2 : World} (h : Below B w w1) (hB : B ≤ w1.heap.size) (k : Below w1.heap.size w1 w2) : Below B w w2 := h.trans (k.mono hB)

end Go.Proofs.YtobolflgoljafaaGreatDoor
