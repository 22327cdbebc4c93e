/- IsOpen: the program's and the reference's answers. -/
import Derived.Test.YtmmmlcnclehilaaDoorCal5
namespace Go.Proofs.YtmmmlcnclehilaaDoor
open Go.RowKit

namespace Cal
def isoB (s e : Int) (rs hs : List Int) (d : Int) : Bool := if valD s e rs hs d = 0 then openB rs hs d else false
theorem valD_zero {s e d : Int} {rs hs : List Int} (h : valD s e rs hs d = 0) : valE s e rs hs = 0 ∧ 0 ≤ d ∧ d ≤ 1999 := by
  unfold valD at h
  by_cases a : valE s e rs hs = 0
  · rw [if_pos a] at h
    by_cases b : 0 ≤ d ∧ d ≤ 1999
    · exact ⟨a, b⟩
    · rw [if_neg b] at h; omega
  · rw [if_neg a] at h; exact absurd h a
theorem valE_zero_sets {s e : Int} {rs hs : List Int} (h : valE s e rs hs = 0) : setB 7 rs = true ∧ hs.Pairwise (· < ·) := by
  obtain ⟨_, h1, _, _, h2⟩ := valE_zero h
  exact ⟨h1, (setGo_iff.1 h2).2⟩
end Cal

/-- A calendar that lies in memory. -/
def CalAt (w : World) (b : Nat) (s e : Int) (vr vh : Value) : Prop :=
  w.cell? ⟨b, 0, none⟩ = some (.int .i64 s) ∧ w.cell? ⟨b, 1, none⟩ = some (.int .i64 e) ∧ w.cell? ⟨b, 2, none⟩ = some vr ∧ w.cell? ⟨b, 3, none⟩ = some vh ∧ b < w.heap.size
theorem CalAt.all {w w2 : World} {b : Nat} {s e : Int} {vr vh : Value} (h : CalAt w b s e vr vh) (hb : Below w.heap.size w w2) : CalAt w2 b s e vr vh := by
  obtain ⟨h0, h1, h2, h3, h4⟩ := h
  exact ⟨(hb.cell (p := ⟨b, 0, none⟩) h4).trans h0, (hb.cell (p := ⟨b, 1, none⟩) h4).trans h1, (hb.cell (p := ⟨b, 2, none⟩) h4).trans h2, (hb.cell (p := ⟨b, 3, none⟩) h4).trans h3, Nat.lt_of_lt_of_le h4 hb.size⟩
theorem CalAt.fresh (w : World) (s e : Int) (vr vh : Value) (t : TypeId) : CalAt (w.alloc (.cells #[.int .i64 s, .int .i64 e, vr, vh] t)) w.heap.size s e vr vh :=
  ⟨by simp, by simp, by simp, by simp, by simp⟩

/-- A week of rest as the program keeps it says whether a day is open. -/
theorem isOpen_rest (s e d : Int) (vh : Value) (rs hs : List Int) (w : World) (hh : Ints w vh hs) (lh : hs.length ≤ 1000) (hsort : hs.Pairwise (· < ·)) (d1 : 0 ≤ d) (d2 : d ≤ 100000) :
    Calls Tryd.prog 60 #[hrs s e (fun j => Cal.hasB rs j) vh, .int .i64 d] w fun x w' => x = .returned (.bool (Cal.openB rs hs d)) ∧ Below w.heap.size w w' :=
  (isOpen_any s e d (fun j => Cal.hasB rs j) vh hs w hh lh hsort d1 d2).mono fun x w' ⟨h1, h2⟩ => ⟨by rw [h1, ← Cal.open_eq d1], h2⟩

end Go.Proofs.YtmmmlcnclehilaaDoor
