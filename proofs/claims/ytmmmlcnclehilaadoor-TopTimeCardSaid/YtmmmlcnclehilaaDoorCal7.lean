/- NextOpen: the program's and the reference's answers. -/
import Derived.Test.YtmmmlcnclehilaaDoorCal6
namespace Go.Proofs.YtmmmlcnclehilaaDoor
open Go.RowKit

namespace Cal
/-- The next day on which the works is open, of so many days from a day on. -/
def nxV (rs hs : List Int) : Nat → Int → Int
  | 0, _ => 0
  | n + 1, d => if openB rs hs d = true then d else nxV rs hs n (d + 1)
def nxE (rs hs : List Int) : Nat → Int → Int
  | 0, _ => 4
  | n + 1, d => if openB rs hs d = true then 0 else nxE rs hs n (d + 1)
theorem nx_hit {rs hs : List Int} {d : Int} (hd : d < 2000) (h : openB rs hs d = true) : nxV rs hs (2000 - d).toNat d = d ∧ nxE rs hs (2000 - d).toNat d = 0 := by
  obtain ⟨n, hn⟩ : ∃ n, (2000 - d).toNat = n + 1 := ⟨(2000 - d).toNat - 1, by omega⟩
  rw [hn]; simp [nxV, nxE, h]
theorem nx_miss {rs hs : List Int} {d : Int} (hd : d < 2000) (h : openB rs hs d = false) : nxV rs hs (2000 - d).toNat d = nxV rs hs (2000 - (d + 1)).toNat (d + 1) ∧ nxE rs hs (2000 - d).toNat d = nxE rs hs (2000 - (d + 1)).toNat (d + 1) := by
  rw [show (2000 - d).toNat = (2000 - (d + 1)).toNat + 1 by omega]; simp [nxV, nxE, h]
def nexV (s e : Int) (rs hs : List Int) (d : Int) : Int := if valD s e rs hs d = 0 then nxV rs hs (2000 - d).toNat d else 0
def nexE (s e : Int) (rs hs : List Int) (d : Int) : Int := if valD s e rs hs d = 0 then nxE rs hs (2000 - d).toNat d else valD s e rs hs d
end Cal

/-- The hours of a calendar that lie in memory. -/
def HrsAt (w : World) (b : Nat) (s e : Int) (f : Nat → Bool) (vh : Value) : Prop :=
  w.cell? ⟨b, 0, none⟩ = some (.int .i64 s) ∧ w.cell? ⟨b, 1, none⟩ = some (.int .i64 e) ∧ w.cell? ⟨b, 2, none⟩ = some (.bool (f 0)) ∧ w.cell? ⟨b, 3, none⟩ = some (.bool (f 1)) ∧ w.cell? ⟨b, 4, none⟩ = some (.bool (f 2)) ∧ w.cell? ⟨b, 5, none⟩ = some (.bool (f 3)) ∧ w.cell? ⟨b, 6, none⟩ = some (.bool (f 4)) ∧ w.cell? ⟨b, 7, none⟩ = some (.bool (f 5)) ∧ w.cell? ⟨b, 8, none⟩ = some (.bool (f 6)) ∧ w.cell? ⟨b, 9, none⟩ = some vh ∧ b < w.heap.size
theorem HrsAt.all {w w2 : World} {b : Nat} {s e : Int} {f : Nat → Bool} {vh : Value} (h : HrsAt w b s e f vh) (hb : Below w.heap.size w w2) : HrsAt w2 b s e f vh := by
  obtain ⟨h0, h1, h2, h3, h4, h5, h6, h7, h8, h9, hz⟩ := h
  exact ⟨(hb.cell (p := ⟨b, 0, none⟩) hz).trans h0, (hb.cell (p := ⟨b, 1, none⟩) hz).trans h1, (hb.cell (p := ⟨b, 2, none⟩) hz).trans h2, (hb.cell (p := ⟨b, 3, none⟩) hz).trans h3, (hb.cell (p := ⟨b, 4, none⟩) hz).trans h4, (hb.cell (p := ⟨b, 5, none⟩) hz).trans h5, (hb.cell (p := ⟨b, 6, none⟩) hz).trans h6, (hb.cell (p := ⟨b, 7, none⟩) hz).trans h7, (hb.cell (p := ⟨b, 8, none⟩) hz).trans h8, (hb.cell (p := ⟨b, 9, none⟩) hz).trans h9, Nat.lt_of_lt_of_le hz hb.size⟩
theorem HrsAt.fresh (w : World) (s e : Int) (f : Nat → Bool) (vh : Value) (t : TypeId) : HrsAt (w.alloc (.cells #[.int .i64 s, .int .i64 e, .bool (f 0), .bool (f 1), .bool (f 2), .bool (f 3), .bool (f 4), .bool (f 5), .bool (f 6), vh] t)) w.heap.size s e f vh :=
  ⟨by simp, by simp, by simp, by simp, by simp, by simp, by simp, by simp, by simp, by simp, by simp⟩

end Go.Proofs.YtmmmlcnclehilaaDoor
