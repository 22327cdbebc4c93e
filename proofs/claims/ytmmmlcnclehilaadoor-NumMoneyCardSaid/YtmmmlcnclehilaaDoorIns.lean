/- The library's contract of the insertion sort with a comparing function, at this program. -/
import Derived.Test.YtmmmlcnclehilaaDoorProg
import Derived.Test.YtmmmlcnclehilaaDoorSortN
import Derived.Shelf.SlSortCmp.Insertion
namespace Go.Proofs
open Go.Shelf Go.RowKit Go.Sort
def Tryd.insL_ren : Go.Shelf.Ren := ⟨fun | 20 => 61 | n => n, fun | 24 => 3 | 22 => 22 | 3 => 3 | 25 => 51 | 4 => 4 | n => n, fun n => n⟩
theorem Tryd.insL : Go.Proofs.SlLaysF.n20 Tryd.prog Tryd.insL_ren := {
  mixed := by kernel_rfl
  f20 := ⟨Tryd.f61.name, by decide, Tryd.func61.trans (congrArg some (by kernel_rfl))⟩
  t0 := Tryd.underlying0
  a0 := Tryd.isAgg0
  z0 := Tryd.sizeOf0
  v0 := Tryd.zeroValue0
  t3 := Tryd.underlying3
  a3 := Tryd.isAgg3
  z3 := Tryd.sizeOf3
  v3 := Tryd.zeroValue3
  t4 := Tryd.underlying4
  a4 := Tryd.isAgg4
  z4 := Tryd.sizeOf4
  v4 := Tryd.zeroValue4
  t22 := Tryd.underlying22
  a22 := Tryd.isAgg22
  z22 := Tryd.sizeOf22
  v22 := Tryd.zeroValue22
  a24 := Tryd.isAgg3
  z24 := Tryd.sizeOf3
  t25 := Tryd.underlying51
  a25 := Tryd.isAgg51
  z25 := Tryd.sizeOf51
  v25 := Tryd.zeroValue51 }
end Go.Proofs
namespace Go.Proofs.YtmmmlcnclehilaaDoor
open Go.RowKit Go.Sort
/-- An index, kept below n. -/
def kept (n x : Nat) : Nat := min x (n - 1)
/-- Its cell. -/
def idx (n : Nat) (x : Nat) : Value := .int .i64 (kept n x : Nat)
/-- How the closure of Share compares two indices. -/
def cmpR (r : Nat → Int) (n : Nat) (x y : Nat) : Int := Lib.compareInt (r (kept n y)) (r (kept n x))
theorem ltOf_cmpR (r : Nat → Int) (n : Nat) (x y : Nat) : ltOf (cmpR r n) x y = decide (r (kept n y) < r (kept n x)) := by
  unfold ltOf cmpR Lib.compareInt
  split
  · rename_i h; simp [h]
  · rename_i h
    split <;> simp [h]
/-- The indices sorted. -/
theorem sorted_kept {r : Nat → Int} {n : Nat} (hn : 0 < n) {d : Array Nat} (hd : d.toList = List.range n) : (Go.Sort.insertionSort (ltOf (cmpR r n)) d 0 n).toList = Lr.srt r n := by
  rw [Lr.sorted_ok (r := fun x => r (kept n x)) (fun x y => ltOf_cmpR r n x y) hn hd]
  exact Lr.srt_congr fun i hi => by show r (min i (n - 1)) = r i; rw [Nat.min_eq_left (by omega)]
end Go.Proofs.YtmmmlcnclehilaaDoor
