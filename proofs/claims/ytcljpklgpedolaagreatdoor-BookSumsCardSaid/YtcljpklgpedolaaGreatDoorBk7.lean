/- Whole books, repair, the lines of a book: of the program. -/
import Derived.Test.YtcljpklgpedolaaGreatDoorBk6
namespace Go.Proofs.YtcljpklgpedolaaGreatDoor
open Go.RowKit Go.Sort

theorem isWhole_any (k : ByteArray) (w : World) (hE : EnvB w) (hs : k.size ≤ 80000) :
    Calls Tryz.prog 22 #[.string k] w fun e w' => e = .returned (.bool (decide (Bk.rest k.data.toList = []))) ∧ Below w.heap.size w w' := by
  have C := Lib.hid (read_any k w hE hs)
  unfold BookSays at C
  generalize Bk.rest k.data.toList = R at *
  generalize Bk.ln k.data.toList = L at *
  have hd : (R == []) = decide (R = []) := by cases R <;> simp
  have hd2 : R.isEmpty = decide (R = []) := by cases R <;> simp
  have HD := Lib.hid (And.intro hd hd2)
  clear hE hd hd2
  go_enter Tryz.func22, Tryz.ntmps22
  go_wp2_with fail
  refine C.out.mono ?_
  rintro e w1 ⟨v, rfl, _, hb⟩
  go_wp2
  go_ret
  refine ⟨?_, hb⟩
  first
    | (rw [← HD.out.1]; rfl)
    | (rw [← HD.out.2]; rfl)
theorem rest_len (k : List UInt8) : (Bk.rest k).length ≤ k.length ∧ k.take (k.length - (Bk.rest k).length) = Bk.txt 1 0 (Bk.tx k) := by
  have h := Bk.book_eq k
  have h2 := congrArg List.length h
  rw [List.length_append] at h2
  refine ⟨by omega, ?_⟩
  rw [show k.length - (Bk.rest k).length = (Bk.txt 1 0 (Bk.tx k)).length by omega]
  exact (congrArg (List.take _) h).trans (List.take_left' rfl)
theorem repair_any (k : ByteArray) (w : World) (hE : EnvB w) (hs : k.size ≤ 80000) :
    Calls Tryz.prog 23 #[.string k] w fun e w' => e = .returned (sv (Bk.txt 1 0 (Bk.tx k.data.toList))) ∧ Below w.heap.size w w' := by
  have C := Lib.hid (read_any k w hE hs)
  unfold BookSays at C
  obtain ⟨h1, h2⟩ := rest_len k.data.toList
  have HX : Hid (k.extract 0 (k.size - (Bk.rest k.data.toList).length) = ⟨(Bk.txt 1 0 (Bk.tx k.data.toList)).toArray⟩) := Lib.hid (by
    rw [extract_is, List.drop_zero, ← len_size, h2])
  rw [len_size] at h1
  have hsv : sv (Bk.txt 1 0 (Bk.tx k.data.toList)) = .string ⟨(Bk.txt 1 0 (Bk.tx k.data.toList)).toArray⟩ := rfl
  rw [hsv]
  generalize Bk.txt 1 0 (Bk.tx k.data.toList) = T at *
  generalize Bk.rest k.data.toList = R at *
  generalize Bk.ln k.data.toList = L at *
  clear hE h2 hsv
  go_enter Tryz.func23, Tryz.ntmps23
  go_wp2_with fail
  refine C.out.mono ?_
  rintro e w1 ⟨v, rfl, _, hb⟩
  have e1 : ((k.size : Int) - (R.length : Int)).toNat = k.size - R.length := by omega
  go_wp2
  go_ret
  refine ⟨?_, hb⟩
  rw [← HX.out, ← e1]
  rfl
theorem linesOf_ok (k : ByteArray) (w : World) (hE : EnvB w) (hs : k.size ≤ 80000) (hr : Bk.rest k.data.toList = []) :
    Calls Tryz.prog 61 #[.string k] w fun e w' => ∃ v, e = .returned (.tuple #[v, .int .i64 0]) ∧ OwnL w.heap.size w' v (Bk.ln k.data.toList) ∧ Below w.heap.size w w' := by
  have C := Lib.hid (read_any k w hE hs)
  unfold BookSays at C
  rw [hr] at C
  generalize Bk.ln k.data.toList = L at *
  clear hE hr
  go_enter Tryz.func61, Tryz.ntmps61
  go_wp2_with fail
  refine C.out.mono ?_
  rintro e w1 ⟨v, rfl, ho, hb⟩
  obtain ⟨va, vc, rfl⟩ := (ho.rows lnC_len).form
  have H := Lib.hid (And.intro ho hb)
  clear ho hb
  go_wp2
  go_ret2
  exact ⟨_, rfl, H.out.1, H.out.2⟩
theorem linesOf_bad (k : ByteArray) (w : World) (hE : EnvB w) (hs : k.size ≤ 80000) (hr : Bk.rest k.data.toList ≠ []) :
    Calls Tryz.prog 61 #[.string k] w fun e w' => e = .returned (.tuple #[.slice none 0 0, .int .i64 15]) ∧ Below w.heap.size w w' := by
  have C := Lib.hid (read_any k w hE hs)
  unfold BookSays at C
  generalize Bk.ln k.data.toList = L at *
  generalize Bk.rest k.data.toList = R at *
  have q1 : (R == []) = false := by simpa using hr
  have q2 : (R != []) = true := by simpa using hr
  have q3 : R.isEmpty = false := by simpa using hr
  clear hE hr
  go_enter Tryz.func61, Tryz.ntmps61
  go_wp2_with fail
  refine C.out.mono ?_
  rintro e w1 ⟨v, rfl, ho, hb⟩
  obtain ⟨va, vc, rfl⟩ := (ho.rows lnC_len).form
  clear ho
  go_wp2
  go_ret2
  exact ⟨rfl, hb⟩
end Go.Proofs.YtcljpklgpedolaaGreatDoor
