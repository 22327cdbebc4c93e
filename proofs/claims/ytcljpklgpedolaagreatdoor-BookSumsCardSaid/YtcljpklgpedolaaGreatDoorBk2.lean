/- Sums of texts: of the program: a range over the text's characters, and in each over its bytes. -/
import Derived.Test.YtcljpklgpedolaaGreatDoorBk1
import Derived.Test.YtcljpklgpedolaaGreatDoorText1
import Derived.Lib.OthersKept
import Derived.Lib.RuneCount
import Derived.Lib.QuoteLoop
import Derived.Lib.TrimUEq
namespace Go.Proofs.YtcljpklgpedolaaGreatDoor
open Go.RowKit

theorem iterPos_of {w : World} {k : Nat} {s : ByteArray} {pos : Nat} (h : w.heap[k]? = some (.stringIter s pos)) : w.iterPos k = pos := by unfold World.iterPos; rw [h]
/-- What the program looks at beside its arguments. -/
def EnvB (w : World) : Prop := Env w ∧ Lib.Utf8Tabs 0 1 w
theorem EnvB.all {w w' : World} (h : EnvB w) (hb : Below w.heap.size w w') : EnvB w' := ⟨h.1.all hb, Utf8Tabs_below h.2 hb⟩
theorem width_in (s : ByteArray) (pos : Nat) (h : pos < s.size) : 1 ≤ (Utf8.decode s pos).2 ∧ pos + (Utf8.decode s pos).2 ≤ s.size := by
  refine ⟨Lib.width_pos s pos, ?_⟩
  have := Lib.decodeN_width_le (s.size - pos) (s.get! pos).toNat (s.get! (pos + 1)).toNat (s.get! (pos + 2)).toNat (s.get! (pos + 3)).toNat (by omega)
  rw [← Lib.decode_at] at this
  omega
theorem decode_tail (s : ByteArray) (pos : Nat) (h : pos < s.size) : (Lib.decodeGo (s.extract pos s.size)).2 = (Utf8.decode s pos).2 := by
  have hl : s.data.toList.length = s.size := by rw [Array.length_toList]; rfl
  have e : s.extract pos s.size = ⟨(s.data.toList.drop pos).toArray⟩ := by
    apply ByteArray.ext
    apply Array.ext'
    rw [Lib.extract_data, ← hl, List.take_of_length_le (by simp)]
  have hz : (s.extract pos s.size).size ≠ 0 := by
    rw [e]
    show (s.data.toList.drop pos).toArray.size ≠ 0
    rw [List.size_toArray, List.length_drop]; omega
  unfold Lib.decodeGo
  rw [if_neg hz, e]
  show (Lib.decodeL (s.data.toList.drop pos)).2 = _
  rw [Lib.decodeL_drop]
set_option maxRecDepth 20000 in
theorem sum_any (b : Int) (s : ByteArray) (w : World) (hE : EnvB w) (hs : s.size ≤ 100000) (b0 : -9223372036854775808 ≤ b) (b1 : b ≤ 9223372036854775807) :
    Calls Tryz.prog 17 #[.int .i64 b, .string s] w fun e w' => e = .returned (.int .i64 (Bk.sum b s.data.toList)) ∧ Below w.heap.size w w' := by
  obtain ⟨f1, f2, f3, f4⟩ := tmod_fix b 1000003 (by omega)
  have H0 : Bk.sum b (s.data.toList.take 0) = b % 1000003 := by rw [List.take_zero, Bk.sum_nil]
  have HIN := Lib.hid (fun k => Bk.sum_in b (s.data.toList.take k))
  have HN := Lib.hid (fun k (h : k < s.size) => Bk.sum_next b s h)
  have HZ : Hid (Bk.sum b (s.data.toList.take s.size) = Bk.sum b s.data.toList) := Lib.hid (by rw [take_all])
  have hw0 := Lib.hid (Below.refl w.heap.size w)
  have HE := Lib.hid hE
  have hneg : (b.tmod 1000003 < 0 ∧ Hid (Bk.sum b (s.data.toList.take 0) = b.tmod 1000003 + 1000003)) ∨ (¬ b.tmod 1000003 < 0 ∧ Hid (Bk.sum b (s.data.toList.take 0) = b.tmod 1000003)) := by
    by_cases h : b.tmod 1000003 < 0
    · exact .inl ⟨h, Lib.hid (by rw [H0, f1 h])⟩
    · exact .inr ⟨h, Lib.hid (by rw [H0, f2 h])⟩
  clear f1 f2 H0 hE
  generalize hS : Bk.sum b s.data.toList = S at *
  clear hS
  rcases hneg with ⟨hneg, HB⟩ | ⟨hneg, HB⟩
  all_goals (
    go_enter Tryz.func17, Tryz.ntmps17
    go_wp2
    go_loopw [5] (fun x wr => ∃ (v : Int) (pos : Nat), pos ≤ s.size ∧ (0 ≤ v ∧ v < 1000003) ∧ x = .int .i64 v ∧ wr.heap[w.heap.size]? = some (.stringIter s pos) ∧ Hid (v = Bk.sum b (s.data.toList.take pos) ∧ Below w.heap.size w wr)) (fun _ wr => s.size - wr.iterPos w.heap.size)
    case atStart => exact ⟨_, 0, Nat.zero_le _, by rw [← HB.out]; exact HIN.out 0, rfl, World.iter_heap w s 0, Lib.hid ⟨HB.out.symm, (Below.refl _ _).alloc (Nat.le_refl _) _⟩⟩
    case round =>
      obtain ⟨v, pos, hk, ⟨hv0, hv1⟩, rfl, hit, hg⟩ := hrel
      have hpos0 := iterPos_of hit
      clear HB
      by_cases hp : pos < s.size
      · have hnx : ∀ ty, (Instr.next (.pointer (some ⟨w.heap.size, 0, none⟩)) true ty).run Tryz.prog wr = _ := fun ty => Lib.run_next_any_at wr w.heap.size s pos ty hit hp
        obtain ⟨wd1, wd2⟩ := width_in s pos hp
        have hit2 := Lib.iterAt_heap wr w.heap.size s pos (pos + (Utf8.decode s pos).2) hit
        have hbw2 := Lib.below_iterAt hg.out.2 (k := w.heap.size) (Nat.le_refl _) s (pos + (Utf8.decode s pos).2)
        obtain ⟨W1, hW1⟩ : ∃ W1, W1 = wr.iterAt w.heap.size s (pos + (Utf8.decode s pos).2) := ⟨_, rfl⟩
        rw [← hW1] at hnx hit2 hbw2
        have HD := Lib.hid (Tryz.utf8_DecodeRuneInString (s.extract pos s.size) W1 (HE.out.all hbw2).2)
        rw [decode_tail s pos hp] at HD
        have HV := Lib.hid hg.out.1
        clear hW1 hit hg
        generalize (Utf8.decode s pos).2 = wd at *
        generalize (Lib.decodeGo (s.extract pos s.size)).1 = rn at *
        generalize (Utf8.decode s pos).1 = rn2 at *
        go_wp2_with fail
        refine HD.out.mono ?_
        rintro e w2 ⟨rfl, hb2⟩
        have hlt := (Array.getElem?_eq_some_iff.1 hit2).1
        have hit3 : w2.heap[w.heap.size]? = some (.stringIter s (pos + wd)) := (hb2.block _ hlt).trans hit2
        have hbw3 := below_step hbw2 hb2
        have HW3 := Lib.hid (And.intro hit3 hbw3)
        clear hit2 hbw2 hb2 hit3 hbw3 HD hnx hlt
        go_wp2
        go_loopw [5, 29] (fun x t w3 => ∃ (v : Int) (j : Nat), j ≤ wd ∧ (0 ≤ v ∧ v < 1000003) ∧ x = .int .i64 v ∧ t = .int .i64 (j : Int) ∧ Hid (v = Bk.sum b (s.data.toList.take (pos + j))) ∧ Hid (w3 = w2)) (fun _ t _ => wd - (intOf t).toNat)
        case atStart => exact ⟨v, 0, Nat.zero_le _, ⟨hv0, hv1⟩, rfl, rfl, HV, Lib.hid rfl⟩
        case round =>
          obtain ⟨v, j, hj, ⟨hv0, hv1⟩, rfl, rfl, hg, hw3⟩ := hrel
          obtain rfl := hw3.out
          by_cases hlt : j < wd
          · obtain ⟨c0, c1⟩ := byte_in (s[pos + j]'(by omega))
            have HX := Lib.hid (HN.out (pos + j) (by omega))
            have HI := Lib.hid (HIN.out (pos + j + 1))
            go_wp2
            go_roundw
            case rel => exact ⟨_, j + 1, by omega, by have := HI.out; rw [HX.out, ← hg.out] at this; exact this, rfl, by go_num, Lib.hid (by show _ = Bk.sum b (s.data.toList.take (pos + j + 1)); rw [HX.out, ← hg.out]), by first | exact Lib.hid rfl | exact Lib.hid trivial⟩
            case measure => simp [intOf]; omega
          · obtain rfl : j = wd := by omega
            go_wp2
            go_roundw
            case rel => exact ⟨v, pos + j, by omega, ⟨hv0, hv1⟩, rfl, HW3.out.1, Lib.hid ⟨hg.out, HW3.out.2⟩⟩
            case measure => rw [iterPos_of HW3.out.1, hpos0]; omega
      · obtain rfl : pos = s.size := by omega
        have hnx : ∀ ty, (Instr.next (.pointer (some ⟨w.heap.size, 0, none⟩)) true ty).run Tryz.prog wr = _ := fun ty => Lib.run_next_end_at wr w.heap.size s s.size ty hit hp
        go_wp2
        go_ret
        exact ⟨by rw [hg.out.1, HZ.out]; rfl, hg.out.2⟩)
end Go.Proofs.YtcljpklgpedolaaGreatDoor
