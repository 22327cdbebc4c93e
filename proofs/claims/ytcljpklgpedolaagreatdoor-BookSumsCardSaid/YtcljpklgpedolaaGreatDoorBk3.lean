/- Right texts, the making of a line, a line as it is written: of the program. -/
import Derived.Test.YtcljpklgpedolaaGreatDoorBk2
import Derived.Test.YtcljpklgpedolaaGreatDoorBkM
namespace Go.Proofs.YtcljpklgpedolaaGreatDoor
open Go.RowKit Go.Sort

theorem len_size (s : ByteArray) : s.data.toList.length = s.size := by rw [Array.length_toList]; rfl
theorem getElem_list (s : ByteArray) {k : Nat} (h : k < s.size) (h' : k < s.data.toList.length) : s.data.toList[k] = s[k]'h := rfl
theorem byte_okc {c : UInt8} : Bk.okc c = true ↔ 32 ≤ c.toNat ∧ c.toNat ≤ 126 := by unfold Bk.okc; simp
/-- What a text is asked before its bytes are looked at. -/
def Bk.pre (t : List UInt8) : Bool := decide (t ≠ []) && (decide (t.length ≤ 80) && (decide (t.head? ≠ some 32) && decide (t.getLast? ≠ some 32)))
theorem Bk.right_pre (t : List UInt8) : Bk.right t = (Bk.pre t && t.all Bk.okc) := by unfold Bk.right Bk.pre; simp only [Bool.and_assoc]
theorem Bk.pre_trim {t : List UInt8} (h0 : t ≠ []) (h1 : t.length ≤ 80) : Bk.pre t = decide (Lib.trimB t 32 = t) := by
  unfold Bk.pre
  rw [decide_eq_true h0, decide_eq_true h1, Bool.true_and, Bool.true_and]
  by_cases h : Lib.trimB t 32 = t
  · obtain ⟨a, b⟩ := Bk.trim_iff.1 h
    simp [h, a, b]
  · rw [decide_eq_false h]
    by_cases a : t.head? = some 32
    · simp [a]
    · by_cases b : t.getLast? = some 32
      · simp [b]
      · exact absurd (Bk.trim_iff.2 ⟨a, b⟩) h
theorem all_take (s : ByteArray) (f : UInt8 → Bool) {k : Nat} (h : k < s.size) : (s.data.toList.take (k + 1)).all f = ((s.data.toList.take k).all f && f (s[k]'h)) := by
  rw [take_next s h, List.all_append, List.all_cons, List.all_nil, Bool.and_true]
theorem all_false (s : ByteArray) (f : UInt8 → Bool) {k : Nat} (h : k < s.size) (hf : f (s[k]'h) = false) : s.data.toList.all f = false := by
  rw [List.all_eq_false]
  have hl := len_size s
  exact ⟨s.data.toList[k]'(by omega), List.getElem_mem _, by rw [getElem_list s h]; simp [hf]⟩
set_option maxRecDepth 20000 in
theorem isRight_any (s : ByteArray) (w : World) (hs : s.size ≤ 9223372036854775807) :
    Calls Tryz.prog 62 #[.string s] w fun e w' => e = .returned (.bool (Bk.right s.data.toList)) ∧ Below w.heap.size w w' := by
  have hl := len_size s
  by_cases h0 : s.data.toList = []
  · have HR : Hid (Bk.right s.data.toList = false) := Lib.hid (by rw [h0]; rfl)
    have q1 : (s.toList == []) = true := by rw [toList_data]; simpa using h0
    have q2 : s.toList.isEmpty = true := by rw [toList_data, h0]; rfl
    clear h0 hl
    generalize hR : Bk.right s.data.toList = R at *
    clear hR
    go_enter Tryz.func62, Tryz.ntmps62
    go_wp2
    go_ret
    exact ⟨by rw [HR.out]; rfl, Below.refl _ _⟩
  have q1 : (s.toList == []) = false := by rw [toList_data]; simpa using h0
  have q2 : s.toList.isEmpty = false := by rw [toList_data]; simpa using h0
  by_cases h1 : s.size ≤ 80
  case neg =>
    have HR : Hid (Bk.right s.data.toList = false) := Lib.hid (by
      have h2 : ¬ s.data.toList.length ≤ 80 := by omega
      unfold Bk.right; rw [decide_eq_false h2, Bool.false_and, Bool.and_false])
    have q3 : decide ((80 : Int) < (s.size : Int)) = true := by rw [decide_eq_true_eq]; omega
    clear h0 hl
    generalize hR : Bk.right s.data.toList = R at *
    clear hR
    go_enter Tryz.func62, Tryz.ntmps62
    go_wp2
    go_ret
    exact ⟨by rw [HR.out]; rfl, Below.refl _ _⟩
  have HT := Lib.hid (Tryz.strings_Trim_one s 32 (by decide) w hs)
  have hpre := Bk.pre_trim h0 (by omega)
  have HRP := Lib.hid (Bk.right_pre s.data.toList)
  by_cases h2 : Lib.trimB s.data.toList 32 = s.data.toList
  case neg =>
    have q3 : (Lib.trimB s.data.toList 32 != s.toList) = true := by rw [toList_data]; simpa using h2
    have q4 : (Lib.trimB s.data.toList 32 == s.toList) = false := by rw [toList_data]; simpa using h2
    have HR : Hid (Bk.right s.data.toList = false) := Lib.hid (by rw [HRP.out, hpre, decide_eq_false h2]; rfl)
    clear h0 hl hpre HRP h2
    generalize hR : Bk.right s.data.toList = R at *
    clear hR
    generalize Lib.trimB s.data.toList 32 = T at *
    go_enter Tryz.func62, Tryz.ntmps62
    go_wp2_with fail
    refine HT.out.mono ?_
    rintro e w1 ⟨rfl, hw1⟩
    have hb : Below w.heap.size w w1 := by
                                         rcases hw1 with rfl | rfl
                                         · exact Below.refl _ _
                                         · exact (Below.refl _ _).drew
    clear hw1
    go_wp2
    go_ret
    exact ⟨by rw [HR.out]; rfl, hb⟩
  have q3 : (Lib.trimB s.data.toList 32 != s.toList) = false := by rw [toList_data]; simpa using h2
  have q4 : (Lib.trimB s.data.toList 32 == s.toList) = true := by rw [toList_data]; simpa using h2
  have HR : Hid (Bk.right s.data.toList = s.data.toList.all Bk.okc) := Lib.hid (by rw [HRP.out, hpre, decide_eq_true h2]; rfl)
  have HA := Lib.hid (fun k (h : k < s.size) => all_take s Bk.okc h)
  have HF := Lib.hid (fun k (h : k < s.size) => all_false s Bk.okc h)
  have HZ : Hid ((s.data.toList.take s.size).all Bk.okc = s.data.toList.all Bk.okc) := Lib.hid (by rw [take_all])
  clear h0 hl hpre HRP h2
  generalize hR : Bk.right s.data.toList = R at *
  clear hR
  generalize Lib.trimB s.data.toList 32 = T at *
  go_enter Tryz.func62, Tryz.ntmps62
  go_wp2_with fail
  refine HT.out.mono ?_
  rintro e w1 ⟨rfl, hw1⟩
  have HB : Hid (Below w.heap.size w w1) := Lib.hid (by
                                         rcases hw1 with rfl | rfl
                                         · exact Below.refl _ _
                                         · exact (Below.refl _ _).drew)
  clear hw1 HT
  go_wp2
  go_loopw [] (fun wr => ∃ (pos : Nat), pos ≤ s.size ∧ wr.heap[w1.heap.size]? = some (.stringIter s pos) ∧ Hid ((s.data.toList.take pos).all Bk.okc = true ∧ Below w.heap.size w wr)) (fun wr => s.size - wr.iterPos w1.heap.size)
  case atStart => exact ⟨0, Nat.zero_le _, World.iter_heap w1 s 0, Lib.hid ⟨rfl, below_alloc HB.out _⟩⟩
  case round =>
    obtain ⟨pos, hk, hit, hg⟩ := hrel
    have hpos0 := iterPos_of hit
    by_cases hp : pos < s.size
    · have hnx : ∀ ty, (Instr.next (.pointer (some ⟨w1.heap.size, 0, none⟩)) true ty).run Tryz.prog wr = _ := fun ty => Lib.run_next_any_at wr w1.heap.size s pos ty hit hp
      obtain ⟨wd1, wd2⟩ := width_in s pos hp
      have hit2 := Lib.iterAt_heap wr w1.heap.size s pos (pos + (Utf8.decode s pos).2) hit
      have hbw2 := Lib.below_iterAt hg.out.2 (k := w1.heap.size) HB.out.size s (pos + (Utf8.decode s pos).2)
      obtain ⟨W1, hW1⟩ : ∃ W1, W1 = wr.iterAt w1.heap.size s (pos + (Utf8.decode s pos).2) := ⟨_, rfl⟩
      rw [← hW1] at hnx hit2 hbw2
      by_cases ha : (s[pos]'hp).toNat < 128
      · rw [decode_ascii s pos hp ha] at hnx hit2
        by_cases hc : 32 ≤ (s[pos]'hp).toNat ∧ (s[pos]'hp).toNat ≤ 126
        · have HX : Hid ((s.data.toList.take (pos + 1)).all Bk.okc = true) := Lib.hid (by rw [HA.out pos hp, hg.out.1, byte_okc.2 hc]; rfl)
          have H2 := Lib.hid (And.intro hit2 hbw2)
          obtain ⟨hc1, hc2⟩ := hc
          clear hW1 hit hg hit2 hbw2
          go_wp2
          go_roundw
          case rel => exact ⟨pos + 1, by omega, H2.out.1, Lib.hid ⟨HX.out, H2.out.2⟩⟩
          case measure => rw [iterPos_of H2.out.1, hpos0]; omega
        · have HX : Hid (s.data.toList.all Bk.okc = false) := Lib.hid (HF.out pos hp (by rw [← Bool.not_eq_true, byte_okc]; exact hc))
          have H2 := Lib.hid hbw2
          clear hW1 hit hg hit2 hbw2
          have hc3 : ((s[pos]'hp).toNat : Int) < 32 ∨ (¬ ((s[pos]'hp).toNat : Int) < 32 ∧ (126 : Int) < ((s[pos]'hp).toNat : Int)) := by omega
          rcases hc3 with hc3 | ⟨hc3, hc4⟩
          · go_wp2
            go_ret
            exact ⟨by rw [HR.out, HX.out]; rfl, H2.out⟩
          · go_wp2
            go_ret
            exact ⟨by rw [HR.out, HX.out]; rfl, H2.out⟩
      · have HX : Hid (s.data.toList.all Bk.okc = false) := Lib.hid (HF.out pos hp (by rw [← Bool.not_eq_true, byte_okc]; omega))
        obtain ⟨hd1, hd2⟩ := decode_high s pos hp (by omega)
        have hd3 := decode_le s pos
        have H2 := Lib.hid hbw2
        clear hW1 hit hg hit2 hbw2 ha
        generalize (Utf8.decode s pos).1 = rn at *
        generalize (Utf8.decode s pos).2 = wd at *
        go_wp2
        go_ret
        exact ⟨by rw [HR.out, HX.out]; rfl, H2.out⟩
    · obtain rfl : pos = s.size := by omega
      have hnx : ∀ ty, (Instr.next (.pointer (some ⟨w1.heap.size, 0, none⟩)) true ty).run Tryz.prog wr = _ := fun ty => Lib.run_next_end_at wr w1.heap.size s s.size ty hit hp
      have HG : Hid (s.data.toList.all Bk.okc = true) := Lib.hid (by rw [← HZ.out]; exact hg.out.1)
      go_wp2
      go_ret
      exact ⟨by rw [HR.out, HG.out]; rfl, hg.out.2⟩
end Go.Proofs.YtcljpklgpedolaaGreatDoor
