/- Names and the checking of postings: of the program. -/
import Derived.Test.YtcljpklgpedolaaGreatDoorBk8
namespace Go.Proofs.YtcljpklgpedolaaGreatDoor
open Go.RowKit Go.Sort

abbrev PostT : TypeId := 60
abbrev poV (x : Bk.Po) : Value := .agg #[sv x.1, sv x.2.1, .int .i64 x.2.2]
abbrev poA (x : Bk.Po) : Array Value := #[sv x.1, sv x.2.1, .int .i64 x.2.2]
def poC (x : Bk.Po) : List Value := [sv x.1, sv x.2.1, .int .i64 x.2.2]
theorem poC_len (x : Bk.Po) : (poC x).length = 3 := rfl
theorem poC_one (x : Bk.Po) : ∀ u ∈ poC x, u.oneCell' = true := by
  intro u h; simp [poC] at h; rcases h with rfl | rfl | rfl <;> rfl
theorem po_at {x : Bk.Po} {w : World} {b off : Nat} (h : CellsAt (poC x) w b off) : w.cell? ⟨b, off, none⟩ = some (sv x.1) ∧ w.cell? ⟨b, off + 1, none⟩ = some (sv x.2.1) ∧ w.cell? ⟨b, off + 2, none⟩ = some (.int .i64 x.2.2) := ⟨by have := h 0 _ rfl; simpa using this, by have := h 1 _ rfl; simpa using this, by have := h 2 _ rfl; simpa using this⟩
abbrev Posts (w : World) (v : Value) (xs : List Bk.Po) : Prop := RowsOf 3 poC w v xs
abbrev OwnP (base : Nat) (w : World) (v : Value) (xs : List Bk.Po) : Prop := OwnG PostT 3 poC base w v xs
theorem infoPost : (Tryz.prog.info? PostT).map (fun i => (i.zero, i.size, i.bytes)) = some (some (.agg #[.string ⟨#[]⟩, .string ⟨#[]⟩, .int .i64 0]), 3, 40) := by kernel_rfl
theorem byteD_at (s : ByteArray) {k : Nat} (h : k < s.size) : s.data.toList.getD k 0 = s[k]'h := by
  have hl := len_size s
  rw [List.getD_eq_getElem?_getD, List.getElem?_eq_getElem (by omega), Option.getD_some]; rfl
theorem Bk.name_no {s : List UInt8} {k : Nat} (h : k < s.length) (hf : Bk.okn k (s.getD k 0) = false) : Bk.name s = false := by
  unfold Bk.name
  have : Bk.oks s = false := by
    rw [← Bool.not_eq_true, Bk.oks_iff]
    exact fun e => by have := e k h; rw [hf] at this; cases this
  rw [this, Bool.and_false, Bool.and_false]
theorem Bk.okn_iff {j : Nat} {c : UInt8} : Bk.okn j c = true ↔ (97 ≤ c.toNat ∧ c.toNat ≤ 122) ∨ ((48 ≤ c.toNat ∧ c.toNat ≤ 57) ∧ j ≠ 0) := by
  unfold Bk.okn Bk.isLet Bk.isNum; simp
set_option maxRecDepth 20000 in
set_option maxHeartbeats 1000000 in
theorem isName_any (s : ByteArray) (w : World) (hs : s.size ≤ 9223372036854775807) :
    Calls Tryz.prog 76 #[.string s] w fun e w' => e = .returned (.bool (Bk.name s.data.toList)) ∧ Below w.heap.size w w' := by
  have hl := len_size s
  by_cases h0 : s.data.toList = []
  · have HR : Hid (Bk.name s.data.toList = false) := Lib.hid (by rw [h0]; rfl)
    have q1 : (s.toList == []) = true := by rw [toList_data]; simpa using h0
    have q2 : s.toList.isEmpty = true := by rw [toList_data, h0]; rfl
    clear h0 hl
    generalize hR : Bk.name s.data.toList = R at *
    clear hR
    go_enter Tryz.func76, Tryz.ntmps76
    go_wp2
    go_ret
    exact ⟨by rw [HR.out]; rfl, Below.refl _ _⟩
  have q1 : (s.toList == []) = false := by rw [toList_data]; simpa using h0
  have q2 : s.toList.isEmpty = false := by rw [toList_data]; simpa using h0
  by_cases h1 : s.size ≤ 8
  case neg =>
    have HR : Hid (Bk.name s.data.toList = false) := Lib.hid (by
      have h2 : ¬ s.data.toList.length ≤ 8 := by omega
      unfold Bk.name; rw [decide_eq_false h2, Bool.false_and, Bool.and_false])
    have q3 : decide ((8 : Int) < (s.size : Int)) = true := by rw [decide_eq_true_eq]; omega
    clear h0 hl
    generalize hR : Bk.name s.data.toList = R at *
    clear hR
    go_enter Tryz.func76, Tryz.ntmps76
    go_wp2
    go_ret
    exact ⟨by rw [HR.out]; rfl, Below.refl _ _⟩
  have HT : Hid ((∀ j, j < s.size → Bk.okn j (s.data.toList.getD j 0) = true) → Bk.name s.data.toList = true) := Lib.hid (fun h => by
    unfold Bk.name
    rw [decide_eq_true h0, decide_eq_true (show s.data.toList.length ≤ 8 by omega), Bk.oks_iff.2 (fun j hj => h j (by omega))]; rfl)
  have HF := Lib.hid (fun k (h : k < s.size) hf => Bk.name_no (s := s.data.toList) (k := k) (by omega) hf)
  have HG := Lib.hid (fun k (h : k < s.size) => byteD_at s h)
  clear h0 hl
  generalize hR : Bk.name s.data.toList = R at *
  clear hR
  go_enter Tryz.func76, Tryz.ntmps76
  go_wp2
  go_loopw [] (fun wr => ∃ (pos : Nat), pos ≤ s.size ∧ wr.heap[w.heap.size]? = some (.stringIter s pos) ∧ Hid ((∀ j, j < pos → Bk.okn j (s.data.toList.getD j 0) = true) ∧ Below w.heap.size w wr)) (fun wr => s.size - wr.iterPos w.heap.size)
  case atStart => exact ⟨0, Nat.zero_le _, World.iter_heap w s 0, Lib.hid ⟨fun j hj => absurd hj (Nat.not_lt_zero _), below_alloc (Below.refl _ _) _⟩⟩
  case round =>
    obtain ⟨pos, hk, hit, hg⟩ := hrel
    have hpos0 := iterPos_of hit
    by_cases hp : pos < s.size
    · have hnx : ∀ ty, (Instr.next (.pointer (some ⟨w.heap.size, 0, none⟩)) true ty).run Tryz.prog wr = _ := fun ty => Lib.run_next_any_at wr w.heap.size s pos ty hit hp
      have hit2 := Lib.iterAt_heap wr w.heap.size s pos (pos + (Utf8.decode s pos).2) hit
      have hbw2 := Lib.below_iterAt hg.out.2 (k := w.heap.size) (Nat.le_refl _) s (pos + (Utf8.decode s pos).2)
      obtain ⟨W1, hW1⟩ : ∃ W1, W1 = wr.iterAt w.heap.size s (pos + (Utf8.decode s pos).2) := ⟨_, rfl⟩
      rw [← hW1] at hnx hit2 hbw2
      have HO := Lib.hid (fun (hok : Bk.okn pos (s[pos]'hp) = true) => show ∀ j, j < pos + 1 → Bk.okn j (s.data.toList.getD j 0) = true from fun j hj => by
        by_cases e : j < pos
        · exact hg.out.1 j e
        · obtain rfl : j = pos := by omega
          rw [HG.out j hp]; exact hok)
      have HN := Lib.hid (fun (hok : ¬ Bk.okn pos (s[pos]'hp) = true) => HF.out pos hp (by rw [HG.out pos hp]; exact Bool.not_eq_true _ ▸ hok))
      by_cases ha : (s[pos]'hp).toNat < 128
      · rw [decode_ascii s pos hp ha] at hnx hit2
        have H2 := Lib.hid (And.intro hit2 hbw2)
        clear hW1 hit hg hit2 hbw2
        have hc : ((97 ≤ (s[pos]'hp).toNat ∧ (s[pos]'hp).toNat ≤ 122) ∨ ((48 ≤ (s[pos]'hp).toNat ∧ (s[pos]'hp).toNat ≤ 57) ∧ pos ≠ 0)) ∨ ((48 ≤ (s[pos]'hp).toNat ∧ (s[pos]'hp).toNat ≤ 57) ∧ pos = 0) ∨ (s[pos]'hp).toNat < 48 ∨ (57 < (s[pos]'hp).toNat ∧ (s[pos]'hp).toNat < 97) ∨ 122 < (s[pos]'hp).toNat := by omega
        rcases hc with (⟨c1, c2⟩ | ⟨⟨c1, c2⟩, c3⟩) | ⟨⟨c1, c2⟩, c3⟩ | c1 | ⟨c1, c2⟩ | c1
        · have HX := Lib.hid (HO.out (Bk.okn_iff.2 (.inl ⟨c1, c2⟩)))
          clear HO HN
          go_wp2
          go_roundw
          case rel => exact ⟨pos + 1, by omega, H2.out.1, Lib.hid ⟨HX.out, H2.out.2⟩⟩
          case measure => rw [iterPos_of H2.out.1, hpos0]; omega
        · have HX := Lib.hid (HO.out (Bk.okn_iff.2 (.inr ⟨⟨c1, c2⟩, c3⟩)))
          have q3 : ((pos : Int) == 0) = false := by rw [beq_eq_false_iff_ne]; omega
          clear HO HN
          go_wp2
          go_roundw
          case rel => exact ⟨pos + 1, by omega, H2.out.1, Lib.hid ⟨HX.out, H2.out.2⟩⟩
          case measure => rw [iterPos_of H2.out.1, hpos0]; omega
        · have HX := Lib.hid (HN.out (by rw [Bk.okn_iff]; omega))
          have q3 : ((pos : Int) == 0) = true := by rw [c3]; rfl
          clear HO HN c3
          go_wp2
          go_ret
          exact ⟨by rw [HX.out]; rfl, H2.out.2⟩
        · have HX := Lib.hid (HN.out (by rw [Bk.okn_iff]; omega))
          clear HO HN
          go_wp2
          go_ret
          exact ⟨by rw [HX.out]; rfl, H2.out.2⟩
        · have HX := Lib.hid (HN.out (by rw [Bk.okn_iff]; omega))
          clear HO HN
          go_wp2
          go_ret
          exact ⟨by rw [HX.out]; rfl, H2.out.2⟩
        · have HX := Lib.hid (HN.out (by rw [Bk.okn_iff]; omega))
          have q5 : decide (((s[pos]'hp).toNat : Int) ≤ 122) = false := by rw [decide_eq_false_iff_not]; omega
          clear HO HN
          go_wp2
          go_ret
          exact ⟨by rw [HX.out]; rfl, H2.out.2⟩
      · have HX := Lib.hid (HN.out (by rw [Bk.okn_iff]; omega))
        obtain ⟨hd1, hd2⟩ := decode_high s pos hp (by omega)
        have hd3 := decode_le s pos
        have H2 := Lib.hid hbw2
        clear hW1 hit hg hit2 hbw2 ha HO HN
        generalize (Utf8.decode s pos).1 = rn at *
        generalize (Utf8.decode s pos).2 = wd at *
        have q5 : decide ((rn : Int) ≤ 122) = false := by rw [decide_eq_false_iff_not]; omega
        go_wp2
        go_ret
        exact ⟨by rw [HX.out]; rfl, H2.out⟩
    · obtain rfl : pos = s.size := by omega
      have hnx : ∀ ty, (Instr.next (.pointer (some ⟨w.heap.size, 0, none⟩)) true ty).run Tryz.prog wr = _ := fun ty => Lib.run_next_end_at wr w.heap.size s s.size ty hit hp
      have HX : Hid (R = true) := Lib.hid (HT.out hg.out.1)
      go_wp2
      go_ret
      exact ⟨by rw [HX.out]; rfl, hg.out.2⟩
theorem Bk.all_next {α : Type} (f : α → Bool) {l : List α} {k : Nat} (h : k < l.length) : (l.take (k + 1)).all f = ((l.take k).all f && f l[k]) := by
  rw [List.take_succ_eq_append_getElem h, List.all_append, List.all_cons, List.all_nil, Bool.and_true]
theorem Bk.all_no {α : Type} (f : α → Bool) {l : List α} {k : Nat} (h : k < l.length) (hf : f l[k] = false) : l.all f = false := by
  rw [List.all_eq_false]; exact ⟨l[k], List.getElem_mem _, by simp [hf]⟩
end Go.Proofs.YtcljpklgpedolaaGreatDoor
