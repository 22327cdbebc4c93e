/- Names and the checking of postings: of the program. The checking of postings: of the program. The reading of a posting: of the program. Discounts: of the program and of the reference. The sanity check of the chapter's examples. -/
import Derived.Test.YtcljpklgpedolaaGreatDoorBkQB
import Derived.Test.YtcljpklgpedolaaGreatDoorMonA
import Derived.Test.YtcljpklgpedolaaGreatDoorBkQA
import Derived.Test.YtcljpklgpedolaaGreatDoorFrA
namespace Go.Proofs.YtcljpklgpedolaaGreatDoor
open Go.RowKit Go.Sort

abbrev PostT : TypeId := 60
abbrev poV (x : Bk.Po) : Value := .agg #[sv x.1, sv x.2.1, .int .i64 x.2.2]
abbrev poA (x : Bk.Po) : Array Value := #[sv x.1, sv x.2.1, .int .i64 x.2.2]
def poC (x : Bk.Po) : List Value := [sv x.1, sv x.2.1, .int .i64 x.2.2]
theorem poC_len (x : Bk.Po) : (poC x).length = 3 := rfl
theorem poC_one (x : Bk.Po) : ∀ u ∈ poC x, u.oneCell' = true := by
  intro u h; simp [poC] at h; rcases h with rfl | rfl | rfl <;> rfl
theorem po_at {x : Bk.Po} {w : World} {b off : Nat} (h : CellsAt (poC x) w b off) : w.cell? ⟨b, off, none⟩ = some (sv x.1) ∧ w.cell? ⟨b, off + 1, none⟩ = some (sv x.2.1) ∧ w.cell? ⟨b, off + 2, none⟩ = some (.int .i64 x.2.2) := ⟨by have := h 0 _ rfl; simpa using this, by have := h 1 _ rfl; simpa using this, by have := h 2 _ rfl; simpa using this⟩
abbrev Posts (w : World) (v : Value) (xs : List Bk.Po) : Prop := RowsOf 3 poC w v xs
abbrev OwnP (base : Nat) (w : World) (v : Value) (xs : List Bk.Po) : Prop := OwnG PostT 3 poC base w v xs
theorem infoPost : (Tryz.prog.info? PostT).map (fun i => (i.zero, i.size, i.bytes)) = some (some (.agg #[.string ⟨#[]⟩, .string ⟨#[]⟩, .int .i64 0]), 3, 40) := by kernel_rfl
theorem byteD_at (s : ByteArray) {k : Nat} (h : k < s.size) : s.data.toList.getD k 0 = s[k]'h := by
  have hl := len_size s
  rw [List.getD_eq_getElem?_getD, List.getElem?_eq_getElem (by omega), Option.getD_some]; rfl
theorem Bk.name_no {s : List UInt8} {k : Nat} (h : k < s.length) (hf : Bk.okn k (s.getD k 0) = false) : Bk.name s = false := by
  unfold Bk.name
  have : Bk.oks s = false := by
    rw [← Bool.not_eq_true, Bk.oks_iff]
    exact fun e => by have := e k h; rw [hf] at this; cases this
  rw [this, Bool.and_false, Bool.and_false]
theorem Bk.okn_iff {j : Nat} {c : UInt8} : Bk.okn j c = true ↔ (97 ≤ c.toNat ∧ c.toNat ≤ 122) ∨ ((48 ≤ c.toNat ∧ c.toNat ≤ 57) ∧ j ≠ 0) := by
  unfold Bk.okn Bk.isLet Bk.isNum; simp
set_option maxRecDepth 20000 in
set_option maxHeartbeats 1000000 in
theorem isName_any (s : ByteArray) (w : World) (hs : s.size ≤ 9223372036854775807) :
    Calls Tryz.prog 76 #[.string s] w fun e w' => e = .returned (.bool (Bk.name s.data.toList)) ∧ Below w.heap.size w w' := by
  have hl := len_size s
  by_cases h0 : s.data.toList = []
  · have HR : Hid (Bk.name s.data.toList = false) := Lib.hid (by rw [h0]; rfl)
    have q1 : (s.toList == []) = true := by rw [toList_data]; simpa using h0
    have q2 : s.toList.isEmpty = true := by rw [toList_data, h0]; rfl
    clear h0 hl
    generalize hR : Bk.name s.data.toList = R at *
    clear hR
    go_enter Tryz.func76, Tryz.ntmps76
    go_wp2
    go_ret
    exact ⟨by rw [HR.out]; rfl, Below.refl _ _⟩
  have q1 : (s.toList == []) = false := by rw [toList_data]; simpa using h0
  have q2 : s.toList.isEmpty = false := by rw [toList_data]; simpa using h0
  by_cases h1 : s.size ≤ 8
  case neg =>
    have HR : Hid (Bk.name s.data.toList = false) := Lib.hid (by
      have h2 : ¬ s.data.toList.length ≤ 8 := by omega
      unfold Bk.name; rw [decide_eq_false h2, Bool.false_and, Bool.and_false])
    have q3 : decide ((8 : Int) < (s.size : Int)) = true := by rw [decide_eq_true_eq]; omega
    clear h0 hl
    generalize hR : Bk.name s.data.toList = R at *
    clear hR
    go_enter Tryz.func76, Tryz.ntmps76
    go_wp2
    go_ret
    exact ⟨by rw [HR.out]; rfl, Below.refl _ _⟩
  have HT : Hid ((∀ j, j < s.size → Bk.okn j (s.data.toList.getD j 0) = true) → Bk.name s.data.toList = true) := Lib.hid (fun h => by
    unfold Bk.name
    rw [decide_eq_true h0, decide_eq_true (show s.data.toList.length ≤ 8 by omega), Bk.oks_iff.2 (fun j hj => h j (by omega))]; rfl)
  have HF := Lib.hid (fun k (h : k < s.size) hf => Bk.name_no (s := s.data.toList) (k := k) (by omega) hf)
  have HG := Lib.hid (fun k (h : k < s.size) => byteD_at s h)
  clear h0 hl
  generalize hR : Bk.name s.data.toList = R at *
  clear hR
  go_enter Tryz.func76, Tryz.ntmps76
  go_wp2
  go_loopw [] (fun wr => ∃ (pos : Nat), pos ≤ s.size ∧ wr.heap[w.heap.size]? = some (.stringIter s pos) ∧ Hid ((∀ j, j < pos → Bk.okn j (s.data.toList.getD j 0) = true) ∧ Below w.heap.size w wr)) (fun wr => s.size - wr.iterPos w.heap.size)
  case atStart => exact ⟨0, Nat.zero_le _, World.iter_heap w s 0, Lib.hid ⟨fun j hj => absurd hj (Nat.not_lt_zero _), below_alloc (Below.refl _ _) _⟩⟩
  case round =>
    obtain ⟨pos, hk, hit, hg⟩ := hrel
    have hpos0 := iterPos_of hit
    by_cases hp : pos < s.size
    · have hnx : ∀ ty, (Instr.next (.pointer (some ⟨w.heap.size, 0, none⟩)) true ty).run Tryz.prog wr = _ := fun ty => Lib.run_next_any_at wr w.heap.size s pos ty hit hp
      have hit2 := Lib.iterAt_heap wr w.heap.size s pos (pos + (Utf8.decode s pos).2) hit
      have hbw2 := Lib.below_iterAt hg.out.2 (k := w.heap.size) (Nat.le_refl _) s (pos + (Utf8.decode s pos).2)
      obtain ⟨W1, hW1⟩ : ∃ W1, W1 = wr.iterAt w.heap.size s (pos + (Utf8.decode s pos).2) := ⟨_, rfl⟩
      rw [← hW1] at hnx hit2 hbw2
      have HO := Lib.hid (fun (hok : Bk.okn pos (s[pos]'hp) = true) => show ∀ j, j < pos + 1 → Bk.okn j (s.data.toList.getD j 0) = true from fun j hj => by
        by_cases e : j < pos
        · exact hg.out.1 j e
        · obtain rfl : j = pos := by omega
          rw [HG.out j hp]; exact hok)
      have HN := Lib.hid (fun (hok : ¬ Bk.okn pos (s[pos]'hp) = true) => HF.out pos hp (by rw [HG.out pos hp]; exact Bool.not_eq_true _ ▸ hok))
      by_cases ha : (s[pos]'hp).toNat < 128
      · rw [decode_ascii s pos hp ha] at hnx hit2
        have H2 := Lib.hid (And.intro hit2 hbw2)
        clear hW1 hit hg hit2 hbw2
        have hc : ((97 ≤ (s[pos]'hp).toNat ∧ (s[pos]'hp).toNat ≤ 122) ∨ ((48 ≤ (s[pos]'hp).toNat ∧ (s[pos]'hp).toNat ≤ 57) ∧ pos ≠ 0)) ∨ ((48 ≤ (s[pos]'hp).toNat ∧ (s[pos]'hp).toNat ≤ 57) ∧ pos = 0) ∨ (s[pos]'hp).toNat < 48 ∨ (57 < (s[pos]'hp).toNat ∧ (s[pos]'hp).toNat < 97) ∨ 122 < (s[pos]'hp).toNat := by omega
        rcases hc with (⟨c1, c2⟩ | ⟨⟨c1, c2⟩, c3⟩) | ⟨⟨c1, c2⟩, c3⟩ | c1 | ⟨c1, c2⟩ | c1
        · have HX := Lib.hid (HO.out (Bk.okn_iff.2 (.inl ⟨c1, c2⟩)))
          clear HO HN
          go_wp2
          go_roundw
          case rel => exact ⟨pos + 1, by omega, H2.out.1, Lib.hid ⟨HX.out, H2.out.2⟩⟩
          case measure => rw [iterPos_of H2.out.1, hpos0]; omega
        · have HX := Lib.hid (HO.out (Bk.okn_iff.2 (.inr ⟨⟨c1, c2⟩, c3⟩)))
          have q3 : ((pos : Int) == 0) = false := by rw [beq_eq_false_iff_ne]; omega
          clear HO HN
          go_wp2
          go_roundw
          case rel => exact ⟨pos + 1, by omega, H2.out.1, Lib.hid ⟨HX.out, H2.out.2⟩⟩
          case measure => rw [iterPos_of H2.out.1, hpos0]; omega
        · have HX := Lib.hid (HN.out (by rw [Bk.okn_iff]; omega))
          have q3 : ((pos : Int) == 0) = true := by rw [c3]; rfl
          clear HO HN c3
          go_wp2
          go_ret
          exact ⟨by rw [HX.out]; rfl, H2.out.2⟩
        · have HX := Lib.hid (HN.out (by rw [Bk.okn_iff]; omega))
          clear HO HN
          go_wp2
          go_ret
          exact ⟨by rw [HX.out]; rfl, H2.out.2⟩
        · have HX := Lib.hid (HN.out (by rw [Bk.okn_iff]; omega))
          clear HO HN
          go_wp2
          go_ret
          exact ⟨by rw [HX.out]; rfl, H2.out.2⟩
        · have HX := Lib.hid (HN.out (by rw [Bk.okn_iff]; omega))
          have q5 : decide (((s[pos]'hp).toNat : Int) ≤ 122) = false := by rw [decide_eq_false_iff_not]; omega
          clear HO HN
          go_wp2
          go_ret
          exact ⟨by rw [HX.out]; rfl, H2.out.2⟩
      · have HX := Lib.hid (HN.out (by rw [Bk.okn_iff]; omega))
        obtain ⟨hd1, hd2⟩ := decode_high s pos hp (by omega)
        have hd3 := decode_le s pos
        have H2 := Lib.hid hbw2
        clear hW1 hit hg hit2 hbw2 ha HO HN
        generalize (Utf8.decode s pos).1 = rn at *
        generalize (Utf8.decode s pos).2 = wd at *
        have q5 : decide ((rn : Int) ≤ 122) = false := by rw [decide_eq_false_iff_not]; omega
        go_wp2
        go_ret
        exact ⟨by rw [HX.out]; rfl, H2.out⟩
    · obtain rfl : pos = s.size := by omega
      have hnx : ∀ ty, (Instr.next (.pointer (some ⟨w.heap.size, 0, none⟩)) true ty).run Tryz.prog wr = _ := fun ty => Lib.run_next_end_at wr w.heap.size s s.size ty hit hp
      have HX : Hid (R = true) := Lib.hid (HT.out hg.out.1)
      go_wp2
      go_ret
      exact ⟨by rw [HX.out]; rfl, hg.out.2⟩
theorem Bk.all_next {α : Type} (f : α → Bool) {l : List α} {k : Nat} (h : k < l.length) : (l.take (k + 1)).all f = ((l.take k).all f && f l[k]) := by
  rw [List.take_succ_eq_append_getElem h, List.all_append, List.all_cons, List.all_nil, Bool.and_true]
theorem Bk.all_no {α : Type} (f : α → Bool) {l : List α} {k : Nat} (h : k < l.length) (hf : f l[k] = false) : l.all f = false := by
  rw [List.all_eq_false]; exact ⟨l[k], List.getElem_mem _, by simp [hf]⟩
end Go.Proofs.YtcljpklgpedolaaGreatDoor
namespace Go.Proofs.YtcljpklgpedolaaGreatDoor
open Go.RowKit Go.Sort

/-- Texts that are no longer than a machine's, and a sum that is one. -/
def Bk.wide (x : Bk.Po) : Prop := x.1.length ≤ 9223372036854775807 ∧ x.2.1.length ≤ 9223372036854775807 ∧ -9223372036854775808 ≤ x.2.2 ∧ x.2.2 ≤ 9223372036854775807
theorem isName_list (l : List UInt8) (w : World) (hs : l.length ≤ 9223372036854775807) :
    Calls Tryz.prog 76 #[sv l] w fun e w' => e = .returned (.bool (Bk.name l)) ∧ Below w.heap.size w w' :=
  isName_any ⟨l.toArray⟩ w (by show l.toArray.size ≤ _; rw [List.size_toArray]; exact hs)
set_option maxRecDepth 20000 in
set_option maxHeartbeats 1000000 in
theorem validate_any (v : Value) (xs : List Bk.Po) (w : World) (hv : Posts w v xs) (hl : xs.length ≤ 1000000) (hz : ∀ k (hk : k < xs.length), Bk.wide xs[k]) :
    Calls Tryz.prog 43 #[v] w fun e w' => e = .returned (.int .i64 (Bk.valE xs)) ∧ Below w.heap.size w w' := by
  obtain ⟨va, vc, rfl, _, hvk⟩ := hv
  by_cases h64 : 64 < xs.length
  · have hE : Bk.valE xs = 4 := by unfold Bk.valE; rw [if_pos h64]
    rw [hE]
    clear hvk hz hE
    go_enter Tryz.func43, Tryz.ntmps43
    go_wp2
    go_ret
    exact ⟨rfl, Below.refl _ _⟩
  have H2 : Hid (xs.all Bk.nms = false → Bk.valE xs = 2) := Lib.hid (fun h => by unfold Bk.valE; rw [if_neg h64, if_pos h])
  have H1 : Hid (xs.all Bk.nms = true → xs.all Bk.fit = false → Bk.valE xs = 1) := Lib.hid (fun h h' => by unfold Bk.valE; rw [if_neg h64, if_neg (by rw [h]; simp), if_pos h'])
  have H0 : Hid (xs.all Bk.nms = true → xs.all Bk.fit = true → Bk.valE xs = 0) := Lib.hid (fun h h' => by unfold Bk.valE; rw [if_neg h64, if_neg (by rw [h]; simp), if_neg (by rw [h']; simp)])
  have HN := Lib.hid (fun k (h : k < xs.length) => Bk.all_next Bk.nms h)
  have HNF := Lib.hid (fun k (h : k < xs.length) hf => Bk.all_no Bk.nms h hf)
  have HM := Lib.hid (fun k (h : k < xs.length) => Bk.all_next Bk.fit h)
  have HMF := Lib.hid (fun k (h : k < xs.length) hf => Bk.all_no Bk.fit h hf)
  have HZ := Lib.hid hz
  have HV := Lib.hid hvk
  generalize Bk.valE xs = E at *
  clear hvk hz
  go_enter Tryz.func43, Tryz.ntmps43
  go_wp2
  go_loopw [12] (fun t wr => ∃ k : Nat, k ≤ xs.length ∧ t = .int .i64 (k : Int) ∧ Hid ((xs.take k).all Bk.nms = true ∧ Below w.heap.size w wr)) (fun t _ => xs.length - (intOf t).toNat)
  case atStart => exact ⟨0, Nat.zero_le _, rfl, Lib.hid ⟨rfl, Below.refl _ _⟩⟩
  case round =>
    obtain ⟨k, hk, rfl, hg⟩ := hrel
    by_cases hlt : k < xs.length
    · obtain ⟨b, off, rfl, hb, hr⟩ := HV.out k hlt
      obtain ⟨c0, c1, c2⟩ := po_at (hr.below hg.out.2 hb)
      have hx : (xs.take (k + 1)).all Bk.nms = ((xs.take k).all Bk.nms && Bk.nms xs[k]) := HN.out k hlt
      rw [hg.out.1, Bool.true_and] at hx
      have HX := Lib.hid hx
      have HF := Lib.hid (fun (h : Bk.nms xs[k] = false) => H2.out (HNF.out k hlt h))
      have hzk := HZ.out k hlt
      have HB := Lib.hid hg.out.2
      clear hr hg hx
      generalize xs[k] = x at *
      obtain ⟨xd, xc, xp⟩ := x
      obtain ⟨z1, z2, z3, z4⟩ : xd.length ≤ 9223372036854775807 ∧ xc.length ≤ 9223372036854775807 ∧ -9223372036854775808 ≤ xp ∧ xp ≤ 9223372036854775807 := hzk
      have C1 := Lib.hid (fun W => isName_list xd W z1)
      have C2 := Lib.hid (fun W => isName_list xc W z2)
      have hn : Bk.nms (xd, xc, xp) = (Bk.name xd && Bk.name xc) := rfl
      rw [hn] at HX HF
      clear z1 z2 hn
      have hB := BlockAt.new wr (poA (xd, xc, xp)) PostT
      have hw1 := below_alloc HB.out (.cells (poA (xd, xc, xp)) PostT)
      obtain ⟨d0, d1, d2⟩ : _ ∧ _ ∧ _ := ⟨hB.cell 0, hB.cell 1, hB.cell 2⟩
      cases hn1 : Bk.name xd with
      | false =>
        rw [hn1] at C1 HX HF
        go_wp2_with fail
        refine (C1.out _).mono ?_
        rintro e w2 ⟨rfl, hb2⟩
        have hw2 := below_step hw1 hb2
        clear C1 C2 hb2 hw1 hB d0 d1 d2 c0 c1 c2
        go_wp2
        go_ret
        exact ⟨by rw [HF.out rfl]; rfl, hw2⟩
      | true =>
        rw [hn1] at C1 HX HF
        go_wp2_with fail
        refine (C1.out _).mono ?_
        rintro e w2 ⟨rfl, hb2⟩
        have hB2 := hB.below hb2 hB.lt
        have hw2 := below_step hw1 hb2
        clear C1 hb2 hw1 hB d0 d1 d2 c0 c1 c2
        obtain ⟨d0, d1, d2⟩ : _ ∧ _ ∧ _ := ⟨hB2.cell 0, hB2.cell 1, hB2.cell 2⟩
        cases hn2 : Bk.name xc with
        | false =>
          rw [hn2] at C2 HX HF
          go_wp2_with fail
          refine (C2.out _).mono ?_
          rintro e w3 ⟨rfl, hb3⟩
          have hw3 := below_step hw2 hb3
          clear C2 hb3 hw2 hB2 d0 d1 d2
          go_wp2
          go_ret
          exact ⟨by rw [HF.out rfl]; rfl, hw3⟩
        | true =>
          rw [hn2] at C2 HX HF
          go_wp2_with fail
          refine (C2.out _).mono ?_
          rintro e w3 ⟨rfl, hb3⟩
          have hw3 := below_step hw2 hb3
          clear C2 hb3 hw2 hB2 d0 d1 d2
          go_wp2
          go_roundw
          case rel => exact ⟨k + 1, by omega, by go_num, Lib.hid ⟨by rw [HX.out]; rfl, hw3⟩⟩
          case measure => simp [intOf]; omega
    · have hall : xs.all Bk.nms = true := by have := hg.out.1; rwa [show k = xs.length by omega, List.take_length] at this
      have H1' := Lib.hid (H1.out hall)
      have H0' := Lib.hid (H0.out hall)
      have HB := Lib.hid hg.out.2
      clear hall hg H1 H0 H2 HN HNF
      go_wp2
      go_loopw [29] (fun t w2 => ∃ k : Nat, k ≤ xs.length ∧ t = .int .i64 (k : Int) ∧ Hid ((xs.take k).all Bk.fit = true ∧ Below w.heap.size w w2)) (fun t _ => xs.length - (intOf t).toNat)
      case atStart => exact ⟨0, Nat.zero_le _, rfl, Lib.hid ⟨rfl, HB.out⟩⟩
      case round =>
        obtain ⟨k, hk, rfl, hg⟩ := hrel
        by_cases hlt : k < xs.length
        · obtain ⟨b, off, rfl, hb, hr⟩ := HV.out k hlt
          obtain ⟨c0, c1, c2⟩ := po_at (hr.below hg.out.2 hb)
          have hx : (xs.take (k + 1)).all Bk.fit = ((xs.take k).all Bk.fit && Bk.fit xs[k]) := HM.out k hlt
          rw [hg.out.1, Bool.true_and] at hx
          have HX := Lib.hid hx
          have HF := Lib.hid (fun (h : Bk.fit xs[k] = false) => H1'.out (HMF.out k hlt h))
          have hzk := HZ.out k hlt
          have HB2 := Lib.hid hg.out.2
          clear hr hg hx
          generalize xs[k] = x at *
          obtain ⟨xd, xc, xp⟩ := x
          obtain ⟨z1, z2, z3, z4⟩ : xd.length ≤ 9223372036854775807 ∧ xc.length ≤ 9223372036854775807 ∧ -9223372036854775808 ≤ xp ∧ xp ≤ 9223372036854775807 := hzk
          have hn : Bk.fit (xd, xc, xp) = (decide (xd ≠ xc) && (decide (1 ≤ xp) && decide (xp ≤ 1099511627776))) := rfl
          rw [hn] at HX HF
          clear z1 z2 hn
          have HB3 := Lib.hid (below_alloc HB2.out (.cells (poA (xd, xc, xp)) PostT))
          clear HB2
          have hc : (xd = xc) ∨ (xd ≠ xc ∧ xp < 1) ∨ (xd ≠ xc ∧ ¬ xp < 1 ∧ 1099511627776 < xp) ∨ (xd ≠ xc ∧ ¬ xp < 1 ∧ ¬ 1099511627776 < xp) := by
            by_cases h1 : xd = xc
            · exact .inl h1
            · by_cases h2 : xp < 1
              · exact .inr (.inl ⟨h1, h2⟩)
              · by_cases h3 : 1099511627776 < xp
                · exact .inr (.inr (.inl ⟨h1, h2, h3⟩))
                · exact .inr (.inr (.inr ⟨h1, h2, h3⟩))
          rcases hc with h1 | ⟨h1, h2⟩ | ⟨h1, h2, h3⟩ | ⟨h1, h2, h3⟩
          · have q1 : (xd == xc) = true := by simpa using h1
            have HE := Lib.hid (HF.out (by simp [h1]))
            clear h1 HX HF
            go_wp2
            go_ret
            exact ⟨by rw [HE.out]; rfl, HB3.out⟩
          · have q1 : (xd == xc) = false := by simpa using h1
            have HE := Lib.hid (HF.out (by rw [decide_eq_false (show ¬ 1 ≤ xp by omega)]; simp))
            clear h1 HX HF
            go_wp2
            go_ret
            exact ⟨by rw [HE.out]; rfl, HB3.out⟩
          · have q1 : (xd == xc) = false := by simpa using h1
            have HE := Lib.hid (HF.out (by rw [decide_eq_false (show ¬ xp ≤ 1099511627776 by omega)]; simp))
            clear h1 HX HF
            go_wp2
            go_ret
            exact ⟨by rw [HE.out]; rfl, HB3.out⟩
          · have q1 : (xd == xc) = false := by simpa using h1
            have HX2 : Hid ((xs.take (k + 1)).all Bk.fit = true) := Lib.hid (by rw [HX.out, decide_eq_true h1, decide_eq_true (show 1 ≤ xp by omega), decide_eq_true (show xp ≤ 1099511627776 by omega)]; rfl)
            clear h1 HX HF
            go_wp2
            go_roundw
            case rel => exact ⟨k + 1, by omega, by go_num, Lib.hid ⟨HX2.out, HB3.out⟩⟩
            case measure => simp [intOf]; omega
        · have hall2 : xs.all Bk.fit = true := by have := hg.out.1; rwa [show k = xs.length by omega, List.take_length] at this
          have HE := Lib.hid (H0'.out hall2)
          have HB2 := Lib.hid hg.out.2
          clear hall2 hg
          go_wp2
          go_ret
          exact ⟨by rw [HE.out]; rfl, HB2.out⟩
end Go.Proofs.YtcljpklgpedolaaGreatDoor
namespace Go.Proofs.YtcljpklgpedolaaGreatDoor
open Go.RowKit Go.Sort

theorem bef_len : ∀ k : List UInt8, (Bk.bef k).length ≤ k.length
  | [] => Nat.le_refl _
  | c :: r => by
    have := bef_len r
    rw [Bk.bef]; split <;> (simp; try omega)
theorem parMon_any (l : List UInt8) (w : World) (hE : EnvB w) (hs : l.length ≤ 100000) :
    Calls Tryz.prog 82 #[sv l] w (ReadSays (Tx.ansM l (Tx.rT l)) w) := by
  have h := parseMoney_any ⟨l.toArray⟩ w hE.1 (by show l.toArray.size ≤ _; rw [List.size_toArray]; exact hs)
  rw [Tx.money_same fits64] at h
  exact h
/-- What is told of a text that is read as a posting. -/
def PrsSays (l : List UInt8) (w : World) (e : Ending) (w' : World) : Prop :=
  e = .returned (match Bk.prs l with | none => .tuple #[poV ([], [], 0), .int .i64 3] | some x => .tuple #[poV x, .int .i64 0]) ∧ Below w.heap.size w w'
theorem Bk.prs_no {l : List UInt8} (h : ¬ ((32 : UInt8) ∈ Bk.thd l ∧ Bk.bef l = [112, 111, 115, 116] ∧ (Bk.monP l).2 = 0 ∧ Bk.valE [Bk.parP l (Bk.monP l).1] = 0)) : Bk.prs l = none := by
  unfold Bk.prs; exact if_neg h
theorem posts_at {x : Bk.Po} {W : World} {B : Nat} (h : W.heap[B]? = some (.cells (poA x) PostT (0, 0))) : Posts W (.slice (some ⟨B, 0, none⟩) 1 1) [x] := by
  have hB : BlockAt W B (poA x) PostT := h
  refine ⟨_, 1, rfl, Nat.le_refl _, fun k hk => ⟨B, 0, rfl, hB.lt, fun j u hj => ?_⟩⟩
  obtain rfl : k = 0 := by simp at hk; exact hk
  have h := hB.cell j
  rw [show 0 + 0 * 3 + j = j by omega, h, ← hj]; simp [poC]
theorem posts_one (x : Bk.Po) (w : World) : Posts (w.alloc (.cells (poA x) PostT)) (.slice (some ⟨w.heap.size, 0, none⟩) 1 1) [x] := by
  refine ⟨_, 1, rfl, Nat.le_refl _, fun k hk => ⟨w.heap.size, 0, rfl, by simp, fun j u hj => ?_⟩⟩
  obtain rfl : k = 0 := by simp at hk; exact hk
  have h := (BlockAt.new w (poA x) PostT).cell j
  rw [show 0 + 0 * 3 + j = j by omega, h, ← hj]; simp [poC]
set_option maxRecDepth 20000 in
set_option maxHeartbeats 1000000 in
theorem parsePosting_any (s : ByteArray) (w : World) (hE : EnvB w) (hs : s.size ≤ 90000) :
    Calls Tryz.prog 48 #[.string s] w (PrsSays s.data.toList w) := by
  have hl := len_size s
  have hss : Value.string s = sv s.data.toList := by show _ = Value.string ⟨s.data.toList.toArray⟩; rw [mk_list]
  rw [hss]
  clear hss
  generalize s.data.toList = l at *
  have HE := Lib.hid hE
  have HSPL := Lib.hid (fun W hW => splitN_any l 3 W hW (by omega) (by omega))
  have hR : ∃ R, R = (match Bk.prs l with | none => Value.tuple #[poV ([], [], 0), .int .i64 3] | some x => .tuple #[poV x, .int .i64 0]) := ⟨_, rfl⟩
  obtain ⟨R, hR⟩ := hR
  unfold PrsSays
  rw [← hR]
  have hB0 := BlockAt.new w #[.string ⟨#[]⟩, .string ⟨#[]⟩, .int .i64 0] PostT
  rcases Bk.pcs_three l with ⟨hp, m1, m2, m3⟩ | ⟨hp, hm⟩
  case inr =>
    have HR : Hid (R = .tuple #[poV ([], [], 0), .int .i64 3]) := Lib.hid (by rw [hR, Bk.prs_no (fun h => hm h.1)])
    have q1 : decide (((Bk.pcs 3 l).length : Int) < 4) = true := by rw [decide_eq_true_eq]; omega
    clear hR hm hE
    unfold PcsSays at HSPL
    generalize Bk.pcs 3 l = P at *
    go_enter Tryz.func48, Tryz.ntmps48
    go_wp2_with fail
    refine (HSPL.out _ (HE.out.all (below_alloc (Below.refl _ _) _))).mono ?_
    rintro e w1 ⟨cap, rfl, hcap, hcells, hb1⟩
    have hB1 := hB0.below hb1 hB0.lt
    have hw1 := below_step (below_alloc (Below.refl w.heap.size w) (.cells #[.string ⟨#[]⟩, .string ⟨#[]⟩, .int .i64 0] PostT)) hb1
    clear hb1 HSPL hcells hB0
    obtain ⟨c0, c1, c2⟩ : _ ∧ _ ∧ _ := ⟨hB1.cell 0, hB1.cell 1, hB1.cell 2⟩
    obtain ⟨f0, f1, f2⟩ : _ ∧ _ ∧ _ := ⟨hB1.frozen 0, hB1.frozen 1, hB1.frozen 2⟩
    have hB9 := ((hB1.set 0 (.string ⟨#[]⟩)).set 1 (.string ⟨#[]⟩)).set 2 (.int .i64 0)
    have e0 : World.cell? _ _ = some (.string ⟨#[]⟩) := (hB1.set 0 (.string ⟨#[]⟩)).cell 0
    have e1 : World.cell? _ _ = some (.string ⟨#[]⟩) := ((hB1.set 0 (.string ⟨#[]⟩)).set 1 (.string ⟨#[]⟩)).cell 1
    have e2 : World.cell? _ _ = some (.int .i64 0) := hB9.cell 2
    go_wp2
    exact bodyPost_ret (v := .tuple #[poV ([], [], 0), .int .i64 3]) (by simp [results, Tryz.results48, go_sem, e0, e1, e2]) rfl ⟨by rw [HR.out], ((hw1.setCell (Nat.le_refl _) _).setCell (Nat.le_refl _) _).setCell (Nat.le_refl _) _⟩
  obtain ⟨p0, hp0⟩ : ∃ p0, p0 = Bk.bef l := ⟨_, rfl⟩
  obtain ⟨p1, hp1⟩ : ∃ p1, p1 = Bk.bef (Bk.aft l) := ⟨_, rfl⟩
  obtain ⟨p2, hp2⟩ : ∃ p2, p2 = Bk.bef (Bk.thd l) := ⟨_, rfl⟩
  obtain ⟨p3, hp3⟩ : ∃ p3, p3 = Bk.aft (Bk.thd l) := ⟨_, rfl⟩
  have hl1 : p1.length ≤ l.length := by rw [hp1]; exact Nat.le_trans (bef_len _) (Bk.aft_len _)
  have hl2 : p2.length ≤ l.length := by rw [hp2]; exact Nat.le_trans (bef_len _) (Bk.thd_len _)
  have hl3 : p3.length ≤ l.length := by rw [hp3]; exact Nat.le_trans (Bk.aft_len _) (Bk.thd_len _)
  have hmon : Bk.monP l = Tx.ansM p3 (Tx.rT p3) := by rw [hp3]; rfl
  have hpar : ∀ q, Bk.parP l q = (p1, p2, q) := fun q => by rw [hp1, hp2]; rfl
  have hno : ¬ (p0 = [112, 111, 115, 116] ∧ (Bk.monP l).2 = 0 ∧ Bk.valE [(p1, p2, (Bk.monP l).1)] = 0) → R = .tuple #[poV ([], [], 0), .int .i64 3] := fun h => by
    rw [hR, Bk.prs_no (fun e => h ⟨hp0.trans e.2.1, e.2.2.1, by rw [← hpar]; exact e.2.2.2⟩)]
  have hyes : p0 = [112, 111, 115, 116] → (Bk.monP l).2 = 0 → Bk.valE [(p1, p2, (Bk.monP l).1)] = 0 → R = .tuple #[poV (p1, p2, (Bk.monP l).1), .int .i64 0] := fun h1 h2 h3 => by
    rw [hR]
    unfold Bk.prs
    rw [if_pos ⟨m3, hp0.symm.trans h1, h2, by rw [hpar]; exact h3⟩, hpar]
  rw [← hp0, ← hp1, ← hp2, ← hp3] at hp
  have hrng : (Bk.monP l).2 = 0 → -1099511627776 ≤ (Bk.monP l).1 ∧ (Bk.monP l).1 ≤ 1099511627776 := fun h => by
    rw [hmon] at h ⊢
    cases hx : Tx.rT p3 with
    | none => rw [hx] at h; cases h
    | some q =>
      rw [hx] at h
      unfold Tx.ansM at h ⊢
      by_cases hq : Tx.okM p3 q = true
      · dsimp only
        rw [if_pos hq]
        unfold Tx.okM at hq
        rw [Bool.and_eq_true] at hq
        exact Tx.inM_of hq.1
      · dsimp only at h
        rw [if_neg hq] at h; cases h
  have HMN := Lib.hid (fun W hW => parMon_any p3 W hW (by omega))
  rw [← hmon] at HMN
  unfold PcsSays at HSPL
  rw [hp] at HSPL
  unfold ReadSays at HMN
  clear hR hp hp0 hp1 hp2 hp3 hmon hpar hE m1 m2 m3
  generalize hmq : Bk.monP l = mq at *
  obtain ⟨q, qe⟩ := mq
  dsimp only at *
  by_cases h0 : p0 = [112, 111, 115, 116]
  case neg =>
    have HR := Lib.hid (hno (fun h => h0 h.1))
    have q1 : (p0 == [112, 111, 115, 116]) = false := by simpa using h0
    have q2 : (p0 != [112, 111, 115, 116]) = true := by simpa using h0
    clear h0 hno hyes hrng HMN
    go_enter Tryz.func48, Tryz.ntmps48
    go_wp2_with fail
    refine (HSPL.out _ (HE.out.all (below_alloc (Below.refl _ _) _))).mono ?_
    rintro e w1 ⟨cap, rfl, hcap, hcells, hb1⟩
    have hB1 := hB0.below hb1 hB0.lt
    have hw1 := below_step (below_alloc (Below.refl w.heap.size w) (.cells #[.string ⟨#[]⟩, .string ⟨#[]⟩, .int .i64 0] PostT)) hb1
    have k0 : w1.cell? _ = some (sv p0) := hcells 0 p0 rfl
    have k1 : w1.cell? _ = some (sv p1) := hcells 1 p1 rfl
    have k2 : w1.cell? _ = some (sv p2) := hcells 2 p2 rfl
    have k3 : w1.cell? _ = some (sv p3) := hcells 3 p3 rfl
    have hlt0 : w.heap.size + 1 < w1.heap.size := by have := cell_lt k0; simpa using this
    simp only [World.size_alloc] at k0 k1 k2 k3
    clear hb1 HSPL hcells hB0
    obtain ⟨c0, c1, c2⟩ : _ ∧ _ ∧ _ := ⟨hB1.cell 0, hB1.cell 1, hB1.cell 2⟩
    obtain ⟨f0, f1, f2⟩ : _ ∧ _ ∧ _ := ⟨hB1.frozen 0, hB1.frozen 1, hB1.frozen 2⟩
    have hB9 := ((hB1.set 0 (.string ⟨#[]⟩)).set 1 (.string ⟨#[]⟩)).set 2 (.int .i64 0)
    have e0 : World.cell? _ _ = some (.string ⟨#[]⟩) := (hB1.set 0 (.string ⟨#[]⟩)).cell 0
    have e1 : World.cell? _ _ = some (.string ⟨#[]⟩) := ((hB1.set 0 (.string ⟨#[]⟩)).set 1 (.string ⟨#[]⟩)).cell 1
    have e2 : World.cell? _ _ = some (.int .i64 0) := hB9.cell 2
    go_wp2
    exact bodyPost_ret (v := .tuple #[poV ([], [], 0), .int .i64 3]) (by simp [results, Tryz.results48, go_sem, e0, e1, e2]) rfl ⟨by rw [HR.out], ((hw1.setCell (Nat.le_refl _) _).setCell (Nat.le_refl _) _).setCell (Nat.le_refl _) _⟩
  have q1 : (p0 == [112, 111, 115, 116]) = true := by simpa using h0
  have q2 : (p0 != [112, 111, 115, 116]) = false := by simpa using h0
  by_cases hqe : qe = 0
  case neg =>
    have HR := Lib.hid (hno (fun h => hqe h.2.1))
    have q3 : (qe == 0) = false := by simpa using hqe
    have q4 : (qe != 0) = true := by simpa using hqe
    clear h0 hno hyes hrng hqe
    go_enter Tryz.func48, Tryz.ntmps48
    go_wp2_with fail
    refine (HSPL.out _ (HE.out.all (below_alloc (Below.refl _ _) _))).mono ?_
    rintro e w1 ⟨cap, rfl, hcap, hcells, hb1⟩
    have hB1 := hB0.below hb1 hB0.lt
    have hw1 := below_step (below_alloc (Below.refl w.heap.size w) (.cells #[.string ⟨#[]⟩, .string ⟨#[]⟩, .int .i64 0] PostT)) hb1
    have k0 : w1.cell? _ = some (sv p0) := hcells 0 p0 rfl
    have k1 : w1.cell? _ = some (sv p1) := hcells 1 p1 rfl
    have k2 : w1.cell? _ = some (sv p2) := hcells 2 p2 rfl
    have k3 : w1.cell? _ = some (sv p3) := hcells 3 p3 rfl
    have hlt0 : w.heap.size + 1 < w1.heap.size := by have := cell_lt k0; simpa using this
    simp only [World.size_alloc] at k0 k1 k2 k3
    clear hb1 HSPL hcells hB0
    go_wp2_with fail
    refine (HMN.out _ (HE.out.all hw1)).mono ?_
    rintro e w2 ⟨rfl, hb2⟩
    have hB2 := hB1.below hb2 hB1.lt
    have hw2 := below_step hw1 hb2
    clear hb2 HMN hw1 hB1 k0 k1 k2 k3
    obtain ⟨c0, c1, c2⟩ : _ ∧ _ ∧ _ := ⟨hB2.cell 0, hB2.cell 1, hB2.cell 2⟩
    obtain ⟨f0, f1, f2⟩ : _ ∧ _ ∧ _ := ⟨hB2.frozen 0, hB2.frozen 1, hB2.frozen 2⟩
    have hB9 := ((hB2.set 0 (.string ⟨#[]⟩)).set 1 (.string ⟨#[]⟩)).set 2 (.int .i64 0)
    have e0 : World.cell? _ _ = some (.string ⟨#[]⟩) := (hB2.set 0 (.string ⟨#[]⟩)).cell 0
    have e1 : World.cell? _ _ = some (.string ⟨#[]⟩) := ((hB2.set 0 (.string ⟨#[]⟩)).set 1 (.string ⟨#[]⟩)).cell 1
    have e2 : World.cell? _ _ = some (.int .i64 0) := hB9.cell 2
    go_wp2
    exact bodyPost_ret (v := .tuple #[poV ([], [], 0), .int .i64 3]) (by simp [results, Tryz.results48, go_sem, e0, e1, e2]) rfl ⟨by rw [HR.out], ((hw2.setCell (Nat.le_refl _) _).setCell (Nat.le_refl _) _).setCell (Nat.le_refl _) _⟩
  have q3 : (qe == 0) = true := by simpa using hqe
  have q4 : (qe != 0) = false := by simpa using hqe
  obtain ⟨r0, r1⟩ := hrng hqe
  have HVL := Lib.hid (fun (W : World) B (hB : W.heap[B]? = some (.cells (poA (p1, p2, q)) PostT (0, 0))) => validate_any (.slice (some ⟨B, 0, none⟩) 1 1) [(p1, p2, q)] W (posts_at hB) (by simp) (fun k hk => by
    obtain rfl : k = 0 := by simp at hk; exact hk
    exact ⟨by show p1.length ≤ _; omega, by show p2.length ≤ _; omega, by show _ ≤ q; omega, by show q ≤ _; omega⟩))
  have hRR : (Bk.valE [(p1, p2, q)] = 0 ∧ Hid (R = .tuple #[poV (p1, p2, q), .int .i64 0])) ∨ (Bk.valE [(p1, p2, q)] ≠ 0 ∧ Hid (R = .tuple #[poV ([], [], 0), .int .i64 3])) := by
    by_cases hv : Bk.valE [(p1, p2, q)] = 0
    · exact .inl ⟨hv, Lib.hid (hyes h0 hqe hv)⟩
    · exact .inr ⟨hv, Lib.hid (hno fun h => hv h.2.2)⟩
  clear h0 hno hyes hqe hmq hrng
  generalize Bk.valE [(p1, p2, q)] = ve at *
  rcases hRR with ⟨hv, HR⟩ | ⟨hv, HR⟩
  · have q5 : (ve == 0) = true := by simpa using hv
    have q6 : (ve != 0) = false := by simpa using hv
    clear hv
    go_enter Tryz.func48, Tryz.ntmps48
    go_wp2_with fail
    refine (HSPL.out _ (HE.out.all (below_alloc (Below.refl _ _) _))).mono ?_
    rintro e w1 ⟨cap, rfl, hcap, hcells, hb1⟩
    have hB1 := hB0.below hb1 hB0.lt
    have hw1 := below_step (below_alloc (Below.refl w.heap.size w) (.cells #[.string ⟨#[]⟩, .string ⟨#[]⟩, .int .i64 0] PostT)) hb1
    have k0 : w1.cell? _ = some (sv p0) := hcells 0 p0 rfl
    have k1 : w1.cell? _ = some (sv p1) := hcells 1 p1 rfl
    have k2 : w1.cell? _ = some (sv p2) := hcells 2 p2 rfl
    have k3 : w1.cell? _ = some (sv p3) := hcells 3 p3 rfl
    have hlt0 : w.heap.size + 1 < w1.heap.size := by have := cell_lt k0; simpa using this
    simp only [World.size_alloc] at k0 k1 k2 k3
    clear hb1 HSPL hcells hB0
    go_wp2_with fail
    refine (HMN.out _ (HE.out.all hw1)).mono ?_
    rintro e w2 ⟨rfl, hb2⟩
    have hB2 := hB1.below hb2 hB1.lt
    have hw2 := below_step hw1 hb2
    have j1 : w2.cell? ⟨w.heap.size + 1, 1, none⟩ = some (sv p1) := (hb2.cell (p := ⟨w.heap.size + 1, 1, none⟩) hlt0).trans k1
    have j2 : w2.cell? ⟨w.heap.size + 1, 2, none⟩ = some (sv p2) := (hb2.cell (p := ⟨w.heap.size + 1, 2, none⟩) hlt0).trans k2
    clear hb2 HMN hw1 hB1 k0 k1 k2 k3
    go_upto_region 7 with fail
    have hne : w.heap.size + 1 ≠ w2.heap.size := by have := cell_lt j1; omega
    have j3 : (w2.alloc (.cells #[.string ⟨#[]⟩, .string ⟨#[]⟩, .int .i64 0] PostT)).cell? ⟨w.heap.size + 1, 1, none⟩ = some (sv p1) := (World.cell?_alloc_old _ _ _ hne).trans j1
    have j4 : (w2.alloc (.cells #[.string ⟨#[]⟩, .string ⟨#[]⟩, .int .i64 0] PostT)).cell? ⟨w.heap.size + 1, 2, none⟩ = some (sv p2) := (World.cell?_alloc_old _ _ _ hne).trans j2
    go_region
    have hbn : BlockAt (w2.alloc (.cells (poA (p1, p2, q)) PostT)).drew w2.heap.size (poA (p1, p2, q)) PostT := BlockAt.new w2 (poA (p1, p2, q)) PostT
    obtain ⟨d0, d1, d2⟩ : _ ∧ _ ∧ _ := ⟨hbn.cell 0, hbn.cell 1, hbn.cell 2⟩
    have hbs : ((w2.alloc (.cells (poA (p1, p2, q)) PostT)).drew.alloc (.cells (poA (p1, p2, q)) PostT)).heap[w2.heap.size + 1]? = some (.cells (poA (p1, p2, q)) PostT (0, 0)) := by
      have h := BlockAt.new (w2.alloc (.cells (poA (p1, p2, q)) PostT)).drew (poA (p1, p2, q)) PostT
      rw [show (w2.alloc (.cells (poA (p1, p2, q)) PostT)).drew.heap.size = w2.heap.size + 1 from by simp [World.drew, World.size_alloc]] at h
      exact h
    have hw3 : Below w.heap.size w ((w2.alloc (.cells (poA (p1, p2, q)) PostT)).drew.alloc (.cells (poA (p1, p2, q)) PostT)) := below_alloc (below_alloc hw2 _).drew _
    have hbn2 : BlockAt ((w2.alloc (.cells (poA (p1, p2, q)) PostT)).drew.alloc (.cells (poA (p1, p2, q)) PostT)) w2.heap.size (poA (p1, p2, q)) PostT := BlockAt.alloc hbn _
    have hB3 : BlockAt ((w2.alloc (.cells (poA (p1, p2, q)) PostT)).drew.alloc (.cells (poA (p1, p2, q)) PostT)) w.heap.size #[.string ⟨#[]⟩, .string ⟨#[]⟩, .int .i64 0] PostT := (BlockAt.alloc hB2 (.cells (poA (p1, p2, q)) PostT)).drew.alloc _
    have HV := Lib.hid (HVL.out _ _ hbs)
    clear hbs j1 j2 j3 j4 hne HVL hB2 hw2
    go_wp2_with fail
    refine HV.out.mono ?_
    rintro e w4 ⟨rfl, hb4⟩
    have hB4 := hB3.below hb4 hB3.lt
    have hbn4 := hbn2.below hb4 hbn2.lt
    have hw4 := below_step hw3 hb4
    clear HV hb4 hw3 hbn hbn2 hB3 d0 d1 d2
    obtain ⟨d0, d1, d2⟩ : _ ∧ _ ∧ _ := ⟨hbn4.cell 0, hbn4.cell 1, hbn4.cell 2⟩
    obtain ⟨c0, c1, c2⟩ : _ ∧ _ ∧ _ := ⟨hB4.cell 0, hB4.cell 1, hB4.cell 2⟩
    obtain ⟨f0, f1, f2⟩ : _ ∧ _ ∧ _ := ⟨hB4.frozen 0, hB4.frozen 1, hB4.frozen 2⟩
    have hB9 := ((hB4.set 0 (sv p1)).set 1 (sv p2)).set 2 (.int .i64 q)
    have e0 : World.cell? _ _ = some (sv p1) := (hB4.set 0 (sv p1)).cell 0
    have e1 : World.cell? _ _ = some (sv p2) := ((hB4.set 0 (sv p1)).set 1 (sv p2)).cell 1
    have e2 : World.cell? _ _ = some (.int .i64 q) := hB9.cell 2
    go_wp2
    exact bodyPost_ret (v := .tuple #[poV (p1, p2, q), .int .i64 0]) (by simp [results, Tryz.results48, go_sem, e0, e1, e2]) rfl ⟨by rw [HR.out], ((hw4.setCell (Nat.le_refl _) _).setCell (Nat.le_refl _) _).setCell (Nat.le_refl _) _⟩
  · have q5 : (ve == 0) = false := by simpa using hv
    have q6 : (ve != 0) = true := by simpa using hv
    clear hv
    go_enter Tryz.func48, Tryz.ntmps48
    go_wp2_with fail
    refine (HSPL.out _ (HE.out.all (below_alloc (Below.refl _ _) _))).mono ?_
    rintro e w1 ⟨cap, rfl, hcap, hcells, hb1⟩
    have hB1 := hB0.below hb1 hB0.lt
    have hw1 := below_step (below_alloc (Below.refl w.heap.size w) (.cells #[.string ⟨#[]⟩, .string ⟨#[]⟩, .int .i64 0] PostT)) hb1
    have k0 : w1.cell? _ = some (sv p0) := hcells 0 p0 rfl
    have k1 : w1.cell? _ = some (sv p1) := hcells 1 p1 rfl
    have k2 : w1.cell? _ = some (sv p2) := hcells 2 p2 rfl
    have k3 : w1.cell? _ = some (sv p3) := hcells 3 p3 rfl
    have hlt0 : w.heap.size + 1 < w1.heap.size := by have := cell_lt k0; simpa using this
    simp only [World.size_alloc] at k0 k1 k2 k3
    clear hb1 HSPL hcells hB0
    go_wp2_with fail
    refine (HMN.out _ (HE.out.all hw1)).mono ?_
    rintro e w2 ⟨rfl, hb2⟩
    have hB2 := hB1.below hb2 hB1.lt
    have hw2 := below_step hw1 hb2
    have j1 : w2.cell? ⟨w.heap.size + 1, 1, none⟩ = some (sv p1) := (hb2.cell (p := ⟨w.heap.size + 1, 1, none⟩) hlt0).trans k1
    have j2 : w2.cell? ⟨w.heap.size + 1, 2, none⟩ = some (sv p2) := (hb2.cell (p := ⟨w.heap.size + 1, 2, none⟩) hlt0).trans k2
    clear hb2 HMN hw1 hB1 k0 k1 k2 k3
    go_upto_region 7 with fail
    have hne : w.heap.size + 1 ≠ w2.heap.size := by have := cell_lt j1; omega
    have j3 : (w2.alloc (.cells #[.string ⟨#[]⟩, .string ⟨#[]⟩, .int .i64 0] PostT)).cell? ⟨w.heap.size + 1, 1, none⟩ = some (sv p1) := (World.cell?_alloc_old _ _ _ hne).trans j1
    have j4 : (w2.alloc (.cells #[.string ⟨#[]⟩, .string ⟨#[]⟩, .int .i64 0] PostT)).cell? ⟨w.heap.size + 1, 2, none⟩ = some (sv p2) := (World.cell?_alloc_old _ _ _ hne).trans j2
    go_region
    have hbn : BlockAt (w2.alloc (.cells (poA (p1, p2, q)) PostT)).drew w2.heap.size (poA (p1, p2, q)) PostT := BlockAt.new w2 (poA (p1, p2, q)) PostT
    obtain ⟨d0, d1, d2⟩ : _ ∧ _ ∧ _ := ⟨hbn.cell 0, hbn.cell 1, hbn.cell 2⟩
    have hbs : ((w2.alloc (.cells (poA (p1, p2, q)) PostT)).drew.alloc (.cells (poA (p1, p2, q)) PostT)).heap[w2.heap.size + 1]? = some (.cells (poA (p1, p2, q)) PostT (0, 0)) := by
      have h := BlockAt.new (w2.alloc (.cells (poA (p1, p2, q)) PostT)).drew (poA (p1, p2, q)) PostT
      rw [show (w2.alloc (.cells (poA (p1, p2, q)) PostT)).drew.heap.size = w2.heap.size + 1 from by simp [World.drew, World.size_alloc]] at h
      exact h
    have hw3 : Below w.heap.size w ((w2.alloc (.cells (poA (p1, p2, q)) PostT)).drew.alloc (.cells (poA (p1, p2, q)) PostT)) := below_alloc (below_alloc hw2 _).drew _
    have hbn2 : BlockAt ((w2.alloc (.cells (poA (p1, p2, q)) PostT)).drew.alloc (.cells (poA (p1, p2, q)) PostT)) w2.heap.size (poA (p1, p2, q)) PostT := BlockAt.alloc hbn _
    have hB3 : BlockAt ((w2.alloc (.cells (poA (p1, p2, q)) PostT)).drew.alloc (.cells (poA (p1, p2, q)) PostT)) w.heap.size #[.string ⟨#[]⟩, .string ⟨#[]⟩, .int .i64 0] PostT := (BlockAt.alloc hB2 (.cells (poA (p1, p2, q)) PostT)).drew.alloc _
    have HV := Lib.hid (HVL.out _ _ hbs)
    clear hbs j1 j2 j3 j4 hne HVL hB2 hw2
    go_wp2_with fail
    refine HV.out.mono ?_
    rintro e w4 ⟨rfl, hb4⟩
    have hB4 := hB3.below hb4 hB3.lt
    have hbn4 := hbn2.below hb4 hbn2.lt
    have hw4 := below_step hw3 hb4
    clear HV hb4 hw3 hbn hbn2 hB3 d0 d1 d2
    obtain ⟨d0, d1, d2⟩ : _ ∧ _ ∧ _ := ⟨hbn4.cell 0, hbn4.cell 1, hbn4.cell 2⟩
    obtain ⟨c0, c1, c2⟩ : _ ∧ _ ∧ _ := ⟨hB4.cell 0, hB4.cell 1, hB4.cell 2⟩
    obtain ⟨f0, f1, f2⟩ : _ ∧ _ ∧ _ := ⟨hB4.frozen 0, hB4.frozen 1, hB4.frozen 2⟩
    have hB9 := ((hB4.set 0 (.string ⟨#[]⟩)).set 1 (.string ⟨#[]⟩)).set 2 (.int .i64 0)
    have e0 : World.cell? _ _ = some (.string ⟨#[]⟩) := (hB4.set 0 (.string ⟨#[]⟩)).cell 0
    have e1 : World.cell? _ _ = some (.string ⟨#[]⟩) := ((hB4.set 0 (.string ⟨#[]⟩)).set 1 (.string ⟨#[]⟩)).cell 1
    have e2 : World.cell? _ _ = some (.int .i64 0) := hB9.cell 2
    go_wp2
    exact bodyPost_ret (v := .tuple #[poV ([], [], 0), .int .i64 3]) (by simp [results, Tryz.results48, go_sem, e0, e1, e2]) rfl ⟨by rw [HR.out], ((hw4.setCell (Nat.le_refl _) _).setCell (Nat.le_refl _) _).setCell (Nat.le_refl _) _⟩
end Go.Proofs.YtcljpklgpedolaaGreatDoor
namespace Go.Proofs.YtcljpklgpedolaaGreatDoor
open Go.RowKit Go.Sort

def Bk.disOk (p n d : Int) : Bool := decide (0 ≤ p) && (decide (p ≤ 1048576) && (Fr.ok n d && (decide (0 ≤ n) && decide (n ≤ d))))
/-- What is taken off. -/
def Bk.offV (p n d : Int) : Int := Fr.rdN (Fr.nu (p * n) d) (Fr.de (p * n) d)
def Bk.disV (p n d : Int) : Int := if Bk.disOk p n d = true then p - Bk.offV p n d else 0
def Bk.disE (p n d : Int) : Int := if Bk.disOk p n d = true then 0 else 1
theorem Bk.dis_no {p n d : Int} (h : Bk.disOk p n d = false) : Bk.disV p n d = 0 ∧ Bk.disE p n d = 1 := by
  unfold Bk.disV Bk.disE; rw [h]; exact ⟨rfl, rfl⟩
theorem Bk.dis_yes {p n d : Int} (h : Bk.disOk p n d = true) : Bk.disV p n d = p - Bk.offV p n d ∧ Bk.disE p n d = 0 := by
  unfold Bk.disV Bk.disE; rw [h]; exact ⟨rfl, rfl⟩
theorem rd_bound (n d : Int) : -1099511627777 ≤ Fr.rdN n d ∧ Fr.rdN n d ≤ 1099511627777 := by
  by_cases h : Fr.ok n d = true
  · have := Fr.fl_bound h
    rw [(Fr.fl_ok h).2.2]
    unfold Fr.rdI
    split <;> omega
  · unfold Fr.rdN; rw [if_neg h]; omega
theorem dis_prod {p n d : Int} (p0 : 0 ≤ p) (p1 : p ≤ 1048576) (ok : Fr.ok n d = true) (n0 : 0 ≤ n) (n1 : n ≤ d) : 0 ≤ p * n ∧ p * n ≤ 1099511627776 := by
  obtain ⟨_, d2, _⟩ := Fr.ok_iff.1 ok
  refine ⟨Int.mul_nonneg p0 n0, ?_⟩
  have h1 : p * n ≤ 1048576 * n := Int.mul_le_mul_of_nonneg_right p1 n0
  omega
theorem dis_er {p n d : Int} (p0 : 0 ≤ p) (p1 : p ≤ 1048576) (ok : Fr.ok n d = true) (n0 : 0 ≤ n) (n1 : n ≤ d) : Fr.er (p * n) d = 0 := by
  obtain ⟨d1, d2, _⟩ := Fr.ok_iff.1 ok
  obtain ⟨h0, h1⟩ := dis_prod p0 p1 ok n0 n1
  unfold Fr.er
  rw [if_neg (by omega), if_pos]
  have a : Fr.up (p * n) d ≤ (p * n).natAbs := Nat.div_le_self _ _
  have b : Fr.dn (p * n) d ≤ d.natAbs := Nat.div_le_self _ _
  omega
theorem one_ok {p : Int} (p0 : 0 ≤ p) (p1 : p ≤ 1048576) : Fr.ok p 1 = true := Fr.ok_iff.2 ⟨by omega, by omega, by omega, by omega, by simp⟩
abbrev RatT : TypeId := 70
set_option maxRecDepth 20000 in
set_option maxHeartbeats 1000000 in
theorem discount_any (p n d : Int) (w : World) (p1 : -9223372036854775808 ≤ p) (p2 : p ≤ 9223372036854775807) (n1 : -9223372036854775808 ≤ n) (n2 : n ≤ 9223372036854775807) (d1 : -9223372036854775808 ≤ d) (d2 : d ≤ 9223372036854775807) :
    Calls Tryz.prog 53 #[.int .i64 p, rat n d] w fun e w' => e = .returned (.tuple #[.int .i64 (Bk.disV p n d), .int .i64 (Bk.disE p n d)]) ∧ Below w.heap.size w w' := by
  have hw0 := below_alloc (Below.refl w.heap.size w) (.cells #[.int .i64 n, .int .i64 d] RatT)
  have R0 := RatAt.fresh w n d RatT
  have hno : Bk.disOk p n d = false → Hid (Bk.disV p n d = 0 ∧ Bk.disE p n d = 1) := fun h => Lib.hid (Bk.dis_no h)
  have hyes : Bk.disOk p n d = true → Hid (Bk.disV p n d = p - Bk.offV p n d ∧ Bk.disE p n d = 0) := fun h => Lib.hid (Bk.dis_yes h)
  have HD : Hid (Bk.disOk p n d = (decide (0 ≤ p) && (decide (p ≤ 1048576) && (Fr.ok n d && (decide (0 ≤ n) && decide (n ≤ d)))))) := Lib.hid rfl
  have VA := Lib.hid (fun W => valid_any n d W n1 n2 d1 d2)
  generalize Bk.disV p n d = DV at *
  generalize Bk.disE p n d = DE at *
  by_cases a0 : p < 0
  · have HE := hno (by rw [HD.out, decide_eq_false (show ¬ 0 ≤ p by omega)]; rfl)
    clear hno hyes VA
    go_enter Tryz.func53, Tryz.ntmps53
    go_wp2
    go_ret2
    exact ⟨by rw [HE.out.1, HE.out.2]; rfl, hw0⟩
  by_cases a1 : 1048576 < p
  · have HE := hno (by rw [HD.out, decide_eq_false (show ¬ p ≤ 1048576 by omega)]; simp)
    clear hno hyes VA
    go_enter Tryz.func53, Tryz.ntmps53
    go_wp2
    go_ret2
    exact ⟨by rw [HE.out.1, HE.out.2]; rfl, hw0⟩
  cases hok : Fr.ok n d with
  | false =>
    have HE := hno (by rw [HD.out, hok]; simp)
    rw [hok] at VA
    clear hno hyes
    go_enter Tryz.func53, Tryz.ntmps53
    obtain ⟨c0, c1, _, _, _⟩ := id R0
    go_wp2_with fail
    refine (VA.out _).mono ?_
    rintro e w1 ⟨rfl, hb1⟩
    have R1 := R0.all hb1
    have hw1 := below_step hw0 hb1
    clear hb1 VA hw0 R0 c0 c1
    obtain ⟨c0, c1, _, _, _⟩ := id R1
    go_wp2
    go_ret2
    exact ⟨by rw [HE.out.1, HE.out.2]; rfl, hw1⟩
  | true =>
    rw [hok] at VA
    by_cases a2 : n < 0
    · have HE := hno (by rw [HD.out, decide_eq_false (show ¬ 0 ≤ n by omega)]; simp)
      clear hno hyes hok
      go_enter Tryz.func53, Tryz.ntmps53
      obtain ⟨c0, c1, _, _, _⟩ := id R0
      go_wp2_with fail
      refine (VA.out _).mono ?_
      rintro e w1 ⟨rfl, hb1⟩
      have R1 := R0.all hb1
      have hw1 := below_step hw0 hb1
      clear hb1 VA hw0 R0 c0 c1
      obtain ⟨c0, c1, _, _, _⟩ := id R1
      go_wp2
      go_ret2
      exact ⟨by rw [HE.out.1, HE.out.2]; rfl, hw1⟩
    by_cases a3 : d < n
    · have HE := hno (by rw [HD.out, decide_eq_false (show ¬ n ≤ d by omega)]; simp)
      clear hno hyes hok
      go_enter Tryz.func53, Tryz.ntmps53
      obtain ⟨c0, c1, _, _, _⟩ := id R0
      go_wp2_with fail
      refine (VA.out _).mono ?_
      rintro e w1 ⟨rfl, hb1⟩
      have R1 := R0.all hb1
      have hw1 := below_step hw0 hb1
      clear hb1 VA hw0 R0 c0 c1
      obtain ⟨c0, c1, _, _, _⟩ := id R1
      go_wp2
      go_ret2
      exact ⟨by rw [HE.out.1, HE.out.2]; rfl, hw1⟩
    have HE := hyes (by rw [HD.out, hok, decide_eq_true (show 0 ≤ p by omega), decide_eq_true (show p ≤ 1048576 by omega), decide_eq_true (show 0 ≤ n by omega), decide_eq_true (show n ≤ d by omega)]; rfl)
    have her := dis_er (show 0 ≤ p by omega) (show p ≤ 1048576 by omega) hok (show 0 ≤ n by omega) (show n ≤ d by omega)
    have hpr := dis_prod (show 0 ≤ p by omega) (show p ≤ 1048576 by omega) hok (show 0 ≤ n by omega) (show n ≤ d by omega)
    have hbn := Fr.nu_bound (p * n) d
    have hbd := Fr.de_bound (p * n) d
    have hrb := rd_bound (Fr.nu (p * n) d) (Fr.de (p * n) d)
    have hok2 := Fr.ok_mk her
    have hm := Fr.mul_both (an := p) (ad := 1) (bn := n) (bd := d) (by unfold Fr.both; rw [one_ok (by omega) (by omega), hok]; rfl)
    rw [Int.one_mul] at hm
    have MU := Lib.hid (fun W => mul_any p 1 n d W p1 p2 (by omega) (by omega) n1 n2 d1 d2)
    rw [hm.1, hm.2.1, hm.2.2, her] at MU
    have RO := Lib.hid (fun W => num_round_any (Fr.nu (p * n) d) (Fr.de (p * n) d) W (by omega) (by omega) (by omega) (by omega))
    rw [(Fr.fl_ok hok2).2.1] at RO
    have hof : Bk.offV p n d = Fr.rdN (Fr.nu (p * n) d) (Fr.de (p * n) d) := rfl
    rw [hof] at HE
    clear hno hyes hok her hbn hbd hok2 hm hof HD hpr
    generalize Fr.rdN (Fr.nu (p * n) d) (Fr.de (p * n) d) = O at *
    generalize Fr.nu (p * n) d = N at *
    generalize Fr.de (p * n) d = D at *
    go_enter Tryz.func53, Tryz.ntmps53
    obtain ⟨c0, c1, _, _, _⟩ := id R0
    go_wp2_with fail
    refine (VA.out _).mono ?_
    rintro e w1 ⟨rfl, hb1⟩
    have R1 := R0.all hb1
    have hw1 := below_step hw0 hb1
    clear hb1 VA hw0 R0 c0 c1
    obtain ⟨c0, c1, _, _, _⟩ := id R1
    go_wp2_with fail
    refine (MU.out _).mono ?_
    rintro e w2 ⟨rfl, hb2⟩
    have hw2 := below_step hw1 hb2
    have R2 := RatAt.fresh w2 N D RatT
    have hw3 := below_alloc hw2 (.cells #[.int .i64 N, .int .i64 D] RatT)
    clear hb2 MU hw1 R1 c0 c1
    obtain ⟨c0, c1, _, _, _⟩ := id R2
    go_wp2_with fail
    refine (RO.out _).mono ?_
    rintro e w4 ⟨rfl, hb4⟩
    have hw4 := below_step hw3 hb4
    clear hb4 RO hw3 hw2 R2 c0 c1
    go_wp2
    go_ret2
    exact ⟨by rw [HE.out.1, HE.out.2]; rfl, hw4⟩
set_option maxRecDepth 20000 in
set_option maxHeartbeats 1000000 in
theorem refDiscount_any (p n d : Int) (w : World) (p1 : -9223372036854775808 ≤ p) (p2 : p ≤ 9223372036854775807) (n1 : -9223372036854775808 ≤ n) (n2 : n ≤ 9223372036854775807) (d1 : -9223372036854775808 ≤ d) (d2 : d ≤ 9223372036854775807) :
    Calls Tryz.prog 54 #[.int .i64 p, rat n d] w fun e w' => e = .returned (.tuple #[.int .i64 (Bk.disV p n d), .int .i64 (Bk.disE p n d)]) ∧ Below w.heap.size w w' := by
  have hw0 := below_alloc (Below.refl w.heap.size w) (.cells #[.int .i64 n, .int .i64 d] RatT)
  have R0 := RatAt.fresh w n d RatT
  have hno : Bk.disOk p n d = false → Hid (Bk.disV p n d = 0 ∧ Bk.disE p n d = 1) := fun h => Lib.hid (Bk.dis_no h)
  have hyes : Bk.disOk p n d = true → Hid (Bk.disV p n d = p - Bk.offV p n d ∧ Bk.disE p n d = 0) := fun h => Lib.hid (Bk.dis_yes h)
  have HD : Hid (Bk.disOk p n d = (decide (0 ≤ p) && (decide (p ≤ 1048576) && (Fr.ok n d && (decide (0 ≤ n) && decide (n ≤ d)))))) := Lib.hid rfl
  have VA := Lib.hid (fun W => ref_valid_any n d W n1 n2 d1 d2)
  generalize Bk.disV p n d = DV at *
  generalize Bk.disE p n d = DE at *
  by_cases a0 : p < 0
  · have HE := hno (by rw [HD.out, decide_eq_false (show ¬ 0 ≤ p by omega)]; rfl)
    clear hno hyes VA
    go_enter Tryz.func54, Tryz.ntmps54
    go_wp2
    go_ret2
    exact ⟨by rw [HE.out.1, HE.out.2]; rfl, hw0⟩
  by_cases a1 : 1048576 < p
  · have HE := hno (by rw [HD.out, decide_eq_false (show ¬ p ≤ 1048576 by omega)]; simp)
    clear hno hyes VA
    go_enter Tryz.func54, Tryz.ntmps54
    go_wp2
    go_ret2
    exact ⟨by rw [HE.out.1, HE.out.2]; rfl, hw0⟩
  cases hok : Fr.ok n d with
  | false =>
    have HE := hno (by rw [HD.out, hok]; simp)
    rw [hok] at VA
    clear hno hyes
    go_enter Tryz.func54, Tryz.ntmps54
    obtain ⟨c0, c1, _, _, _⟩ := id R0
    go_wp2_with fail
    refine (VA.out _).mono ?_
    rintro e w1 ⟨rfl, hb1⟩
    have R1 := R0.all hb1
    have hw1 := below_step hw0 hb1
    clear hb1 VA hw0 R0 c0 c1
    obtain ⟨c0, c1, _, _, _⟩ := id R1
    go_wp2
    go_ret2
    exact ⟨by rw [HE.out.1, HE.out.2]; rfl, hw1⟩
  | true =>
    rw [hok] at VA
    by_cases a2 : n < 0
    · have HE := hno (by rw [HD.out, decide_eq_false (show ¬ 0 ≤ n by omega)]; simp)
      clear hno hyes hok
      go_enter Tryz.func54, Tryz.ntmps54
      obtain ⟨c0, c1, _, _, _⟩ := id R0
      go_wp2_with fail
      refine (VA.out _).mono ?_
      rintro e w1 ⟨rfl, hb1⟩
      have R1 := R0.all hb1
      have hw1 := below_step hw0 hb1
      clear hb1 VA hw0 R0 c0 c1
      obtain ⟨c0, c1, _, _, _⟩ := id R1
      go_wp2
      go_ret2
      exact ⟨by rw [HE.out.1, HE.out.2]; rfl, hw1⟩
    by_cases a3 : d < n
    · have HE := hno (by rw [HD.out, decide_eq_false (show ¬ n ≤ d by omega)]; simp)
      clear hno hyes hok
      go_enter Tryz.func54, Tryz.ntmps54
      obtain ⟨c0, c1, _, _, _⟩ := id R0
      go_wp2_with fail
      refine (VA.out _).mono ?_
      rintro e w1 ⟨rfl, hb1⟩
      have R1 := R0.all hb1
      have hw1 := below_step hw0 hb1
      clear hb1 VA hw0 R0 c0 c1
      obtain ⟨c0, c1, _, _, _⟩ := id R1
      go_wp2
      go_ret2
      exact ⟨by rw [HE.out.1, HE.out.2]; rfl, hw1⟩
    have HE := hyes (by rw [HD.out, hok, decide_eq_true (show 0 ≤ p by omega), decide_eq_true (show p ≤ 1048576 by omega), decide_eq_true (show 0 ≤ n by omega), decide_eq_true (show n ≤ d by omega)]; rfl)
    have her := dis_er (show 0 ≤ p by omega) (show p ≤ 1048576 by omega) hok (show 0 ≤ n by omega) (show n ≤ d by omega)
    have hpr := dis_prod (show 0 ≤ p by omega) (show p ≤ 1048576 by omega) hok (show 0 ≤ n by omega) (show n ≤ d by omega)
    have hbn := Fr.nu_bound (p * n) d
    have hbd := Fr.de_bound (p * n) d
    have hrb := rd_bound (Fr.nu (p * n) d) (Fr.de (p * n) d)
    have hok2 := Fr.ok_mk her
    have MU := Lib.hid (fun W => ref_make_any (p * n) d W (by omega) (by omega) d1 d2)
    rw [her] at MU
    have RO := Lib.hid (fun W => ref_round_any (Fr.nu (p * n) d) (Fr.de (p * n) d) W (by omega) (by omega) (by omega) (by omega))
    rw [(Fr.fl_ok hok2).2.1] at RO
    have hof : Bk.offV p n d = Fr.rdN (Fr.nu (p * n) d) (Fr.de (p * n) d) := rfl
    rw [hof] at HE
    clear hno hyes hok her hbn hbd hok2 hof HD
    generalize Fr.rdN (Fr.nu (p * n) d) (Fr.de (p * n) d) = O at *
    generalize Fr.nu (p * n) d = N at *
    generalize Fr.de (p * n) d = D at *
    have hwr : wrap64 (p * n) = p * n := IntWalk.wrap64_in _ ⟨by omega, by omega⟩
    go_enter Tryz.func54, Tryz.ntmps54
    obtain ⟨c0, c1, _, _, _⟩ := id R0
    go_wp2_with fail
    refine (VA.out _).mono ?_
    rintro e w1 ⟨rfl, hb1⟩
    have R1 := R0.all hb1
    have hw1 := below_step hw0 hb1
    clear hb1 VA hw0 R0 c0 c1
    obtain ⟨c0, c1, _, _, _⟩ := id R1
    go_wp2_with fail
    refine (MU.out _).mono ?_
    rintro e w2 ⟨rfl, hb2⟩
    have hw2 := below_step hw1 hb2
    have R2 := RatAt.fresh w2 N D RatT
    have hw3 := below_alloc hw2 (.cells #[.int .i64 N, .int .i64 D] RatT)
    clear hb2 MU hw1 R1 c0 c1
    obtain ⟨c0, c1, _, _, _⟩ := id R2
    go_wp2_with fail
    refine (RO.out _).mono ?_
    rintro e w4 ⟨rfl, hb4⟩
    have hw4 := below_step hw3 hb4
    clear hb4 RO hw3 hw2 R2 c0 c1
    go_wp2
    go_ret2
    exact ⟨by rw [HE.out.1, HE.out.2]; rfl, hw4⟩
end Go.Proofs.YtcljpklgpedolaaGreatDoor
namespace Go.Proofs.YtcljpklgpedolaaGreatDoor
open Go.RowKit Go.Sort

theorem sane_tx : Bk.tx [] = [] := Bk.tx_txt (ts := []) (fun t h => by cases h) (by decide)
theorem sane_rest : Bk.rest [] = [] := Bk.rest_txt (ts := []) (fun t h => by cases h) (by decide)
theorem sane_appE : Bk.appE [] [97] = 0 := by
  unfold Bk.appE
  rw [if_neg (by rw [sane_rest]; simp), if_neg (by decide), sane_tx, if_neg (by decide)]
theorem sane_appS : Bk.appS [] [97] = Bk.wr 1 0 [97] := by
  unfold Bk.appS
  rw [if_pos sane_appE, sane_tx]; rfl
theorem sane_whole : Bk.rest (Bk.wr 1 0 [97]) = [] := by
  have h := Bk.rest_txt (ts := [[97]]) (fun t h => by
    have : t = [97] := by simpa using h
    subst this; decide) (by decide)
  rwa [Bk.txt, Bk.txt, List.append_nil] at h
theorem sane_fmt : Tx.fmtM 270 = [49, 108, 32, 50, 115, 32, 54, 100] := by
  have h1 : Lib.decDigits 1 = [49] := by rw [Tx.dec_small (by decide)]; rfl
  have h2 : Lib.decDigits 2 = [50] := by rw [Tx.dec_small (by decide)]; rfl
  have h6 : Lib.decDigits 6 = [54] := by rw [Tx.dec_small (by decide)]; rfl
  have hw : Tx.mW 270 = [[49, 108], [50, 115], [54, 100]] := by
    unfold Tx.mW Tx.unit
    rw [show 270 / 240 = 1 by decide, show 270 / 12 % 20 = 2 by decide, show 270 % 12 = 6 by decide, h1, h2, h6]; rfl
  unfold Tx.fmtM
  rw [if_neg (by decide), if_neg (by decide), show (270 : Int).natAbs = 270 from rfl, hw]; rfl
abbrev saneT : List UInt8 := [112, 111, 115, 116, 32, 115, 116, 111, 99, 107, 32, 99, 97, 115, 104, 32, 49, 108, 32, 50, 115, 32, 54, 100]
theorem sane_mon : Bk.monP saneT = (270, 0) := by
  have h : Bk.aft (Bk.thd saneT) = Tx.fmtM 270 := by rw [sane_fmt]; decide
  unfold Bk.monP
  rw [h]
  exact Tx.ans_back (fun p hp => Tx.rT_fmt (Tx.inM_of hp).1 (Tx.inM_of hp).2) (by decide)
theorem sane_prs : Bk.prs saneT = some ([115, 116, 111, 99, 107], [99, 97, 115, 104], 270) := by
  unfold Bk.prs
  rw [sane_mon, if_pos ⟨by decide, by decide, rfl, by decide⟩]
  decide
set_option maxRecDepth 20000 in
set_option maxHeartbeats 1000000 in
theorem sane_any (w : World) (hE : EnvB w) : Calls Tryz.prog 16 #[] w fun e w' => e = .returned (.bool true) ∧ Below w.heap.size w w' := by
  have HE := Lib.hid hE
  have A := Lib.hid (fun W hW => append_any ⟨#[]⟩ [97] W hW (by decide) (by decide))
  have h0 : (⟨#[]⟩ : ByteArray).data.toList = [] := rfl
  rw [h0, sane_appS, sane_appE] at A
  have D := Lib.hid (fun W => discount_any 101 1 40 W (by decide) (by decide) (by decide) (by decide) (by decide) (by decide))
  have hd1 : Bk.disV 101 1 40 = 98 := by decide +kernel
  have hd2 : Bk.disE 101 1 40 = 0 := by decide +kernel
  rw [hd1, hd2] at D
  have P := Lib.hid (fun W hW => parsePosting_any ⟨saneT.toArray⟩ W hW (by decide))
  unfold PrsSays at P
  have h1 : (⟨saneT.toArray⟩ : ByteArray).data.toList = saneT := rfl
  rw [h1, sane_prs] at P
  have S1 := Lib.hid (fun W hW => sum_any 0 ⟨#[97]⟩ W hW (by decide) (by decide) (by decide))
  have S2 := Lib.hid (fun W hW => sum_any 98 ⟨#[98]⟩ W hW (by decide) (by decide) (by decide))
  have hs1 : Bk.sum 0 (⟨#[97]⟩ : ByteArray).data.toList = 98 := by decide +kernel
  have hs2 : Bk.sum 98 (⟨#[98]⟩ : ByteArray).data.toList = 25285 := by decide +kernel
  rw [hs1] at S1
  rw [hs2] at S2
  have hwl := Bk.wr_short (n := 1) 0 (t := [97]) (by decide) (by decide)
  have WH := Lib.hid (fun W hW => isWhole_any ⟨(Bk.wr 1 0 [97]).toArray⟩ W hW (by show (Bk.wr 1 0 [97]).toArray.size ≤ _; rw [List.size_toArray]; omega))
  have h2 : (⟨(Bk.wr 1 0 [97]).toArray⟩ : ByteArray).data.toList = Bk.wr 1 0 [97] := rfl
  rw [h2, sane_whole] at WH
  have hne := Bk.wr_ne 1 0 [97]
  clear hE h0 hd1 hd2 h1 hs1 hs2 h2 hwl
  generalize Bk.wr 1 0 [97] = b at *
  have q1 : (b == []) = false := by simpa using hne
  have q2 : (b != []) = true := by simpa using hne
  have q3 : b.isEmpty = false := by simpa using hne
  clear hne
  have hw0 := Below.refl w.heap.size w
  go_enter Tryz.func16, Tryz.ntmps16
  go_wp2_with fail
  refine (A.out _ HE.out).mono ?_
  rintro e w1 ⟨rfl, hb1⟩
  have hw1 := below_step hw0 hb1
  clear A hb1 hw0
  go_wp2_with fail
  refine (D.out _).mono ?_
  rintro e w2 ⟨rfl, hb2⟩
  have hw2 := below_step hw1 hb2
  clear D hb2 hw1
  go_wp2_with fail
  refine (P.out _ (HE.out.all hw2)).mono ?_
  rintro e w3 ⟨rfl, hb3⟩
  have hw3 := below_alloc (below_step hw2 hb3) (.cells (poA ([115, 116, 111, 99, 107], [99, 97, 115, 104], 270)) PostT)
  have hB3 := BlockAt.new w3 (poA ([115, 116, 111, 99, 107], [99, 97, 115, 104], 270)) PostT
  clear P hb3 hw2
  go_wp2_with fail
  refine (S1.out _ (HE.out.all hw3)).mono ?_
  rintro e w4 ⟨rfl, hb4⟩
  have hB4 := hB3.below hb4 hB3.lt
  have hw4 := below_step hw3 hb4
  clear S1 hb4 hw3 hB3
  go_wp2_with fail
  refine (S2.out _ (HE.out.all hw4)).mono ?_
  rintro e w5 ⟨rfl, hb5⟩
  have hB5 := hB4.below hb5 hB4.lt
  have hw5 := below_step hw4 hb5
  clear S2 hb5 hw4 hB4
  go_wp2_with fail
  refine (WH.out _ (HE.out.all hw5)).mono ?_
  rintro e w6 ⟨rfl, hb6⟩
  have hB6 := hB5.below hb6 hB5.lt
  have hw6 := below_step hw5 hb6
  clear WH hb6 hw5 hB5
  obtain ⟨c0, c1, c2⟩ : _ ∧ _ ∧ _ := ⟨hB6.cell 0, hB6.cell 1, hB6.cell 2⟩
  go_wp2
  go_ret
  exact ⟨rfl, hw6⟩
end Go.Proofs.YtcljpklgpedolaaGreatDoor
