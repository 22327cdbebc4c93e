/- Sums of money that are read: the program's. -/
import Derived.Test.YtcljpklgpedolaaGreatDoorMoney2
import Derived.Test.YtcljpklgpedolaaGreatDoorMoney4
namespace Go.Proofs.YtcljpklgpedolaaGreatDoor
open Go.RowKit Go.Sort

theorem splitB_is (l : List UInt8) (c : UInt8) : Lib.splitB ⟨#[c]⟩ 0 (Lib.countB ⟨l.toArray⟩ ⟨#[c]⟩) ⟨l.toArray⟩ = (Tx.spl c l).map fun x => (⟨x.toArray⟩ : ByteArray) := by
  have h := Lib.splitB_data ⟨#[c]⟩ 0 (Lib.countB ⟨l.toArray⟩ ⟨#[c]⟩) ⟨l.toArray⟩
  have h2 : Lib.splitK (⟨#[c]⟩ : ByteArray).data.toList 0 (Lib.countB ⟨l.toArray⟩ ⟨#[c]⟩) (⟨l.toArray⟩ : ByteArray).data.toList = Tx.spl c l := by
    rw [← Tx.split_spl c _ l (Nat.le_refl _)]
    rfl
  rw [h2] at h
  rw [← h, List.map_map]
  conv => lhs; rw [← List.map_id (Lib.splitB _ _ _ _)]
  refine List.map_congr_left fun x _ => ?_
  show x = (⟨x.data.toList.toArray⟩ : ByteArray)
  rfl
theorem countB_is (l : List UInt8) (c : UInt8) : Lib.countB ⟨l.toArray⟩ ⟨#[c]⟩ + 1 = (Tx.spl c l).length := by
  have h := congrArg List.length (splitB_is l c)
  rw [List.length_map, Lib.splitB_all ⟨#[c]⟩ (Nat.le_refl 1) 0 _ _ rfl] at h
  exact h
def SplitSays (ws : List (List UInt8)) (W : World) (e : Ending) (w' : World) : Prop :=
  e = .returned (.slice (some ⟨W.heap.size, 0, none⟩) ws.length ws.length) ∧ (∀ k (hk : k < ws.length), w'.cell? ⟨W.heap.size, k, none⟩ = some (.string ⟨ws[k].toArray⟩)) ∧ W.heap.size < w'.heap.size ∧ Below W.heap.size W w'
theorem splitLib_any (l : List UInt8) (c : UInt8) (W : World) (hE : Env W) (hl : l.length ≤ 100000) :
    Calls Tryz.prog 107 #[.string ⟨l.toArray⟩, .string ⟨#[c]⟩] W (SplitSays (Tx.spl c l) W) := by
  obtain ⟨_, ⟨m, hm⟩, _⟩ := hE
  refine (Tryz.strings_Split ⟨l.toArray⟩ ⟨#[c]⟩ m W (by show l.toArray.size < _; simp; omega) hm (Nat.le_refl 1)).mono fun e w' ⟨he, hw⟩ => ?_
  rw [countB_is] at he
  rw [splitB_is, List.map_map] at hw
  subst hw
  refine ⟨he, fun k hk => ?_, by simp, (Below.refl _ W).alloc (Nat.le_refl _) _⟩
  rw [World.cell?_alloc_new]
  simp [hk]
theorem cutPrefix_any (s : ByteArray) (w : World) :
    Calls Tryz.prog 106 #[.string s, .string ⟨#[45]⟩] w fun e w' => e = .returned (.tuple #[.string ⟨(Tx.amount s.data.toList).toArray⟩, .bool (Tx.isNeg s.data.toList)]) ∧ w = w' :=
  (Tryz.strings_CutPrefix s ⟨#[45]⟩ w).mono fun e w' ⟨he, hw⟩ => ⟨he, hw.symm⟩
def ReadSays (x : Int × Int) (w : World) (e : Ending) (w' : World) : Prop := e = .returned (.tuple #[.int .i64 x.1, .int .i64 x.2]) ∧ Below w.heap.size w w'
theorem amount_len (l : List UInt8) : (Tx.amount l).length ≤ l.length := by
  unfold Tx.amount Lib.trimPrefix
  split
  · simp
  · exact Nat.le_refl _

set_option maxRecDepth 20000 in
set_option maxHeartbeats 2000000 in
theorem parseMoney_any (s : ByteArray) (w : World) (hE : Env w) (hs : s.size ≤ 100000) :
    Calls Tryz.prog 82 #[.string s] w (ReadSays (Tx.ansM s.data.toList (Tx.pT wrap64 s.data.toList)) w) := by
  have hsz : s.data.toList.length = s.size := by rw [Array.length_toList]; rfl
  have hal := amount_len s.data.toList
  have HC := Lib.hid (cutPrefix_any s w)
  have HS := Lib.hid (splitLib_any (Tx.amount s.data.toList) 32 w hE (by omega))
  have hbd := spl_bd 32 (Tx.amount s.data.toList)
  have hln := Tx.spl_len 32 (Tx.amount s.data.toList)
  have hT : Tx.pT wrap64 s.data.toList = (Tx.pSum wrap64 0 (Tx.spl 32 (Tx.amount s.data.toList))).map fun v => if Tx.isNeg s.data.toList = true then wrap64 (-v) else v := rfl
  unfold SplitSays at HS
  generalize Tx.spl 32 (Tx.amount s.data.toList) = ws at *
  have hn : ws.length ≤ 100001 := by omega
  have HW := Lib.hid (fun k (hk : k < ws.length) W (hW : Below w.heap.size w W) => word_any ⟨ws[k].toArray⟩ W (hE.all hW) (by
    have := hbd ws[k] (List.getElem_mem hk)
    show ws[k].toArray.size ≤ _
    simp
    omega))
  have HF := Lib.hid (fun p W (hW : Below w.heap.size w W) => formatMoney_any p W (hE.all hW))
  have HT := Lib.hid hT
  clear hsz hal hbd hln hT hE hs
  unfold WordSays at HW
  unfold MonSays at HF
  go_enter Tryz.func82, Tryz.ntmps82
  go_wp2_with fail
  refine HC.out.mono ?_
  rintro e w' ⟨rfl, rfl⟩
  go_wp2_with fail
  refine HS.out.mono ?_
  rintro e w1 ⟨rfl, hcell, hlt1, hb1⟩
  have HB := Lib.hid (And.intro hcell (And.intro hlt1 hb1))
  clear hcell hb1 HC HS hlt1
  go_wp2
  go_loopw [6, 21] (fun p t wr => ∃ (k : Nat) (acc : Int), k ≤ ws.length ∧ t = .int .i64 k ∧ p = .int .i64 acc ∧ Hid (Tx.pSum wrap64 0 ws = Tx.pSum wrap64 acc (ws.drop k) ∧ Below w.heap.size w wr ∧ Below w1.heap.size w1 wr)) (fun _ t _ => ws.length - (intOf t).toNat)
  case atStart => exact ⟨0, 0, Nat.zero_le _, rfl, rfl, Lib.hid ⟨rfl, HB.out.2.2, Below.refl _ _⟩⟩
  case round =>
    obtain ⟨k, acc, hk, rfl, rfl, hg⟩ := hrel
    by_cases hlt : k < ws.length
    · have c0 := (hg.out.2.2.cell (p := ⟨w.heap.size, k, none⟩) HB.out.2.1).trans (HB.out.1 k hlt)
      have C := Lib.hid (HW.out k hlt _ hg.out.2.1)
      have hdr : ws.drop k = ws[k] :: ws.drop (k + 1) := List.drop_eq_getElem_cons hlt
      have HD := Lib.hid hdr
      clear hdr HW
      generalize ws[k] = x at *
      cases hv : Tx.pV wrap64 x with
      | none =>
        rw [word_none hv] at C
        have hans : Tx.ansM s.data.toList (Tx.pT wrap64 s.data.toList) = (0, 3) := by
          rw [HT.out, hg.out.1, HD.out, Tx.pSum, hv]; rfl
        have HN := Lib.hid hans
        have hwg := Lib.hid hg.out.2.1
        clear hans hv hg HT HF HD
        go_wp2_with fail
        refine C.out.mono ?_
        rintro e w2 ⟨rfl, hb2⟩
        have hw2 := below_step hwg.out hb2
        clear hb2 c0
        go_wp2
        go_ret2
        refine ⟨?_, hw2⟩
        rw [HN.out]
        rfl
      | some v =>
        rw [word_some hv] at C
        have hnx : Tx.pSum wrap64 0 ws = Tx.pSum wrap64 (wrap64 (acc + v)) (ws.drop (k + 1)) := by
          rw [hg.out.1, HD.out, Tx.pSum, hv]
        have HN := Lib.hid hnx
        have hwg := Lib.hid hg.out.2
        clear hnx hv hg HT HF HD
        go_wp2_with fail
        refine C.out.mono ?_
        rintro e w2 ⟨rfl, hb2⟩
        have hw2 := Lib.hid (And.intro (below_step hwg.out.1 hb2) (below_step hwg.out.2 hb2))
        clear hb2 c0 hwg
        go_wp2
        go_roundw
        case rel => exact ⟨k + 1, wrap64 (acc + v), by omega, by go_num, rfl, Lib.hid ⟨HN.out, hw2.out.1, hw2.out.2⟩⟩
        case measure => simp [intOf]; omega
    · obtain rfl : k = ws.length := by omega
      have hsum : Tx.pSum wrap64 0 ws = some acc := by rw [hg.out.1, List.drop_length, Tx.pSum]
      have hw := Lib.hid hg.out.2.1
      have HT2 : Hid (Tx.pT wrap64 s.data.toList = some (if Tx.isNeg s.data.toList = true then wrap64 (-acc) else acc)) := Lib.hid (by rw [HT.out, hsum]; rfl)
      clear hsum hg HT HW HB
      cases hneg : Tx.isNeg s.data.toList with
      | false =>
        rw [hneg] at HT2
        have hp2 : Tx.pT wrap64 s.data.toList = some (acc) := HT2.out
        have C := Lib.hid (HF.out (acc) _ hw.out)
        have HP2 := Lib.hid hp2
        clear hp2 HT2 hneg HF
        by_cases hi : Tx.inM acc = true
        case neg =>
          have hans : Tx.ansM s.data.toList (Tx.pT wrap64 s.data.toList) = (0, 3) := by
            rw [HP2.out]
            show (if Tx.okM s.data.toList acc = true then _ else _) = _
            rw [if_neg (by unfold Tx.okM; simp [hi])]
          rw [if_neg hi, if_neg hi] at C
          have HN := Lib.hid hans
          clear hans hi HP2
          go_wp2_with fail
          refine C.out.mono ?_
          rintro e w2 ⟨rfl, hb2⟩
          have hw2 := below_step hw.out hb2
          clear hb2
          go_wp2
          go_ret2
          refine ⟨?_, hw2⟩
          rw [HN.out]
          rfl
        rw [if_pos hi, if_pos hi] at C
        by_cases he : Tx.fmtM acc = s.data.toList
        case neg =>
          have hans : Tx.ansM s.data.toList (Tx.pT wrap64 s.data.toList) = (0, 3) := by
            rw [HP2.out]
            show (if Tx.okM s.data.toList acc = true then _ else _) = _
            rw [if_neg (by unfold Tx.okM; simp [he])]
          have HN := Lib.hid hans
          have q1 : (Tx.fmtM acc == s.toList) = false := by rw [toList_data]; simpa using he
          have q2 : (Tx.fmtM acc != s.toList) = true := by rw [toList_data]; simpa using he
          clear hans hi he HP2
          generalize Tx.fmtM acc = tx at *
          go_wp2_with fail
          refine C.out.mono ?_
          rintro e w2 ⟨rfl, hb2⟩
          have hw2 := below_step hw.out hb2
          clear hb2
          go_wp2
          go_ret2
          refine ⟨?_, hw2⟩
          rw [HN.out]
          rfl
        have hans : Tx.ansM s.data.toList (Tx.pT wrap64 s.data.toList) = (acc, 0) := by
          rw [HP2.out]
          show (if Tx.okM s.data.toList acc = true then _ else _) = _
          rw [if_pos (by unfold Tx.okM; simp [he, hi])]
        have HN := Lib.hid hans
        have q1 : (Tx.fmtM acc == s.toList) = true := by rw [toList_data]; simpa using he
        have q2 : (Tx.fmtM acc != s.toList) = false := by rw [toList_data]; simpa using he
        clear hans hi he HP2
        generalize Tx.fmtM acc = tx at *
        go_wp2_with fail
        refine C.out.mono ?_
        rintro e w2 ⟨rfl, hb2⟩
        have hw2 := below_step hw.out hb2
        clear hb2
        go_wp2
        go_ret2
        refine ⟨?_, hw2⟩
        rw [HN.out]
        rfl
      | true =>
        rw [hneg] at HT2
        have hp2 : Tx.pT wrap64 s.data.toList = some (wrap64 (-acc)) := HT2.out
        have C := Lib.hid (HF.out (wrap64 (-acc)) _ hw.out)
        have HP2 := Lib.hid hp2
        clear hp2 HT2 hneg HF
        by_cases hi : Tx.inM (wrap64 (-acc)) = true
        case neg =>
          have hans : Tx.ansM s.data.toList (Tx.pT wrap64 s.data.toList) = (0, 3) := by
            rw [HP2.out]
            show (if Tx.okM s.data.toList (wrap64 (-acc)) = true then _ else _) = _
            rw [if_neg (by unfold Tx.okM; simp [hi])]
          rw [if_neg hi, if_neg hi] at C
          have HN := Lib.hid hans
          clear hans hi HP2
          go_wp2_with fail
          refine C.out.mono ?_
          rintro e w2 ⟨rfl, hb2⟩
          have hw2 := below_step hw.out hb2
          clear hb2
          go_wp2
          go_ret2
          refine ⟨?_, hw2⟩
          rw [HN.out]
          rfl
        rw [if_pos hi, if_pos hi] at C
        by_cases he : Tx.fmtM (wrap64 (-acc)) = s.data.toList
        case neg =>
          have hans : Tx.ansM s.data.toList (Tx.pT wrap64 s.data.toList) = (0, 3) := by
            rw [HP2.out]
            show (if Tx.okM s.data.toList (wrap64 (-acc)) = true then _ else _) = _
            rw [if_neg (by unfold Tx.okM; simp [he])]
          have HN := Lib.hid hans
          have q1 : (Tx.fmtM (wrap64 (-acc)) == s.toList) = false := by rw [toList_data]; simpa using he
          have q2 : (Tx.fmtM (wrap64 (-acc)) != s.toList) = true := by rw [toList_data]; simpa using he
          clear hans hi he HP2
          generalize Tx.fmtM (wrap64 (-acc)) = tx at *
          go_wp2_with fail
          refine C.out.mono ?_
          rintro e w2 ⟨rfl, hb2⟩
          have hw2 := below_step hw.out hb2
          clear hb2
          go_wp2
          go_ret2
          refine ⟨?_, hw2⟩
          rw [HN.out]
          rfl
        have hans : Tx.ansM s.data.toList (Tx.pT wrap64 s.data.toList) = (wrap64 (-acc), 0) := by
          rw [HP2.out]
          show (if Tx.okM s.data.toList (wrap64 (-acc)) = true then _ else _) = _
          rw [if_pos (by unfold Tx.okM; simp [he, hi])]
        have HN := Lib.hid hans
        have q1 : (Tx.fmtM (wrap64 (-acc)) == s.toList) = true := by rw [toList_data]; simpa using he
        have q2 : (Tx.fmtM (wrap64 (-acc)) != s.toList) = false := by rw [toList_data]; simpa using he
        clear hans hi he HP2
        generalize Tx.fmtM (wrap64 (-acc)) = tx at *
        go_wp2_with fail
        refine C.out.mono ?_
        rintro e w2 ⟨rfl, hb2⟩
        have hw2 := below_step hw.out hb2
        clear hb2
        go_wp2
        go_ret2
        refine ⟨?_, hw2⟩
        rw [HN.out]
        rfl
end Go.Proofs.YtcljpklgpedolaaGreatDoor
