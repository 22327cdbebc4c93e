/- The program's reading of one line. The program's reading of a book. Whole books, repair, the lines of a book: of the program. A line more: of the program. -/
import Derived.Test.YtcljpklgpedolaaGreatDoorBkQA
import Derived.Test.YtcljpklgpedolaaGreatDoorBkPA
namespace Go.Proofs.YtcljpklgpedolaaGreatDoor
open Go.RowKit Go.Sort

theorem cutNl_any (k : ByteArray) (w : World) (hE : EnvB w) (hs : k.size ≤ 200000) :
    Calls Tryz.prog 92 #[.string k, .string ⟨#[10]⟩] w fun e w' => (∃ x, e = .returned (.tuple #[sv (Bk.lin k.data.toList), sv (Bk.rst k.data.toList), .bool x])) ∧ Below w.heap.size w w' := by
  obtain ⟨m, hm⟩ := hE.1.2.1
  refine (Tryz.strings_Cut k ⟨#[10]⟩ m w (by omega) hm).mono ?_
  rintro e w1 ⟨rfl, n, rfl⟩
  refine ⟨⟨decide ((10 : UInt8) ∈ k.data.toList), ?_⟩, below_drewN (Below.refl _ _) n⟩
  rw [show (⟨#[10]⟩ : ByteArray).data.toList = [10] from rfl, Bk.cut_lin]
theorem splitB_pcs (l : List UInt8) (m : Nat) : (Lib.splitB ⟨#[32]⟩ 0 (min (m + 1) ((⟨l.toArray⟩ : ByteArray).size + 1) - 1) ⟨l.toArray⟩) = (Bk.pcs m l).map fun x => (⟨x.toArray⟩ : ByteArray) := by
  have h := Lib.splitB_data ⟨#[32]⟩ 0 (min (m + 1) ((⟨l.toArray⟩ : ByteArray).size + 1) - 1) ⟨l.toArray⟩
  have hs : (⟨l.toArray⟩ : ByteArray).size = l.length := by show l.toArray.size = _; rw [List.size_toArray]
  have h2 : Lib.splitK (⟨#[32]⟩ : ByteArray).data.toList 0 (min (m + 1) ((⟨l.toArray⟩ : ByteArray).size + 1) - 1) (⟨l.toArray⟩ : ByteArray).data.toList = Bk.pcs m l := by
    rw [hs]; exact Bk.splitN_pcs l m
  rw [← h2, ← h, List.map_map]
  have h3 : ∀ xs : List ByteArray, xs.map ((fun x => (⟨x.toArray⟩ : ByteArray)) ∘ fun x => x.data.toList) = xs := fun xs => by
    induction xs with
    | nil => rfl
    | cons a r ih => rw [List.map_cons, ih]; exact congrArg (· :: r) (mk_list a)
  exact (h3 _).symm
/-- What is told of a text that is cut at its first m blanks. -/
def PcsSays (l : List UInt8) (m : Nat) (w : World) (e : Ending) (w' : World) : Prop := ∃ cap, e = .returned (.slice (some ⟨w.heap.size, 0, none⟩) (Bk.pcs m l).length cap) ∧ (Bk.pcs m l).length ≤ cap ∧ (∀ j x, (Bk.pcs m l)[j]? = some x → w'.cell? ⟨w.heap.size, j, none⟩ = some (sv x)) ∧ Below w.heap.size w w'
theorem splitN_any (l : List UInt8) (m : Nat) (w : World) (hE : EnvB w) (hs : l.length ≤ 200000) (hm : m ≤ 1000) :
    Calls Tryz.prog 81 #[sv l, .string ⟨#[32]⟩, .int .i64 ((m + 1 : Nat) : Int)] w (PcsSays l m w) := by
  obtain ⟨q, hq⟩ := hE.1.2.1
  have hz : (⟨l.toArray⟩ : ByteArray).size = l.length := by show l.toArray.size = _; rw [List.size_toArray]
  refine (Tryz.strings_SplitN ⟨l.toArray⟩ ⟨#[32]⟩ (m + 1) q w (by omega) hq (by decide) (by omega) (by omega)).mono ?_
  rintro e w1 ⟨rfl, rfl⟩
  have hB := BlockAt.new w (Lib.cellsOf (Lib.splitB ⟨#[32]⟩ 0 (min (m + 1) ((⟨l.toArray⟩ : ByteArray).size + 1) - 1) ⟨l.toArray⟩) (min (m + 1) ((⟨l.toArray⟩ : ByteArray).size + 1))) 9
  rw [splitB_pcs] at hB ⊢
  have hle : (Bk.pcs m l).length ≤ min (m + 1) ((⟨l.toArray⟩ : ByteArray).size + 1) := by
    rw [← Bk.splitN_pcs l m]
    rw [hz]
    have h := Lib.splitB_length_le ⟨#[32]⟩ 0 (min (m + 1) (l.length + 1) - 1) ⟨l.toArray⟩
    have h2 := congrArg List.length (Lib.splitB_data ⟨#[32]⟩ 0 (min (m + 1) (l.length + 1) - 1) ⟨l.toArray⟩)
    rw [List.length_map] at h2
    have h3 : Lib.splitK (⟨#[32]⟩ : ByteArray).data.toList 0 (min (m + 1) (l.length + 1) - 1) (⟨l.toArray⟩ : ByteArray).data.toList = Lib.splitK [32] 0 (min (m + 1) (l.length + 1) - 1) l := rfl
    rw [h3] at h2
    omega
  refine ⟨_, by rw [List.length_map], hle, fun j x hj => ?_, (Below.refl _ _).alloc (Nat.le_refl _) _⟩
  refine (hB.cell j).trans ?_
  unfold Lib.cellsOf
  have hlt := (List.getElem?_eq_some_iff.1 hj).1
  rw [List.getElem?_toArray, List.getElem?_append_left (by simpa using hlt), List.getElem?_map, List.getElem?_map, hj]
  rfl
theorem Bk.fst_pre {n : Nat} {b : Int} {k : List UInt8} (h : Bk.right (Bk.thd (Bk.lin k)) = true) (h2 : Lib.hasPrefix k (Bk.wr n b (Bk.thd (Bk.lin k))) = true) : Bk.fst n b k = some (Bk.thd (Bk.lin k)) := by
  unfold Bk.fst; exact if_pos ⟨h, h2⟩
theorem Bk.fst_no1 {n : Nat} {b : Int} {k : List UInt8} (h : Bk.right (Bk.thd (Bk.lin k)) = false) : Bk.fst n b k = none := by
  unfold Bk.fst; rw [if_neg (by rw [h]; simp)]
theorem Bk.fst_no2 {n : Nat} {b : Int} {k : List UInt8} (h2 : Lib.hasPrefix k (Bk.wr n b (Bk.thd (Bk.lin k))) = false) : Bk.fst n b k = none := by
  unfold Bk.fst; exact if_neg fun e => by have := e.2; unfold Lib.hasPrefix at h2; rw [h2] at this; cases this
theorem Bk.lin_len : ∀ k : List UInt8, (Bk.lin k).length ≤ k.length ∧ (Bk.rst k).length ≤ k.length
  | [] => ⟨Nat.le_refl _, Nat.le_refl _⟩
  | c :: r => by
    have := Bk.lin_len r
    rw [Bk.lin, Bk.rst]
    split <;> (simp; try omega)
theorem Bk.thd_len (l : List UInt8) : (Bk.thd l).length ≤ l.length := Nat.le_trans (Bk.aft_len _) (Bk.aft_len _)
/-- What is told of the line that stands first: none, or its text. -/
def RdSays (k : List UInt8) (n : Nat) (b : Int) (w : World) (e : Ending) (w' : World) : Prop :=
  e = .returned (match Bk.fst n b k with | none => .tuple #[lnV (0, [], 0), sv [], .bool false] | some t => .tuple #[lnV (n, t, Bk.nxt n b t), sv (Bk.rst k), .bool true]) ∧ Below w.heap.size w w'
set_option maxRecDepth 20000 in
set_option maxHeartbeats 1000000 in
theorem readLine_any (k : ByteArray) (n : Nat) (b : Int) (w : World) (hE : EnvB w) (hs : k.size ≤ 80000) (hn : n ≤ 1000000) (b0 : -9223372036854775808 ≤ b) (b1 : b ≤ 9223372036854775807) :
    Calls Tryz.prog 58 #[.string k, .int .i64 n, .int .i64 b] w (RdSays k.data.toList n b w) := by
  have hl := len_size k
  have hl1 := Bk.lin_len k.data.toList
  have HCUT := Lib.hid (fun W hW => cutNl_any k W hW (by omega))
  have HSPL := Lib.hid (fun W hW => splitN_any (Bk.lin k.data.toList) 2 W hW (by omega) (by omega))
  have HE := Lib.hid hE
  have hR : ∃ R, R = (match Bk.fst n b k.data.toList with | none => Value.tuple #[lnV (0, [], 0), sv [], .bool false] | some t => .tuple #[lnV (n, t, Bk.nxt n b t), sv (Bk.rst k.data.toList), .bool true]) := ⟨_, rfl⟩
  obtain ⟨R, hR⟩ := hR
  unfold RdSays
  rw [← hR]
  have htl := Bk.thd_len (Bk.lin k.data.toList)
  rcases Bk.pcs_two (Bk.lin k.data.toList) with ⟨hp3, hp⟩ | ⟨hp3, hp⟩
  case inr =>
    have HR : Hid (R = .tuple #[lnV (0, [], 0), sv [], .bool false]) := Lib.hid (by rw [hR, Bk.fst_no1 (by rw [hp]; rfl)])
    have q1 : decide (((Bk.pcs 2 (Bk.lin k.data.toList)).length : Int) < 3) = true := by rw [decide_eq_true_eq]; omega
    clear hR hp htl hl1 hE
    generalize Bk.lin k.data.toList = L at *
    generalize hP : Bk.pcs 2 L = P at *
    go_enter Tryz.func58, Tryz.ntmps58
    go_wp2_with fail
    refine (HCUT.out _ (HE.out.all (below_alloc (Below.refl _ _) _))).mono ?_
    rintro e w1 ⟨⟨x, rfl⟩, hb1⟩
    have hB1 := (BlockAt.new w #[.int .i64 0, .string ⟨#[]⟩, .int .i64 0] LineT).below hb1 (BlockAt.new w #[.int .i64 0, .string ⟨#[]⟩, .int .i64 0] LineT).lt
    have hw1 := below_step (below_alloc (Below.refl w.heap.size w) (.cells #[.int .i64 0, .string ⟨#[]⟩, .int .i64 0] LineT)) hb1
    clear hb1 HCUT
    go_wp2_with fail
    refine (HSPL.out _ (HE.out.all hw1)).mono ?_
    rintro e w2 ⟨cap, rfl, hcap, hcells, hb2⟩
    have hB2 := hB1.below hb2 hB1.lt
    have hw2 := below_step hw1 hb2
    clear hb2 hcells HSPL hw1 hB1
    obtain ⟨c0, c1, c2⟩ : _ ∧ _ ∧ _ := ⟨hB2.cell 0, hB2.cell 1, hB2.cell 2⟩
    obtain ⟨f0, f1, f2⟩ : _ ∧ _ ∧ _ := ⟨hB2.frozen 0, hB2.frozen 1, hB2.frozen 2⟩
    have hB9 := ((hB2.set 0 (.int .i64 0)).set 1 (.string ⟨#[]⟩)).set 2 (.int .i64 0)
    have e0 : World.cell? _ _ = some (.int .i64 0) := (hB2.set 0 (.int .i64 0)).cell 0
    have e1 : World.cell? _ _ = some (.string ⟨#[]⟩) := ((hB2.set 0 (.int .i64 0)).set 1 (.string ⟨#[]⟩)).cell 1
    have e2 : World.cell? _ _ = some (.int .i64 0) := hB9.cell 2
    go_wp2
    exact bodyPost_ret (v := .tuple #[lnV (0, [], 0), sv [], .bool false]) (by simp [results, Tryz.results58, go_sem, e0, e1, e2]) rfl ⟨by rw [HR.out], ((hw2.setCell (Nat.le_refl _) _).setCell (Nat.le_refl _) _).setCell (Nat.le_refl _) _⟩
  obtain ⟨t, ht⟩ : ∃ t, t = Bk.thd (Bk.lin k.data.toList) := ⟨_, rfl⟩
  rw [← ht] at hp htl
  have HRT := Lib.hid (fun W => isRight_any ⟨t.toArray⟩ W (by show t.toArray.size ≤ _; rw [List.size_toArray]; omega))
  have hrt : (⟨t.toArray⟩ : ByteArray).data.toList = t := rfl
  rw [hrt] at HRT
  clear hrt
  cases hr : Bk.right t with
  | false =>
    have HR : Hid (R = .tuple #[lnV (0, [], 0), sv [], .bool false]) := Lib.hid (by rw [hR, Bk.fst_no1 (by rw [← ht]; exact hr)])
    rw [hr] at HRT
    have HP3 := Lib.hid hp3
    have HP := Lib.hid hp
    clear hR hl1 hE ht hr hp3 hp
    generalize Bk.lin k.data.toList = L at *
    go_enter Tryz.func58, Tryz.ntmps58
    go_wp2_with fail
    refine (HCUT.out _ (HE.out.all (below_alloc (Below.refl _ _) _))).mono ?_
    rintro e w1 ⟨⟨x, rfl⟩, hb1⟩
    have hB1 := (BlockAt.new w #[.int .i64 0, .string ⟨#[]⟩, .int .i64 0] LineT).below hb1 (BlockAt.new w #[.int .i64 0, .string ⟨#[]⟩, .int .i64 0] LineT).lt
    have hw1 := below_step (below_alloc (Below.refl w.heap.size w) (.cells #[.int .i64 0, .string ⟨#[]⟩, .int .i64 0] LineT)) hb1
    clear hb1 HCUT
    go_wp2_with fail
    refine (HSPL.out _ (HE.out.all hw1)).mono ?_
    rintro e w2 ⟨cap, rfl, hcap, hcells, hb2⟩
    have hB2 := hB1.below hb2 hB1.lt
    have hw2 := below_step hw1 hb2
    rw [HP3.out] at hcap ⊢
    have d2 := (hcells 2 t HP.out)
    clear hb2 hcells HSPL hw1 hB1
    go_wp2_with fail
    refine (HRT.out _).mono ?_
    rintro e w3 ⟨rfl, hb3⟩
    have hB3 := hB2.below hb3 hB2.lt
    have hw3 := below_step hw2 hb3
    clear hb3 hw2 hB2 d2 HRT
    obtain ⟨c0, c1, c2⟩ : _ ∧ _ ∧ _ := ⟨hB3.cell 0, hB3.cell 1, hB3.cell 2⟩
    obtain ⟨f0, f1, f2⟩ : _ ∧ _ ∧ _ := ⟨hB3.frozen 0, hB3.frozen 1, hB3.frozen 2⟩
    have hB9 := ((hB3.set 0 (.int .i64 0)).set 1 (.string ⟨#[]⟩)).set 2 (.int .i64 0)
    have e0 : World.cell? _ _ = some (.int .i64 0) := (hB3.set 0 (.int .i64 0)).cell 0
    have e1 : World.cell? _ _ = some (.string ⟨#[]⟩) := ((hB3.set 0 (.int .i64 0)).set 1 (.string ⟨#[]⟩)).cell 1
    have e2 : World.cell? _ _ = some (.int .i64 0) := hB9.cell 2
    go_wp2
    exact bodyPost_ret (v := .tuple #[lnV (0, [], 0), sv [], .bool false]) (by simp [results, Tryz.results58, go_sem, e0, e1, e2]) rfl ⟨by rw [HR.out], ((hw3.setCell (Nat.le_refl _) _).setCell (Nat.le_refl _) _).setCell (Nat.le_refl _) _⟩
  | true =>
    have hr80 := Bk.right_len hr
    rw [hr] at HRT
    have HP3 := Lib.hid hp3
    have HP := Lib.hid hp
    have HNL := Lib.hid (fun W hW => newLine_any n b t W hW hn (by omega) b0 b1)
    have hnx := Bk.nxt_in n b t
    have HFM := Lib.hid (fun W hW => format_any (n, t, Bk.nxt n b t) W hW hn (by show t.length ≤ _; omega) hnx.1 hnx.2)
    rw [← Bk.wr_fmt] at HFM
    have HHP := Lib.hid (fun W => Tryz.strings_HasPrefix k ⟨(Bk.wr n b t).toArray⟩ W)
    have hwr : (⟨(Bk.wr n b t).toArray⟩ : ByteArray).data.toList = Bk.wr n b t := rfl
    rw [hwr] at HHP
    clear hwr
    have hRR : (Lib.hasPrefix k.data.toList (Bk.wr n b t) = true ∧ Hid (R = .tuple #[lnV (n, t, Bk.nxt n b t), sv (Bk.rst k.data.toList), .bool true])) ∨ (Lib.hasPrefix k.data.toList (Bk.wr n b t) = false ∧ Hid (R = .tuple #[lnV (0, [], 0), sv [], .bool false])) := by
      cases hx : Lib.hasPrefix k.data.toList (Bk.wr n b t) with
      | true => exact .inl ⟨rfl, Lib.hid (by rw [hR, Bk.fst_pre (by rw [← ht]; exact hr) (by rw [← ht]; exact hx), ← ht])⟩
      | false => exact .inr ⟨rfl, Lib.hid (by rw [hR, Bk.fst_no2 (by rw [← ht]; exact hx)])⟩
    clear hR hl1 hE ht hr hp3 hp hnx
    generalize Bk.lin k.data.toList = L at *
    generalize Bk.rst k.data.toList = RS at *
    generalize Bk.nxt n b t = S at *
    generalize Lib.hasPrefix k.data.toList (Bk.wr n b t) = hx at *
    generalize Bk.wr n b t = WR at *
    rcases hRR with ⟨rfl, HR⟩ | ⟨rfl, HR⟩
    · go_enter Tryz.func58, Tryz.ntmps58
      go_wp2_with fail
      refine (HCUT.out _ (HE.out.all (below_alloc (Below.refl _ _) _))).mono ?_
      rintro e w1 ⟨⟨x, rfl⟩, hb1⟩
      have hB1 := (BlockAt.new w #[.int .i64 0, .string ⟨#[]⟩, .int .i64 0] LineT).below hb1 (BlockAt.new w #[.int .i64 0, .string ⟨#[]⟩, .int .i64 0] LineT).lt
      have hw1 := below_step (below_alloc (Below.refl w.heap.size w) (.cells #[.int .i64 0, .string ⟨#[]⟩, .int .i64 0] LineT)) hb1
      clear hb1 HCUT
      go_wp2_with fail
      refine (HSPL.out _ (HE.out.all hw1)).mono ?_
      rintro e w2 ⟨cap, rfl, hcap, hcells, hb2⟩
      have hB2 := hB1.below hb2 hB1.lt
      have hw2 := below_step hw1 hb2
      rw [HP3.out] at hcap ⊢
      have d2 := (hcells 2 t HP.out)
      clear hcells HSPL hw1 hB1
      go_wp2_with fail
      refine (HRT.out _).mono ?_
      rintro e w3 ⟨rfl, hb3⟩
      have hB3 := hB2.below hb3 hB2.lt
      have hw3 := below_step hw2 hb3
      have d2b : w3.cell? ⟨w1.heap.size, 2, none⟩ = some (sv t) := (hb3.cell (p := ⟨w1.heap.size, 2, none⟩) (cell_lt d2)).trans d2
      clear hb3 hw2 hB2 d2 HRT
      go_wp2_with fail
      refine (HNL.out _ (HE.out.all hw3)).mono ?_
      rintro e w4 ⟨rfl, hb4⟩
      have hB4 := hB3.below hb4 hB3.lt
      have hw4 := below_step hw3 hb4
      obtain ⟨c0, c1, c2⟩ : _ ∧ _ ∧ _ := ⟨hB4.cell 0, hB4.cell 1, hB4.cell 2⟩
      obtain ⟨f0, f1, f2⟩ : _ ∧ _ ∧ _ := ⟨hB4.frozen 0, hB4.frozen 1, hB4.frozen 2⟩
      have hB5 := ((hB4.set 0 (.int .i64 n)).set 1 (sv t)).set 2 (.int .i64 S)
      have hw5 : Below w.heap.size w (((w4.setCell ⟨w.heap.size, 0, none⟩ (.int .i64 n)).setCell ⟨w.heap.size, 1, none⟩ (sv t)).setCell ⟨w.heap.size, 2, none⟩ (.int .i64 S)) := ((hw4.setCell (Nat.le_refl _) _).setCell (Nat.le_refl _) _).setCell (Nat.le_refl _) _
      have e0 : World.cell? _ _ = some (.int .i64 (n : Int)) := (hB4.set 0 (.int .i64 n)).cell 0
      have e1 : World.cell? _ _ = some (sv t) := ((hB4.set 0 (.int .i64 n)).set 1 (sv t)).cell 1
      have e2 : World.cell? _ _ = some (.int .i64 S) := hB5.cell 2
      obtain ⟨g0, g1, g2⟩ : World.cell? _ _ = some (.int .i64 (n : Int)) ∧ World.cell? _ _ = some (sv t) ∧ World.cell? _ _ = some (.int .i64 S) := ⟨hB5.cell 0, hB5.cell 1, hB5.cell 2⟩
      clear hb4 hw3 hB3 HNL d2b
      go_wp2_with fail
      refine (HFM.out _ (HE.out.all hw5)).mono ?_
      rintro e w6 ⟨rfl, hb6⟩
      have hB6 := hB5.below hb6 hB5.lt
      have hw6 := below_step hw5 hb6
      clear hb6 hw5 hB5 hB4 hw4 c0 c1 c2 f0 f1 f2 e0 e1 e2 g0 g1 g2 HFM
      go_wp2_with fail
      refine (HHP.out _).mono ?_
      rintro e w7 ⟨rfl, rfl⟩
      clear HHP
      obtain ⟨c0, c1, c2⟩ : World.cell? _ _ = some (.int .i64 (n : Int)) ∧ World.cell? _ _ = some (sv t) ∧ World.cell? _ _ = some (.int .i64 S) := ⟨hB6.cell 0, hB6.cell 1, hB6.cell 2⟩
      obtain ⟨f0, f1, f2⟩ : _ ∧ _ ∧ _ := ⟨hB6.frozen 0, hB6.frozen 1, hB6.frozen 2⟩
      have hB9 := ((hB6.set 0 (.int .i64 n)).set 1 (sv t)).set 2 (.int .i64 S)
      have e0 : World.cell? _ _ = some (.int .i64 (n : Int)) := (hB6.set 0 (.int .i64 n)).cell 0
      have e1 : World.cell? _ _ = some (sv t) := ((hB6.set 0 (.int .i64 n)).set 1 (sv t)).cell 1
      have e2 : World.cell? _ _ = some (.int .i64 S) := hB9.cell 2
      go_wp2
      exact bodyPost_ret (v := .tuple #[lnV (n, t, S), sv RS, .bool true]) (by simp [results, Tryz.results58, go_sem, e0, e1, e2]) rfl ⟨by rw [HR.out], ((hw6.setCell (Nat.le_refl _) _).setCell (Nat.le_refl _) _).setCell (Nat.le_refl _) _⟩
    · go_enter Tryz.func58, Tryz.ntmps58
      go_wp2_with fail
      refine (HCUT.out _ (HE.out.all (below_alloc (Below.refl _ _) _))).mono ?_
      rintro e w1 ⟨⟨x, rfl⟩, hb1⟩
      have hB1 := (BlockAt.new w #[.int .i64 0, .string ⟨#[]⟩, .int .i64 0] LineT).below hb1 (BlockAt.new w #[.int .i64 0, .string ⟨#[]⟩, .int .i64 0] LineT).lt
      have hw1 := below_step (below_alloc (Below.refl w.heap.size w) (.cells #[.int .i64 0, .string ⟨#[]⟩, .int .i64 0] LineT)) hb1
      clear hb1 HCUT
      go_wp2_with fail
      refine (HSPL.out _ (HE.out.all hw1)).mono ?_
      rintro e w2 ⟨cap, rfl, hcap, hcells, hb2⟩
      have hB2 := hB1.below hb2 hB1.lt
      have hw2 := below_step hw1 hb2
      rw [HP3.out] at hcap ⊢
      have d2 := (hcells 2 t HP.out)
      clear hcells HSPL hw1 hB1
      go_wp2_with fail
      refine (HRT.out _).mono ?_
      rintro e w3 ⟨rfl, hb3⟩
      have hB3 := hB2.below hb3 hB2.lt
      have hw3 := below_step hw2 hb3
      have d2b : w3.cell? ⟨w1.heap.size, 2, none⟩ = some (sv t) := (hb3.cell (p := ⟨w1.heap.size, 2, none⟩) (cell_lt d2)).trans d2
      clear hb3 hw2 hB2 d2 HRT
      go_wp2_with fail
      refine (HNL.out _ (HE.out.all hw3)).mono ?_
      rintro e w4 ⟨rfl, hb4⟩
      have hB4 := hB3.below hb4 hB3.lt
      have hw4 := below_step hw3 hb4
      obtain ⟨c0, c1, c2⟩ : _ ∧ _ ∧ _ := ⟨hB4.cell 0, hB4.cell 1, hB4.cell 2⟩
      obtain ⟨f0, f1, f2⟩ : _ ∧ _ ∧ _ := ⟨hB4.frozen 0, hB4.frozen 1, hB4.frozen 2⟩
      have hB5 := ((hB4.set 0 (.int .i64 n)).set 1 (sv t)).set 2 (.int .i64 S)
      have hw5 : Below w.heap.size w (((w4.setCell ⟨w.heap.size, 0, none⟩ (.int .i64 n)).setCell ⟨w.heap.size, 1, none⟩ (sv t)).setCell ⟨w.heap.size, 2, none⟩ (.int .i64 S)) := ((hw4.setCell (Nat.le_refl _) _).setCell (Nat.le_refl _) _).setCell (Nat.le_refl _) _
      have e0 : World.cell? _ _ = some (.int .i64 (n : Int)) := (hB4.set 0 (.int .i64 n)).cell 0
      have e1 : World.cell? _ _ = some (sv t) := ((hB4.set 0 (.int .i64 n)).set 1 (sv t)).cell 1
      have e2 : World.cell? _ _ = some (.int .i64 S) := hB5.cell 2
      obtain ⟨g0, g1, g2⟩ : World.cell? _ _ = some (.int .i64 (n : Int)) ∧ World.cell? _ _ = some (sv t) ∧ World.cell? _ _ = some (.int .i64 S) := ⟨hB5.cell 0, hB5.cell 1, hB5.cell 2⟩
      clear hb4 hw3 hB3 HNL d2b
      go_wp2_with fail
      refine (HFM.out _ (HE.out.all hw5)).mono ?_
      rintro e w6 ⟨rfl, hb6⟩
      have hB6 := hB5.below hb6 hB5.lt
      have hw6 := below_step hw5 hb6
      clear hb6 hw5 hB5 hB4 hw4 c0 c1 c2 f0 f1 f2 e0 e1 e2 g0 g1 g2 HFM
      go_wp2_with fail
      refine (HHP.out _).mono ?_
      rintro e w7 ⟨rfl, rfl⟩
      clear HHP
      obtain ⟨c0, c1, c2⟩ : _ ∧ _ ∧ _ := ⟨hB6.cell 0, hB6.cell 1, hB6.cell 2⟩
      obtain ⟨f0, f1, f2⟩ : _ ∧ _ ∧ _ := ⟨hB6.frozen 0, hB6.frozen 1, hB6.frozen 2⟩
      have hB9 := ((hB6.set 0 (.int .i64 0)).set 1 (.string ⟨#[]⟩)).set 2 (.int .i64 0)
      have e0 : World.cell? _ _ = some (.int .i64 0) := (hB6.set 0 (.int .i64 0)).cell 0
      have e1 : World.cell? _ _ = some (.string ⟨#[]⟩) := ((hB6.set 0 (.int .i64 0)).set 1 (.string ⟨#[]⟩)).cell 1
      have e2 : World.cell? _ _ = some (.int .i64 0) := hB9.cell 2
      go_wp2
      exact bodyPost_ret (v := .tuple #[lnV (0, [], 0), sv [], .bool false]) (by simp [results, Tryz.results58, go_sem, e0, e1, e2]) rfl ⟨by rw [HR.out], ((hw6.setCell (Nat.le_refl _) _).setCell (Nat.le_refl _) _).setCell (Nat.le_refl _) _⟩
end Go.Proofs.YtcljpklgpedolaaGreatDoor
namespace Go.Proofs.YtcljpklgpedolaaGreatDoor
open Go.RowKit Go.Sort

theorem ul_lines : Tryz.prog.underlying 26 = some (.slice LineT) := Tryz.underlying26
/-- Where the reading stands: the texts read so far, the sum of the last one, what is left. -/
structure RdAt (k : List UInt8) (n : Nat) (b : Int) (q : List UInt8) (ts : List (List UInt8)) : Prop where
  len : ts.length + 1 = n
  sum : b = Bk.lst 1 0 ts
  rd : Bk.tx k = ts ++ Bk.rd (201 - n) n b q
  eq : k = Bk.txt 1 0 ts ++ q
theorem RdAt.start (k : List UInt8) : RdAt k 1 0 k [] := ⟨rfl, rfl, rfl, rfl⟩
theorem RdAt.next {k q : List UInt8} {n : Nat} {b : Int} {ts : List (List UInt8)} {t : List UInt8} (h : RdAt k n b q ts) (hn : n ≤ 200) (hf : Bk.fst n b q = some t) : RdAt k (n + 1) (Bk.nxt n b t) (Bk.rst q) (ts ++ [t]) ∧ Bk.lns 1 0 (ts ++ [t]) = Bk.lns 1 0 ts ++ [(n, t, Bk.nxt n b t)] := by
  obtain ⟨h1, h2, h3, h4⟩ := h
  obtain ⟨f1, f2⟩ := Bk.fst_rst hf
  refine ⟨⟨by simp; omega, ?_, ?_, ?_⟩, ?_⟩
  · rw [Bk.lst_app, ← h2, show 1 + ts.length = n by omega]; rfl
  · rw [h3, show 201 - n = (201 - (n + 1)) + 1 by omega, Bk.rd, hf]
    show ts ++ (t :: Bk.rd (201 - (n + 1)) (n + 1) (Bk.nxt n b t) (List.drop (Bk.wr n b t).length q)) = _
    rw [f1]
    simp
  · rw [Bk.txt_app, ← h2, show 1 + ts.length = n by omega, Bk.txt, Bk.txt, List.append_nil, List.append_assoc, ← f2]
    exact h4
  · rw [Bk.lns_app, ← h2, show 1 + ts.length = n by omega]; rfl
theorem RdAt.stop {k q : List UInt8} {n : Nat} {b : Int} {ts : List (List UInt8)} (h : RdAt k n b q ts) (hs : 200 < n ∨ Bk.fst n b q = none) : Bk.ln k = Bk.lns 1 0 ts ∧ Bk.rest k = q := by
  obtain ⟨h1, h2, h3, h4⟩ := h
  have h5 : Bk.tx k = ts := by
    rw [h3]
    have : Bk.rd (201 - n) n b q = [] := by
      by_cases hn : 200 < n
      · rw [show 201 - n = 0 by omega]; rfl
      · rw [show 201 - n = (200 - n) + 1 by omega, Bk.rd, hs.resolve_left hn]
    rw [this, List.append_nil]
  refine ⟨by unfold Bk.ln; rw [h5], ?_⟩
  unfold Bk.rest
  rw [h5]
  conv => lhs; rw [h4]
  rw [List.drop_left' rfl]
/-- What is told of a text that is read as a book. -/
def BookSays (k : List UInt8) (w : World) (e : Ending) (w' : World) : Prop := ∃ v, e = .returned (.tuple #[v, sv (Bk.rest k)]) ∧ OwnL w.heap.size w' v (Bk.ln k) ∧ Below w.heap.size w w'
set_option maxRecDepth 20000 in
set_option maxHeartbeats 1000000 in
theorem read_any (k : ByteArray) (w : World) (hE : EnvB w) (hs : k.size ≤ 80000) :
    Calls Tryz.prog 19 #[.string k] w (BookSays k.data.toList w) := by
  obtain ⟨i0, hi, hz0, hz1, hz2⟩ := info_parts infoLine
  have HE := Lib.hid hE
  have HC := Lib.hid (fun (kb : ByteArray) (n : Nat) (b : Int) W hW h1 h2 h3 h4 => readLine_any kb n b W hW h1 h2 h3 h4)
  have HST := Lib.hid (RdAt.start k.data.toList)
  have HNX := Lib.hid (fun q n b ts t h1 h2 h3 => RdAt.next (k := k.data.toList) (q := q) (n := n) (b := b) (ts := ts) (t := t) h1 h2 h3)
  have HSP := Lib.hid (fun q n b ts h1 h2 => RdAt.stop (k := k.data.toList) (q := q) (n := n) (b := b) (ts := ts) h1 h2)
  unfold BookSays
  clear hE
  generalize Bk.ln k.data.toList = LN at *
  generalize Bk.rest k.data.toList = RS at *
  go_enter Tryz.func19, Tryz.ntmps19
  go_wp2
  go_loopw [0, 4, 5, 6] (fun bk ls bf nm wr => ∃ (n : Nat) (kb : ByteArray) (b : Int) (L : List Bk.Ln) (a : Option Addr) (c : Nat), (1 ≤ n ∧ n ≤ 201) ∧ kb.size ≤ 80000 ∧ (0 ≤ b ∧ b < 1000003) ∧ L.length + 1 ≤ n ∧ bk = .string kb ∧ ls = .slice a L.length c ∧ bf = .int .i64 b ∧ nm = .int .i64 (n : Int) ∧ Hid ((∃ ts, RdAt k.data.toList n b kb.data.toList ts ∧ L = Bk.lns 1 0 ts) ∧ OwnL w.heap.size wr (.slice a L.length c) L ∧ Below w.heap.size w wr)) (fun _ _ _ t _ => (201 - intOf t).toNat)
  case atStart => exact ⟨1, k, 0, [], none, 0, ⟨by omega, by omega⟩, hs, ⟨by omega, by omega⟩, by simp, rfl, rfl, rfl, rfl, Lib.hid ⟨⟨[], HST.out, rfl⟩, OwnG.nil _ _, Below.refl _ _⟩⟩
  case round =>
    obtain ⟨n, kb, b, L, a, c, ⟨hn1, hn2⟩, hkb, ⟨hb0, hb1⟩, hL, rfl, rfl, rfl, rfl, hg⟩ := hrel
    by_cases hlt : n ≤ 200
    · have C := Lib.hid (HC.out kb n b wr (HE.out.all hg.out.2.2) hkb (by omega) (by omega) (by omega))
      unfold RdSays at C
      cases hf : Bk.fst n b kb.data.toList with
      | none =>
        rw [hf] at C
        dsimp only at C
        have HF : Hid (LN = L ∧ RS = kb.data.toList) := Lib.hid (by
          obtain ⟨ts, h1, h2⟩ := hg.out.1
          obtain ⟨h3, h4⟩ := HSP.out _ _ _ _ h1 (.inr hf)
          exact ⟨by rw [h3, h2], h4⟩)
        have HG := Lib.hid hg.out.2
        clear hf hg HNX HSP HC
        go_wp2_with fail
        refine C.out.mono ?_
        rintro e w2 ⟨rfl, hb2⟩
        have H2 := Lib.hid (And.intro ((HG.out.1.all hb2).alloc (.cells #[.int .i64 0, .string ⟨#[]⟩, .int .i64 0] LineT)) (below_alloc (below_step HG.out.2 hb2) (.cells #[.int .i64 0, .string ⟨#[]⟩, .int .i64 0] LineT)))
        clear C HG hb2
        go_wp2
        go_ret2
        exact ⟨_, by rw [HF.out.2]; show Ending.returned (.tuple #[_, .string kb]) = .returned (.tuple #[_, .string ⟨kb.data.toList.toArray⟩]); rw [mk_list], by rw [HF.out.1]; exact H2.out.1, H2.out.2⟩
      | some t =>
        rw [hf] at C
        dsimp only at C
        obtain ⟨l1, l2⟩ := Bk.lin_len kb.data.toList
        rw [len_size] at l2
        have hnx := Bk.nxt_in n b t
        have HF : Hid (∃ ts, RdAt k.data.toList (n + 1) (Bk.nxt n b t) (Bk.rst kb.data.toList) ts ∧ L ++ [(n, t, Bk.nxt n b t)] = Bk.lns 1 0 ts) := Lib.hid (by
          obtain ⟨ts, h1, h2⟩ := hg.out.1
          obtain ⟨h3, h4⟩ := HNX.out _ _ _ _ _ h1 hlt hf
          exact ⟨_, h3, by rw [h4, h2]⟩)
        have HG := Lib.hid hg.out.2
        clear hf hg HNX HSP HC l1
        generalize Bk.nxt n b t = S at *
        generalize Bk.rst kb.data.toList = Q at *
        go_wp2_with fail
        refine C.out.mono ?_
        rintro e w2 ⟨rfl, hb2⟩
        have hown0 := HG.out.1.all hb2
        have hown := hown0.alloc (.cells (lnA (n, t, S)) LineT)
        have hw2 := below_alloc (below_step HG.out.2 hb2) (.cells (lnA (n, t, S)) LineT)
        have hB := BlockAt.new w2 (lnA (n, t, S)) LineT
        obtain ⟨c0, c1, c2⟩ : _ ∧ _ ∧ _ := ⟨hB.cell 0, hB.cell 1, hB.cell 2⟩
        have hca := cells_new (cs := lnC (n, t, S)) (w2.alloc (.cells (lnA (n, t, S)) LineT)) LineT
        simp only [World.size_alloc] at hca
        have hsz := (below_step HG.out.2 hb2).size
        clear C HG hb2
        go_wp2_with (at_builtin; refine wpList_append_own _ rfl _ _ 26 rfl w.heap.size LineT i0 (.agg #[.int .i64 0, .string ⟨#[]⟩, .int .i64 0]) 3 32 ul_lines hi hz0 hz1 hz2 rfl (by decide) _ _ _ rfl (hown.alloc _) ⟨w2.heap.size + 1, 0, none⟩ 1 1 (lnC (n, t, S)) rfl rfl ?c1 (lnC_one _) ?c3 ?c4 ?c5 ?_)
        case c1 => first | exact hca | exact fun j u h => h
        case c3 => unfold maxLen; omega
        case c4 => omega
        case c5 => first | omega | (simp; omega)
        intro v' w9 hr9 hg9 _
        have hw9 := (below_alloc hw2 (.cells (lnA (n, t, S)) LineT)).grown hg9 (by simp; omega) (fun j e => (World.ownsRow.lt hown j e).1)
        have hp9 : OwnL w.heap.size w9 v' (L ++ [(n, t, S)]) := OwnG.pushed hr9
        have hne : some w2.heap.size ≠ (Value.slice a L.length c).ownBlock := fun e => by
          have := (World.ownsRow.lt hown0 _ e.symm).2
          omega
        have hB9 := BlockAt.kept (B := w2.heap.size) (cs := lnA (n, t, S)) (t := LineT) (hB.alloc (.cells (lnA (n, t, S)) LineT)) hg9 hne
        obtain ⟨d0, d1, d2⟩ : _ ∧ _ ∧ _ := ⟨hB9.cell 0, hB9.cell 1, hB9.cell 2⟩
        have hl9 : (L ++ [((n, t, S) : Bk.Ln)]).length + 1 ≤ n + 1 := by simp; omega
        generalize L ++ [((n, t, S) : Bk.Ln)] = L2 at *
        obtain ⟨a9, c9, e9⟩ := (hp9.rows lnC_len).form
        subst e9
        have HG9 := Lib.hid (And.intro hp9 hw9)
        clear hown hown0 hB hw2 hca hr9 hg9 hw9 hp9 hne c0 c1 c2
        go_wp2
        go_roundw
        case rel => exact ⟨n + 1, ⟨Q.toArray⟩, S, L2, a9, c9, ⟨by omega, by omega⟩, by show Q.toArray.size ≤ _; rw [List.size_toArray]; omega, hnx, hl9, rfl, rfl, rfl, by go_num, Lib.hid ⟨HF.out, HG9.out⟩⟩
        case measure => simp [intOf]; omega
    · have HF : Hid (LN = L ∧ RS = kb.data.toList) := Lib.hid (by
        obtain ⟨ts, h1, h2⟩ := hg.out.1
        obtain ⟨h3, h4⟩ := HSP.out _ _ _ _ h1 (.inl (by omega))
        exact ⟨by rw [h3, h2], h4⟩)
      go_wp2
      go_ret2
      exact ⟨_, by rw [HF.out.2]; show Ending.returned (.tuple #[_, .string kb]) = .returned (.tuple #[_, .string ⟨kb.data.toList.toArray⟩]); rw [mk_list], by rw [HF.out.1]; exact hg.out.2.1, hg.out.2.2⟩
end Go.Proofs.YtcljpklgpedolaaGreatDoor
namespace Go.Proofs.YtcljpklgpedolaaGreatDoor
open Go.RowKit Go.Sort

theorem isWhole_any (k : ByteArray) (w : World) (hE : EnvB w) (hs : k.size ≤ 80000) :
    Calls Tryz.prog 22 #[.string k] w fun e w' => e = .returned (.bool (decide (Bk.rest k.data.toList = []))) ∧ Below w.heap.size w w' := by
  have C := Lib.hid (read_any k w hE hs)
  unfold BookSays at C
  generalize Bk.rest k.data.toList = R at *
  generalize Bk.ln k.data.toList = L at *
  have hd : (R == []) = decide (R = []) := by cases R <;> simp
  have hd2 : R.isEmpty = decide (R = []) := by cases R <;> simp
  have HD := Lib.hid (And.intro hd hd2)
  clear hE hd hd2
  go_enter Tryz.func22, Tryz.ntmps22
  go_wp2_with fail
  refine C.out.mono ?_
  rintro e w1 ⟨v, rfl, _, hb⟩
  go_wp2
  go_ret
  refine ⟨?_, hb⟩
  first
    | (rw [← HD.out.1]; rfl)
    | (rw [← HD.out.2]; rfl)
theorem rest_len (k : List UInt8) : (Bk.rest k).length ≤ k.length ∧ k.take (k.length - (Bk.rest k).length) = Bk.txt 1 0 (Bk.tx k) := by
  have h := Bk.book_eq k
  have h2 := congrArg List.length h
  rw [List.length_append] at h2
  refine ⟨by omega, ?_⟩
  rw [show k.length - (Bk.rest k).length = (Bk.txt 1 0 (Bk.tx k)).length by omega]
  exact (congrArg (List.take _) h).trans (List.take_left' rfl)
theorem repair_any (k : ByteArray) (w : World) (hE : EnvB w) (hs : k.size ≤ 80000) :
    Calls Tryz.prog 23 #[.string k] w fun e w' => e = .returned (sv (Bk.txt 1 0 (Bk.tx k.data.toList))) ∧ Below w.heap.size w w' := by
  have C := Lib.hid (read_any k w hE hs)
  unfold BookSays at C
  obtain ⟨h1, h2⟩ := rest_len k.data.toList
  have HX : Hid (k.extract 0 (k.size - (Bk.rest k.data.toList).length) = ⟨(Bk.txt 1 0 (Bk.tx k.data.toList)).toArray⟩) := Lib.hid (by
    rw [extract_is, List.drop_zero, ← len_size, h2])
  rw [len_size] at h1
  have hsv : sv (Bk.txt 1 0 (Bk.tx k.data.toList)) = .string ⟨(Bk.txt 1 0 (Bk.tx k.data.toList)).toArray⟩ := rfl
  rw [hsv]
  generalize Bk.txt 1 0 (Bk.tx k.data.toList) = T at *
  generalize Bk.rest k.data.toList = R at *
  generalize Bk.ln k.data.toList = L at *
  clear hE h2 hsv
  go_enter Tryz.func23, Tryz.ntmps23
  go_wp2_with fail
  refine C.out.mono ?_
  rintro e w1 ⟨v, rfl, _, hb⟩
  have e1 : ((k.size : Int) - (R.length : Int)).toNat = k.size - R.length := by omega
  go_wp2
  go_ret
  refine ⟨?_, hb⟩
  rw [← HX.out, ← e1]
  rfl
theorem linesOf_ok (k : ByteArray) (w : World) (hE : EnvB w) (hs : k.size ≤ 80000) (hr : Bk.rest k.data.toList = []) :
    Calls Tryz.prog 61 #[.string k] w fun e w' => ∃ v, e = .returned (.tuple #[v, .int .i64 0]) ∧ OwnL w.heap.size w' v (Bk.ln k.data.toList) ∧ Below w.heap.size w w' := by
  have C := Lib.hid (read_any k w hE hs)
  unfold BookSays at C
  rw [hr] at C
  generalize Bk.ln k.data.toList = L at *
  clear hE hr
  go_enter Tryz.func61, Tryz.ntmps61
  go_wp2_with fail
  refine C.out.mono ?_
  rintro e w1 ⟨v, rfl, ho, hb⟩
  obtain ⟨va, vc, rfl⟩ := (ho.rows lnC_len).form
  have H := Lib.hid (And.intro ho hb)
  clear ho hb
  go_wp2
  go_ret2
  exact ⟨_, rfl, H.out.1, H.out.2⟩
theorem linesOf_bad (k : ByteArray) (w : World) (hE : EnvB w) (hs : k.size ≤ 80000) (hr : Bk.rest k.data.toList ≠ []) :
    Calls Tryz.prog 61 #[.string k] w fun e w' => e = .returned (.tuple #[.slice none 0 0, .int .i64 15]) ∧ Below w.heap.size w w' := by
  have C := Lib.hid (read_any k w hE hs)
  unfold BookSays at C
  generalize Bk.ln k.data.toList = L at *
  generalize Bk.rest k.data.toList = R at *
  have q1 : (R == []) = false := by simpa using hr
  have q2 : (R != []) = true := by simpa using hr
  have q3 : R.isEmpty = false := by simpa using hr
  clear hE hr
  go_enter Tryz.func61, Tryz.ntmps61
  go_wp2_with fail
  refine C.out.mono ?_
  rintro e w1 ⟨v, rfl, ho, hb⟩
  obtain ⟨va, vc, rfl⟩ := (ho.rows lnC_len).form
  clear ho
  go_wp2
  go_ret2
  exact ⟨rfl, hb⟩
end Go.Proofs.YtcljpklgpedolaaGreatDoor
namespace Go.Proofs.YtcljpklgpedolaaGreatDoor
open Go.RowKit Go.Sort

def Bk.appE (k t : List UInt8) : Int := if Bk.rest k ≠ [] then 15 else if Bk.right t = false then 1 else if (Bk.tx k).length = 200 then 4 else 0
def Bk.appS (k t : List UInt8) : List UInt8 := if Bk.appE k t = 0 then k ++ Bk.wr ((Bk.tx k).length + 1) (Bk.lst 1 0 (Bk.tx k)) t else []
theorem Bk.app_of {k t : List UInt8} {q : Int} (h : Bk.appE k t = q) (hq : q ≠ 0) : Bk.appS k t = [] := by
  unfold Bk.appS; rw [h, if_neg hq]
theorem Bk.last_sum {k : List UInt8} {x : Bk.Ln} (h : (Bk.ln k)[(Bk.ln k).length - 1]? = some x) : x.2.2 = Bk.lst 1 0 (Bk.tx k) := by
  rw [Bk.lst_last]
  show _ = ((Bk.ln k).getLast?.map fun x => x.2.2).getD 0
  rw [List.getLast?_eq_getElem?, h]
  rfl
theorem append_one (k : ByteArray) (l : List UInt8) : k ++ (⟨l.toArray⟩ : ByteArray) = ⟨(k.data.toList ++ l).toArray⟩ := by
  conv => lhs; rw [← mk_list k]
  rw [bytes_append]
set_option maxRecDepth 20000 in
set_option maxHeartbeats 1000000 in
theorem append_any (k : ByteArray) (t : List UInt8) (w : World) (hE : EnvB w) (hs : k.size ≤ 80000) (ht : t.length ≤ 9223372036854775807) :
    Calls Tryz.prog 24 #[.string k, sv t] w fun e w' => e = .returned (.tuple #[sv (Bk.appS k.data.toList t), .int .i64 (Bk.appE k.data.toList t)]) ∧ Below w.heap.size w w' := by
  by_cases hr : Bk.rest k.data.toList = []
  case neg =>
    have hA : Bk.appE k.data.toList t = 15 := by unfold Bk.appE; rw [if_pos hr]
    rw [Bk.app_of hA (by decide), hA]
    have C := Lib.hid (linesOf_bad k w hE hs hr)
    clear hE hr hA
    go_enter Tryz.func24, Tryz.ntmps24
    go_wp2_with fail
    refine C.out.mono ?_
    rintro e w1 ⟨rfl, hb⟩
    go_wp2
    go_ret2
    exact ⟨rfl, hb⟩
  have C := Lib.hid (linesOf_ok k w hE hs hr)
  have HRT := Lib.hid (fun W => isRight_any ⟨t.toArray⟩ W (by show t.toArray.size ≤ _; rw [List.size_toArray]; omega))
  have hrt : (⟨t.toArray⟩ : ByteArray).data.toList = t := rfl
  rw [hrt] at HRT
  have hll := Bk.ln_len k.data.toList
  have hl2 := Bk.tx_len k.data.toList
  cases ht2 : Bk.right t with
  | false =>
    have hA : Bk.appE k.data.toList t = 1 := by unfold Bk.appE; rw [if_neg (by simp [hr]), if_pos ht2]
    rw [Bk.app_of hA (by decide), hA]
    rw [ht2] at HRT
    clear hE hr hA hrt ht2 hll hl2
    generalize Bk.ln k.data.toList = L at *
    go_enter Tryz.func24, Tryz.ntmps24
    go_wp2_with fail
    refine C.out.mono ?_
    rintro e w1 ⟨v, rfl, ho, hb⟩
    obtain ⟨va, vc, rfl⟩ := (ho.rows lnC_len).form
    clear ho C
    go_wp2_with fail
    refine (HRT.out _).mono ?_
    rintro e w2 ⟨rfl, hb2⟩
    have hw := below_step hb hb2
    clear hb hb2 HRT
    go_wp2
    go_ret2
    exact ⟨rfl, hw⟩
  | true =>
    have ht80 := Bk.right_len ht2
    rw [ht2] at HRT
    by_cases h200 : (Bk.tx k.data.toList).length = 200
    · have hA : Bk.appE k.data.toList t = 4 := by unfold Bk.appE; rw [if_neg (by simp [hr]), if_neg (by simp [ht2]), if_pos h200]
      rw [Bk.app_of hA (by decide), hA]
      have hl3 : (Bk.ln k.data.toList).length = 200 := by omega
      clear hE hr hA hrt ht2 hll hl2 h200
      generalize Bk.ln k.data.toList = L at *
      have q1 : ((L.length : Int) == 200) = true := by rw [hl3]; rfl
      clear hl3
      go_enter Tryz.func24, Tryz.ntmps24
      go_wp2_with fail
      refine C.out.mono ?_
      rintro e w1 ⟨v, rfl, ho, hb⟩
      obtain ⟨va, vc, rfl⟩ := (ho.rows lnC_len).form
      clear ho C
      go_wp2_with fail
      refine (HRT.out _).mono ?_
      rintro e w2 ⟨rfl, hb2⟩
      have hw := below_step hb hb2
      clear hb hb2 HRT
      go_wp2
      go_ret2
      exact ⟨rfl, hw⟩
    · have hA : Bk.appE k.data.toList t = 0 := by unfold Bk.appE; rw [if_neg (by simp [hr]), if_neg (by simp [ht2]), if_neg h200]
      have hS : Bk.appS k.data.toList t = k.data.toList ++ Bk.wr ((Bk.tx k.data.toList).length + 1) (Bk.lst 1 0 (Bk.tx k.data.toList)) t := by unfold Bk.appS; rw [if_pos hA]
      have hlast := fun x h => Bk.last_sum (k := k.data.toList) (x := x) h
      have hin := Bk.lst_in (Bk.tx k.data.toList) 1 0 (by omega) (by omega)
      have hzero : (Bk.ln k.data.toList).length = 0 → Bk.lst 1 0 (Bk.tx k.data.toList) = 0 := fun h => by
        rw [hll] at h
        rw [List.length_eq_zero_iff.1 h]; rfl
      rw [hA, hS, ← hll]
      rw [← hll] at h200 hl2
      generalize Bk.lst 1 0 (Bk.tx k.data.toList) = B at *
      have hl9 : (Bk.ln k.data.toList).length < 200 := by omega
      have HX := Lib.hid (append_one k (Bk.wr ((Bk.ln k.data.toList).length + 1) B t))
      have hnx := Bk.nxt_in ((Bk.ln k.data.toList).length + 1) B t
      have HNL := Lib.hid (fun W hW => newLine_any ((Bk.ln k.data.toList).length + 1) B t W hW (by omega) (by omega) (by omega) (by omega))
      have HFM := Lib.hid (fun W hW => format_any ((Bk.ln k.data.toList).length + 1, t, Bk.nxt ((Bk.ln k.data.toList).length + 1) B t) W hW (by show (Bk.ln k.data.toList).length + 1 ≤ _; omega) (by show t.length ≤ _; omega) hnx.1 hnx.2)
      rw [← Bk.wr_fmt] at HFM
      have hwl := Bk.wr_short (n := (Bk.ln k.data.toList).length + 1) B (by omega) ht2
      have HE := Lib.hid hE
      have hsv : sv (k.data.toList ++ Bk.wr ((Bk.ln k.data.toList).length + 1) B t) = .string ⟨(k.data.toList ++ Bk.wr ((Bk.ln k.data.toList).length + 1) B t).toArray⟩ := rfl
      rw [hsv]
      clear hE hr hA hrt ht2 hll hl2 h200 hS hnx hsv
      generalize Bk.nxt ((Bk.ln k.data.toList).length + 1) B t = S at *
      generalize Bk.wr ((Bk.ln k.data.toList).length + 1) B t = WR at *
      generalize k.data.toList ++ WR = KW at *
      generalize Bk.ln k.data.toList = L at *
      by_cases h0 : L.length = 0
      · obtain rfl := hzero h0
        have q1 : ((L.length : Int) == 200) = false := by rw [h0]; rfl
        obtain rfl := List.length_eq_zero_iff.1 h0
        clear hlast hzero h0
        go_enter Tryz.func24, Tryz.ntmps24
        go_wp2_with fail
        refine C.out.mono ?_
        rintro e w1 ⟨v, rfl, ho, hb⟩
        obtain ⟨va, vc, rfl⟩ := (ho.rows lnC_len).form
        clear ho C
        go_wp2_with fail
        refine (HRT.out _).mono ?_
        rintro e w2 ⟨rfl, hb2⟩
        have hw := below_step hb hb2
        clear hb hb2 HRT
        go_wp2_with fail
        refine (HNL.out _ (HE.out.all hw)).mono ?_
        rintro e w3 ⟨rfl, hb3⟩
        have hw3 := below_step hw hb3
        clear hw hb3 HNL
        go_wp2_with fail
        refine (HFM.out _ (HE.out.all hw3)).mono ?_
        rintro e w4 ⟨rfl, hb4⟩
        have hw4 := below_step hw3 hb4
        clear hw3 hb4 HFM
        go_wp2
        go_ret2
        exact ⟨by rw [← HX.out]; rfl, hw4⟩
      · have q1 : ((L.length : Int) == 200) = false := by rw [beq_eq_false_iff_ne]; omega
        have q2 : (0 : Int) ≤ (L.length : Int) - 1 := by omega
        have hls := hlast _ (List.getElem?_eq_getElem (show L.length - 1 < L.length by omega))
        have HK := Lib.hid (show L.length - 1 < L.length by omega)
        have e1 : ((L.length : Int) - 1).toNat = L.length - 1 := by omega
        clear hlast hzero
        go_enter Tryz.func24, Tryz.ntmps24
        go_wp2_with fail
        refine C.out.mono ?_
        rintro e w1 ⟨v, rfl, ho, hb⟩
        obtain ⟨va, vc, e, hvc, hcells⟩ := ho.rows lnC_len
        subst e
        obtain ⟨bb, off, rfl, hbl, hc⟩ := hcells (L.length - 1) (by omega)
        obtain ⟨_, _, hc2⟩ := ln_at hc
        rw [hls] at hc2
        clear ho C hcells hc
        go_wp2_with fail
        refine (HRT.out _).mono ?_
        rintro e w2 ⟨rfl, hb2⟩
        have hw := below_step hb hb2
        have hc3 : w2.cell? ⟨bb, off + (L.length - 1) * 3 + 2, none⟩ = some (.int .i64 B) := (hb2.cell (p := ⟨bb, off + (L.length - 1) * 3 + 2, none⟩) hbl).trans hc2
        clear hb hb2 HRT hc2
        go_wp2_with fail
        refine (HNL.out _ (HE.out.all hw)).mono ?_
        rintro e w3 ⟨rfl, hb3⟩
        have hw3 := below_step hw hb3
        clear hw hb3 HNL
        go_wp2_with fail
        refine (HFM.out _ (HE.out.all hw3)).mono ?_
        rintro e w4 ⟨rfl, hb4⟩
        have hw4 := below_step hw3 hb4
        clear hw3 hb4 HFM
        go_wp2
        go_ret2
        exact ⟨by rw [← HX.out]; rfl, hw4⟩
end Go.Proofs.YtcljpklgpedolaaGreatDoor
