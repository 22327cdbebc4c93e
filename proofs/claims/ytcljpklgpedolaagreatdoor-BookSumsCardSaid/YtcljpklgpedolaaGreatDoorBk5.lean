/- The program's reading of one line. -/
import Derived.Test.YtcljpklgpedolaaGreatDoorBk4
import Derived.Test.YtcljpklgpedolaaGreatDoorBkA
namespace Go.Proofs.YtcljpklgpedolaaGreatDoor
open Go.RowKit Go.Sort

theorem cutNl_any (k : ByteArray) (w : World) (hE : EnvB w) (hs : k.size ≤ 200000) :
    Calls Tryz.prog 92 #[.string k, .string ⟨#[10]⟩] w fun e w' => (∃ x, e = .returned (.tuple #[sv (Bk.lin k.data.toList), sv (Bk.rst k.data.toList), .bool x])) ∧ Below w.heap.size w w' := by
  obtain ⟨m, hm⟩ := hE.1.2.1
  refine (Tryz.strings_Cut k ⟨#[10]⟩ m w (by omega) hm).mono ?_
  rintro e w1 ⟨rfl, n, rfl⟩
  refine ⟨⟨decide ((10 : UInt8) ∈ k.data.toList), ?_⟩, below_drewN (Below.refl _ _) n⟩
  rw [show (⟨#[10]⟩ : ByteArray).data.toList = [10] from rfl, Bk.cut_lin]
theorem splitB_pcs (l : List UInt8) (m : Nat) : (Lib.splitB ⟨#[32]⟩ 0 (min (m + 1) ((⟨l.toArray⟩ : ByteArray).size + 1) - 1) ⟨l.toArray⟩) = (Bk.pcs m l).map fun x => (⟨x.toArray⟩ : ByteArray) := by
  have h := Lib.splitB_data ⟨#[32]⟩ 0 (min (m + 1) ((⟨l.toArray⟩ : ByteArray).size + 1) - 1) ⟨l.toArray⟩
  have hs : (⟨l.toArray⟩ : ByteArray).size = l.length := by show l.toArray.size = _; rw [List.size_toArray]
  have h2 : Lib.splitK (⟨#[32]⟩ : ByteArray).data.toList 0 (min (m + 1) ((⟨l.toArray⟩ : ByteArray).size + 1) - 1) (⟨l.toArray⟩ : ByteArray).data.toList = Bk.pcs m l := by
    rw [hs]; exact Bk.splitN_pcs l m
  rw [← h2, ← h, List.map_map]
  have h3 : ∀ xs : List ByteArray, xs.map ((fun x => (⟨x.toArray⟩ : ByteArray)) ∘ fun x => x.data.toList) = xs := fun xs => by
    induction xs with
    | nil => rfl
    | cons a r ih => rw [List.map_cons, ih]; exact congrArg (· :: r) (mk_list a)
  exact (h3 _).symm
/-- What is told of a text that is cut at its first m blanks. -/
def PcsSays (l : List UInt8) (m : Nat) (w : World) (e : Ending) (w' : World) : Prop := ∃ cap, e = .returned (.slice (some ⟨w.heap.size, 0, none⟩) (Bk.pcs m l).length cap) ∧ (Bk.pcs m l).length ≤ cap ∧ (∀ j x, (Bk.pcs m l)[j]? = some x → w'.cell? ⟨w.heap.size, j, none⟩ = some (sv x)) ∧ Below w.heap.size w w'
theorem splitN_any (l : List UInt8) (m : Nat) (w : World) (hE : EnvB w) (hs : l.length ≤ 200000) (hm : m ≤ 1000) :
    Calls Tryz.prog 81 #[sv l, .string ⟨#[32]⟩, .int .i64 ((m + 1 : Nat) : Int)] w (PcsSays l m w) := by
  obtain ⟨q, hq⟩ := hE.1.2.1
  have hz : (⟨l.toArray⟩ : ByteArray).size = l.length := by show l.toArray.size = _; rw [List.size_toArray]
  refine (Tryz.strings_SplitN ⟨l.toArray⟩ ⟨#[32]⟩ (m + 1) q w (by omega) hq (by decide) (by omega) (by omega)).mono ?_
  rintro e w1 ⟨rfl, rfl⟩
  have hB := BlockAt.new w (Lib.cellsOf (Lib.splitB ⟨#[32]⟩ 0 (min (m + 1) ((⟨l.toArray⟩ : ByteArray).size + 1) - 1) ⟨l.toArray⟩) (min (m + 1) ((⟨l.toArray⟩ : ByteArray).size + 1))) 9
  rw [splitB_pcs] at hB ⊢
  have hle : (Bk.pcs m l).length ≤ min (m + 1) ((⟨l.toArray⟩ : ByteArray).size + 1) := by
    rw [← Bk.splitN_pcs l m]
    rw [hz]
    have h := Lib.splitB_length_le ⟨#[32]⟩ 0 (min (m + 1) (l.length + 1) - 1) ⟨l.toArray⟩
    have h2 := congrArg List.length (Lib.splitB_data ⟨#[32]⟩ 0 (min (m + 1) (l.length + 1) - 1) ⟨l.toArray⟩)
    rw [List.length_map] at h2
    have h3 : Lib.splitK (⟨#[32]⟩ : ByteArray).data.toList 0 (min (m + 1) (l.length + 1) - 1) (⟨l.toArray⟩ : ByteArray).data.toList = Lib.splitK [32] 0 (min (m + 1) (l.length + 1) - 1) l := rfl
    rw [h3] at h2
    omega
  refine ⟨_, by rw [List.length_map], hle, fun j x hj => ?_, (Below.refl _ _).alloc (Nat.le_refl _) _⟩
  refine (hB.cell j).trans ?_
  unfold Lib.cellsOf
  have hlt := (List.getElem?_eq_some_iff.1 hj).1
  rw [List.getElem?_toArray, List.getElem?_append_left (by simpa using hlt), List.getElem?_map, List.getElem?_map, hj]
  rfl
theorem Bk.fst_pre {n : Nat} {b : Int} {k : List UInt8} (h : Bk.right (Bk.thd (Bk.lin k)) = true) (h2 : Lib.hasPrefix k (Bk.wr n b (Bk.thd (Bk.lin k))) = true) : Bk.fst n b k = some (Bk.thd (Bk.lin k)) := by
  unfold Bk.fst; exact if_pos ⟨h, h2⟩
theorem Bk.fst_no1 {n : Nat} {b : Int} {k : List UInt8} (h : Bk.right (Bk.thd (Bk.lin k)) = false) : Bk.fst n b k = none := by
  unfold Bk.fst; rw [if_neg (by rw [h]; simp)]
theorem Bk.fst_no2 {n : Nat} {b : Int} {k : List UInt8} (h2 : Lib.hasPrefix k (Bk.wr n b (Bk.thd (Bk.lin k))) = false) : Bk.fst n b k = none := by
  unfold Bk.fst; exact if_neg fun e => by have := e.2; unfold Lib.hasPrefix at h2; rw [h2] at this; cases this
theorem Bk.lin_len : ∀ k : List UInt8, (Bk.lin k).length ≤ k.length ∧ (Bk.rst k).length ≤ k.length
  | [] => ⟨Nat.le_refl _, Nat.le_refl _⟩
  | c :: r => by
    have := Bk.lin_len r
    rw [Bk.lin, Bk.rst]
    split <;> (simp; try omega)
theorem Bk.thd_len (l : List UInt8) : (Bk.thd l).length ≤ l.length := Nat.le_trans (Bk.aft_len _) (Bk.aft_len _)
/-- What is told of the line that stands first: none, or its text. -/
def RdSays (k : List UInt8) (n : Nat) (b : Int) (w : World) (e : Ending) (w' : World) : Prop :=
  e = .returned (match Bk.fst n b k with | none => .tuple #[lnV (0, [], 0), sv [], .bool false] | some t => .tuple #[lnV (n, t, Bk.nxt n b t), sv (Bk.rst k), .bool true]) ∧ Below w.heap.size w w'
set_option maxRecDepth 20000 in
set_option maxHeartbeats 1000000 in
theorem readLine_any (k : ByteArray) (n : Nat) (b : Int) (w : World) (hE : EnvB w) (hs : k.size ≤ 80000) (hn : n ≤ 1000000) (b0 : -9223372036854775808 ≤ b) (b1 : b ≤ 9223372036854775807) :
    Calls Tryz.prog 58 #[.string k, .int .i64 n, .int .i64 b] w (RdSays k.data.toList n b w) := by
  have hl := len_size k
  have hl1 := Bk.lin_len k.data.toList
  have HCUT := Lib.hid (fun W hW => cutNl_any k W hW (by omega))
  have HSPL := Lib.hid (fun W hW => splitN_any (Bk.lin k.data.toList) 2 W hW (by omega) (by omega))
  have HE := Lib.hid hE
  have hR : ∃ R, R = (match Bk.fst n b k.data.toList with | none => Value.tuple #[lnV (0, [], 0), sv [], .bool false] | some t => .tuple #[lnV (n, t, Bk.nxt n b t), sv (Bk.rst k.data.toList), .bool true]) := ⟨_, rfl⟩
  obtain ⟨R, hR⟩ := hR
  unfold RdSays
  rw [← hR]
  have htl := Bk.thd_len (Bk.lin k.data.toList)
  rcases Bk.pcs_two (Bk.lin k.data.toList) with ⟨hp3, hp⟩ | ⟨hp3, hp⟩
  case inr =>
    have HR : Hid (R = .tuple #[lnV (0, [], 0), sv [], .bool false]) := Lib.hid (by rw [hR, Bk.fst_no1 (by rw [hp]; rfl)])
    have q1 : decide (((Bk.pcs 2 (Bk.lin k.data.toList)).length : Int) < 3) = true := by rw [decide_eq_true_eq]; omega
    clear hR hp htl hl1 hE
    generalize Bk.lin k.data.toList = L at *
    generalize hP : Bk.pcs 2 L = P at *
    go_enter Tryz.func58, Tryz.ntmps58
    go_wp2_with fail
    refine (HCUT.out _ (HE.out.all (below_alloc (Below.refl _ _) _))).mono ?_
    rintro e w1 ⟨⟨x, rfl⟩, hb1⟩
    have hB1 := (BlockAt.new w #[.int .i64 0, .string ⟨#[]⟩, .int .i64 0] LineT).below hb1 (BlockAt.new w #[.int .i64 0, .string ⟨#[]⟩, .int .i64 0] LineT).lt
    have hw1 := below_step (below_alloc (Below.refl w.heap.size w) (.cells #[.int .i64 0, .string ⟨#[]⟩, .int .i64 0] LineT)) hb1
    clear hb1 HCUT
    go_wp2_with fail
    refine (HSPL.out _ (HE.out.all hw1)).mono ?_
    rintro e w2 ⟨cap, rfl, hcap, hcells, hb2⟩
    have hB2 := hB1.below hb2 hB1.lt
    have hw2 := below_step hw1 hb2
    clear hb2 hcells HSPL hw1 hB1
    obtain ⟨c0, c1, c2⟩ : _ ∧ _ ∧ _ := ⟨hB2.cell 0, hB2.cell 1, hB2.cell 2⟩
    obtain ⟨f0, f1, f2⟩ : _ ∧ _ ∧ _ := ⟨hB2.frozen 0, hB2.frozen 1, hB2.frozen 2⟩
    have hB9 := ((hB2.set 0 (.int .i64 0)).set 1 (.string ⟨#[]⟩)).set 2 (.int .i64 0)
    have e0 : World.cell? _ _ = some (.int .i64 0) := (hB2.set 0 (.int .i64 0)).cell 0
    have e1 : World.cell? _ _ = some (.string ⟨#[]⟩) := ((hB2.set 0 (.int .i64 0)).set 1 (.string ⟨#[]⟩)).cell 1
    have e2 : World.cell? _ _ = some (.int .i64 0) := hB9.cell 2
    go_wp2
    exact bodyPost_ret (v := .tuple #[lnV (0, [], 0), sv [], .bool false]) (by simp [results, Tryz.results58, go_sem, e0, e1, e2]) rfl ⟨by rw [HR.out], ((hw2.setCell (Nat.le_refl _) _).setCell (Nat.le_refl _) _).setCell (Nat.le_refl _) _⟩
  obtain ⟨t, ht⟩ : ∃ t, t = Bk.thd (Bk.lin k.data.toList) := ⟨_, rfl⟩
  rw [← ht] at hp htl
  have HRT := Lib.hid (fun W => isRight_any ⟨t.toArray⟩ W (by show t.toArray.size ≤ _; rw [List.size_toArray]; omega))
  have hrt : (⟨t.toArray⟩ : ByteArray).data.toList = t := rfl
  rw [hrt] at HRT
  clear hrt
  cases hr : Bk.right t with
  | false =>
    have HR : Hid (R = .tuple #[lnV (0, [], 0), sv [], .bool false]) := Lib.hid (by rw [hR, Bk.fst_no1 (by rw [← ht]; exact hr)])
    rw [hr] at HRT
    have HP3 := Lib.hid hp3
    have HP := Lib.hid hp
    clear hR hl1 hE ht hr hp3 hp
    generalize Bk.lin k.data.toList = L at *
    go_enter Tryz.func58, Tryz.ntmps58
    go_wp2_with fail
    refine (HCUT.out _ (HE.out.all (below_alloc (Below.refl _ _) _))).mono ?_
    rintro e w1 ⟨⟨x, rfl⟩, hb1⟩
    have hB1 := (BlockAt.new w #[.int .i64 0, .string ⟨#[]⟩, .int .i64 0] LineT).below hb1 (BlockAt.new w #[.int .i64 0, .string ⟨#[]⟩, .int .i64 0] LineT).lt
    have hw1 := below_step (below_alloc (Below.refl w.heap.size w) (.cells #[.int .i64 0, .string ⟨#[]⟩, .int .i64 0] LineT)) hb1
    clear hb1 HCUT
    go_wp2_with fail
    refine (HSPL.out _ (HE.out.all hw1)).mono ?_
    rintro e w2 ⟨cap, rfl, hcap, hcells, hb2⟩
    have hB2 := hB1.below hb2 hB1.lt
    have hw2 := below_step hw1 hb2
    rw [HP3.out] at hcap ⊢
    have d2 := (hcells 2 t HP.out)
    clear hb2 hcells HSPL hw1 hB1
    go_wp2_with fail
    refine (HRT.out _).mono ?_
    rintro e w3 ⟨rfl, hb3⟩
    have hB3 := hB2.below hb3 hB2.lt
    have hw3 := below_step hw2 hb3
    clear hb3 hw2 hB2 d2 HRT
    obtain ⟨c0, c1, c2⟩ : _ ∧ _ ∧ _ := ⟨hB3.cell 0, hB3.cell 1, hB3.cell 2⟩
    obtain ⟨f0, f1, f2⟩ : _ ∧ _ ∧ _ := ⟨hB3.frozen 0, hB3.frozen 1, hB3.frozen 2⟩
    have hB9 := ((hB3.set 0 (.int .i64 0)).set 1 (.string ⟨#[]⟩)).set 2 (.int .i64 0)
    have e0 : World.cell? _ _ = some (.int .i64 0) := (hB3.set 0 (.int .i64 0)).cell 0
    have e1 : World.cell? _ _ = some (.string ⟨#[]⟩) := ((hB3.set 0 (.int .i64 0)).set 1 (.string ⟨#[]⟩)).cell 1
    have e2 : World.cell? _ _ = some (.int .i64 0) := hB9.cell 2
    go_wp2
    exact bodyPost_ret (v := .tuple #[lnV (0, [], 0), sv [], .bool false]) (by simp [results, Tryz.results58, go_sem, e0, e1, e2]) rfl ⟨by rw [HR.out], ((hw3.setCell (Nat.le_refl _) _).setCell (Nat.le_refl _) _).setCell (Nat.le_refl _) _⟩
  | true =>
    have hr80 := Bk.right_len hr
    rw [hr] at HRT
    have HP3 := Lib.hid hp3
    have HP := Lib.hid hp
    have HNL := Lib.hid (fun W hW => newLine_any n b t W hW hn (by omega) b0 b1)
    have hnx := Bk.nxt_in n b t
    have HFM := Lib.hid (fun W hW => format_any (n, t, Bk.nxt n b t) W hW hn (by show t.length ≤ _; omega) hnx.1 hnx.2)
    rw [← Bk.wr_fmt] at HFM
    have HHP := Lib.hid (fun W => Tryz.strings_HasPrefix k ⟨(Bk.wr n b t).toArray⟩ W)
    have hwr : (⟨(Bk.wr n b t).toArray⟩ : ByteArray).data.toList = Bk.wr n b t := rfl
    rw [hwr] at HHP
    clear hwr
    have hRR : (Lib.hasPrefix k.data.toList (Bk.wr n b t) = true ∧ Hid (R = .tuple #[lnV (n, t, Bk.nxt n b t), sv (Bk.rst k.data.toList), .bool true])) ∨ (Lib.hasPrefix k.data.toList (Bk.wr n b t) = false ∧ Hid (R = .tuple #[lnV (0, [], 0), sv [], .bool false])) := by
      cases hx : Lib.hasPrefix k.data.toList (Bk.wr n b t) with
      | true => exact .inl ⟨rfl, Lib.hid (by rw [hR, Bk.fst_pre (by rw [← ht]; exact hr) (by rw [← ht]; exact hx), ← ht])⟩
      | false => exact .inr ⟨rfl, Lib.hid (by rw [hR, Bk.fst_no2 (by rw [← ht]; exact hx)])⟩
    clear hR hl1 hE ht hr hp3 hp hnx
    generalize Bk.lin k.data.toList = L at *
    generalize Bk.rst k.data.toList = RS at *
    generalize Bk.nxt n b t = S at *
    generalize Lib.hasPrefix k.data.toList (Bk.wr n b t) = hx at *
    generalize Bk.wr n b t = WR at *
    rcases hRR with ⟨rfl, HR⟩ | ⟨rfl, HR⟩
    · go_enter Tryz.func58, Tryz.ntmps58
      go_wp2_with fail
      refine (HCUT.out _ (HE.out.all (below_alloc (Below.refl _ _) _))).mono ?_
      rintro e w1 ⟨⟨x, rfl⟩, hb1⟩
      have hB1 := (BlockAt.new w #[.int .i64 0, .string ⟨#[]⟩, .int .i64 0] LineT).below hb1 (BlockAt.new w #[.int .i64 0, .string ⟨#[]⟩, .int .i64 0] LineT).lt
      have hw1 := below_step (below_alloc (Below.refl w.heap.size w) (.cells #[.int .i64 0, .string ⟨#[]⟩, .int .i64 0] LineT)) hb1
      clear hb1 HCUT
      go_wp2_with fail
      refine (HSPL.out _ (HE.out.all hw1)).mono ?_
      rintro e w2 ⟨cap, rfl, hcap, hcells, hb2⟩
      have hB2 := hB1.below hb2 hB1.lt
      have hw2 := below_step hw1 hb2
      rw [HP3.out] at hcap ⊢
      have d2 := (hcells 2 t HP.out)
      clear hcells HSPL hw1 hB1
      go_wp2_with fail
      refine (HRT.out _).mono ?_
      rintro e w3 ⟨rfl, hb3⟩
      have hB3 := hB2.below hb3 hB2.lt
      have hw3 := below_step hw2 hb3
      have d2b : w3.cell? ⟨w1.heap.size, 2, none⟩ = some (sv t) := (hb3.cell (p := ⟨w1.heap.size, 2, none⟩) (cell_lt d2)).trans d2
      clear hb3 hw2 hB2 d2 HRT
      go_wp2_with fail
      refine (HNL.out _ (HE.out.all hw3)).mono ?_
      rintro e w4 ⟨rfl, hb4⟩
      have hB4 := hB3.below hb4 hB3.lt
      have hw4 := below_step hw3 hb4
      obtain ⟨c0, c1, c2⟩ : _ ∧ _ ∧ _ := ⟨hB4.cell 0, hB4.cell 1, hB4.cell 2⟩
      obtain ⟨f0, f1, f2⟩ : _ ∧ _ ∧ _ := ⟨hB4.frozen 0, hB4.frozen 1, hB4.frozen 2⟩
      have hB5 := ((hB4.set 0 (.int .i64 n)).set 1 (sv t)).set 2 (.int .i64 S)
      have hw5 : Below w.heap.size w (((w4.setCell ⟨w.heap.size, 0, none⟩ (.int .i64 n)).setCell ⟨w.heap.size, 1, none⟩ (sv t)).setCell ⟨w.heap.size, 2, none⟩ (.int .i64 S)) := ((hw4.setCell (Nat.le_refl _) _).setCell (Nat.le_refl _) _).setCell (Nat.le_refl _) _
      have e0 : World.cell? _ _ = some (.int .i64 (n : Int)) := (hB4.set 0 (.int .i64 n)).cell 0
      have e1 : World.cell? _ _ = some (sv t) := ((hB4.set 0 (.int .i64 n)).set 1 (sv t)).cell 1
      have e2 : World.cell? _ _ = some (.int .i64 S) := hB5.cell 2
      obtain ⟨g0, g1, g2⟩ : World.cell? _ _ = some (.int .i64 (n : Int)) ∧ World.cell? _ _ = some (sv t) ∧ World.cell? _ _ = some (.int .i64 S) := ⟨hB5.cell 0, hB5.cell 1, hB5.cell 2⟩
      clear hb4 hw3 hB3 HNL d2b
      go_wp2_with fail
      refine (HFM.out _ (HE.out.all hw5)).mono ?_
      rintro e w6 ⟨rfl, hb6⟩
      have hB6 := hB5.below hb6 hB5.lt
      have hw6 := below_step hw5 hb6
      clear hb6 hw5 hB5 hB4 hw4 c0 c1 c2 f0 f1 f2 e0 e1 e2 g0 g1 g2 HFM
      go_wp2_with fail
      refine (HHP.out _).mono ?_
      rintro e w7 ⟨rfl, rfl⟩
      clear HHP
      obtain ⟨c0, c1, c2⟩ : World.cell? _ _ = some (.int .i64 (n : Int)) ∧ World.cell? _ _ = some (sv t) ∧ World.cell? _ _ = some (.int .i64 S) := ⟨hB6.cell 0, hB6.cell 1, hB6.cell 2⟩
      obtain ⟨f0, f1, f2⟩ : _ ∧ _ ∧ _ := ⟨hB6.frozen 0, hB6.frozen 1, hB6.frozen 2⟩
      have hB9 := ((hB6.set 0 (.int .i64 n)).set 1 (sv t)).set 2 (.int .i64 S)
      have e0 : World.cell? _ _ = some (.int .i64 (n : Int)) := (hB6.set 0 (.int .i64 n)).cell 0
      have e1 : World.cell? _ _ = some (sv t) := ((hB6.set 0 (.int .i64 n)).set 1 (sv t)).cell 1
      have e2 : World.cell? _ _ = some (.int .i64 S) := hB9.cell 2
      go_wp2
      exact bodyPost_ret (v := .tuple #[lnV (n, t, S), sv RS, .bool true]) (by simp [results, Tryz.results58, go_sem, e0, e1, e2]) rfl ⟨by rw [HR.out], ((hw6.setCell (Nat.le_refl _) _).setCell (Nat.le_refl _) _).setCell (Nat.le_refl _) _⟩
    · go_enter Tryz.func58, Tryz.ntmps58
      go_wp2_with fail
      refine (HCUT.out _ (HE.out.all (below_alloc (Below.refl _ _) _))).mono ?_
      rintro e w1 ⟨⟨x, rfl⟩, hb1⟩
      have hB1 := (BlockAt.new w #[.int .i64 0, .string ⟨#[]⟩, .int .i64 0] LineT).below hb1 (BlockAt.new w #[.int .i64 0, .string ⟨#[]⟩, .int .i64 0] LineT).lt
      have hw1 := below_step (below_alloc (Below.refl w.heap.size w) (.cells #[.int .i64 0, .string ⟨#[]⟩, .int .i64 0] LineT)) hb1
      clear hb1 HCUT
      go_wp2_with fail
      refine (HSPL.out _ (HE.out.all hw1)).mono ?_
      rintro e w2 ⟨cap, rfl, hcap, hcells, hb2⟩
      have hB2 := hB1.below hb2 hB1.lt
      have hw2 := below_step hw1 hb2
      rw [HP3.out] at hcap ⊢
      have d2 := (hcells 2 t HP.out)
      clear hcells HSPL hw1 hB1
      go_wp2_with fail
      refine (HRT.out _).mono ?_
      rintro e w3 ⟨rfl, hb3⟩
      have hB3 := hB2.below hb3 hB2.lt
      have hw3 := below_step hw2 hb3
      have d2b : w3.cell? ⟨w1.heap.size, 2, none⟩ = some (sv t) := (hb3.cell (p := ⟨w1.heap.size, 2, none⟩) (cell_lt d2)).trans d2
      clear hb3 hw2 hB2 d2 HRT
      go_wp2_with fail
      refine (HNL.out _ (HE.out.all hw3)).mono ?_
      rintro e w4 ⟨rfl, hb4⟩
      have hB4 := hB3.below hb4 hB3.lt
      have hw4 := below_step hw3 hb4
      obtain ⟨c0, c1, c2⟩ : _ ∧ _ ∧ _ := ⟨hB4.cell 0, hB4.cell 1, hB4.cell 2⟩
      obtain ⟨f0, f1, f2⟩ : _ ∧ _ ∧ _ := ⟨hB4.frozen 0, hB4.frozen 1, hB4.frozen 2⟩
      have hB5 := ((hB4.set 0 (.int .i64 n)).set 1 (sv t)).set 2 (.int .i64 S)
      have hw5 : Below w.heap.size w (((w4.setCell ⟨w.heap.size, 0, none⟩ (.int .i64 n)).setCell ⟨w.heap.size, 1, none⟩ (sv t)).setCell ⟨w.heap.size, 2, none⟩ (.int .i64 S)) := ((hw4.setCell (Nat.le_refl _) _).setCell (Nat.le_refl _) _).setCell (Nat.le_refl _) _
      have e0 : World.cell? _ _ = some (.int .i64 (n : Int)) := (hB4.set 0 (.int .i64 n)).cell 0
      have e1 : World.cell? _ _ = some (sv t) := ((hB4.set 0 (.int .i64 n)).set 1 (sv t)).cell 1
      have e2 : World.cell? _ _ = some (.int .i64 S) := hB5.cell 2
      obtain ⟨g0, g1, g2⟩ : World.cell? _ _ = some (.int .i64 (n : Int)) ∧ World.cell? _ _ = some (sv t) ∧ World.cell? _ _ = some (.int .i64 S) := ⟨hB5.cell 0, hB5.cell 1, hB5.cell 2⟩
      clear hb4 hw3 hB3 HNL d2b
      go_wp2_with fail
      refine (HFM.out _ (HE.out.all hw5)).mono ?_
      rintro e w6 ⟨rfl, hb6⟩
      have hB6 := hB5.below hb6 hB5.lt
      have hw6 := below_step hw5 hb6
      clear hb6 hw5 hB5 hB4 hw4 c0 c1 c2 f0 f1 f2 e0 e1 e2 g0 g1 g2 HFM
      go_wp2_with fail
      refine (HHP.out _).mono ?_
      rintro e w7 ⟨rfl, rfl⟩
      clear HHP
      obtain ⟨c0, c1, c2⟩ : _ ∧ _ ∧ _ := ⟨hB6.cell 0, hB6.cell 1, hB6.cell 2⟩
      obtain ⟨f0, f1, f2⟩ : _ ∧ _ ∧ _ := ⟨hB6.frozen 0, hB6.frozen 1, hB6.frozen 2⟩
      have hB9 := ((hB6.set 0 (.int .i64 0)).set 1 (.string ⟨#[]⟩)).set 2 (.int .i64 0)
      have e0 : World.cell? _ _ = some (.int .i64 0) := (hB6.set 0 (.int .i64 0)).cell 0
      have e1 : World.cell? _ _ = some (.string ⟨#[]⟩) := ((hB6.set 0 (.int .i64 0)).set 1 (.string ⟨#[]⟩)).cell 1
      have e2 : World.cell? _ _ = some (.int .i64 0) := hB9.cell 2
      go_wp2
      exact bodyPost_ret (v := .tuple #[lnV (0, [], 0), sv [], .bool false]) (by simp [results, Tryz.results58, go_sem, e0, e1, e2]) rfl ⟨by rw [HR.out], ((hw6.setCell (Nat.le_refl _) _).setCell (Nat.le_refl _) _).setCell (Nat.le_refl _) _⟩
end Go.Proofs.YtcljpklgpedolaaGreatDoor
