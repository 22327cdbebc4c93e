/- The parser of patterns reads words, numbers and digits. The parser of patterns reads numbers and digits. The parser of patterns reads rows and bricks. The parser of patterns reads the bricks of the first example. The parser of patterns reads the first example. Parse of the first example; known. The first example is parsed: known. The first example is parsed: known. -/
import Derived.Test.YtobolflgoljafaaGreatDoorPatF
import Derived.Test.YtobolflgoljafaaGreatDoorTextA
import Derived.Defers
import Derived.Recover
import Derived.Laws.Pointers
namespace Go.Proofs.YtobolflgoljafaaGreatDoor
open Go.RowKit Go.Sort

/-- All but one block, and what is new, lies as it lay. -/
structure Kb (bm : Nat) (w w1 : World) : Prop where
  os : w1.os = w.os
  tape : w1.tape = w.tape
  output : w1.output = w.output
  size : w.heap.size ≤ w1.heap.size
  block : ∀ j, j < w.heap.size → j ≠ bm → w1.heap[j]? = w.heap[j]?
theorem Kb.refl (bm : Nat) (w : World) : Kb bm w w := ⟨rfl, rfl, rfl, Nat.le_refl _, fun _ _ _ => rfl⟩
theorem Kb.trans {bm : Nat} {w w1 w2 : World} (h : Kb bm w w1) (k : Kb bm w1 w2) : Kb bm w w2 :=
  ⟨k.os.trans h.os, k.tape.trans h.tape, k.output.trans h.output, Nat.le_trans h.size k.size, fun j hj hn => (k.block j (Nat.lt_of_lt_of_le hj h.size) hn).trans (h.block j hj hn)⟩
theorem Kb.below {bm : Nat} {w w1 w2 : World} (h : Kb bm w w1) (k : Below w1.heap.size w1 w2) : Kb bm w w2 :=
  h.trans ⟨k.os, k.tape, k.output, k.size, fun j hj _ => k.block j hj⟩
theorem Kb.of {bm : Nat} {w w1 : World} (k : Below w.heap.size w w1) : Kb bm w w1 := (Kb.refl bm w).below k
theorem Kb.alloc {bm : Nat} {w w1 : World} (h : Kb bm w w1) (o : Obj) : Kb bm w (w1.alloc o) := h.below ((Below.refl _ _).alloc (Nat.le_refl _) o)
theorem Kb.drew {bm : Nat} {w w1 : World} (h : Kb bm w w1) : Kb bm w w1.drew := ⟨h.os, h.tape, h.output, h.size, h.block⟩
theorem Kb.own {bm : Nat} {w w1 : World} (h : Kb bm w w1) (i : Nat) (v : Value) : Kb bm w (w1.setCell ⟨bm, i, none⟩ v) :=
  ⟨h.os, h.tape, h.output, by simpa [World.setCell] using h.size, fun j hj hn => (Below.heap_setCell _ _ _ _ hn).trans (h.block j hj hn)⟩
theorem Kb.set {bm : Nat} {w w1 : World} (h : Kb bm w w1) {p : Addr} (hp : w.heap.size ≤ p.block) (v : Value) : Kb bm w (w1.setCell p v) :=
  ⟨h.os, h.tape, h.output, by simpa [World.setCell] using h.size, fun j hj hn => (Below.heap_setCell _ _ _ _ (by omega)).trans (h.block j hj hn)⟩
theorem below_kb {w0 w w' : World} {bm : Nat} (h : Below w0.heap.size w0 w) (hb : w0.heap.size ≤ bm) (k : Kb bm w w') : Below w0.heap.size w0 w' :=
  ⟨k.os.trans h.os, k.tape.trans h.tape, k.output.trans h.output, Nat.le_trans h.size k.size, fun j hj => (k.block j (Nat.lt_of_lt_of_le hj h.size) (by omega)).trans (h.block j hj)⟩
theorem BlockAt.kb {W W' : World} {bm B : Nat} {cs : Array Value} {t : TypeId} (h : BlockAt W B cs t) (hg : Kb bm W W') (hne : B ≠ bm) : BlockAt W' B cs t := (hg.block B h.lt hne).trans h
theorem OwnI.kb {base : Nat} {w w2 : World} {v : Value} {rs : List Int} {bm : Nat} (h : OwnI base w v rs) (hb : Kb bm w w2) (hne : bm < base) : OwnI base w2 v rs := by
  obtain ⟨h0, h1 | ⟨g, cap, cur, h1, h2, h3, h4⟩⟩ := h
  · exact ⟨h0, .inl h1⟩
  · have hg : g < w.heap.size := (Array.getElem?_eq_some_iff.1 h3).1
    exact ⟨h0, .inr ⟨g, cap, cur, h1, h2, by rw [hb.block g hg (by omega)]; exact h3, h4⟩⟩

/-- The words that are not read yet. -/
def RdAt (W : World) (R g : Nat) (ws : List (List UInt8)) : Prop :=
  ∃ off cap, BlockAt W R #[.slice (some ⟨g, off, none⟩) ws.length cap] 123 ∧ ws.length ≤ cap ∧ g < W.heap.size ∧ g ≠ R ∧ ∀ k (hk : k < ws.length), W.cell? ⟨g, off + k, none⟩ = some (.string ⟨ws[k].toArray⟩)
theorem RdAt.below {W W' : World} {R g : Nat} {ws : List (List UInt8)} (h : RdAt W R g ws) (hb : Below W.heap.size W W') : RdAt W' R g ws := by
  obtain ⟨off, cap, h1, h2, h3, h4, h5⟩ := h
  exact ⟨off, cap, h1.below hb h1.lt, h2, Nat.lt_of_lt_of_le h3 hb.size, h4, fun k hk => (hb.cell (p := ⟨g, off + k, none⟩) h3).trans (h5 k hk)⟩
theorem RdAt.lt {W : World} {R g : Nat} {ws : List (List UInt8)} (h : RdAt W R g ws) : R < W.heap.size := by
  obtain ⟨_, _, h1, _⟩ := h
  exact h1.lt
theorem RdAt.lt2 {W : World} {R g : Nat} {ws : List (List UInt8)} (h : RdAt W R g ws) : g < W.heap.size := by
  obtain ⟨_, _, _, _, h1, _⟩ := h
  exact h1

theorem require_ok (w : World) : Calls Tryz.prog 112 #[.bool true] w fun e w' => e = .returned (.tuple #[]) ∧ w = w' := by
  go_enter Tryz.func112, Tryz.ntmps112
  go_wp2
  first
    | exact bodyPost_ret (results_none rfl _ _ _) rfl ⟨rfl, rfl⟩
    | (go_end0; exact ⟨rfl, rfl⟩)
    | (go_ret; exact ⟨rfl, rfl⟩)

theorem splitB_is (l : List UInt8) (c : UInt8) : Lib.splitB ⟨#[c]⟩ 0 (Lib.countB ⟨l.toArray⟩ ⟨#[c]⟩) ⟨l.toArray⟩ = (Tx.spl c l).map fun x => (⟨x.toArray⟩ : ByteArray) := by
  have h := Lib.splitB_data ⟨#[c]⟩ 0 (Lib.countB ⟨l.toArray⟩ ⟨#[c]⟩) ⟨l.toArray⟩
  have h2 : Lib.splitK (⟨#[c]⟩ : ByteArray).data.toList 0 (Lib.countB ⟨l.toArray⟩ ⟨#[c]⟩) (⟨l.toArray⟩ : ByteArray).data.toList = Tx.spl c l := by
    rw [← Tx.split_spl c _ l (Nat.le_refl _)]
    rfl
  rw [h2] at h
  rw [← h, List.map_map]
  conv => lhs; rw [← List.map_id (Lib.splitB _ _ _ _)]
  refine List.map_congr_left fun x _ => ?_
  show x = (⟨x.data.toList.toArray⟩ : ByteArray)
  rfl
theorem countB_is (l : List UInt8) (c : UInt8) : Lib.countB ⟨l.toArray⟩ ⟨#[c]⟩ + 1 = (Tx.spl c l).length := by
  have h := congrArg List.length (splitB_is l c)
  rw [List.length_map, Lib.splitB_all ⟨#[c]⟩ (Nat.le_refl 1) 0 _ _ rfl] at h
  exact h
def SplitSays (ws : List (List UInt8)) (W : World) (e : Ending) (w' : World) : Prop :=
  e = .returned (.slice (some ⟨W.heap.size, 0, none⟩) ws.length ws.length) ∧ (∀ k (hk : k < ws.length), w'.cell? ⟨W.heap.size, k, none⟩ = some (.string ⟨ws[k].toArray⟩)) ∧ W.heap.size < w'.heap.size ∧ Below W.heap.size W w'
theorem splitLib_any (l : List UInt8) (c : UInt8) (W : World) (hE : Env W) (hl : l.length ≤ 100000) :
    Calls Tryz.prog 110 #[.string ⟨l.toArray⟩, .string ⟨#[c]⟩] W (SplitSays (Tx.spl c l) W) := by
  obtain ⟨_, ⟨m, hm⟩, _⟩ := hE
  refine (Tryz.strings_Split ⟨l.toArray⟩ ⟨#[c]⟩ m W (by show l.toArray.size < _; simp; omega) hm (Nat.le_refl 1)).mono fun e w' ⟨he, hw⟩ => ?_
  rw [countB_is] at he
  rw [splitB_is, List.map_map] at hw
  subst hw
  refine ⟨he, fun k hk => ?_, by simp, (Below.refl _ W).alloc (Nat.le_refl _) _⟩
  rw [World.cell?_alloc_new]
  simp [hk]

set_option maxRecDepth 20000 in
set_option maxHeartbeats 1000000 in
theorem word_ok (R g : Nat) (x : List UInt8) (ws : List (List UInt8)) (w : World) (h : RdAt w R g (x :: ws)) (hl : ws.length ≤ 1000000) :
    Calls Tryz.prog 125 #[.pointer (some ⟨R, 0, none⟩)] w fun e w' => e = .returned (.string ⟨x.toArray⟩) ∧ RdAt w' R g ws ∧ Kb R w w' := by
  obtain ⟨off, cap, h1, h2, h3, h4, h5⟩ := h
  have RQ := Lib.hid (fun W => require_ok W)
  have c0 : w.cell? ⟨R, 0, none⟩ = some (.slice (some ⟨g, off, none⟩) (ws.length + 1) cap) := h1.cell 0
  have f0 := h1.frozen 0
  have d0 : w.cell? ⟨g, off, none⟩ = some (.string ⟨x.toArray⟩) := h5 0 (by simp)
  have hcap : ws.length + 1 ≤ cap := h2
  have HS : Hid (∀ o c', (ws.length = 0 ∨ o = off + 1) → ws.length ≤ c' → RdAt (w.setCell ⟨R, 0, none⟩ (.slice (some ⟨g, o, none⟩) ws.length c')) R g ws) := Lib.hid fun o c' ho hc => ⟨o, c', h1.set 0 _, hc, by simpa [World.setCell] using h3, h4, fun k hk => by
    obtain rfl : o = off + 1 := by omega
    refine (World.cell?_of_block (w := w) (Below.heap_setCell _ _ _ _ h4)).trans ?_
    have := h5 (k + 1) (by simp; omega)
    rw [show off + 1 + k = off + (k + 1) by omega]
    simpa using this⟩
  clear h1 h2 h3 h4 h5
  go_enter Tryz.func125, Tryz.ntmps125
  go_wp2_with fail
  refine (RQ.out _).mono ?_
  rintro e w1 ⟨rfl, rfl⟩
  go_wp2
  all_goals
    go_ret
    exact ⟨rfl, HS.out _ _ (by omega) (by omega), (Kb.refl R w).own 0 _⟩
end Go.Proofs.YtobolflgoljafaaGreatDoor
namespace Go.Proofs.YtobolflgoljafaaGreatDoor
open Go.RowKit Go.Sort

set_option maxRecDepth 20000 in
set_option maxHeartbeats 1000000 in
theorem number_ok (w0 : World) (R g : Nat) (n : Int) (ws : List (List UInt8)) (w : World) (hE : Env w0) (hW : Below w0.heap.size w0 w) (hR : w0.heap.size ≤ R) (h : RdAt w R g (Lib.itoa n :: ws)) (hl : ws.length ≤ 1000000) (h1 : -100000 ≤ n) (h2 : n ≤ 100000) :
    Calls Tryz.prog 128 #[.pointer (some ⟨R, 0, none⟩)] w fun e w' => e = .returned (.int .i64 n) ∧ RdAt w' R g ws ∧ Kb R w w' := by
  have WO := Lib.hid (word_ok R g _ ws w h hl)
  have RQ := Lib.hid (fun W => require_ok W)
  have hlen := itoa_len (n := n) (by omega) (by omega)
  have AT := Lib.hid (fun W => atoi_ok ⟨(Lib.itoa n).toArray⟩ W (by show (Lib.itoa n).toArray.size ≤ _; simp; omega) (v := n) (by show Lib.atoiAll (Lib.itoa n).toArray.toList = _; rw [List.toList_toArray]; exact Tx.atoi_itoa (by omega) (by omega)))
  have IT := Lib.hid (fun W (hX : Below w0.heap.size w0 W) => itoa_any n W (hE.all hX) (by omega) (by omega))
  have IF := Lib.hid (fun W => isFrom_any (-100000) 100000 n W)
  rw [show fromB (-100000) 100000 n = true from (fromB_iff _ _ _).2 ⟨h1, h2⟩] at IF
  have HW := Lib.hid hW
  clear h hE hW h1 h2 hlen
  generalize Lib.itoa n = t at *
  go_enter Tryz.func128, Tryz.ntmps128
  go_wp2_with fail
  refine WO.out.mono ?_
  rintro e w1 ⟨rfl, hr1, hk1⟩
  have HA := Lib.hid (And.intro hr1 hk1)
  clear hr1 hk1 WO
  go_wp2_with fail
  refine (AT.out _).mono ?_
  rintro e w2 ⟨rfl, hb2⟩
  have HB := Lib.hid (And.intro (HA.out.1.below hb2) (HA.out.2.below hb2))
  clear HA hb2 AT
  go_wp2_with fail
  refine (IF.out _).mono ?_
  rintro e w3 ⟨rfl, rfl⟩
  go_wp2_with fail
  refine (RQ.out _).mono ?_
  rintro e w3 ⟨rfl, rfl⟩
  go_wp2_with fail
  refine (IT.out _ (below_kb HW.out hR HB.out.2)).mono ?_
  rintro e w3 ⟨rfl, hb3⟩
  have HC := Lib.hid (And.intro (HB.out.1.below hb3) (HB.out.2.below hb3))
  clear HB hb3 IT
  go_wp2_with fail
  refine (RQ.out _).mono ?_
  rintro e w4 ⟨rfl, rfl⟩
  go_wp2
  go_ret
  exact ⟨rfl, HC.out⟩

theorem made_intsB (n : Nat) (hn : n ≤ 100000) : ∀ W : World, (Instr.makeSlice 22 (.int .i64 (n : Int)) (.int .i64 (n : Int))).run Tryz.prog W = .ok (.slice (some ⟨W.heap.size, 0, none⟩) n n) (W.alloc (.cells (fnC n (fun _ => 0)) 3)) := by
  intro W
  obtain ⟨i0, hi, hz0, hz1, hz2⟩ := info_parts infoInt
  have := run_makeSlice (P := Tryz.prog) (w := W) 22 3 i0 (.int .i64 0) Tryz.underlying22 hi hz0 .i64 .i64 (n : Int) (n : Int) (by omega) (by omega) (by rw [hz1]; omega) (by rw [hz2]; omega) (by omega)
  rw [this, hz1, Nat.mul_one, show ((n : Int)).toNat = n by omega, show (Value.int .i64 0).cells = #[.int .i64 0] from rfl, cellsInts, fnC_zero]
/-- The digit at a place of a text. -/
def digF (s : ByteArray) (i : Nat) : Int := (s.data.toList.getD i 0).toNat - 48
def allDig (s : ByteArray) : Prop := ∀ i, i < s.size → fromB 0 9 (digF s i) = true

set_option maxRecDepth 20000 in
set_option maxHeartbeats 1000000 in
theorem digits_ok (s : ByteArray) (w : World) (hs : s.size ≤ 100000) (hd : allDig s) :
    Calls Tryz.prog 129 #[.string s, .int .i64 (s.size : Int)] w fun e w' => e = .returned (.slice (some ⟨w.heap.size, 0, none⟩) s.size s.size) ∧ BlockAt w' w.heap.size (fnC s.size (digF s)) 3 ∧ Below w.heap.size w w' := by
  have RQ := Lib.hid (fun W => require_ok W)
  have MK := made_intsB s.size hs
  have IF := Lib.hid (fun (x : Int) W => isFrom_any 0 9 x W)
  have HD := Lib.hid (show ∀ i, i < s.size → fromB 0 9 (digF s i) = true from hd)
  have hne : ((s.size : Int) == (s.size : Int)) = true := beq_self_eq_true _
  have H0 : Hid (BlockAt (w.alloc (.cells (fnC s.size (fun _ => 0)) 3)) w.heap.size (fnC s.size (upTo (digF s) 0)) 3 ∧ Below w.heap.size w (w.alloc (.cells (fnC s.size (fun _ => 0)) 3))) := Lib.hid ⟨by rw [upTo_zero]; exact BlockAt.new w _ _, below_alloc (Below.refl _ _) _⟩
  have HF := Lib.hid (fnC_all (digF s) s.size)
  have HU := Lib.hid (fun k => upTo_upd (digF s) k)
  have HAT := Lib.hid (fun (f : Nat → Int) (i : Nat) (h : i < s.size) => fnC_at (n := s.size) (f := f) h)
  have HST := Lib.hid (fun (f : Nat → Int) (i : Nat) (v : Int) => fnC_set s.size f i v)
  have hsz : s.data.toList.length = s.size := by rw [Array.length_toList]; rfl
  have HDG : Hid (∀ k (hk : k < s.size), digF s k = ((s[k]'hk).toNat : Int) - 48) := Lib.hid fun k hk => by
    unfold digF
    rw [List.getD_eq_getElem?_getD, List.getElem?_eq_getElem (by omega)]
    rfl
  clear hd hsz
  generalize digF s = F at *
  go_enter Tryz.func129, Tryz.ntmps129
  go_wp2_with fail
  refine (RQ.out _).mono ?_
  rintro e w1 ⟨rfl, rfl⟩
  go_wp2
  clear MK hne
  go_loopw [16] (fun t wr => ∃ k : Nat, k ≤ s.size ∧ t = .int .i64 k ∧ Hid (BlockAt wr w.heap.size (fnC s.size (upTo F k)) 3 ∧ Below w.heap.size w wr)) (fun t _ => s.size - (intOf t).toNat)
  case atStart => exact ⟨0, Nat.zero_le _, rfl, H0⟩
  case round =>
    obtain ⟨k, hk, rfl, hg⟩ := hrel
    clear H0
    by_cases hlt : k < s.size
    · have c0 : World.cell? _ _ = some (.int .i64 (upTo F k k)) := (hg.out.1.cell k).trans (HAT.out _ k hlt)
      have f0 := hg.out.1.frozen k
      have HK := Lib.hid (HDG.out k hlt)
      have hb := (s[k]'hlt).toNat_lt
      have g1 : IntKind.i64.wrap (((s[k]'hlt).toNat : Int) - 48) = ((s[k]'hlt).toNat : Int) - 48 := IntWalk.i64_in _ ⟨by omega, by omega⟩
      have HN : Hid (BlockAt (wr.setCell ⟨w.heap.size, k, none⟩ (.int .i64 (((s[k]'hlt).toNat : Int) - 48))) w.heap.size (fnC s.size (upTo F (k + 1))) 3 ∧ Below w.heap.size w (wr.setCell ⟨w.heap.size, k, none⟩ (.int .i64 (((s[k]'hlt).toNat : Int) - 48)))) := Lib.hid ⟨by
        have := hg.out.1.set k (.int .i64 (((s[k]'hlt).toNat : Int) - 48))
        rw [HST.out, ← HK.out, HU.out] at this
        rw [← HK.out]; exact this, hg.out.2.setCell (Nat.le_refl _) _⟩
      have IK := Lib.hid (IF.out (((s[k]'hlt).toNat : Int) - 48))
      have hd := HD.out k hlt
      rw [HK.out] at hd
      rw [hd] at IK
      clear hd hg
      go_wp2_with fail
      refine (IK.out _).mono ?_
      rintro e w2 ⟨rfl, rfl⟩
      go_wp2_with fail
      refine (RQ.out _).mono ?_
      rintro e w2 ⟨rfl, rfl⟩
      go_wp2
      go_roundw
      case rel => exact ⟨k + 1, by omega, by go_num, HN⟩
      case measure => simp [intOf]; omega
    · obtain rfl : k = s.size := by omega
      have HG := Lib.hid hg.out
      clear hg
      go_wp2
      go_ret
      exact ⟨rfl, by rw [← HF.out]; exact HG.out.1, HG.out.2⟩
end Go.Proofs.YtobolflgoljafaaGreatDoor
namespace Go.Proofs.YtobolflgoljafaaGreatDoor
open Go.RowKit Go.Sort

/-- The digits of rows. -/
def rowV (r : List UInt8) : List Int := fnL r.length (digF ⟨r.toArray⟩)
def rowsV (rs : List (List UInt8)) : List Int := rs.flatMap rowV
theorem rowsV_snoc (rs : List (List UInt8)) (r : List UInt8) : rowsV (rs ++ [r]) = rowsV rs ++ rowV r := by simp [rowsV]
theorem Kb.ofBelow {bm : Nat} {w w1 w2 : World} (h : Kb bm w w1) (k : Below w1.heap.size w1 w2) : Kb bm w w2 := h.below k

set_option maxRecDepth 20000 in
set_option maxHeartbeats 1000000 in
theorem rows_ok (w0 : World) (R g : Nat) (width height : Int) (x : List UInt8) (ws : List (List UInt8)) (w : World) (hE : Env w0) (hW : Below w0.heap.size w0 w) (hR : w0.heap.size ≤ R) (h : RdAt w R g (x :: ws)) (hl : ws.length ≤ 1000000) (hx : x.length ≤ 100000)
    (h1 : 1 ≤ width) (hw2 : width ≤ 100000) (hh : ((Tx.spl 47 x).length : Int) = height) (hrs : ∀ r ∈ Tx.spl 47 x, (r.length : Int) = width ∧ allDig ⟨r.toArray⟩) (hn : (rowsV (Tx.spl 47 x)).length ≤ 100000) :
    Calls Tryz.prog 142 #[.pointer (some ⟨R, 0, none⟩), .int .i64 width, .int .i64 height] w fun e w' => ∃ u, e = .returned u ∧ OwnI w.heap.size w' u (rowsV (Tx.spl 47 x)) ∧ RdAt w' R g ws ∧ Kb R w w' := by
  obtain ⟨i0, hi, hz0, hz1, hz2⟩ := info_parts infoInt
  have WO := Lib.hid (word_ok R g _ ws w h hl)
  have RQ := Lib.hid (fun W => require_ok W)
  have SP := Lib.hid (fun W (hX : Below w0.heap.size w0 W) => splitLib_any x 47 W (hE.all hX) hx)
  have HW := Lib.hid hW
  have hln := Tx.spl_len 47 x
  clear h hE hW
  unfold SplitSays at SP
  generalize hrsd : Tx.spl 47 x = rs at *
  have hne : ((rs.length : Int) == height) = true := beq_iff_eq.2 hh
  have hwd : decide (0 < width) = true := decide_eq_true (by omega)
  have HRS := Lib.hid hrs
  have HN : Hid (∀ k, k < rs.length → (rowsV (rs.take k)).length + (rowV (rs.getD k [])).length ≤ 100000 ∧ rowsV (rs.take (k + 1)) = rowsV (rs.take k) ++ rowV (rs.getD k [])) := Lib.hid fun k hk => by
    have e : rs.take (k + 1) = rs.take k ++ [rs.getD k []] := by rw [List.take_succ_eq_append_getElem hk]; simp [hk]
    have e2 : rowsV (rs.take (k + 1)) = rowsV (rs.take k) ++ rowV (rs.getD k []) := by rw [e, rowsV_snoc]
    refine ⟨?_, e2⟩
    have e3 : rowsV rs = rowsV (rs.take (k + 1)) ++ rowsV (rs.drop (k + 1)) := by
      unfold rowsV
      rw [← List.flatMap_append, List.take_append_drop]
    rw [e3, e2, List.length_append, List.length_append] at hn
    omega
  have hrl : rs.length ≤ 100001 := by omega
  clear hrs hh hln hrsd hn
  go_enter Tryz.func142, Tryz.ntmps142
  go_wp2_with fail
  refine WO.out.mono ?_
  rintro e w1 ⟨rfl, hr1, hk1⟩
  have HA := Lib.hid (And.intro hr1 hk1)
  clear hr1 hk1 WO
  go_wp2_with fail
  refine (SP.out _ (below_kb HW.out hR HA.out.2)).mono ?_
  rintro e w2 ⟨rfl, hcell, hlt1, hb2⟩
  have HB := Lib.hid (And.intro hcell (And.intro hlt1 hb2))
  clear hcell hb2 hlt1 SP
  go_wp2_with fail
  refine (RQ.out _).mono ?_
  rintro e w3 ⟨rfl, rfl⟩
  go_wp2
  clear hne hwd
  go_loopw [8, 25] (fun s t wr => ∃ (k : Nat), k ≤ rs.length ∧ t = .int .i64 k ∧ Hid (OwnI w2.heap.size wr s (rowsV (rs.take k)) ∧ Below w2.heap.size w2 wr)) (fun _ t _ => rs.length - (intOf t).toNat)
  case atStart => exact ⟨0, Nat.zero_le _, rfl, Lib.hid ⟨OwnI.nil _ _, Below.refl _ _⟩⟩
  case round =>
    obtain ⟨k, hk, rfl, hg⟩ := hrel
    by_cases hlt : k < rs.length
    · have c0 := (hg.out.2.cell (p := ⟨w1.heap.size, k, none⟩) HB.out.2.1).trans (HB.out.1 k hlt)
      obtain ⟨hr1, hr2⟩ := HRS.out _ (List.getElem_mem hlt)
      obtain ⟨hn1, hn2⟩ := HN.out k hlt
      rw [show rs.getD k [] = rs[k] by simp [hlt]] at hn1 hn2
      have HN2 := Lib.hid hn2
      generalize rs[k] = r at *
      have hrl2 : r.length ≤ 100000 := by omega
      have hsz : (⟨r.toArray⟩ : ByteArray).size = r.length := by show r.toArray.size = _; simp
      have DG := Lib.hid (fun W => digits_ok ⟨r.toArray⟩ W (by omega) hr2)
      rw [hsz] at DG
      rw [show (r.length : Int) = width from hr1] at DG
      have HLV : Hid ((rowV r).length = r.length) := Lib.hid (by unfold rowV; rw [fnL_len])
      have hn3 : (rowsV (rs.take k)).length + r.length ≤ 100000 := by rw [← HLV.out]; exact hn1
      have HV : Hid (rowV r = fnL r.length (digF ⟨r.toArray⟩)) := Lib.hid rfl
      have hown := hg.out.1
      have hwg := hg.out.2
      obtain ⟨sa, sc, rfl⟩ := hown.form
      have HO := Lib.hid (And.intro hown hwg)
      clear hr1 hr2 hn1 hn2 hg hown hwg hsz
      generalize hD : digF ⟨r.toArray⟩ = F at *
      generalize rowV r = rv at *
      generalize hRK : rowsV (rs.take k) = rk at *
      clear hD hRK
      go_wp2_with fail
      refine (DG.out _).mono ?_
      rintro e w4 ⟨rfl, hblk, hb4⟩
      have hrow := (HO.out.1.all hb4)
      have hw4 := HO.out.2.trans (hb4.mono HO.out.2.size)
      have hca := ints_news (W := w4) (b := wr.heap.size) (off := 0) (xs := fnL r.length F) (fun j hj => by
        rw [fnL_len] at hj
        rw [Nat.zero_add]
        refine (hblk.cell j).trans ((fnC_at hj).trans ?_)
        simp [fnL, hj])
      have hsz4 := hw4.size
      have HP := Lib.hid (And.intro hrow hw4)
      clear hblk hb4 DG c0
      go_wp2_with (at_builtin; refine wpList_append_own _ rfl _ _ 22 rfl w2.heap.size 3 i0 (.int .i64 0) 1 8 Tryz.underlying22 hi hz0 hz1 hz2 rfl (by decide) _ _ _ rfl hrow ⟨wr.heap.size, 0, none⟩ r.length r.length (cellsL (fnL r.length F)) rfl (by rw [cellsL_len, fnL_len]; omega) hca (cellsL_one _) (by unfold maxLen; omega) (by omega) hsz4 ?_)
      intro v' w5 hown5 hgrow _
      have HQ : Hid (OwnI w2.heap.size w5 v' (rowsV (rs.take (k + 1))) ∧ Below w2.heap.size w2 w5) := Lib.hid ⟨by
        rw [HN2.out, HV.out]
        unfold OwnI
        rw [cellsL_append, List.length_append, fnL_len]
        exact hown5, HP.out.2.grown hgrow HP.out.2.size (fun j e => (World.ownsRow.lt hrow j e).1)⟩
      clear hown5 hgrow hrow hw4 hca
      go_wp2
      go_roundw
      case rel => exact ⟨k + 1, by omega, by go_num, HQ⟩
      case measure => simp [intOf]; omega
    · obtain rfl : k = rs.length := by omega
      have HG := Lib.hid hg.out
      rw [List.take_length] at HG
      clear hg
      go_wp2
      go_ret
      exact ⟨_, rfl, HG.out.1.mono (Nat.le_trans HA.out.2.size HB.out.2.2.size), (HA.out.1.below HB.out.2.2).below HG.out.2, (HA.out.2.below HB.out.2.2).below HG.out.2⟩
end Go.Proofs.YtobolflgoljafaaGreatDoor
namespace Go.Proofs.YtobolflgoljafaaGreatDoor
open Go.RowKit Go.Sort

theorem RdAt.other {W : World} {R g B i : Nat} {ws : List (List UInt8)} (h : RdAt W R g ws) (h1 : R ≠ B) (h2 : g ≠ B) (u : Value) : RdAt (W.setCell ⟨B, i, none⟩ u) R g ws := by
  obtain ⟨off, cap, g1, g2, g3, g4, g5⟩ := h
  exact ⟨off, cap, g1.other h1 _, g2, by simpa [World.setCell] using g3, g4, fun k hk => (World.cell?_of_block (w := W) (Below.heap_setCell _ _ _ _ h2)).trans (g5 k hk)⟩

set_option maxRecDepth 20000 in
set_option maxHeartbeats 2000000 in
theorem bricks_ok (w0 : World) (R g : Nat) (A C d : Int) (x : List UInt8) (ws : List (List UInt8)) (w : World) (hE : Env w0) (hW : Below w0.heap.size w0 w) (hR : w0.heap.size ≤ R) (h : RdAt w R g (Lib.itoa A :: Lib.itoa C :: Lib.itoa d :: x :: ws)) (hl : ws.length ≤ 10000) (hx : x.length ≤ 100000)
    (h1 : 1 ≤ A) (h2 : A ≤ 100000) (h3 : 0 ≤ C) (h4 : C ≤ 100000) (h5 : -100000 ≤ d) (h6 : d ≤ 100000) (hh : ((Tx.spl 47 x).length : Int) = C) (hrs : ∀ r ∈ Tx.spl 47 x, (r.length : Int) = A ∧ allDig ⟨r.toArray⟩) (hn : (rowsV (Tx.spl 47 x)).length ≤ 100000) :
    Calls Tryz.prog 127 #[.pointer (some ⟨R, 0, none⟩)] w fun e w' => ∃ u, e = .returned (patV ⟨A, d % A, C⟩ u) ∧ OwnI w.heap.size w' u (rowsV (Tx.spl 47 x)) ∧ RdAt w' R g ws ∧ Kb R w w' := by
  have hlt := h.lt
  have hgt := h.lt2
  have N1 := Lib.hid (fun W (hX : Below w0.heap.size w0 W) (hr : RdAt W R g _) => number_ok w0 R g A (Lib.itoa C :: Lib.itoa d :: x :: ws) W hE hX hR hr (by simp; omega) (by omega) (by omega))
  have N2 := Lib.hid (fun W (hX : Below w0.heap.size w0 W) (hr : RdAt W R g _) => number_ok w0 R g C (Lib.itoa d :: x :: ws) W hE hX hR hr (by simp; omega) (by omega) (by omega))
  have N3 := Lib.hid (fun W (hX : Below w0.heap.size w0 W) (hr : RdAt W R g _) => number_ok w0 R g d (x :: ws) W hE hX hR hr (by simp; omega) (by omega) (by omega))
  have RS := Lib.hid (fun W (hX : Below w0.heap.size w0 W) (hr : RdAt W R g _) => rows_ok w0 R g A C x ws W hE hX hR hr (by omega) hx h1 h2 hh hrs hn)
  have MD := Lib.hid (fun W => modulo_any d A W h1 (by omega) (by omega) (by omega))
  have b0 := BlockAt.new w #[.int .i64 0, .int .i64 0, .int .i64 0, .slice none 0 0] 24
  have H0 := Lib.hid (And.intro (h.below ((Below.refl _ _).alloc (Nat.le_refl _) (.cells #[.int .i64 0, .int .i64 0, .int .i64 0, .slice none 0 0] 24))) (And.intro b0 ((Kb.refl R w).alloc (.cells #[.int .i64 0, .int .i64 0, .int .i64 0, .slice none 0 0] 24))))
  have HW := Lib.hid (fun W' (k : Kb R w W') => below_kb hW hR k)
  have hne : w.heap.size ≠ R := by omega
  clear h hE hW hrs hh b0 hn
  generalize rowsV (Tx.spl 47 x) = cells at *
  generalize d % A = dm at *
  generalize Lib.itoa A = tA at *
  generalize Lib.itoa C = tC at *
  generalize Lib.itoa d = td at *
  go_enter Tryz.func127, Tryz.ntmps127
  go_wp2_with fail
  refine (N1.out _ (HW.out _ H0.out.2.2) H0.out.1).mono ?_
  rintro e w1 ⟨rfl, hr, hk⟩
  have H1 := Lib.hid (And.intro hr (And.intro (H0.out.2.1.kb hk hne) (H0.out.2.2.trans hk)))
  clear hr hk H0 N1
  go_wp2_with fail
  refine (N2.out _ (HW.out _ H1.out.2.2) H1.out.1).mono ?_
  rintro e w2 ⟨rfl, hr, hk⟩
  have hb2 := BlockAt.new w2 #[.int .i64 A, .int .i64 0, .int .i64 C, .slice none 0 0] 24
  have hsz2 := (H1.out.2.2.trans hk).size
  have H2 := Lib.hid (And.intro (hr.below ((Below.refl _ _).alloc (Nat.le_refl _) (.cells #[.int .i64 A, .int .i64 0, .int .i64 C, .slice none 0 0] 24))) (And.intro ((H1.out.2.1.kb hk hne).alloc (.cells #[.int .i64 A, .int .i64 0, .int .i64 C, .slice none 0 0] 24)) (And.intro hb2 ((H1.out.2.2.trans hk).alloc (.cells #[.int .i64 A, .int .i64 0, .int .i64 C, .slice none 0 0] 24)))))
  have hlt2 := (H1.out.2.1.kb hk hne).lt
  have hrlt2 := hr.lt
  clear hr hk H1 N2 hb2
  have hne2 : w2.heap.size ≠ R := by omega
  go_wp2_with fail
  refine (N3.out _ (HW.out _ H2.out.2.2.2) H2.out.1).mono ?_
  rintro e w3 ⟨rfl, hr, hk⟩
  have H3 := Lib.hid (And.intro hr (And.intro (H2.out.2.1.kb hk hne) (And.intro (H2.out.2.2.1.kb hk hne2) (H2.out.2.2.2.trans hk))))
  clear hr hk H2 N3
  have c0 : World.cell? _ _ = some (.int .i64 A) := H3.out.2.2.1.cell 0
  have c2 : World.cell? _ _ = some (.int .i64 C) := H3.out.2.2.1.cell 2
  go_wp2_with fail
  refine (RS.out _ (HW.out _ H3.out.2.2.2) H3.out.1).mono ?_
  rintro e w4 ⟨u, rfl, hown, hr, hk⟩
  obtain ⟨ua, uc, rfl⟩ := hown.form
  have hsz3 := H3.out.2.2.1.lt
  have hB4 := H3.out.2.2.1.kb hk hne2
  have c0 : World.cell? _ _ = some (.int .i64 A) := hB4.cell 0
  have c2 : World.cell? _ _ = some (.int .i64 C) := hB4.cell 2
  have c1 : World.cell? _ _ = some (.int .i64 0) := hB4.cell 1
  have c3 : World.cell? _ _ = some (.slice none 0 0) := hB4.cell 3
  have f1 := hB4.frozen 1
  have f3 := hB4.frozen 3
  have hlt4 := hB4.lt
  have hP4 := H3.out.2.1.kb hk hne
  have d0 : World.cell? _ _ = some (.int .i64 0) := hP4.cell 0
  have d1 : World.cell? _ _ = some (.int .i64 0) := hP4.cell 1
  have d2 : World.cell? _ _ = some (.int .i64 0) := hP4.cell 2
  have d3 : World.cell? _ _ = some (.slice none 0 0) := hP4.cell 3
  have r0 := hP4.frozen 0
  have r1 := hP4.frozen 1
  have r2 := hP4.frozen 2
  have r3 := hP4.frozen 3
  have hplt := hP4.lt
  have hne3 : ¬ w2.heap.size = w.heap.size := by omega
  have hne4 : ¬ w.heap.size = w2.heap.size := by omega
  have HZ := Lib.hid (And.intro hr (And.intro hown (H3.out.2.2.2.trans hk)))
  have HS3 := Lib.hid H3.out.2.2.2.size
  clear hr hk hown hB4 hP4 H3 RS
  go_wp2_with fail
  refine (MD.out _).mono ?_
  rintro e w5 ⟨rfl, rfl⟩
  go_wp2
  refine bodyPost_ret (v := patV ⟨A, dm, C⟩ (.slice ua cells.length uc)) (by simp [results, Tryz.results127, go_sem, d0, d1, d2, d3]) rfl ⟨_, rfl, ?_, ?_, ?_⟩
  · have h0 := HS3.out
    have h1 := HZ.out.2.1
    refine OwnI.mono (base := w3.heap.size) ?_ h0
    repeat (refine OwnI.setOld ?_ (by dsimp only; omega) _)
    exact h1
  · repeat (refine RdAt.other ?_ (by omega) (by omega) _)
    exact HZ.out.1
  · repeat (refine Kb.set ?_ (by dsimp only; omega) _)
    exact HZ.out.2.2
end Go.Proofs.YtobolflgoljafaaGreatDoor
namespace Go.Proofs.YtobolflgoljafaaGreatDoor
open Go.RowKit Go.Sort

abbrev bricksW : List UInt8 := [98, 114, 105, 99, 107, 115]
abbrev exprZ : Array Value := #[.string ⟨#[]⟩, .int .i64 0, .int .i64 0, .int .i64 0, .slice none 0 0, .slice none 0 0, .slice none 0 0]
abbrev exprV (k : ByteArray) (l : Pt.Lat) (u n p : Value) : Value := .agg #[.string k, .int .i64 l.a, .int .i64 l.b, .int .i64 l.c, u, n, p]

set_option maxRecDepth 20000 in
set_option maxHeartbeats 2000000 in
theorem expr_ok (w0 : World) (R g : Nat) (A C d : Int) (x : List UInt8) (ws : List (List UInt8)) (w : World) (hE : Env w0) (hW : Below w0.heap.size w0 w) (hR : w0.heap.size ≤ R) (h : RdAt w R g (bricksW :: Lib.itoa A :: Lib.itoa C :: Lib.itoa d :: x :: ws)) (hl : ws.length ≤ 10000) (hx : x.length ≤ 100000)
    (h1 : 1 ≤ A) (h2 : A ≤ 100000) (h3 : 0 ≤ C) (h4 : C ≤ 100000) (h5 : -100000 ≤ d) (h6 : d ≤ 100000) (hh : ((Tx.spl 47 x).length : Int) = C) (hrs : ∀ r ∈ Tx.spl 47 x, (r.length : Int) = A ∧ allDig ⟨r.toArray⟩) (hn : (rowsV (Tx.spl 47 x)).length ≤ 100000) :
    Calls Tryz.prog 111 #[.pointer (some ⟨R, 0, none⟩), .int .i64 1] w fun e w' => ∃ u, e = .returned (exprV ⟨bricksW.toArray⟩ ⟨A, d % A, C⟩ u (.slice none 0 0) (.slice none 0 0)) ∧ OwnI w.heap.size w' u (rowsV (Tx.spl 47 x)) ∧ RdAt w' R g ws ∧ Kb R w w' := by
  have hlt := h.lt
  have hgt := h.lt2
  have RQ := Lib.hid (fun W => require_ok W)
  have WO := Lib.hid (fun W (hr : RdAt W R g _) => word_ok R g bricksW (Lib.itoa A :: Lib.itoa C :: Lib.itoa d :: x :: ws) W hr (by simp; omega))
  have BR := Lib.hid (fun W (hX : Below w0.heap.size w0 W) (hr : RdAt W R g _) => bricks_ok w0 R g A C d x ws W hE hX hR hr hl hx h1 h2 h3 h4 h5 h6 hh hrs hn)
  have b0 := BlockAt.new w exprZ 90
  have H0 := Lib.hid (And.intro (h.below ((Below.refl _ _).alloc (Nat.le_refl _) (.cells exprZ 90))) (And.intro b0 ((Kb.refl R w).alloc (.cells exprZ 90))))
  have HW := Lib.hid (fun W' (k : Kb R w W') => below_kb hW hR k)
  have hne : w.heap.size ≠ R := by omega
  clear h hE hW hrs hh b0 hn
  generalize rowsV (Tx.spl 47 x) = cells at *
  generalize d % A = dm at *
  go_enter Tryz.func111, Tryz.ntmps111
  go_wp2_with fail
  refine (RQ.out _).mono ?_
  rintro e w1 ⟨rfl, rfl⟩
  go_wp2_with fail
  refine (WO.out _ H0.out.1).mono ?_
  rintro e w1 ⟨rfl, hr, hk⟩
  have hb2 := BlockAt.new w1 #[.string ⟨bricksW.toArray⟩, .int .i64 0, .int .i64 0, .int .i64 0, .slice none 0 0, .slice none 0 0, .slice none 0 0] 90
  have hsz2 := (H0.out.2.2.trans hk).size
  have hlt2 := (H0.out.2.1.kb hk hne).lt
  have hrlt2 := hr.lt
  have hne2 : w1.heap.size ≠ R := by omega
  have H1 := Lib.hid (And.intro (hr.below ((Below.refl _ _).alloc (Nat.le_refl _) (.cells #[.string ⟨bricksW.toArray⟩, .int .i64 0, .int .i64 0, .int .i64 0, .slice none 0 0, .slice none 0 0, .slice none 0 0] 90))) (And.intro ((H0.out.2.1.kb hk hne).alloc (.cells #[.string ⟨bricksW.toArray⟩, .int .i64 0, .int .i64 0, .int .i64 0, .slice none 0 0, .slice none 0 0, .slice none 0 0] 90)) (And.intro hb2 ((H0.out.2.2.trans hk).alloc (.cells #[.string ⟨bricksW.toArray⟩, .int .i64 0, .int .i64 0, .int .i64 0, .slice none 0 0, .slice none 0 0, .slice none 0 0] 90)))))
  clear hr hk hb2 H0 WO
  go_wp2_with fail
  refine (BR.out _ (HW.out _ H1.out.2.2.2) H1.out.1).mono ?_
  rintro e w2 ⟨u, rfl, hown, hr, hk⟩
  obtain ⟨ua, uc, rfl⟩ := hown.form
  have hB2 := H1.out.2.2.1.kb hk hne2
  have hP2 := H1.out.2.1.kb hk hne
  have c0 : World.cell? _ _ = some (.string ⟨bricksW.toArray⟩) := hB2.cell 0
  have c1 : World.cell? _ _ = some (.int .i64 0) := hB2.cell 1
  have c2 : World.cell? _ _ = some (.int .i64 0) := hB2.cell 2
  have c3 : World.cell? _ _ = some (.int .i64 0) := hB2.cell 3
  have c4 : World.cell? _ _ = some (.slice none 0 0) := hB2.cell 4
  have c5 : World.cell? _ _ = some (.slice none 0 0) := hB2.cell 5
  have c6 : World.cell? _ _ = some (.slice none 0 0) := hB2.cell 6
  have f1 := hB2.frozen 1
  have f2 := hB2.frozen 2
  have f3 := hB2.frozen 3
  have f4 := hB2.frozen 4
  have d0 : World.cell? _ _ = some (.string ⟨#[]⟩) := hP2.cell 0
  have d1 : World.cell? _ _ = some (.int .i64 0) := hP2.cell 1
  have d2 : World.cell? _ _ = some (.int .i64 0) := hP2.cell 2
  have d3 : World.cell? _ _ = some (.int .i64 0) := hP2.cell 3
  have d4 : World.cell? _ _ = some (.slice none 0 0) := hP2.cell 4
  have d5 : World.cell? _ _ = some (.slice none 0 0) := hP2.cell 5
  have d6 : World.cell? _ _ = some (.slice none 0 0) := hP2.cell 6
  have r0 := hP2.frozen 0
  have r1 := hP2.frozen 1
  have r2 := hP2.frozen 2
  have r3 := hP2.frozen 3
  have r4 := hP2.frozen 4
  have r5 := hP2.frozen 5
  have r6 := hP2.frozen 6
  have hplt := hP2.lt
  have hblt := hB2.lt
  have hne3 : ¬ w1.heap.size = w.heap.size := by omega
  have hne4 : ¬ w.heap.size = w1.heap.size := by omega
  have HZ := Lib.hid (And.intro hr (And.intro hown (H1.out.2.2.2.trans hk)))
  clear hr hk hown hB2 hP2 H1 BR
  go_wp2
  refine bodyPost_ret (v := exprV ⟨bricksW.toArray⟩ ⟨A, dm, C⟩ (.slice ua cells.length uc) (.slice none 0 0) (.slice none 0 0)) (by simp [results, Tryz.results111, go_sem, d0, d1, d2, d3, d4, d5, d6]) rfl ⟨_, rfl, ?_, ?_, ?_⟩
  · have h1 := HZ.out.2.1
    refine OwnI.mono (base := w1.heap.size + 1) ?_ (by omega)
    repeat (refine OwnI.setOld ?_ (by dsimp only; omega) _)
    simpa using h1
  · repeat (refine RdAt.other ?_ (by omega) (by omega) _)
    exact HZ.out.1
  · repeat (refine Kb.set ?_ (by dsimp only; omega) _)
    exact HZ.out.2.2
end Go.Proofs.YtobolflgoljafaaGreatDoor
namespace Go.Proofs.YtobolflgoljafaaGreatDoor
open Go.RowKit Go.Sort

/-- What a pattern or an error is told as. -/
def ansL (E : Int) (l : Pt.Lat) : Pt.Lat := if E = 0 then l else ⟨0, 0, 0⟩
def ansC (E : Int) (l : Pt.Lat) (f : Int → Int → Int) : List Int := if E = 0 then fnL (l.a * l.c).toNat (Pt.cellF l f) else []
def PatRes (E : Int) (l : Pt.Lat) (f : Int → Int → Int) (w : World) (e : Ending) (w' : World) : Prop :=
  ∃ u, e = .returned (.tuple #[patV (ansL E l) u, .int .i64 E]) ∧ OwnI w.heap.size w' u (ansC E l f) ∧ Below w.heap.size w w'
theorem OwnF.ownI {base : Nat} {w : World} {v : Value} {n : Nat} {f : Nat → Int} (h : OwnF base w v n f) : OwnI base w v (fnL n f) := by
  unfold OwnI; rw [fnL_len]; exact h
theorem patRes_of {E : Int} {l : Pt.Lat} {f : Int → Int → Int} {w w' : World} {e : Ending}
    (h0 : E = 0 → ∃ u, e = .returned (.tuple #[patV l u, .int .i64 0]) ∧ OwnF w.heap.size w' u (l.a * l.c).toNat (Pt.cellF l f)) (h1 : E ≠ 0 → e = .returned (.tuple #[patV ⟨0, 0, 0⟩ (.slice none 0 0), .int .i64 E])) (hb : Below w.heap.size w w') : PatRes E l f w e w' := by
  unfold PatRes ansL ansC
  by_cases hE : E = 0
  · obtain ⟨u, h2, h3⟩ := h0 hE
    subst hE
    exact ⟨u, by rw [if_pos rfl]; exact h2, by rw [if_pos rfl]; exact h3.ownI, hb⟩
  · exact ⟨_, by rw [if_neg hE]; exact h1 hE, by rw [if_neg hE]; exact OwnI.nil _ _, hb⟩
theorem LeastSays.res {A B C : Int} {cs : List Int} {l0 : Pt.Lat} {w w' : World} {e : Ending} (h : LeastSays A B C cs l0 w e w') : PatRes (validE A B C cs) l0 (Pt.col ⟨A, B, C⟩ (csF cs)) w e w' := patRes_of h.1 h.2.1 h.2.2

set_option maxRecDepth 20000 in
set_option maxHeartbeats 2000000 in
theorem bricksPat_ok (A B C : Int) (v : Value) (cs : List Int) (l0 : Pt.Lat) (w : World) (hv : Ints w v cs) (hkl : cs.length ≤ 1000000000) (hA1 : -9223372036854775808 ≤ A) (hA2 : A ≤ 9223372036854775807)
    (h0 : validE A B C cs = 0 → Pt.IsB (Pt.Per (Pt.col ⟨A, B, C⟩ (csF cs))) l0) :
    Calls Tryz.prog 85 #[exprV ⟨bricksW.toArray⟩ ⟨A, B, C⟩ v (.slice none 0 0) (.slice none 0 0)] w (PatRes (validE A B C cs) l0 (Pt.col ⟨A, B, C⟩ (csF cs)) w) := by
  have LE := Lib.hid (fun W (hW : Below w.heap.size w W) => (Least_any A B C v cs l0 W (hv.all hW) hkl hA1 hA2 h0).mono fun e w' h => h.res)
  obtain ⟨va, vc, rfl, _⟩ := hv.look'
  have b0 := (BlockAt.new w #[.string ⟨bricksW.toArray⟩, .int .i64 A, .int .i64 B, .int .i64 C, .slice va cs.length vc, .slice none 0 0, .slice none 0 0] 90).alloc (.cells #[.int .i64 0, .int .i64 0, .int .i64 0, .slice none 0 0] 24)
  have b1 := BlockAt.new (w.alloc (.cells #[.string ⟨bricksW.toArray⟩, .int .i64 A, .int .i64 B, .int .i64 C, .slice va cs.length vc, .slice none 0 0, .slice none 0 0] 90)) #[.int .i64 0, .int .i64 0, .int .i64 0, .slice none 0 0] 24
  simp only [World.size_alloc] at b1
  have hw := below_alloc (below_alloc (Below.refl w.heap.size w) (.cells #[.string ⟨bricksW.toArray⟩, .int .i64 A, .int .i64 B, .int .i64 C, .slice va cs.length vc, .slice none 0 0, .slice none 0 0] 90)) (.cells #[.int .i64 0, .int .i64 0, .int .i64 0, .slice none 0 0] 24)
  have HB := Lib.hid (And.intro b0 (And.intro b1 hw))
  clear b0 b1 hw hv h0
  generalize validE A B C cs = E at *
  generalize Pt.col ⟨A, B, C⟩ (csF cs) = F at *
  unfold PatRes at LE ⊢
  generalize ansL E l0 = L at *
  generalize ansC E l0 F = K at *
  go_enter Tryz.func85, Tryz.ntmps85
  go_wp2
  go_loopw [4, 12] (fun s t wr => s = .slice none 0 0 ∧ t = .int .i64 0 ∧ Hid (BlockAt wr w.heap.size #[.string ⟨bricksW.toArray⟩, .int .i64 A, .int .i64 B, .int .i64 C, .slice va cs.length vc, .slice none 0 0, .slice none 0 0] 90 ∧ BlockAt wr (w.heap.size + 1) #[.int .i64 0, .int .i64 0, .int .i64 0, .slice none 0 0] 24 ∧ Below w.heap.size w wr)) (fun _ _ _ => 0)
  case atStart => exact ⟨rfl, rfl, HB⟩
  case round =>
    obtain ⟨rfl, rfl, hg⟩ := hrel
    have c0 : World.cell? _ _ = some (.string ⟨bricksW.toArray⟩) := hg.out.1.cell 0
    have c1 : World.cell? _ _ = some (.int .i64 A) := hg.out.1.cell 1
    have c2 : World.cell? _ _ = some (.int .i64 B) := hg.out.1.cell 2
    have c3 : World.cell? _ _ = some (.int .i64 C) := hg.out.1.cell 3
    have c4 : World.cell? _ _ = some (.slice va cs.length vc) := hg.out.1.cell 4
    go_wp2_with fail
    refine (LE.out _ hg.out.2.2).mono ?_
    rintro e w1 ⟨u, rfl, hown, hb1⟩
    obtain ⟨ua, uc, rfl⟩ := hown.form
    have hB := hg.out.2.1.below hb1 hg.out.2.1.lt
    have d0 : World.cell? _ _ = some (.int .i64 0) := hB.cell 0
    have d1 : World.cell? _ _ = some (.int .i64 0) := hB.cell 1
    have d2 : World.cell? _ _ = some (.int .i64 0) := hB.cell 2
    have d3 : World.cell? _ _ = some (.slice none 0 0) := hB.cell 3
    have r0 := hB.frozen 0
    have r1 := hB.frozen 1
    have r2 := hB.frozen 2
    have r3 := hB.frozen 3
    have hlt := hB.lt
    have hlt2 := hg.out.2.1.lt
    have HZ := Lib.hid (And.intro hown (below_step hg.out.2.2 hb1))
    clear hown hb1 hB hg c0 c1 c2 c3 c4 LE HB
    go_wp2
    refine bodyPost_ret (v := .tuple #[patV L (.slice ua K.length uc), .int .i64 E]) (by simp [results, Tryz.results85, go_sem, d0, d1, d2, d3]) rfl ⟨_, rfl, ?_, ?_⟩
    · refine OwnI.mono (base := wr.heap.size) ?_ (by omega)
      repeat (refine OwnI.setOld ?_ (by dsimp only; omega) _)
      exact HZ.out.1
    · repeat (refine Below.setCell ?_ (by dsimp only; omega) _)
      exact HZ.out.2
end Go.Proofs.YtobolflgoljafaaGreatDoor
namespace Go.Proofs.YtobolflgoljafaaGreatDoor
open Go.RowKit Go.Sort

set_option maxRecDepth 20000 in
set_option maxHeartbeats 2000000 in
theorem read_ok (A C d : Int) (x : List UInt8) (t : List UInt8) (w : World) (hE : Env w) (ht : t.length ≤ 4000) (h : Tx.spl 32 t = [bricksW, Lib.itoa A, Lib.itoa C, Lib.itoa d, x]) (hx : x.length ≤ 100000)
    (h1 : 1 ≤ A) (h2 : A ≤ 100000) (h3 : 0 ≤ C) (h4 : C ≤ 100000) (h5 : -100000 ≤ d) (h6 : d ≤ 100000) (hh : ((Tx.spl 47 x).length : Int) = C) (hrs : ∀ r ∈ Tx.spl 47 x, (r.length : Int) = A ∧ allDig ⟨r.toArray⟩) (hn : (rowsV (Tx.spl 47 x)).length ≤ 100000) :
    Calls Tryz.prog 84 #[.string ⟨t.toArray⟩] w fun e w' => ∃ u, e = .returned (exprV ⟨bricksW.toArray⟩ ⟨A, d % A, C⟩ u (.slice none 0 0) (.slice none 0 0)) ∧ OwnI w.heap.size w' u (rowsV (Tx.spl 47 x)) ∧ Below w.heap.size w w' := by
  have RQ := Lib.hid (fun W => require_ok W)
  have SP := Lib.hid (fun W (hX : Below w.heap.size w W) => splitLib_any t 32 W (hE.all hX) (by omega))
  rw [h] at SP
  unfold SplitSays at SP
  have EX := Lib.hid (fun (R g : Nat) W (hX : Below w.heap.size w W) (hR : w.heap.size ≤ R) (hr : RdAt W R g _) => expr_ok w R g A C d x [] W hE hX hR hr (by simp) hx h1 h2 h3 h4 h5 h6 hh hrs hn)
  have b0 := BlockAt.new w exprZ 90
  have hw0 := below_alloc (Below.refl w.heap.size w) (.cells exprZ 90)
  have H0 := Lib.hid (And.intro b0 hw0)
  have HF : Hid (∀ W W' : World, ∀ c, BlockAt W w.heap.size c 90 → W'.heap[w.heap.size]? = W.heap[w.heap.size]? → BlockAt W' w.heap.size c 90) := Lib.hid fun W W' c h e => e.trans h
  clear hE h hh hrs hn b0 hw0
  generalize rowsV (Tx.spl 47 x) = cells at *
  generalize d % A = dm at *
  generalize Lib.itoa A = tA at *
  generalize Lib.itoa C = tC at *
  generalize Lib.itoa d = td at *
  go_enter Tryz.func84, Tryz.ntmps84
  go_wp2_with fail
  refine (SP.out _ H0.out.2).mono ?_
  rintro e w1 ⟨rfl, hcell, hlt1, hb1⟩
  have hB1 := H0.out.1.below hb1 H0.out.1.lt
  have hw1 := below_step H0.out.2 hb1
  have hlt0 := H0.out.1.lt
  have hlt0' := hB1.lt
  simp only [World.size_alloc] at hlt1 hcell
  have hR : RdAt (w1.alloc (.cells #[.slice (some ⟨w.heap.size + 1, 0, none⟩) 5 5] 123)) w1.heap.size (w.heap.size + 1) [bricksW, tA, tC, td, x] := ⟨0, 5, BlockAt.new _ _ _, by simp, by simp; omega, by omega, fun k hk => by
    rw [Nat.zero_add]
    exact ((below_alloc (Below.refl w1.heap.size w1) _).cell (p := ⟨w.heap.size + 1, k, none⟩) hlt1).trans (hcell k hk)⟩
  have H1 := Lib.hid (And.intro hR (And.intro (hB1.alloc (.cells #[.slice (some ⟨w.heap.size + 1, 0, none⟩) 5 5] 123)) (below_alloc hw1 (.cells #[.slice (some ⟨w.heap.size + 1, 0, none⟩) 5 5] 123))))
  have HX := Lib.hid (EX.out w1.heap.size (w.heap.size + 1) _ H1.out.2.2 hw1.size H1.out.1)
  clear hcell hb1 hB1 hw1 hR SP EX
  go_wp2_with fail
  refine HX.out.mono ?_
  rintro e w2 ⟨u, rfl, hown, hr, hk⟩
  obtain ⟨ua, uc, rfl⟩ := hown.form
  have hP2 := H1.out.2.1.kb hk (by omega)
  have hw2 := below_kb H1.out.2.2 (by omega) hk
  have hr2 := hr.below ((Below.refl _ _).alloc (Nat.le_refl _) (.cells #[.string ⟨bricksW.toArray⟩, .int .i64 A, .int .i64 dm, .int .i64 C, .slice ua cells.length uc, .slice none 0 0, .slice none 0 0] 90))
  obtain ⟨off, cap, hrb, _⟩ := hr2
  have hwsz := hk.size
  simp only [World.size_alloc] at hwsz
  have hne5 : ¬ w2.heap.size = w1.heap.size := by omega
  have hne6 : ¬ w1.heap.size = w2.heap.size := by omega
  have hlt2 : w1.heap.size < w2.heap.size := by omega
  have c0 : World.cell? w2 ⟨w1.heap.size, 0, none⟩ = some (.slice (some ⟨w.heap.size + 1, off, none⟩) 0 cap) := by
    have := hrb.cell 0
    rw [World.cell?_of_block (w := w2) (Below.heap_alloc _ _ _ hlt2)] at this
    exact this
  have d0 : World.cell? _ _ = some (.string ⟨#[]⟩) := hP2.cell 0
  have d1 : World.cell? _ _ = some (.int .i64 0) := hP2.cell 1
  have d2 : World.cell? _ _ = some (.int .i64 0) := hP2.cell 2
  have d3 : World.cell? _ _ = some (.int .i64 0) := hP2.cell 3
  have d4 : World.cell? _ _ = some (.slice none 0 0) := hP2.cell 4
  have d5 : World.cell? _ _ = some (.slice none 0 0) := hP2.cell 5
  have d6 : World.cell? _ _ = some (.slice none 0 0) := hP2.cell 6
  have r0 := hP2.frozen 0
  have r1 := hP2.frozen 1
  have r2 := hP2.frozen 2
  have r3 := hP2.frozen 3
  have r4 := hP2.frozen 4
  have r5 := hP2.frozen 5
  have r6 := hP2.frozen 6
  have hplt := hP2.lt
  have hne3 : ¬ w2.heap.size = w.heap.size := by omega
  have hne4 : ¬ w.heap.size = w2.heap.size := by omega
  have HZ := Lib.hid (And.intro hown hw2)
  clear hr hk hown hrb hP2 hw2 HX H1 H0 HF
  go_wp2_with fail
  refine (RQ.out _).mono ?_
  rintro e w3 ⟨rfl, rfl⟩
  go_wp2
  refine bodyPost_ret (v := exprV ⟨bricksW.toArray⟩ ⟨A, dm, C⟩ (.slice ua cells.length uc) (.slice none 0 0) (.slice none 0 0)) (by simp [results, Tryz.results84, go_sem, d0, d1, d2, d3, d4, d5, d6, hplt]) rfl ⟨_, rfl, ?_, ?_⟩
  · have h1 := HZ.out.1
    refine OwnI.mono (base := w1.heap.size + 1) ?_ (by omega)
    refine OwnI.alloc ?_ _
    iterate 7 (refine OwnI.setOld ?_ (by dsimp only; omega) _)
    simpa using h1
  · refine below_alloc ?_ _
    iterate 7 (refine Below.setCell ?_ (by dsimp only; omega) _)
    exact HZ.out.2

theorem catch_idle (p q : Addr) (w : World) :
    CallsD Tryz.prog 83 #[.pointer (some p), .pointer (some q)] .returning w fun e u' w' => e = .returned (.tuple #[]) ∧ u' = .returning ∧ w' = w := by
  refine callsD_of_wpS Tryz.func83 rfl fun c₀ cs hu => ?_
  apply wpS_seq
  apply wpS_region
  simp [wpOpsS, go_sem, recoverD, hu, Tryz.ntmps83, Exit.thenS]
  refine wpS_cond (t := false) (by simp [Act.eval, Array.replicate]) ?_
  simp only [Bool.false_eq_true, if_false]
  refine wpS_of_wp (wp_skip ?_)
  cases c₀
  simp_all [bodyPostS, results, Tryz.results83]
end Go.Proofs.YtobolflgoljafaaGreatDoor
namespace Go.Proofs.YtobolflgoljafaaGreatDoor
open Go.RowKit Go.Sort

abbrev knownT : List UInt8 := [98, 114, 105, 99, 107, 115, 32, 50, 32, 50, 32, 48, 32, 48, 49, 47, 49, 48]
theorem itoa_two : Lib.itoa 2 = [50] := by
  have := Tx.itoa_nat 2
  rw [Tx.dec_small (by decide)] at this
  exact this
theorem itoa_zero : Lib.itoa 0 = [48] := by
  have := Tx.itoa_nat 0
  rw [Tx.dec_small (by decide)] at this
  exact this
theorem known_words : Tx.spl 32 knownT = [bricksW, Lib.itoa 2, Lib.itoa 2, Lib.itoa 0, [48, 49, 47, 49, 48]] := by
  rw [itoa_two, itoa_zero]
  decide +kernel
theorem known_rows : Tx.spl 47 [48, 49, 47, 49, 48] = [[48, 49], [49, 48]] := by decide +kernel
theorem known_cells : rowsV [[48, 49], [49, 48]] = [0, 1, 1, 0] := by decide +kernel
abbrev knownF : Int → Int → Int := Pt.col ⟨2, 0, 2⟩ (csF [0, 1, 1, 0])
theorem known_ok : (⟨2, 0, 2⟩ : Pt.Lat).ok := ⟨by decide, by decide, by decide, by decide⟩
theorem known_isB : Pt.IsB (Pt.Per knownF) ⟨2, 1, 1⟩ := by
  have hper : ∀ x y, Pt.inL ⟨2, 0, 2⟩ x y → Pt.Per knownF x y := fun x y h => Pt.col_per known_ok _ h
  have hm := fun dx dy => moved_per known_ok hper dx dy
  refine ⟨⟨by decide, by decide, by decide, by decide⟩, (hm 2 0).1 (by decide +kernel), (hm 1 1).1 (by decide +kernel), fun a h1 h2 hg => ?_, fun b c h1 h2 _ _ _ => absurd h1 (by have h3 : c < 1 := h2; omega)⟩
  obtain rfl : a = 1 := by dsimp only at h2; omega
  have := (hm 1 0).2 hg
  revert this
  decide +kernel
theorem known_valid : validE 2 0 2 [0, 1, 1, 0] = 0 := by decide +kernel
theorem known_ans : ansC 0 ⟨2, 1, 1⟩ knownF = [0, 1] := by decide +kernel

set_option maxRecDepth 20000 in
set_option maxHeartbeats 2000000 in
theorem parse_known (w : World) (hE : Env w) :
    Calls Tryz.prog 40 #[.string ⟨knownT.toArray⟩] w fun e w' => ∃ u, e = .returned (.tuple #[patV ⟨2, 1, 1⟩ u, .int .i64 0]) ∧ OwnI w.heap.size w' u [0, 1] ∧ Below w.heap.size w w' := by
  have hmf : ∀ (fn : Fn) (first cap : Array Value) (w : World), (Instr.makeFunc fn first cap).run Tryz.prog w = .ok (.func fn first cap) w := fun _ _ _ _ => rfl
  have RD := Lib.hid (fun W (hX : Below w.heap.size w W) => read_ok 2 2 0 [48, 49, 47, 49, 48] knownT W (hE.all hX) (by decide) known_words (by decide) (by decide) (by decide) (by decide) (by decide) (by decide) (by decide) (by rw [known_rows]; rfl) (by
    rw [known_rows]
    intro r hr
    simp only [List.mem_cons, List.not_mem_nil, or_false] at hr
    rcases hr with rfl | rfl
    · exact ⟨rfl, by intro i hi; have : i < 2 := hi; match i, this with | 0, _ => decide +kernel | 1, _ => decide +kernel⟩
    · exact ⟨rfl, by intro i hi; have : i < 2 := hi; match i, this with | 0, _ => decide +kernel | 1, _ => decide +kernel⟩) (by rw [known_rows, known_cells]; decide))
  rw [known_rows, known_cells] at RD
  have PT := Lib.hid (fun (v : Value) W (hv : Ints W v [0, 1, 1, 0]) => bricksPat_ok 2 0 2 v [0, 1, 1, 0] ⟨2, 1, 1⟩ W hv (by decide) (by decide) (by decide) (fun _ => known_isB))
  rw [known_valid] at PT
  unfold PatRes at PT
  rw [known_ans] at PT
  have b0 := (BlockAt.new w #[.int .i64 0, .int .i64 0, .int .i64 0, .slice none 0 0] 24).alloc (.cells #[.int .i64 0] 27)
  have b1 := BlockAt.new (w.alloc (.cells #[.int .i64 0, .int .i64 0, .int .i64 0, .slice none 0 0] 24)) #[.int .i64 0] 27
  simp only [World.size_alloc] at b1
  have hw := below_alloc (below_alloc (Below.refl w.heap.size w) (.cells #[.int .i64 0, .int .i64 0, .int .i64 0, .slice none 0 0] 24)) (.cells #[.int .i64 0] 27)
  have HB := Lib.hid (And.intro b0 (And.intro b1 hw))
  clear b0 b1 hw hE
  go_enter_defers Tryz.func40, Tryz.ntmps40
  go_wp2_with fail
  refine (RD.out _ HB.out.2.2).mono ?_
  rintro e w1 ⟨u, rfl, hown, hb1⟩
  obtain ⟨ua, uc, rfl⟩ := hown.form
  have H1 := Lib.hid (And.intro (HB.out.1.below hb1 HB.out.1.lt) (And.intro (HB.out.2.1.below hb1 HB.out.2.1.lt) (below_step HB.out.2.2 hb1)))
  have HP := Lib.hid (PT.out _ _ hown.ints)
  clear hown hb1 HB RD PT
  go_wp2_with fail
  refine HP.out.mono ?_
  rintro e w2 ⟨v, rfl, hown, hb2⟩
  obtain ⟨va, vc, rfl⟩ := hown.form
  have hB0 := H1.out.1.below hb2 H1.out.1.lt
  have hB1 := H1.out.2.1.below hb2 H1.out.2.1.lt
  have hw2 := below_step H1.out.2.2 hb2
  have d0 : World.cell? _ _ = some (.int .i64 0) := hB0.cell 0
  have d1 : World.cell? _ _ = some (.int .i64 0) := hB0.cell 1
  have d2 : World.cell? _ _ = some (.int .i64 0) := hB0.cell 2
  have d3 : World.cell? _ _ = some (.slice none 0 0) := hB0.cell 3
  have e0 : World.cell? _ _ = some (.int .i64 0) := hB1.cell 0
  have r0 := hB0.frozen 0
  have r1 := hB0.frozen 1
  have r2 := hB0.frozen 2
  have r3 := hB0.frozen 3
  have s0 := hB1.frozen 0
  have hlt := hB0.lt
  have hlt1 := hB1.lt
  have hsz1 := H1.out.2.1.lt
  have HZ := Lib.hid (And.intro hown hw2)
  clear hown hb2 hB0 hB1 hw2 H1 HP
  go_wp2
  refine leaves_cons (f := 83) (args := #[.pointer (some ⟨w.heap.size, 0, none⟩), .pointer (some ⟨w.heap.size + 1, 0, none⟩)]) (by simp) (by simp [go_sem]) ?_
  refine (catch_idle ⟨w.heap.size, 0, none⟩ ⟨w.heap.size + 1, 0, none⟩ _).mono ?_
  rintro e u' w'' ⟨rfl, rfl, rfl⟩
  simp [Leaves, settle, results, Tryz.results40, go_sem, d0, d1, d2, d3, e0]
  refine ⟨_, ⟨rfl, rfl, rfl, rfl⟩, ?_, ?_⟩
  · refine OwnI.mono (base := w1.heap.size) ?_ (by omega)
    iterate 5 (refine OwnI.setOld ?_ (by dsimp only; omega) _)
    exact HZ.out.1
  · iterate 5 (refine Below.setCell ?_ (by dsimp only; omega) _)
    exact HZ.out.2

set_option maxRecDepth 20000 in
set_option maxHeartbeats 2000000 in
theorem known_any (w : World) (hE : Env w) :
    Calls Tryz.prog 13 #[] w fun e w' => e = .returned (.bool true) ∧ Below w.heap.size w w' := by
  have PA := Lib.hid (parse_known w hE)
  clear hE
  go_enter Tryz.func13, Tryz.ntmps13
  go_wp2_with fail
  refine PA.out.mono ?_
  rintro e w1 ⟨u, rfl, hown, hb1⟩
  have hi := hown.ints
  obtain ⟨b, off, cap, hu, _, hb, hc⟩ : ∃ b off cap, u = .slice (some ⟨b, off, none⟩) 2 cap ∧ 2 ≤ cap ∧ b < w1.heap.size ∧ ∀ k, k < 2 → w1.cell? ⟨b, off + k, none⟩ = some (.int .i64 ([0, 1].getD k 0)) := by
    rcases hi with ⟨_, _, _, h⟩ | h
    · simp at h
    · exact h
  subst hu
  have c0 : w1.cell? ⟨b, off, none⟩ = some (.int .i64 0) := hc 0 (by decide)
  have c1 : w1.cell? ⟨b, off + 1, none⟩ = some (.int .i64 1) := hc 1 (by decide)
  have hne : ¬ w1.heap.size = b := by omega
  have hne2 : ¬ b = w1.heap.size := by omega
  have HZ := Lib.hid hb1
  clear hi hc hown hb1 PA
  go_wp2
  go_ret
  exact ⟨rfl, below_alloc HZ.out _⟩
end Go.Proofs.YtobolflgoljafaaGreatDoor
