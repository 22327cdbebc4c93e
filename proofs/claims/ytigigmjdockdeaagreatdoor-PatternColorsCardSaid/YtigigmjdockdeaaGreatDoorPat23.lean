/- The parser of patterns reads words, numbers and digits. -/
import Derived.Test.YtigigmjdockdeaaGreatDoorPat22
import Derived.Test.YtigigmjdockdeaaGreatDoorText4
namespace Go.Proofs.YtigigmjdockdeaaGreatDoor
open Go.RowKit Go.Sort

/-- All but one block, and what is new, lies as it lay. -/
structure Kb (bm : Nat) (w w1 : World) : Prop where
  os : w1.os = w.os
  tape : w1.tape = w.tape
  output : w1.output = w.output
  size : w.heap.size ≤ w1.heap.size
  block : ∀ j, j < w.heap.size → j ≠ bm → w1.heap[j]? = w.heap[j]?
theorem Kb.refl (bm : Nat) (w : World) : Kb bm w w := ⟨rfl, rfl, rfl, Nat.le_refl _, fun _ _ _ => rfl⟩
theorem Kb.trans {bm : Nat} {w w1 w2 : World} (h : Kb bm w w1) (k : Kb bm w1 w2) : Kb bm w w2 :=
  ⟨k.os.trans h.os, k.tape.trans h.tape, k.output.trans h.output, Nat.le_trans h.size k.size, fun j hj hn => (k.block j (Nat.lt_of_lt_of_le hj h.size) hn).trans (h.block j hj hn)⟩
theorem Kb.below {bm : Nat} {w w1 w2 : World} (h : Kb bm w w1) (k : Below w1.heap.size w1 w2) : Kb bm w w2 :=
  h.trans ⟨k.os, k.tape, k.output, k.size, fun j hj _ => k.block j hj⟩
theorem Kb.of {bm : Nat} {w w1 : World} (k : Below w.heap.size w w1) : Kb bm w w1 := (Kb.refl bm w).below k
theorem Kb.alloc {bm : Nat} {w w1 : World} (h : Kb bm w w1) (o : Obj) : Kb bm w (w1.alloc o) := h.below ((Below.refl _ _).alloc (Nat.le_refl _) o)
theorem Kb.drew {bm : Nat} {w w1 : World} (h : Kb bm w w1) : Kb bm w w1.drew := ⟨h.os, h.tape, h.output, h.size, h.block⟩
theorem Kb.own {bm : Nat} {w w1 : World} (h : Kb bm w w1) (i : Nat) (v : Value) : Kb bm w (w1.setCell ⟨bm, i, none⟩ v) :=
  ⟨h.os, h.tape, h.output, by simpa [World.setCell] using h.size, fun j hj hn => (Below.heap_setCell _ _ _ _ hn).trans (h.block j hj hn)⟩
theorem Kb.set {bm : Nat} {w w1 : World} (h : Kb bm w w1) {p : Addr} (hp : w.heap.size ≤ p.block) (v : Value) : Kb bm w (w1.setCell p v) :=
  ⟨h.os, h.tape, h.output, by simpa [World.setCell] using h.size, fun j hj hn => (Below.heap_setCell _ _ _ _ (by omega)).trans (h.block j hj hn)⟩
theorem below_kb {w0 w w' : World} {bm : Nat} (h : Below w0.heap.size w0 w) (hb : w0.heap.size ≤ bm) (k : Kb bm w w') : Below w0.heap.size w0 w' :=
  ⟨k.os.trans h.os, k.tape.trans h.tape, k.output.trans h.output, Nat.le_trans h.size k.size, fun j hj => (k.block j (Nat.lt_of_lt_of_le hj h.size) (by omega)).trans (h.block j hj)⟩
theorem BlockAt.kb {W W' : World} {bm B : Nat} {cs : Array Value} {t : TypeId} (h : BlockAt W B cs t) (hg : Kb bm W W') (hne : B ≠ bm) : BlockAt W' B cs t := (hg.block B h.lt hne).trans h
theorem OwnI.kb {base : Nat} {w w2 : World} {v : Value} {rs : List Int} {bm : Nat} (h : OwnI base w v rs) (hb : Kb bm w w2) (hne : bm < base) : OwnI base w2 v rs := by
  obtain ⟨h0, h1 | ⟨g, cap, cur, h1, h2, h3, h4⟩⟩ := h
  · exact ⟨h0, .inl h1⟩
  · have hg : g < w.heap.size := (Array.getElem?_eq_some_iff.1 h3).1
    exact ⟨h0, .inr ⟨g, cap, cur, h1, h2, by rw [hb.block g hg (by omega)]; exact h3, h4⟩⟩

/-- The words that are not read yet. -/
def RdAt (W : World) (R g : Nat) (ws : List (List UInt8)) : Prop :=
  ∃ off cap, BlockAt W R #[.slice (some ⟨g, off, none⟩) ws.length cap] 125 ∧ ws.length ≤ cap ∧ g < W.heap.size ∧ g ≠ R ∧ ∀ k (hk : k < ws.length), W.cell? ⟨g, off + k, none⟩ = some (.string ⟨ws[k].toArray⟩)
theorem RdAt.below {W W' : World} {R g : Nat} {ws : List (List UInt8)} (h : RdAt W R g ws) (hb : Below W.heap.size W W') : RdAt W' R g ws := by
  obtain ⟨off, cap, h1, h2, h3, h4, h5⟩ := h
  exact ⟨off, cap, h1.below hb h1.lt, h2, Nat.lt_of_lt_of_le h3 hb.size, h4, fun k hk => (hb.cell (p := ⟨g, off + k, none⟩) h3).trans (h5 k hk)⟩
theorem RdAt.lt {W : World} {R g : Nat} {ws : List (List UInt8)} (h : RdAt W R g ws) : R < W.heap.size := by
  obtain ⟨_, _, h1, _⟩ := h
  exact h1.lt
theorem RdAt.lt2 {W : World} {R g : Nat} {ws : List (List UInt8)} (h : RdAt W R g ws) : g < W.heap.size := by
  obtain ⟨_, _, _, _, h1, _⟩ := h
  exact h1

theorem require_ok (w : World) : Calls Tryz.prog 123 #[.bool true] w fun e w' => e = .returned (.tuple #[]) ∧ w = w' := by
  go_enter Tryz.func123, Tryz.ntmps123
  go_wp2
  first
    | exact bodyPost_ret (results_none rfl _ _ _) rfl ⟨rfl, rfl⟩
    | (go_end0; exact ⟨rfl, rfl⟩)
    | (go_ret; exact ⟨rfl, rfl⟩)

theorem splitB_is (l : List UInt8) (c : UInt8) : Lib.splitB ⟨#[c]⟩ 0 (Lib.countB ⟨l.toArray⟩ ⟨#[c]⟩) ⟨l.toArray⟩ = (Tx.spl c l).map fun x => (⟨x.toArray⟩ : ByteArray) := by
  have h := Lib.splitB_data ⟨#[c]⟩ 0 (Lib.countB ⟨l.toArray⟩ ⟨#[c]⟩) ⟨l.toArray⟩
  have h2 : Lib.splitK (⟨#[c]⟩ : ByteArray).data.toList 0 (Lib.countB ⟨l.toArray⟩ ⟨#[c]⟩) (⟨l.toArray⟩ : ByteArray).data.toList = Tx.spl c l := by
    rw [← Tx.split_spl c _ l (Nat.le_refl _)]
    rfl
  rw [h2] at h
  rw [← h, List.map_map]
  conv => lhs; rw [← List.map_id (Lib.splitB _ _ _ _)]
  refine List.map_congr_left fun x _ => ?_
  show x = (⟨x.data.toList.toArray⟩ : ByteArray)
  rfl
theorem countB_is (l : List UInt8) (c : UInt8) : Lib.countB ⟨l.toArray⟩ ⟨#[c]⟩ + 1 = (Tx.spl c l).length := by
  have h := congrArg List.length (splitB_is l c)
  rw [List.length_map, Lib.splitB_all ⟨#[c]⟩ (Nat.le_refl 1) 0 _ _ rfl] at h
  exact h
def SplitSays (ws : List (List UInt8)) (W : World) (e : Ending) (w' : World) : Prop :=
  e = .returned (.slice (some ⟨W.heap.size, 0, none⟩) ws.length ws.length) ∧ (∀ k (hk : k < ws.length), w'.cell? ⟨W.heap.size, k, none⟩ = some (.string ⟨ws[k].toArray⟩)) ∧ W.heap.size < w'.heap.size ∧ Below W.heap.size W w'
theorem splitLib_any (l : List UInt8) (c : UInt8) (W : World) (hE : Env W) (hl : l.length ≤ 100000) :
    Calls Tryz.prog 121 #[.string ⟨l.toArray⟩, .string ⟨#[c]⟩] W (SplitSays (Tx.spl c l) W) := by
  obtain ⟨_, ⟨m, hm⟩, _⟩ := hE
  refine (Tryz.strings_Split ⟨l.toArray⟩ ⟨#[c]⟩ m W (by show l.toArray.size < _; simp; omega) hm (Nat.le_refl 1)).mono fun e w' ⟨he, hw⟩ => ?_
  rw [countB_is] at he
  rw [splitB_is, List.map_map] at hw
  subst hw
  refine ⟨he, fun k hk => ?_, by simp, (Below.refl _ W).alloc (Nat.le_refl _) _⟩
  rw [World.cell?_alloc_new]
  simp [hk]

set_option maxRecDepth 20000 in
set_option maxHeartbeats 1000000 in
theorem word_ok (R g : Nat) (x : List UInt8) (ws : List (List UInt8)) (w : World) (h : RdAt w R g (x :: ws)) (hl : ws.length ≤ 1000000) :
    Calls Tryz.prog 135 #[.pointer (some ⟨R, 0, none⟩)] w fun e w' => e = .returned (.string ⟨x.toArray⟩) ∧ RdAt w' R g ws ∧ Kb R w w' := by
  obtain ⟨off, cap, h1, h2, h3, h4, h5⟩ := h
  have RQ := Lib.hid (fun W => require_ok W)
  have c0 : w.cell? ⟨R, 0, none⟩ = some (.slice (some ⟨g, off, none⟩) (ws.length + 1) cap) := h1.cell 0
  have f0 := h1.frozen 0
  have d0 : w.cell? ⟨g, off, none⟩ = some (.string ⟨x.toArray⟩) := h5 0 (by simp)
  have hcap : ws.length + 1 ≤ cap := h2
  have HS : Hid (∀ o c', (ws.length = 0 ∨ o = off + 1) → ws.length ≤ c' → RdAt (w.setCell ⟨R, 0, none⟩ (.slice (some ⟨g, o, none⟩) ws.length c')) R g ws) := Lib.hid fun o c' ho hc => ⟨o, c', h1.set 0 _, hc, by simpa [World.setCell] using h3, h4, fun k hk => by
    obtain rfl : o = off + 1 := by omega
    refine (World.cell?_of_block (w := w) (Below.heap_setCell _ _ _ _ h4)).trans ?_
    have := h5 (k + 1) (by simp; omega)
    rw [show off + 1 + k = off + (k + 1) by omega]
    simpa using this⟩
  clear h1 h2 h3 h4 h5
  go_enter Tryz.func135, Tryz.ntmps135
  go_wp2_with fail
  refine (RQ.out _).mono ?_
  rintro e w1 ⟨rfl, rfl⟩
  go_wp2
  all_goals
    go_ret
    exact ⟨rfl, HS.out _ _ (by omega) (by omega), (Kb.refl R w).own 0 _⟩
end Go.Proofs.YtigigmjdockdeaaGreatDoor
