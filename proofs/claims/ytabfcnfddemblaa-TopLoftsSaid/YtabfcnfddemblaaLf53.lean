/- Sorting numbers that a call has made itself, and a set with one more number: of the program. -/
import Derived.Test.YtabfcnfddemblaaLf52
import Derived.Test.YtabfcnfddemblaaShelf
import Derived.Sort.OwnSorted
namespace Go.Proofs.Ytabfcnfddemblaa.Lo
open Go.RowKit Go.Sort

theorem flat_ints : ∀ xs : List Int, xs.flatMap intL = xs.map (Value.int .i64)
  | [] => rfl
  | x :: r => by rw [List.flatMap_cons, flat_ints r]; rfl
theorem holdsI {w : World} {g : Nat} {cur : Array Value} {e : TypeId} {ss : List Int} (hb : w.heap[g]? = some (.cells cur e (0, 0))) (ht : cur.toList.take ss.length = ss.map (Value.int .i64)) : Holds (Value.int .i64) w g 0 ss.toArray := by
  intro j hj
  have hj' : j < ss.length := by simpa using hj
  refine ⟨?_, by simp [World.frozen?, hb]⟩
  have h1 : (cur.toList.take ss.length)[j]? = (ss.map (Value.int .i64))[j]? := by rw [ht]
  rw [List.getElem?_take_of_lt hj'] at h1
  simp only [World.cell?, hb, Nat.zero_add]
  rw [← Array.getElem?_toList, h1]
  simp [hj']
theorem heapI {w : World} {g n : Nat} {os : Array Obj} {cur : Array Value} {e : TypeId} {fr : Nat × Nat} (d : Array Int) (hb : w.heap[g]? = some (.cells cur e fr)) :
    (grow (putRow (Value.int .i64) (Sort.ahead w n) g 0 d) os).heap[g]? = some (.cells (putCells (Value.int .i64) 0 d cur) e fr) := by
  have hg : g < w.heap.size := (Array.getElem?_eq_some_iff.1 hb).1
  rw [heap_grow_old _ _ (by simpa using hg)]
  simp [putRow, mapBlock, Sort.ahead, Array.getElem?_modify, hb, onCells]
theorem grownI {w : World} {g n : Nat} {os : Array Obj} (d : Array Int) : w.grownBy (grow (putRow (Value.int .i64) (Sort.ahead w n) g 0 d) os) (some g) := by
  refine ⟨rfl, rfl, rfl, by simp, fun k hk hne => ?_⟩
  rw [heap_grow_old _ _ (by simpa using hk)]
  have : g ≠ k := fun e => hne (by rw [e])
  simp [putRow, mapBlock, Sort.ahead, Array.getElem?_modify, this]
theorem takeI (cur : Array Value) (ts : List Int) (h : ts.length ≤ cur.size) : (putCells (Value.int .i64) 0 ts.toArray cur).toList.take ts.length = ts.map (Value.int .i64) := by
  apply List.ext_getElem?
  intro j
  by_cases hj : j < ts.length
  · rw [List.getElem?_take_of_lt hj, Array.getElem?_toList]
    simp [putCells, hj, show j < cur.size by omega]
  · rw [List.getElem?_take_eq_none (by omega), List.getElem?_eq_none (by simp; omega)]
theorem ownI_block {base g c n : Nat} {W : World} {xs : List Int} (h : OwnI base W (.slice (some ⟨g, 0, none⟩) n c) xs) : n = xs.length ∧ base ≤ g ∧ g < W.heap.size ∧ ∃ cur, W.heap[g]? = some (.cells cur 3 (0, 0)) ∧ xs.length ≤ c ∧ c ≤ maxLen ∧ cur.size = c ∧ cur.toList.take xs.length = xs.map (Value.int .i64) := by
  obtain ⟨h0, h1 | ⟨g', cap, cur, h1, h2, h3, h4, h5, h6, h7⟩⟩ := h
  · cases h1.1
  · injection h1 with e1 e2 e3
    injection e1 with e1
    injection e1 with e1
    subst e1 e3
    rw [flat_ints, Nat.mul_one] at h7
    exact ⟨e2, h2, (Array.getElem?_eq_some_iff.1 h3).1, cur, h3, h4, h5, by rw [h6, Nat.mul_one], h7⟩
set_option maxRecDepth 20000 in
/-- Sorted. -/
theorem sortI_any (v : Value) (xs : List Int) (base : Nat) (w : World) (h : OwnI base w v xs) (hl : xs.length ≤ 10000) :
    Calls Try.prog 98 #[v] w fun e w' => e = .returned (.tuple #[]) ∧ OwnI base w' v (xs.mergeSort fun x y => decide (x ≤ y)) ∧ w.grownBy w' v.ownBlock := by
  rcases id h.2 with ⟨h1, h2⟩ | ⟨g, cap, cur, h1, h2, h3, h4, h5, h6, h7⟩
  · subst h1
    obtain rfl := List.length_eq_zero_iff.1 h2
    refine (Try.slices_Sort_int_none none 0 w).mono ?_
    rintro e w1 ⟨rfl, rfl⟩
    exact ⟨rfl, by rw [List.mergeSort_nil]; exact h, rfl, rfl, rfl, Nat.le_refl _, fun _ _ _ => rfl⟩
  · subst h1
    have h3' : w.heap[g]? = some (.cells cur 3 (0, 0)) := h3
    have hg : g < w.heap.size := (Array.getElem?_eq_some_iff.1 h3).1
    rw [flat_ints, Nat.mul_one] at h7
    refine (Try.slices_Sort_int g 0 cap xs w (holdsI h3' h7) hg (by omega)).mono ?_
    rintro e w1 ⟨rfl, n, os, rfl⟩
    have hls : (xs.mergeSort fun x y => decide (x ≤ y)).length = xs.length := by simp
    generalize xs.mergeSort (fun x y => decide (x ≤ y)) = zs at *
    refine ⟨rfl, ?_, grownI _⟩
    refine ⟨by rw [flat_ints, List.length_map, Nat.mul_one], .inr ⟨g, cap, _, by rw [hls], h2, heapI _ h3', by omega, h5, by simp [putCells, h6], ?_⟩⟩
    rw [flat_ints, Nat.mul_one]
    exact takeI cur zs (by rw [h6]; omega)
theorem asc_uniqI : ∀ {a b : List Int}, a.Pairwise (· < ·) → b.Pairwise (· < ·) → (∀ x, x ∈ a ↔ x ∈ b) → a = b
  | [], [], _, _, _ => rfl
  | [], y :: r, _, _, h => absurd ((h y).2 List.mem_cons_self) List.not_mem_nil
  | x :: r, [], _, _, h => absurd ((h x).1 List.mem_cons_self) List.not_mem_nil
  | x :: r, y :: s, ha, hb, h => by
    obtain ⟨a1, a2⟩ := List.pairwise_cons.1 ha
    obtain ⟨b1, b2⟩ := List.pairwise_cons.1 hb
    have e : x = y := by
      rcases List.mem_cons.1 ((h x).1 List.mem_cons_self) with e | e
      · exact e
      · rcases List.mem_cons.1 ((h y).2 List.mem_cons_self) with e2 | e2
        · exact e2.symm
        · have := b1 x e; have := a1 y e2; omega
    subst e
    rw [asc_uniqI a2 b2 fun z => ?_]
    constructor
    · intro hz
      rcases List.mem_cons.1 ((h z).1 (List.mem_cons_of_mem _ hz)) with e | e
      · have := a1 z hz; omega
      · exact e
    · intro hz
      rcases List.mem_cons.1 ((h z).2 (List.mem_cons_of_mem _ hz)) with e | e
      · have := b1 z hz; omega
      · exact e
theorem sort_lt {l : List Int} (h : l.Nodup) : (l.mergeSort fun x y => decide (x ≤ y)).Pairwise (· < ·) := by
  have h1 : (l.mergeSort fun x y => decide (x ≤ y)).Pairwise fun x y => decide (x ≤ y) = true := List.pairwise_mergeSort (le := fun x y : Int => decide (x ≤ y)) (fun a b c h1 h2 => decide_eq_true (Int.le_trans (of_decide_eq_true h1) (of_decide_eq_true h2))) (fun a b => by simp only [Bool.or_eq_true, decide_eq_true_eq]; omega) l
  have h2 : (l.mergeSort fun x y => decide (x ≤ y)).Nodup := (List.mergeSort_perm l _).nodup_iff.2 h
  refine (h1.and h2).imp fun {x y} h => ?_
  have := of_decide_eq_true h.1
  have := h.2
  omega
theorem sort_ins {n : Int} {l : List Int} (hs : l.Pairwise (· < ·)) (hn : n ∉ l) : ((n :: l).mergeSort fun x y => decide (x ≤ y)) = Lf.insS n l := by
  refine asc_uniqI (sort_lt ?_) (Lf.insS_lt hs hn) fun x => ?_
  · exact List.nodup_cons.2 ⟨hn, hs.imp fun h => by omega⟩
  · rw [(List.mergeSort_perm (n :: l) _).mem_iff, Lf.insS_mem, List.mem_cons]
theorem ints_flat {W : World} {a : Option Addr} {n c : Nat} {xs : List Int} (h : Ints W (.slice a n c) xs) (hp : 0 < xs.length) : n = xs.length ∧ ∃ b off, a = some ⟨b, off, none⟩ ∧ ∀ (j : Nat) (u : Value), (xs.flatMap intL)[j]? = some u → W.cell? ((⟨b, off, none⟩ : Addr).add j) = some u := by
  obtain ⟨a', c', e, hc, hk⟩ := h
  simp only [Value.slice.injEq] at e
  obtain ⟨rfl, rfl, rfl⟩ := e
  refine ⟨rfl, ?_⟩
  obtain ⟨b, off, rfl, _, _⟩ := hk 0 hp
  refine ⟨b, off, rfl, fun j u hj => ?_⟩
  have hjl : j < xs.length := by
    have := (List.getElem?_eq_some_iff.1 hj).1
    rwa [flat_len intL_len, Nat.mul_one] at this
  obtain ⟨b', off', e2, _, hcell⟩ := hk j hjl
  injection e2 with e2
  injection e2 with e3 e4
  subst e3 e4
  rw [flat_ints, List.getElem?_map, List.getElem?_eq_getElem hjl] at hj
  have h3 := int_at hcell
  rw [Nat.mul_one] at h3
  rw [show ((⟨b, off, none⟩ : Addr).add j) = ⟨b, off + j, none⟩ by cases j <;> simp [Addr.add], h3]
  simpa using hj
set_option maxRecDepth 20000 in
set_option maxHeartbeats 2000000 in
theorem with_any (v : Value) (l : List Int) (n : Int) (w : World) (hI : Ints w v l) (hs : l.Pairwise (· < ·)) (hn : n ∉ l) (hp : 0 < l.length) (hl : l.length ≤ 100) :
    Calls Try.prog 139 #[v, .int .i64 n] w fun e w' => ∃ a c, e = .returned (.slice a (l.length + 1) c) ∧ OwnI w.heap.size w' (.slice a (l.length + 1) c) (Lf.insS n l) ∧ Below w.heap.size w w' := by
  obtain ⟨i0, hi0, hz0, hz1, hz2⟩ := info_parts infoInt
  have hw1 := below_alloc2 (Below.refl w.heap.size w) (.cells #[.int .i64 n] 3)
  have hI1 := hI.all hw1
  obtain ⟨va, vc, rfl⟩ := hI.form
  obtain ⟨_, b, off, rfl, hca⟩ := ints_flat hI1 hp
  have hown := World.ownsRow_lit (base := w.heap.size) (e := 3) (size := 1) w #[.int .i64 n] 1 (Nat.le_refl _) (by unfold maxLen; omega) rfl
  have HSI := Lib.hid (sort_ins hs hn)
  have hca2 : ∀ u ∈ l.flatMap intL, u.oneCell' = true := fun u h => by
    obtain ⟨x, _, hu⟩ := List.mem_flatMap.1 h
    exact intL_one x u hu
  have hcl : (l.flatMap intL).length = l.length * 1 := flat_len intL_len l
  clear hI hI1 hs hn
  go_enter Try.func139, Try.ntmps139
  go_wp2_with (at_builtin; refine wpList_append_own _ rfl _ _ 24 rfl w.heap.size 3 i0 _ 1 8 Try.underlying24 hi0 hz0 hz1 hz2 rfl (by decide) _ _ _ rfl hown ⟨b, off, none⟩ l.length vc (l.flatMap intL) rfl hcl ?c1 hca2 ?c3 ?c4 ?c5 ?_)
  case c1 => exact fun j u h => by have := hca j u h; rwa [show ((⟨b, off, none⟩ : Addr).add j) = ⟨b, off + j, none⟩ by cases j <;> simp [Addr.add]] at this
  case c3 => unfold maxLen; omega
  case c4 => omega
  intro v' w9 hr9 hg9 _
  have hw9 := hw1.grown hg9 (by simp) (fun j e => (World.ownsRow.lt hown j e).1)
  have hp9 : OwnI w.heap.size w9 v' (n :: l) := by
    unfold OwnI OwnG
    rw [List.flatMap_cons, List.length_cons, Nat.add_comm]
    exact hr9
  obtain ⟨a9, c9, e9⟩ := hp9.form
  subst e9
  have CS := Lib.hid (sortI_any _ _ _ _ hp9 (by rw [List.length_cons]; omega))
  rw [HSI.out] at CS
  have HB := Lib.hid (And.intro hw9 (show ∀ j, (Value.slice a9 (n :: l).length c9).ownBlock = some j → w.heap.size ≤ j from fun j e => (World.ownsRow.lt hp9 j e).1))
  clear hw1 hown hca hca2 hcl hr9 hg9 hw9 hp9 HSI
  rw [List.length_cons] at CS HB ⊢
  go_wp2_with fail
  refine CS.out.mono ?_
  rintro e w10 ⟨rfl, ho, hg⟩
  have HO := Lib.hid (And.intro ho (HB.out.1.grown hg HB.out.1.size HB.out.2))
  clear ho hg CS HB
  go_wp2
  go_ret
  exact ⟨a9, c9, rfl, HO.out⟩
end Go.Proofs.Ytabfcnfddemblaa.Lo
