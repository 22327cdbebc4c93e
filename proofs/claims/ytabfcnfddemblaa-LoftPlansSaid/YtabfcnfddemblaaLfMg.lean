/- Sorting numbers that a call has made itself, and a set with one more number: of the program. The order in which goods are planned: of the program. The order in which goods are planned: of the program. -/
import Derived.Test.YtabfcnfddemblaaLf52
import Derived.Test.YtabfcnfddemblaaShelf
import Derived.Sort.OwnSorted
import Derived.Test.YtabfcnfddemblaaLfMf
namespace Go.Proofs.Ytabfcnfddemblaa.Lo
open Go.RowKit Go.Sort

theorem flat_ints : ∀ xs : List Int, xs.flatMap intL = xs.map (Value.int .i64)
  | [] => rfl
  | x :: r => by rw [List.flatMap_cons, flat_ints r]; rfl
theorem holdsI {w : World} {g : Nat} {cur : Array Value} {e : TypeId} {ss : List Int} (hb : w.heap[g]? = some (.cells cur e (0, 0))) (ht : cur.toList.take ss.length = ss.map (Value.int .i64)) : Holds (Value.int .i64) w g 0 ss.toArray := by
  intro j hj
  have hj' : j < ss.length := by simpa using hj
  refine ⟨?_, by simp [World.frozen?, hb]⟩
  have h1 : (cur.toList.take ss.length)[j]? = (ss.map (Value.int .i64))[j]? := by rw [ht]
  rw [List.getElem?_take_of_lt hj'] at h1
  simp only [World.cell?, hb, Nat.zero_add]
  rw [← Array.getElem?_toList, h1]
  simp [hj']
theorem heapI {w : World} {g n : Nat} {os : Array Obj} {cur : Array Value} {e : TypeId} {fr : Nat × Nat} (d : Array Int) (hb : w.heap[g]? = some (.cells cur e fr)) :
    (grow (putRow (Value.int .i64) (Sort.ahead w n) g 0 d) os).heap[g]? = some (.cells (putCells (Value.int .i64) 0 d cur) e fr) := by
  have hg : g < w.heap.size := (Array.getElem?_eq_some_iff.1 hb).1
  rw [heap_grow_old _ _ (by simpa using hg)]
  simp [putRow, mapBlock, Sort.ahead, Array.getElem?_modify, hb, onCells]
theorem grownI {w : World} {g n : Nat} {os : Array Obj} (d : Array Int) : w.grownBy (grow (putRow (Value.int .i64) (Sort.ahead w n) g 0 d) os) (some g) := by
  refine ⟨rfl, rfl, rfl, by simp, fun k hk hne => ?_⟩
  rw [heap_grow_old _ _ (by simpa using hk)]
  have : g ≠ k := fun e => hne (by rw [e])
  simp [putRow, mapBlock, Sort.ahead, Array.getElem?_modify, this]
theorem takeI (cur : Array Value) (ts : List Int) (h : ts.length ≤ cur.size) : (putCells (Value.int .i64) 0 ts.toArray cur).toList.take ts.length = ts.map (Value.int .i64) := by
  apply List.ext_getElem?
  intro j
  by_cases hj : j < ts.length
  · rw [List.getElem?_take_of_lt hj, Array.getElem?_toList]
    simp [putCells, hj, show j < cur.size by omega]
  · rw [List.getElem?_take_eq_none (by omega), List.getElem?_eq_none (by simp; omega)]
theorem ownI_block {base g c n : Nat} {W : World} {xs : List Int} (h : OwnI base W (.slice (some ⟨g, 0, none⟩) n c) xs) : n = xs.length ∧ base ≤ g ∧ g < W.heap.size ∧ ∃ cur, W.heap[g]? = some (.cells cur 3 (0, 0)) ∧ xs.length ≤ c ∧ c ≤ maxLen ∧ cur.size = c ∧ cur.toList.take xs.length = xs.map (Value.int .i64) := by
  obtain ⟨h0, h1 | ⟨g', cap, cur, h1, h2, h3, h4, h5, h6, h7⟩⟩ := h
  · cases h1.1
  · injection h1 with e1 e2 e3
    injection e1 with e1
    injection e1 with e1
    subst e1 e3
    rw [flat_ints, Nat.mul_one] at h7
    exact ⟨e2, h2, (Array.getElem?_eq_some_iff.1 h3).1, cur, h3, h4, h5, by rw [h6, Nat.mul_one], h7⟩
set_option maxRecDepth 20000 in
/-- Sorted. -/
theorem sortI_any (v : Value) (xs : List Int) (base : Nat) (w : World) (h : OwnI base w v xs) (hl : xs.length ≤ 10000) :
    Calls Try.prog 98 #[v] w fun e w' => e = .returned (.tuple #[]) ∧ OwnI base w' v (xs.mergeSort fun x y => decide (x ≤ y)) ∧ w.grownBy w' v.ownBlock := by
  rcases id h.2 with ⟨h1, h2⟩ | ⟨g, cap, cur, h1, h2, h3, h4, h5, h6, h7⟩
  · subst h1
    obtain rfl := List.length_eq_zero_iff.1 h2
    refine (Try.slices_Sort_int_none none 0 w).mono ?_
    rintro e w1 ⟨rfl, rfl⟩
    exact ⟨rfl, by rw [List.mergeSort_nil]; exact h, rfl, rfl, rfl, Nat.le_refl _, fun _ _ _ => rfl⟩
  · subst h1
    have h3' : w.heap[g]? = some (.cells cur 3 (0, 0)) := h3
    have hg : g < w.heap.size := (Array.getElem?_eq_some_iff.1 h3).1
    rw [flat_ints, Nat.mul_one] at h7
    refine (Try.slices_Sort_int g 0 cap xs w (holdsI h3' h7) hg (by omega)).mono ?_
    rintro e w1 ⟨rfl, n, os, rfl⟩
    have hls : (xs.mergeSort fun x y => decide (x ≤ y)).length = xs.length := by simp
    generalize xs.mergeSort (fun x y => decide (x ≤ y)) = zs at *
    refine ⟨rfl, ?_, grownI _⟩
    refine ⟨by rw [flat_ints, List.length_map, Nat.mul_one], .inr ⟨g, cap, _, by rw [hls], h2, heapI _ h3', by omega, h5, by simp [putCells, h6], ?_⟩⟩
    rw [flat_ints, Nat.mul_one]
    exact takeI cur zs (by rw [h6]; omega)
theorem asc_uniqI : ∀ {a b : List Int}, a.Pairwise (· < ·) → b.Pairwise (· < ·) → (∀ x, x ∈ a ↔ x ∈ b) → a = b
  | [], [], _, _, _ => rfl
  | [], y :: r, _, _, h => absurd ((h y).2 List.mem_cons_self) List.not_mem_nil
  | x :: r, [], _, _, h => absurd ((h x).1 List.mem_cons_self) List.not_mem_nil
  | x :: r, y :: s, ha, hb, h => by
    obtain ⟨a1, a2⟩ := List.pairwise_cons.1 ha
    obtain ⟨b1, b2⟩ := List.pairwise_cons.1 hb
    have e : x = y := by
      rcases List.mem_cons.1 ((h x).1 List.mem_cons_self) with e | e
      · exact e
      · rcases List.mem_cons.1 ((h y).2 List.mem_cons_self) with e2 | e2
        · exact e2.symm
        · have := b1 x e; have := a1 y e2; omega
    subst e
    rw [asc_uniqI a2 b2 fun z => ?_]
    constructor
    · intro hz
      rcases List.mem_cons.1 ((h z).1 (List.mem_cons_of_mem _ hz)) with e | e
      · have := a1 z hz; omega
      · exact e
    · intro hz
      rcases List.mem_cons.1 ((h z).2 (List.mem_cons_of_mem _ hz)) with e | e
      · have := b1 z hz; omega
      · exact e
theorem sort_lt {l : List Int} (h : l.Nodup) : (l.mergeSort fun x y => decide (x ≤ y)).Pairwise (· < ·) := by
  have h1 : (l.mergeSort fun x y => decide (x ≤ y)).Pairwise fun x y => decide (x ≤ y) = true := List.pairwise_mergeSort (le := fun x y : Int => decide (x ≤ y)) (fun a b c h1 h2 => decide_eq_true (Int.le_trans (of_decide_eq_true h1) (of_decide_eq_true h2))) (fun a b => by simp only [Bool.or_eq_true, decide_eq_true_eq]; omega) l
  have h2 : (l.mergeSort fun x y => decide (x ≤ y)).Nodup := (List.mergeSort_perm l _).nodup_iff.2 h
  refine (h1.and h2).imp fun {x y} h => ?_
  have := of_decide_eq_true h.1
  have := h.2
  omega
theorem sort_ins {n : Int} {l : List Int} (hs : l.Pairwise (· < ·)) (hn : n ∉ l) : ((n :: l).mergeSort fun x y => decide (x ≤ y)) = Lf.insS n l := by
  refine asc_uniqI (sort_lt ?_) (Lf.insS_lt hs hn) fun x => ?_
  · exact List.nodup_cons.2 ⟨hn, hs.imp fun h => by omega⟩
  · rw [(List.mergeSort_perm (n :: l) _).mem_iff, Lf.insS_mem, List.mem_cons]
theorem ints_flat {W : World} {a : Option Addr} {n c : Nat} {xs : List Int} (h : Ints W (.slice a n c) xs) (hp : 0 < xs.length) : n = xs.length ∧ ∃ b off, a = some ⟨b, off, none⟩ ∧ ∀ (j : Nat) (u : Value), (xs.flatMap intL)[j]? = some u → W.cell? ((⟨b, off, none⟩ : Addr).add j) = some u := by
  obtain ⟨a', c', e, hc, hk⟩ := h
  simp only [Value.slice.injEq] at e
  obtain ⟨rfl, rfl, rfl⟩ := e
  refine ⟨rfl, ?_⟩
  obtain ⟨b, off, rfl, _, _⟩ := hk 0 hp
  refine ⟨b, off, rfl, fun j u hj => ?_⟩
  have hjl : j < xs.length := by
    have := (List.getElem?_eq_some_iff.1 hj).1
    rwa [flat_len intL_len, Nat.mul_one] at this
  obtain ⟨b', off', e2, _, hcell⟩ := hk j hjl
  injection e2 with e2
  injection e2 with e3 e4
  subst e3 e4
  rw [flat_ints, List.getElem?_map, List.getElem?_eq_getElem hjl] at hj
  have h3 := int_at hcell
  rw [Nat.mul_one] at h3
  rw [show ((⟨b, off, none⟩ : Addr).add j) = ⟨b, off + j, none⟩ by cases j <;> simp [Addr.add], h3]
  simpa using hj
set_option maxRecDepth 20000 in
set_option maxHeartbeats 2000000 in
theorem with_any (v : Value) (l : List Int) (n : Int) (w : World) (hI : Ints w v l) (hs : l.Pairwise (· < ·)) (hn : n ∉ l) (hp : 0 < l.length) (hl : l.length ≤ 100) :
    Calls Try.prog 139 #[v, .int .i64 n] w fun e w' => ∃ a c, e = .returned (.slice a (l.length + 1) c) ∧ OwnI w.heap.size w' (.slice a (l.length + 1) c) (Lf.insS n l) ∧ Below w.heap.size w w' := by
  obtain ⟨i0, hi0, hz0, hz1, hz2⟩ := info_parts infoInt
  have hw1 := below_alloc2 (Below.refl w.heap.size w) (.cells #[.int .i64 n] 3)
  have hI1 := hI.all hw1
  obtain ⟨va, vc, rfl⟩ := hI.form
  obtain ⟨_, b, off, rfl, hca⟩ := ints_flat hI1 hp
  have hown := World.ownsRow_lit (base := w.heap.size) (e := 3) (size := 1) w #[.int .i64 n] 1 (Nat.le_refl _) (by unfold maxLen; omega) rfl
  have HSI := Lib.hid (sort_ins hs hn)
  have hca2 : ∀ u ∈ l.flatMap intL, u.oneCell' = true := fun u h => by
    obtain ⟨x, _, hu⟩ := List.mem_flatMap.1 h
    exact intL_one x u hu
  have hcl : (l.flatMap intL).length = l.length * 1 := flat_len intL_len l
  clear hI hI1 hs hn
  go_enter Try.func139, Try.ntmps139
  go_wp2_with (at_builtin; refine wpList_append_own _ rfl _ _ 24 rfl w.heap.size 3 i0 _ 1 8 Try.underlying24 hi0 hz0 hz1 hz2 rfl (by decide) _ _ _ rfl hown ⟨b, off, none⟩ l.length vc (l.flatMap intL) rfl hcl ?c1 hca2 ?c3 ?c4 ?c5 ?_)
  case c1 => exact fun j u h => by have := hca j u h; rwa [show ((⟨b, off, none⟩ : Addr).add j) = ⟨b, off + j, none⟩ by cases j <;> simp [Addr.add]] at this
  case c3 => unfold maxLen; omega
  case c4 => omega
  intro v' w9 hr9 hg9 _
  have hw9 := hw1.grown hg9 (by simp) (fun j e => (World.ownsRow.lt hown j e).1)
  have hp9 : OwnI w.heap.size w9 v' (n :: l) := by
    unfold OwnI OwnG
    rw [List.flatMap_cons, List.length_cons, Nat.add_comm]
    exact hr9
  obtain ⟨a9, c9, e9⟩ := hp9.form
  subst e9
  have CS := Lib.hid (sortI_any _ _ _ _ hp9 (by rw [List.length_cons]; omega))
  rw [HSI.out] at CS
  have HB := Lib.hid (And.intro hw9 (show ∀ j, (Value.slice a9 (n :: l).length c9).ownBlock = some j → w.heap.size ≤ j from fun j e => (World.ownsRow.lt hp9 j e).1))
  clear hw1 hown hca hca2 hcl hr9 hg9 hw9 hp9 HSI
  rw [List.length_cons] at CS HB ⊢
  go_wp2_with fail
  refine CS.out.mono ?_
  rintro e w10 ⟨rfl, ho, hg⟩
  have HO := Lib.hid (And.intro ho (HB.out.1.grown hg HB.out.1.size HB.out.2))
  clear ho hg CS HB
  go_wp2
  go_ret
  exact ⟨a9, c9, rfl, HO.out⟩
end Go.Proofs.Ytabfcnfddemblaa.Lo
namespace Go.Proofs.Ytabfcnfddemblaa.Lo
open Go.RowKit Go.Sort

/-- An index, kept below n. -/
def kept (n x : Nat) : Nat := min x (n - 1)
theorem kept_lt {n x : Nat} (h : 0 < n) : kept n x < n := by unfold kept; omega
def idx (n : Nat) (x : Nat) : Value := .int .i64 (kept n x : Nat)
def cmpR (r : Nat → Int) (n : Nat) (x y : Nat) : Int := Lib.compareInt (r (kept n y)) (r (kept n x))
theorem ltOf_cmpR (r : Nat → Int) (n : Nat) (x y : Nat) : ltOf (cmpR r n) x y = decide (r (kept n y) < r (kept n x)) := by
  unfold ltOf cmpR Lib.compareInt
  split
  · rename_i h; simp [h]
  · rename_i h
    split <;> simp [h]
theorem sorted_kept {r : Nat → Int} {n : Nat} (hn : 0 < n) {d : Array Nat} (hd : d.toList = List.range n) : (Go.Sort.insertionSort (ltOf (cmpR r n)) d 0 n).toList = Lr.srt r n := by
  rw [Lr.sorted_ok (r := fun x => r (kept n x)) (fun x y => ltOf_cmpR r n x y) hn hd]
  exact Lr.srt_congr fun i hi => by show r (min i (n - 1)) = r i; rw [Nat.min_eq_left (by omega)]
theorem cmp_neg (a b : Int) : Lib.compareInt (-b) (-a) = Lib.compareInt a b := by
  unfold Lib.compareInt
  by_cases h1 : a < b
  · rw [if_pos h1, if_pos (by omega)]
  · rw [if_neg h1, if_neg (by omega)]
    by_cases h2 : b < a
    · simp [show ¬ a = b by omega, show ¬ -b = -a by omega, h2, show -a < -b by omega]
    · simp [show a = b by omega]
/-- The goods by the day on which they are due. -/
def due (gs : List Lf.G) (k : Nat) : Int := -(gs.getD k default).u
def odr (gs : List Lf.G) : List Int := (Lr.srt (due gs) gs.length).map fun (k : Nat) => (k : Int)
theorem odr_mem {gs : List Lf.G} {n : Int} : n ∈ odr gs ↔ 0 ≤ n ∧ n < (gs.length : Int) := by
  unfold odr
  rw [List.mem_map]
  constructor
  · rintro ⟨k, hk, rfl⟩
    have := (Lr.srt_mem (due gs)).1 hk
    omega
  · rintro ⟨h0, h1⟩
    exact ⟨n.toNat, (Lr.srt_mem (due gs)).2 (by omega), by omega⟩
theorem odr_nodup (gs : List Lf.G) : (odr gs).Nodup := by
  unfold odr
  refine List.pairwise_map.2 ((Lr.srt_sorted (due gs) gs.length).imp fun {a b} h => ?_)
  intro e
  have e2 : a = b := by omega
  subst e2
  exact Lr.bef_asym h h
theorem odr_len (gs : List Lf.G) : (odr gs).length = gs.length := by unfold odr; rw [List.length_map, Lr.srt_len]
set_option maxRecDepth 20000 in
theorem cmpDue_any (gs : List Lf.G) (kx ky bv : Nat) (va : Option Addr) (vc : Nat) (w : World) (hx : kx < gs.length) (hy : ky < gs.length)
    (hc : w.cell? ⟨bv, 1, none⟩ = some (.slice va gs.length vc)) (hr : Goods w (.slice va gs.length vc) gs) :
    Calls Try.prog 137 #[.int .i64 kx, .int .i64 ky, .pointer (some ⟨bv, 0, none⟩)] w fun e w' => e = .returned (.int .i64 (Lib.compareInt (due gs ky) (due gs kx))) ∧ ∃ q, w' = w.drewN q := by
  have e1 : due gs kx = -(gs[kx].u) := by unfold due; simp [hx]
  have e2 : due gs ky = -(gs[ky].u) := by unfold due; simp [hy]
  rw [e1, e2, cmp_neg]
  have C := Lib.hid (Try.cmp_Compare_int gs[kx].u gs[ky].u)
  obtain ⟨_, _, hvf, _, hvk⟩ := id hr
  injection hvf with hv1 hv2 hv3
  subst hv1
  subst hv3
  obtain ⟨b, off, rfl, hb, h1⟩ := hvk kx hx
  obtain ⟨b2, off2, e3, hb2, h2⟩ := hvk ky hy
  injection e3 with e3
  injection e3 with e3 e4
  subst e3 e4
  have cx := (gd_at h1).2.2.2.2
  have cy := (gd_at h2).2.2.2.2
  clear hvk hr h1 h2 e1 e2
  generalize gs[kx].u = rx at *
  generalize gs[ky].u = ry at *
  generalize Lib.compareInt rx ry = z at *
  have hS0 : w.drew.cell? ⟨bv, 1, none⟩ = some (.slice (some ⟨b, off, none⟩) gs.length vc) ∧ w.drew.cell? ⟨b, off + kx * 5 + 4, none⟩ = some (.int .i64 rx) ∧ w.drew.cell? ⟨b, off + ky * 5 + 4, none⟩ = some (.int .i64 ry) := ⟨hc, cx, cy⟩
  clear hc cx cy
  go_enter Try.func137, Try.ntmps137
  go_wp2_with fail
  refine wp_region_seq [(0, true), (1, true), (2, true), (3, true), (4, true), (5, true), (6, true), (7, true), (8, true), (9, true), (10, true), (11, true), (12, false), (13, true)] (fun W => W.cell? ⟨bv, 1, none⟩ = some (.slice (some ⟨b, off, none⟩) gs.length vc) ∧ W.cell? ⟨b, off + kx * 5 + 4, none⟩ = some (.int .i64 rx) ∧ W.cell? ⟨b, off + ky * 5 + 4, none⟩ = some (.int .i64 ry))
    (by kernel_rfl) (by kernel_rfl) (by kernel_rfl) (by kernel_rfl) (fun d _ _ _ _ h => by cases d <;> exact h) hS0 (fun hS => ?_)
  clear hS0
  repeat (first | (refine SeqH.take (v := ?_) rfl (by rfl) ?_ ?_; rotate_left; (· intro w hSw; (try dsimp only at hSw); obtain ⟨q0, q1, q2⟩ := hSw; go_simp; (try rw [if_pos (by omega)]); (try with_reducible rfl)); simp only [Act.put, List.setIfInBounds_toArray, List.set_cons_zero, List.set_cons_succ]) | (refine SeqH.skip rfl (by rfl) ?_; simp only [Act.put, List.setIfInBounds_toArray, List.set_cons_zero, List.set_cons_succ]))
  refine SeqH.step rfl (by rfl) (fun K hK => ?_)
  go_simp
  refine (C.out w.drew).mono ?_
  rintro e w2 ⟨rfl, rfl⟩
  refine hK.out _ _ hS (fun _ => ?_)
  clear hK K C
  try simp only [Act.put, List.setIfInBounds_toArray, List.set_cons_zero, List.set_cons_succ]
  repeat (first | (refine SeqH.take (v := ?_) rfl (by rfl) ?_ ?_; rotate_left; (· intro w hSw; (try dsimp only at hSw); obtain ⟨q0, q1, q2⟩ := hSw; go_simp; (try with_reducible rfl)); simp only [Act.put, List.setIfInBounds_toArray, List.set_cons_zero, List.set_cons_succ]) | (refine SeqH.skip rfl (by rfl) ?_; simp only [Act.put, List.setIfInBounds_toArray, List.set_cons_zero, List.set_cons_succ]))
  refine SeqH.done ?_
  go_wp2
  go_ret
  exact ⟨rfl, 1, rfl⟩
/-- A list of the indices in order, in memory, and what the closure reads. -/
structure Sorts (w : World) (gs : List Lf.G) (va : Option Addr) (vc bv bO : Nat) : Prop where
  pos : 0 < gs.length
  small : gs.length ≤ 16
  var : w.cell? ⟨bv, 1, none⟩ = some (.slice va gs.length vc)
  rem : Goods w (.slice va gs.length vc) gs
  nea : ∀ b o i, va = some ⟨b, o, i⟩ → b ≠ bO
  ord : ∀ k, k < gs.length → w.cell? ⟨bO, k, none⟩ = some (.int .i64 k) ∧ w.frozen? ⟨bO, k, none⟩ = false
  nev : bv ≠ bO
  ltv : bv < w.heap.size
theorem sort_reads {w : World} {gs : List Lf.G} {va : Option Addr} {vc bv bO : Nat} (h : Sorts w gs va vc bv bO) : CmpReads Try.prog 137 #[.pointer (some ⟨bv, 0, none⟩)] (idx gs.length) (cmpR (due gs) gs.length) bO 0 gs.length w := by
  intro m os dk _ x y
  have hcell : ∀ b k, b < w.heap.size → b ≠ bO → (sortWorld (idx gs.length) w bO 0 m dk os).cell? ⟨b, k, none⟩ = w.cell? ⟨b, k, none⟩ := by
    intro b k hb hne
    unfold sortWorld
    rw [cell?_grow _ _ _ (by show b < (putRow _ _ _ _ _).heap.size; rw [size_putRow]; exact hb), cell?_putRow_other _ _ _ _ _ _ (Or.inl hne)]
    rfl
  have hsz : w.heap.size ≤ (sortWorld (idx gs.length) w bO 0 m dk os).heap.size := by
    unfold sortWorld
    have h1 : (Go.Sort.putRow (idx gs.length) (Sort.ahead w m) bO 0 dk).heap.size = w.heap.size := by rw [size_putRow]; rfl
    simp only [Go.Sort.grow, Array.size_append, h1]
    omega
  refine cmpDue_any gs (kept gs.length x) (kept gs.length y) bv va vc _ (kept_lt h.pos) (kept_lt h.pos) (by rw [hcell _ _ h.ltv h.nev]; exact h.var) ?_
  obtain ⟨a2, c2, e, hcc, hk⟩ := h.rem
  injection e with e1 e2 e3
  subst e1 e3
  refine ⟨va, vc, rfl, hcc, fun k hkl => ?_⟩
  obtain ⟨b, off, e1, hb, hr⟩ := hk k hkl
  exact ⟨b, off, e1, Nat.lt_of_lt_of_le hb hsz, fun j u hj => by rw [hcell _ _ hb (h.nea b off none e1)]; exact hr j u hj⟩
theorem ins_any {w : World} {gs : List Lf.G} {va : Option Addr} {vc bv bO cap : Nat} (h : Sorts w gs va vc bv bO) :
    Calls Try.prog 168 #[.slice (some ⟨bO, 0, none⟩) gs.length cap, .int .i64 0, .int .i64 gs.length, .func (.func 137) #[] #[.pointer (some ⟨bv, 0, none⟩)]] w fun e w' => e = .returned (.tuple #[]) ∧ ∃ (D : Array Nat) (q : Nat), D.toList = Lr.srt (due gs) gs.length ∧ w' = (putRow (idx gs.length) w bO 0 D).drewN q := by
  have eg : ∀ args w, (callFunc 137 args).run Try.prog w = .ok (.enter 137 args) w := enters_of Try.func137 (by kernel_rfl) rfl
  obtain ⟨d, hd⟩ : ∃ d : Array Nat, d = (List.range gs.length).toArray := ⟨_, rfl⟩
  have hsz : d.size = gs.length := by rw [hd]; simp
  have hH : Holds (idx gs.length) w bO 0 d := by
    intro j hj
    rw [hsz] at hj
    have := h.ord j hj
    have e : d[j]! = j := by rw [hd]; simp [hj]
    rw [Nat.zero_add, e]
    refine ⟨?_, this.2⟩
    rw [this.1]
    show some (Value.int .i64 (j : Int)) = some (.int .i64 ((min j (gs.length - 1) : Nat) : Int))
    rw [Nat.min_eq_left (by omega)]
  have hr := sort_reads h
  have hn := h.small
  have hp := h.pos
  have hcon := Try.insertionSortCmpFunc_one (idx gs.length) (fun _ => rfl) (cmpR (due gs) gs.length) 137 #[.pointer (some ⟨bv, 0, none⟩)] bO 0 cap 0 gs.length d w eg (by rw [hsz]; exact hr) hH (Nat.zero_le _) (by omega) (by omega)
  rw [hsz] at hcon
  refine hcon.mono ?_
  rintro e w' ⟨rfl, q, rfl⟩
  exact ⟨rfl, _, q, sorted_kept hp (by rw [hd]), rfl⟩
set_option maxRecDepth 20000 in
theorem stable_any {w : World} {gs : List Lf.G} {va : Option Addr} {vc bv bO cap : Nat} (h : Sorts w gs va vc bv bO) :
    Calls Try.prog 153 #[.slice (some ⟨bO, 0, none⟩) gs.length cap, .int .i64 gs.length, .func (.func 137) #[] #[.pointer (some ⟨bv, 0, none⟩)]] w fun e w' => e = .returned (.tuple #[]) ∧ ∃ (D : Array Nat) (q : Nat), D.toList = Lr.srt (due gs) gs.length ∧ w' = (putRow (idx gs.length) w bO 0 D).drewN q := by
  have C := Lib.hid (ins_any (cap := cap) h)
  have hn : ¬ (20 : Int) ≤ (gs.length : Int) := by have := h.small; omega
  have hn2 : ¬ (20 : Int) < (gs.length : Int) := by omega
  have hn3 : decide ((20 : Int) ≤ (gs.length : Int)) = false := decide_eq_false hn
  have hn4 : decide (20 ≤ gs.length) = false := decide_eq_false (by omega)
  have hn5 : decide ((20 : Int) < (gs.length : Int)) = false := decide_eq_false hn2
  have hn6 : decide (20 < gs.length) = false := decide_eq_false (by omega)
  clear h
  go_enter Try.func153, Try.ntmps153
  go_wp2
  go_loop [7, 8] (fun s t => s = .int .i64 0 ∧ t = .int .i64 20) (fun _ _ => 0)
  case atStart => exact ⟨rfl, rfl⟩
  case round =>
    obtain ⟨rfl, rfl⟩ := hrel
    go_wp2_with fail
    refine C.out.mono ?_
    rintro e w1 ⟨rfl, hw1⟩
    have HW := Lib.hid hw1
    clear hw1 C
    go_wp2
    go_loop [6, 7, 8] (fun s t u => s = .int .i64 20 ∧ t = .int .i64 0 ∧ u = .int .i64 20) (fun _ _ _ => 0)
    case atStart => exact ⟨rfl, rfl, rfl⟩
    case round =>
      obtain ⟨rfl, rfl, rfl⟩ := hrel
      go_wp2
      go_end0
      obtain ⟨D, q, h1, h2⟩ := HW.out
      first | exact ⟨rfl, D, h1, q, h2⟩ | exact ⟨rfl, D, q, h1, h2⟩
theorem sortStable_any {w : World} {gs : List Lf.G} {va : Option Addr} {vc bv bO cap : Nat} (h : Sorts w gs va vc bv bO) :
    Calls Try.prog 136 #[.slice (some ⟨bO, 0, none⟩) gs.length cap, .func (.func 137) #[] #[.pointer (some ⟨bv, 0, none⟩)]] w fun e w' => e = .returned (.tuple #[]) ∧ ∃ (D : Array Nat) (q : Nat), D.toList = Lr.srt (due gs) gs.length ∧ w' = (putRow (idx gs.length) w bO 0 D).drewN q := by
  have C := Lib.hid (stable_any (cap := cap) h)
  clear h
  go_enter Try.func136, Try.ntmps136
  go_wp2_with fail
  refine C.out.mono ?_
  rintro e w1 ⟨rfl, hw1⟩
  have HW := Lib.hid hw1
  clear hw1 C
  go_wp2
  go_end0
  exact ⟨rfl, HW.out⟩
set_option maxRecDepth 20000 in
theorem insNil_any (F : Value) (w : World) : Calls Try.prog 168 #[.slice none 0 0, .int .i64 0, .int .i64 0, F] w fun e w' => e = .returned (.tuple #[]) ∧ w' = w := by
  go_enter Try.func168, Try.ntmps168
  go_wp2
  go_loop [8] (fun s => s = .int .i64 1) (fun _ => 0)
  case atStart => rfl
  case round =>
    obtain rfl := hrel
    go_wp2
    go_end0
    exact ⟨rfl, rfl⟩
set_option maxRecDepth 20000 in
theorem stableNil_any (F : Value) (w : World) : Calls Try.prog 153 #[.slice none 0 0, .int .i64 0, F] w fun e w' => e = .returned (.tuple #[]) ∧ w' = w := by
  have C := Lib.hid (insNil_any F w)
  go_enter Try.func153, Try.ntmps153
  go_wp2
  go_loop [7, 8] (fun s t => s = .int .i64 0 ∧ t = .int .i64 20) (fun _ _ => 0)
  case atStart => exact ⟨rfl, rfl⟩
  case round =>
    obtain ⟨rfl, rfl⟩ := hrel
    go_wp2_with fail
    refine C.out.mono ?_
    rintro e w1 ⟨rfl, rfl⟩
    clear C
    go_wp2
    go_loop [6, 7, 8] (fun s t u => s = .int .i64 20 ∧ t = .int .i64 0 ∧ u = .int .i64 20) (fun _ _ _ => 0)
    case atStart => exact ⟨rfl, rfl, rfl⟩
    case round =>
      obtain ⟨rfl, rfl, rfl⟩ := hrel
      go_wp2
      go_end0
      exact ⟨rfl, rfl⟩
set_option maxRecDepth 20000 in
theorem sortStableNil_any (F : Value) (w : World) : Calls Try.prog 136 #[.slice none 0 0, F] w fun e w' => e = .returned (.tuple #[]) ∧ w' = w := by
  have C := Lib.hid (stableNil_any F w)
  go_enter Try.func136, Try.ntmps136
  go_wp2_with fail
  refine C.out.mono ?_
  rintro e w1 ⟨rfl, rfl⟩
  go_wp2
  go_end0
  exact ⟨rfl, rfl⟩
end Go.Proofs.Ytabfcnfddemblaa.Lo
namespace Go.Proofs.Ytabfcnfddemblaa.Lo
open Go.RowKit Go.Sort

theorem heapN {w : World} {g : Nat} {cur : Array Value} {e : TypeId} {fr : Nat × Nat} (enc : Nat → Value) (d : Array Nat) (q : Nat) (hb : w.heap[g]? = some (.cells cur e fr)) :
    ((putRow enc w g 0 d).drewN q).heap[g]? = some (.cells (putCells enc 0 d cur) e fr) := by
  show (putRow enc w g 0 d).heap[g]? = _
  simp [putRow, mapBlock, Array.getElem?_modify, hb, onCells]
theorem grownN {w : World} {g : Nat} (enc : Nat → Value) (d : Array Nat) (q : Nat) : w.grownBy ((putRow enc w g 0 d).drewN q) (some g) := by
  refine ⟨rfl, rfl, rfl, by show w.heap.size ≤ (putRow enc w g 0 d).heap.size; rw [size_putRow]; exact Nat.le_refl _, fun k hk hne => ?_⟩
  have : g ≠ k := fun e => hne (by rw [e])
  show (putRow enc w g 0 d).heap[k]? = _
  simp [putRow, mapBlock, Array.getElem?_modify, this]
theorem takeN (enc : Nat → Value) (cur : Array Value) (ts : List Nat) (h : ts.length ≤ cur.size) : (putCells enc 0 ts.toArray cur).toList.take ts.length = ts.map enc := by
  apply List.ext_getElem?
  intro j
  by_cases hj : j < ts.length
  · rw [List.getElem?_take_of_lt hj, Array.getElem?_toList]
    simp [putCells, hj, show j < cur.size by omega]
  · rw [List.getElem?_take_eq_none (by omega), List.getElem?_eq_none (by simp; omega)]
theorem rng_next (k : Nat) : (List.range (k + 1)).map (fun (i : Nat) => (i : Int)) = (List.range k).map (fun (i : Nat) => (i : Int)) ++ [(k : Int)] := by rw [List.range_succ, List.map_append]; rfl
set_option maxRecDepth 20000 in
set_option maxHeartbeats 4000000 in
theorem order_any (u v : Value) (gs : List Lf.G) (w : World) (hv : Goods w v gs) (h8 : gs.length ≤ 8) :
    Calls Try.prog 95 #[.agg #[u, v]] w fun e w' => ∃ a c, e = .returned (.slice a gs.length c) ∧ OwnI w.heap.size w' (.slice a gs.length c) (odr gs) ∧ Below w.heap.size w w' := by
  obtain ⟨i0, hi0, hz0, hz1, hz2⟩ := info_parts infoInt
  have HV := Lib.hid (fun W (hW : Below w.heap.size w W) => hv.all hW)
  have HVB : Hid (∀ va vc, v = .slice va gs.length vc → 0 < gs.length → ∀ b o i, va = some ⟨b, o, i⟩ → b < w.heap.size) := Lib.hid (fun va vc e hp b o i e2 => by
    obtain ⟨a2, c2, e3, _, hk⟩ := hv
    rw [e] at e3
    injection e3 with e3
    subst e3
    obtain ⟨b2, o2, e4, hb, _⟩ := hk 0 hp
    rw [e2] at e4
    injection e4 with e4
    injection e4 with e4
    omega)
  obtain ⟨va, vc, rfl⟩ := hv.form
  have HX := Lib.hid (And.intro (BlockAt.new w #[u, .slice va gs.length vc] DemT) (below_alloc2 (Below.refl w.heap.size w) (.cells #[u, .slice va gs.length vc] DemT)))
  obtain ⟨w1, hw1⟩ : ∃ W, W = w.alloc (.cells #[u, .slice va gs.length vc] DemT) := ⟨_, rfl⟩
  have HS0 := Lib.hid (show BlockAt w1 w.heap.size #[u, .slice va gs.length vc] DemT ∧ Below w.heap.size w w1 ∧ w1.heap.size = w.heap.size + 1 from by rw [hw1]; exact ⟨HX.out.1, HX.out.2, by simp⟩)
  have HE1 := Lib.hid hw1.symm
  have HRN := Lib.hid (fun k => rng_next k)
  have x1 : World.cell? _ _ = some (.slice va gs.length vc) := HX.out.1.cell 1
  clear hv hw1
  go_enter Try.func95, Try.ntmps95
  go_wp2
  rw [show w.alloc (.cells #[u, .slice va gs.length vc] DemT) = w1 from HE1.out]
  clear x1 HX HE1
  go_loopw [3, 8] (fun s t wr => ∃ (k : Nat) (L : List Int) (a : Option Addr) (c : Nat), (k ≤ gs.length ∧ L.length ≤ 8) ∧ s = .slice a L.length c ∧ t = .int .i64 k ∧ Hid ((L = (List.range k).map (fun (i : Nat) => (i : Int)) ∧ L.length = k ∧ (k = 0 → a = none ∧ c = 0)) ∧ OwnI w1.heap.size wr (.slice a L.length c) L ∧ Below w1.heap.size w1 wr)) (fun _ t _ => gs.length - (intOf t).toNat)
  case atStart => exact ⟨0, [], none, 0, ⟨Nat.zero_le _, by simp⟩, rfl, rfl, Lib.hid ⟨⟨rfl, rfl, fun _ => ⟨rfl, rfl⟩⟩, OwnG.nil _ _, Below.refl _ _⟩⟩
  case round =>
    obtain ⟨k, L, a, c, ⟨hk, hL8⟩, rfl, rfl, hg⟩ := hrel
    by_cases hlt : k < gs.length
    · have hown := hg.out.2.1
      have hsz := hg.out.2.2.size
      have HG := Lib.hid hg.out
      have HRk := Lib.hid (HRN.out k)
      have hca := cells_new (cs := intL (k : Int)) wr 3
      clear hg
      go_wp2_with (at_builtin; refine wpList_append_own _ rfl _ _ 24 rfl w1.heap.size 3 i0 _ 1 8 Try.underlying24 hi0 hz0 hz1 hz2 rfl (by decide) _ _ _ rfl (hown.alloc _) ⟨wr.heap.size, 0, none⟩ 1 1 (intL (k : Int)) rfl rfl ?c1 (intL_one _) ?c3 ?c4 ?c5 ?_)
      case c1 => first | exact hca | exact fun j u h => h
      case c3 => unfold maxLen; omega
      case c4 => omega
      case c5 => first | omega | (simp; omega)
      intro v' w9 hr9 hg9 _
      have hw9 := (below_alloc2 HG.out.2.2 (.cells (intL (k : Int)).toArray 3)).grown hg9 (by simp; omega) (fun j e => (World.ownsRow.lt hown j e).1)
      have hp9 : OwnI w1.heap.size w9 v' (L ++ [(k : Int)]) := OwnG.pushed hr9
      have HLL : Hid (L ++ [(k : Int)] = (List.range (k + 1)).map (fun (i : Nat) => (i : Int)) ∧ (L ++ [(k : Int)]).length = k + 1) := Lib.hid ⟨by rw [HRk.out, HG.out.1.1], by rw [List.length_append, HG.out.1.2.1]; rfl⟩
      obtain ⟨a9, c9, e9⟩ := hp9.form
      subst e9
      have H9 := Lib.hid (And.intro hp9 hw9)
      have hkk : (L ++ [(k : Int)]).length ≤ 8 := by rw [HLL.out.2]; omega
      clear hown hsz hca hr9 hg9 hw9 hp9 HG HRk
      generalize L ++ [(k : Int)] = L9 at *
      go_wp2
      go_roundw
      case rel => exact ⟨k + 1, L9, a9, c9, ⟨by omega, hkk⟩, rfl, by go_num, Lib.hid ⟨⟨HLL.out.1, HLL.out.2, fun h => absurd h (Nat.succ_ne_zero k)⟩, H9.out⟩⟩
      case measure => simp [intOf]; omega
    · obtain rfl : k = gs.length := by omega
      have HG := Lib.hid hg.out
      clear hg
      by_cases h0 : gs.length = 0
      · have hL0 : L.length = 0 := by rw [HG.out.1.2.1, h0]
        have HOD : Hid (odr gs = []) := Lib.hid (List.length_eq_zero_iff.1 (by rw [odr_len, h0]))
        obtain rfl := List.length_eq_zero_iff.1 hL0
        obtain ⟨ha, hc⟩ := HG.out.1.2.2 h0
        subst ha hc
        have HSB := Lib.hid (And.intro HS0.out.2.1 HG.out.2.2)
        have x0 : World.cell? _ _ = some (.slice va gs.length vc) := (HS0.out.1.below HG.out.2.2 (by have := HS0.out.2.2; omega)).cell 1
        have CN := Lib.hid (fun F W => sortStableNil_any F W)
        have HL0 := Lib.hid h0
        have hg0 : decide ((0 : Int) < (gs.length : Int)) = false := decide_eq_false (by omega)
        clear HG hL0
        go_wp2_with fail
        refine (CN.out _ _).mono ?_
        rintro e w5 ⟨rfl, rfl⟩
        go_wp2
        go_ret
        exact ⟨none, 0, by rw [HL0.out]; rfl, by rw [HOD.out, HL0.out]; exact OwnG.nil _ _, below_step HSB.out.1 HSB.out.2⟩
      · have hpos : 0 < gs.length := by omega
        have hLg := HG.out.1.2.1
        obtain ⟨bO, rfl⟩ : ∃ bO, a = some ⟨bO, 0, none⟩ := by
          rcases OwnG.form HG.out.2.1 with h | ⟨g, cap, e, _⟩
          · exact absurd (List.length_eq_zero_iff.2 h.2) (by omega)
          · injection e with e1 e2 e3
            exact ⟨g, e1⟩
        obtain ⟨_, hbase, hbO, cur, hcur, hlc, hcm, hcs, hct⟩ := ownI_block HG.out.2.1
        have hbw := below_step HS0.out.2.1 HG.out.2.2
        have hbx := HS0.out.1.below HG.out.2.2 (by have := HS0.out.2.2; omega)
        have hS : Sorts wr gs va vc w.heap.size bO :=
          ⟨hpos, by omega, hbx.cell 1, HV.out _ hbw, fun b o i e => by have h1 := HVB.out va vc rfl hpos b o i e; have h2 := HS0.out.2.2; omega,
           fun k hk => by
             have h1 := World.ownsRow.cellAt HG.out.2.1 k (by omega)
             have h2 := World.ownsRow.frozenAt HG.out.2.1 k
             rw [h1]
             refine ⟨?_, h2⟩
             rw [flat_ints, HG.out.1.1, List.map_map, List.getElem?_map]
             simp [hk],
           by have h2 := HS0.out.2.2; omega, hbx.lt⟩
        have CS := Lib.hid (sortStable_any (cap := c) hS)
        have HOW : Hid (∀ (D : Array Nat) (q : Nat), D.toList = Lr.srt (due gs) gs.length → OwnI w.heap.size ((putRow (idx gs.length) wr bO 0 D).drewN q) (.slice (some ⟨bO, 0, none⟩) gs.length c) (odr gs) ∧ Below w.heap.size w ((putRow (idx gs.length) wr bO 0 D).drewN q)) := Lib.hid (fun D q hD => by
          obtain ⟨D⟩ := D
          have hD2 : D = Lr.srt (due gs) gs.length := hD
          subst hD2
          have hDl := Lr.srt_len (due gs) gs.length
          refine ⟨⟨by rw [flat_ints, List.length_map, Nat.mul_one], .inr ⟨bO, c, _, by rw [odr_len], by have h2 := HS0.out.2.2; omega, heapN _ _ _ hcur, by rw [odr_len]; omega, hcm, by simp [putCells, hcs], ?_⟩⟩, hbw.grown (grownN _ _ _) (by have h2 := hbw.size; omega) (fun j e => by
            have : bO = j := by simpa using e
            have h2 := HS0.out.2.2
            omega)⟩
          have htk := takeN (idx gs.length) cur (Lr.srt (due gs) gs.length) (by rw [hcs, hDl]; omega)
          rw [hDl] at htk
          rw [flat_ints, Nat.mul_one, odr_len, htk]
          unfold odr
          rw [List.map_map]
          refine List.map_congr_left fun k hk => ?_
          have := (Lr.srt_mem (due gs)).1 hk
          show Value.int .i64 ((min k (gs.length - 1) : Nat) : Int) = .int .i64 (k : Int)
          rw [Nat.min_eq_left (by omega)])
        have HLG := Lib.hid hLg
        clear HG hS hcur hct hbw hbx hbase hbO hlc hcm hcs HV HVB
        rw [hLg]
        clear hLg HLG
        go_wp2_with fail
        refine CS.out.mono ?_
        rintro e w5 ⟨rfl, D, q, hD, rfl⟩
        have HO := Lib.hid (HOW.out D q hD)
        clear hD HOW CS
        go_wp2
        go_ret
        exact ⟨_, _, rfl, HO.out⟩
end Go.Proofs.Ytabfcnfddemblaa.Lo
