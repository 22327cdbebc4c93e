/- Names in ascending order, each once: plain. The names of the accounts: of the program. -/
import Derived.Test.YtcljpklgpedolaaGreatDoorBkPA
import Derived.Lib.SlicesCompact
import Derived.Lib.RowBridge
import Derived.Test.YtcljpklgpedolaaGreatDoorBkWI
import Derived.Test.YtcljpklgpedolaaGreatDoorBkSh
import Derived.Sort.OwnSorted
namespace Go.Proofs.YtcljpklgpedolaaGreatDoor
namespace Bk
open Go.Lib

/-- Ascending texts with one more, once. -/
def put : List (List UInt8) → List UInt8 → List (List UInt8)
  | [], s => [s]
  | a :: r, s => if a < s then a :: put r s else if a = s then a :: r else s :: a :: r
def nmL (l : List Po) : List (List UInt8) := l.flatMap fun x => [x.1, x.2.1]
def acR (l : List (List UInt8)) : List (List UInt8) := l.foldl put []
abbrev Asc (l : List (List UInt8)) : Prop := l.Pairwise (· < ·)
theorem put_at : ∀ (l : List (List UInt8)) (s : List UInt8) (i : Nat), (∀ j (h : j < i) (h2 : j < l.length), l[j] < s) → i ≤ l.length → (∀ h : i < l.length, ¬ l[i] < s) → put l s = l.take i ++ s :: (if l[i]? = some s then l.drop (i + 1) else l.drop i)
  | [], s, i, _, hi, _ => by
    obtain rfl : i = 0 := by simpa using hi
    rfl
  | a :: r, s, 0, _, _, h2 => by
    have h3 := h2 (by simp)
    have h3 : ¬ a < s := h3
    rw [put, if_neg h3]
    by_cases e : a = s
    · rw [if_pos e, if_pos (by simp [e]), e]; rfl
    · rw [if_neg e, if_neg (by simp [e])]; rfl
  | a :: r, s, i + 1, h1, hi, h2 => by
    have h3 : a < s := h1 0 (by omega) (by simp)
    rw [put, if_pos h3, put_at r s i (fun j h hl => h1 (j + 1) (by omega) (by simpa using hl)) (by simpa using hi) (fun h => h2 (by simpa using h))]
    simp
theorem put_mem : ∀ {l : List (List UInt8)} {s x : List UInt8}, x ∈ put l s ↔ x = s ∨ x ∈ l
  | [], s, x => by simp [put]
  | a :: r, s, x => by
    rw [put]
    split
    · rw [List.mem_cons, put_mem, List.mem_cons]
      constructor
      · rintro (h | h | h) <;> simp [h]
      · rintro (h | h | h) <;> simp [h]
    · split
      · rename_i e
        subst e
        simp
      · simp
theorem put_asc : ∀ {l : List (List UInt8)} {s : List UInt8}, Asc l → Asc (put l s)
  | [], s, _ => by simp [put]
  | a :: r, s, h => by
    rw [Asc, List.pairwise_cons] at h
    rw [put]
    split
    · rename_i hlt
      refine List.pairwise_cons.2 ⟨fun x hx => ?_, put_asc h.2⟩
      rcases put_mem.1 hx with rfl | hx
      · exact hlt
      · exact h.1 x hx
    · split
      · exact List.pairwise_cons.2 h
      · rename_i h1 h2
        have h3 : s < a := by
          rcases Classical.em (s < a) with h4 | h4
          · exact h4
          · exact absurd (List.le_antisymm (List.not_lt.1 h4) (List.not_lt.1 h1)) h2
        refine List.pairwise_cons.2 ⟨fun x hx => ?_, List.pairwise_cons.2 h⟩
        rcases List.mem_cons.1 hx with rfl | hx
        · exact h3
        · exact List.lt_trans h3 (h.1 x hx)
theorem fold_put : ∀ (l acc : List (List UInt8)), Asc acc → Asc (l.foldl put acc) ∧ ∀ x, x ∈ l.foldl put acc ↔ x ∈ acc ∨ x ∈ l
  | [], acc, h => ⟨h, fun x => by simp⟩
  | s :: r, acc, h => by
    obtain ⟨h1, h2⟩ := fold_put r (put acc s) (put_asc h)
    refine ⟨h1, fun x => ?_⟩
    rw [List.foldl_cons, h2, put_mem, List.mem_cons]
    constructor
    · rintro ((h | h) | h) <;> simp [h]
    · rintro (h | h | h) <;> simp [h]
theorem acR_asc (l : List (List UInt8)) : Asc (acR l) := (fold_put l [] List.Pairwise.nil).1
theorem acR_mem {l : List (List UInt8)} {x : List UInt8} : x ∈ acR l ↔ x ∈ l := by
  have := (fold_put l [] List.Pairwise.nil).2 x
  simpa [acR] using this
theorem asc_uniq : ∀ {a b : List (List UInt8)}, Asc a → Asc b → (∀ x, x ∈ a ↔ x ∈ b) → a = b
  | [], [], _, _, _ => rfl
  | [], y :: b, _, _, h => by have := (h y).2 (by simp); simp at this
  | x :: a, [], _, _, h => by have := (h x).1 (by simp); simp at this
  | x :: a, y :: b, ha, hb, h => by
    rw [Asc, List.pairwise_cons] at ha hb
    have e : x = y := by
      rcases List.mem_cons.1 ((h x).1 (by simp)) with e | e
      · exact e
      · rcases List.mem_cons.1 ((h y).2 (by simp)) with e2 | e2
        · exact e2.symm
        · exact absurd (List.lt_trans (ha.1 y e2) (hb.1 x e)) (List.lt_irrefl x)
    subst e
    rw [asc_uniq ha.2 hb.2 fun z => ?_]
    constructor
    · intro hz
      rcases List.mem_cons.1 ((h z).1 (List.mem_cons_of_mem _ hz)) with e | e
      · subst e; exact absurd (ha.1 z hz) (List.lt_irrefl z)
      · exact e
    · intro hz
      rcases List.mem_cons.1 ((h z).2 (List.mem_cons_of_mem _ hz)) with e | e
      · subst e; exact absurd (hb.1 z hz) (List.lt_irrefl z)
      · exact e
theorem at_arr (zs : List (List UInt8)) {i : Nat} (h : i < zs.length) : zs.toArray[i]! = zs[i] := by simp [h]
theorem compact_mem {zs : List (List UInt8)} {x : List UInt8} : x ∈ compact zs ↔ x ∈ zs := by
  unfold compact compactUpTo
  constructor
  · intro h
    rw [List.mem_map] at h
    obtain ⟨i, hi, e⟩ := h
    have hi2 : i < zs.length := by simpa using (List.mem_filter.1 hi).1
    rw [at_arr zs hi2] at e
    rw [← e]; exact List.getElem_mem _
  · intro h
    obtain ⟨i, hi, e⟩ := List.getElem_of_mem h
    have key : ∀ i, i < zs.length → ∃ k, k < zs.length ∧ keeps zs.toArray k = true ∧ zs.toArray[k]! = zs.toArray[i]! := by
      intro i
      induction i with
      | zero => intro h; exact ⟨0, h, by simp [keeps], rfl⟩
      | succ i ih =>
        intro h
        by_cases hk : keeps zs.toArray (i + 1) = true
        · exact ⟨i + 1, h, hk, rfl⟩
        · obtain ⟨k, h1, h2, h3⟩ := ih (by omega)
          refine ⟨k, h1, h2, h3.trans ?_⟩
          unfold keeps at hk
          rw [decide_eq_true_eq] at hk
          have hk2 : zs.toArray[i + 1]! = zs.toArray[i + 1 - 1]! := Classical.byContradiction fun hn => hk (.inr hn)
          exact hk2.symm
    obtain ⟨k, h1, h2, h3⟩ := key i hi
    refine List.mem_map.2 ⟨k, List.mem_filter.2 ⟨by simpa using h1, h2⟩, ?_⟩
    rw [h3, at_arr zs hi, e]
theorem compact_asc {zs : List (List UInt8)} (h : zs.Pairwise fun a b => decide (a ≤ b) = true) : Asc (compact zs) := by
  have hle : ∀ {i j : Nat}, i ≤ j → j < zs.length → zs.toArray[i]! ≤ zs.toArray[j]! := by
    intro i j hij hj
    rw [at_arr zs (by omega), at_arr zs hj]
    rcases Nat.lt_or_eq_of_le hij with hlt | rfl
    · exact of_decide_eq_true (List.pairwise_iff_getElem.1 h i j (by omega) hj hlt)
    · exact List.le_refl _
  unfold compact compactUpTo
  rw [Asc, List.pairwise_map]
  refine List.Pairwise.imp_of_mem ?_ ((List.pairwise_lt_range (n := zs.length)).filter _)
  intro i j _ hj hij
  obtain ⟨hj1, hj2⟩ := List.mem_filter.1 hj
  have hj3 : j < zs.length := by simpa using hj1
  unfold keeps at hj2
  rw [decide_eq_true_eq] at hj2
  have hne := hj2.resolve_left (by omega)
  have a1 := hle (i := i) (j := j - 1) (by omega) (by omega)
  have a2 := hle (i := j - 1) (j := j) (by omega) hj3
  have a3 := List.le_trans a1 a2
  rcases Classical.em (zs.toArray[i]! < zs.toArray[j]!) with h4 | h4
  · exact h4
  · have e := List.le_antisymm a3 (List.not_lt.1 h4)
    rw [e] at a1
    exact absurd (List.le_antisymm a1 a2) hne
/-- The names, sorted and each once, are those put in one after another. -/
theorem names_same (l : List (List UInt8)) : compact (l.mergeSort fun x y => decide (x ≤ y)) = acR l := by
  refine asc_uniq (compact_asc ?_) (acR_asc l) fun x => by rw [compact_mem, List.mem_mergeSort, acR_mem]
  refine List.pairwise_mergeSort (fun a b c h1 h2 => ?_) (fun a b => ?_) l
  · rw [decide_eq_true_eq] at h1 h2 ⊢; exact List.le_trans h1 h2
  · rcases List.le_total a b with h | h <;> simp [h]
/-- What the balances of all accounts add up to. -/
theorem sum_map_add {α : Type} (f g : α → Int) : ∀ l : List α, (l.map fun a => f a + g a).sum = (l.map f).sum + (l.map g).sum
  | [] => rfl
  | a :: r => by rw [List.map_cons, List.sum_cons, sum_map_add f g r, List.map_cons, List.map_cons, List.sum_cons, List.sum_cons]; omega
theorem sum_one {s : List UInt8} (p : Int) : ∀ {A : List (List UInt8)}, Asc A → (A.map fun a => if s = a then p else 0).sum = if s ∈ A then p else 0
  | [], _ => by simp
  | a :: r, h => by
    rw [Asc, List.pairwise_cons] at h
    rw [List.map_cons, List.sum_cons, sum_one p h.2]
    by_cases e : s = a
    · subst e
      have hn : s ∉ r := fun hm => List.lt_irrefl s (h.1 s hm)
      rw [if_pos rfl, if_neg hn, if_pos (by simp)]; omega
    · rw [if_neg e]
      by_cases hm : s ∈ r
      · rw [if_pos hm, if_pos (by simp [hm])]; omega
      · rw [if_neg hm, if_neg (by simp [hm, e])]; omega
theorem sum_none {A : List (List UInt8)} (hA : Asc A) : ∀ {l : List Po}, (∀ x ∈ l, x.1 ∈ A ∧ x.2.1 ∈ A) → (A.map (bal l)).sum = 0
  | [], _ => by
    have : ∀ A : List (List UInt8), (A.map (bal [])).sum = 0 := fun A => by
      induction A with
      | nil => rfl
      | cons a r ih => rw [List.map_cons, List.sum_cons, ih]; rfl
    exact this A
  | x :: l, h => by
    have h1 := sum_none hA (l := l) fun y hy => h y (List.mem_cons_of_mem _ hy)
    have h2 := h x (by simp)
    have e : A.map (bal (x :: l)) = A.map fun a => gain x a + bal l a := rfl
    have e3 : (A.map fun a => gain x a) = A.map fun a => (if x.1 = a then x.2.2 else 0) + -(if x.2.1 = a then x.2.2 else 0) := by
      refine List.map_congr_left fun a _ => ?_
      unfold gain; omega
    have e4 : (A.map fun a => -(if x.2.1 = a then x.2.2 else 0)) = A.map fun a => if x.2.1 = a then -x.2.2 else 0 := by
      refine List.map_congr_left fun a _ => ?_
      split <;> omega
    have e5 : (A.map fun a => bal l a) = A.map (bal l) := rfl
    rw [e, sum_map_add, e3, sum_map_add, e4, sum_one _ hA, sum_one _ hA, if_pos h2.1, if_pos h2.2, e5, h1]
    omega
theorem trial_sum (l : List Po) : ((acR (nmL l)).map (bal l)).sum = 0 := by
  refine sum_none (acR_asc _) fun x hx => ?_
  rw [acR_mem, acR_mem]
  unfold nmL
  rw [List.mem_flatMap, List.mem_flatMap]
  exact ⟨⟨x, hx, by simp⟩, ⟨x, hx, by simp⟩⟩
end Bk
end Go.Proofs.YtcljpklgpedolaaGreatDoor
namespace Go.Proofs.YtcljpklgpedolaaGreatDoor
open Go.RowKit Go.Sort

theorem strL_len (x : List UInt8) : (strL x).length = 1 := rfl
theorem flat_enc : ∀ xs : List (List UInt8), xs.flatMap strL = xs.map encStr
  | [] => rfl
  | x :: r => by rw [List.flatMap_cons, flat_enc r]; rfl
theorem Bk.nmL_ac : ∀ l : List Bk.Po, Bk.nmL l = (Bk.acL l).map Bk.acN
  | [] => rfl
  | x :: r => by
    have h : Bk.acL (x :: r) = (true, x) :: (false, x) :: Bk.acL r := rfl
    have h2 : Bk.nmL (x :: r) = x.1 :: x.2.1 :: Bk.nmL r := rfl
    rw [h, h2, Bk.nmL_ac r]; rfl
theorem names_next {A : List Bk.Ac} {j : Nat} (h : j < A.length) : (A.take (j + 1)).map Bk.acN = (A.take j).map Bk.acN ++ [Bk.acN A[j]] := by
  rw [List.take_succ_eq_append_getElem h, List.map_append]; rfl
set_option maxRecDepth 20000 in
/-- Sorted, and each once. -/
theorem sortCompact_any (v : Value) (ss : List (List UInt8)) (base : Nat) (w : World) (h : OwnG 9 1 strL base w v ss) (hl : ss.length ≤ 10000) :
    Calls Tryz.prog 98 #[v] w fun e w' => e = .returned (.tuple #[]) ∧ (∀ B, B ≤ base → B ≤ w.heap.size → Below B w w') ∧ Calls Tryz.prog 99 #[v] w' fun e2 w2 => ∃ u, e2 = .returned u ∧ RowsOf 1 strL w2 u (Bk.acR ss) ∧ (∀ B, B ≤ base → B ≤ w.heap.size → Below B w w2) := by
  rw [← Bk.names_same]
  have h' := h
  unfold OwnG at h'
  rw [flat_enc] at h'
  rcases id h'.2 with ⟨h1, h2⟩ | ⟨g, cap, cur, h1, h2, h3, h4, h5, h6, h7⟩
  · subst h1
    obtain rfl := List.length_eq_zero_iff.1 h2
    refine (Tryz.slices_Sort_string_none none 0 w).mono ?_
    rintro e w1 ⟨rfl, rfl⟩
    refine ⟨rfl, fun B _ _ => Below.refl _ _, ?_⟩
    refine (Tryz.slices_Compact_string_empty none 0 w1).mono ?_
    rintro e w2 ⟨rfl, rfl⟩
    have e0 : Lib.compact (([] : List (List UInt8)).mergeSort fun x y => decide (x ≤ y)) = [] := by simp [Lib.compact, Lib.compactUpTo]
    rw [e0]
    exact ⟨_, rfl, ⟨none, 0, rfl, Nat.le_refl _, fun k hk => by simp at hk⟩, fun B _ _ => Below.refl _ _⟩
  · subst h1
    have h3' : w.heap[g]? = some (.cells cur 9 (0, 0)) := h3
    have hg : g < w.heap.size := (Array.getElem?_eq_some_iff.1 h3).1
    rw [Nat.mul_one] at h7
    refine (Tryz.slices_Sort_string g 0 cap ss w (holds_of_block h3' h7) hg (by omega)).mono ?_
    rintro e w1 ⟨rfl, n, os, rfl⟩
    have hls : (ss.mergeSort fun x y => decide (x ≤ y)).length = ss.length := by simp
    have o1 := ownsRow_sorted (n := n) (os := os) hls h2 h3' h4 h5 h6
    have gb1 := grownBy_sorted (w := w) (g := g) (n := n) (os := os) (ss.mergeSort fun x y => decide (x ≤ y)).toArray
    generalize ss.mergeSort (fun x y => decide (x ≤ y)) = zs at *
    generalize grow (putRow encStr (Sort.ahead w n) g 0 zs.toArray) os = w1 at *
    refine ⟨rfl, fun B hB hs => (Below.refl B w).grown gb1 hs (fun j e => by
      have : g = j := by simpa using e
      omega), ?_⟩
    rcases id o1.2 with ⟨k1, _⟩ | ⟨g', cap', cur', k1, k2, k3, k4, k5, k6, k7⟩
    · cases k1
    · injection k1 with k1 _ k1c
      injection k1 with k1
      injection k1 with k1
      subst k1 k1c
      have k3' : w1.heap[g]? = some (.cells cur' 9 (0, 0)) := k3
      rw [← hls] at k4 k7 ⊢
      rw [Nat.mul_one] at k7
      refine (Tryz.slices_Compact_string g 0 cap zs w1 (holds_of_block k3' k7) (by omega) k4).mono ?_
      rintro e2 w2 ⟨rfl, q, hw2⟩
      have hcl := Lib.compact_length_le zs
      have hl2 : (Lib.compact zs ++ List.replicate (zs.length - (Lib.compact zs).length) []).length = zs.length := by rw [List.length_append, List.length_replicate]; omega
      have o2 := ownsRow_sorted (n := q) (os := #[]) hl2 h2 k3' k4 k5 k6
      have gb2 := grownBy_sorted (w := w1) (g := g) (n := q) (os := #[]) (Lib.compact zs ++ List.replicate (zs.length - (Lib.compact zs).length) []).toArray
      rw [grow_empty, ← hw2] at o2 gb2
      refine ⟨_, rfl, ⟨_, cap, rfl, by omega, fun k hk => ⟨g, 0, rfl, ?_, fun j u hj => ?_⟩⟩, fun B hB hs => ?_⟩
      · exact Nat.lt_of_lt_of_le hg (Nat.le_trans gb1.size gb2.size)
      · obtain rfl : j = 0 := by
          have := (List.getElem?_eq_some_iff.1 hj).1
          rw [strL_len] at this; omega
        have hc := World.ownsRow.cellAt o2 k (by omega)
        rw [show 0 + k * 1 + 0 = k by omega, hc, ← hj, List.getElem?_map, List.getElem?_append_left hk, List.getElem?_eq_getElem hk]
        rfl
      · have b1 : Below B w w1 := (Below.refl B w).grown gb1 hs (fun j e => by
          have : g = j := by simpa using e
          omega)
        exact b1.grown gb2 (Nat.le_trans hs gb1.size) (fun j e => by
          have : g = j := by simpa using e
          omega)
set_option maxRecDepth 20000 in
set_option maxHeartbeats 1000000 in
theorem namesOf_any (v : Value) (l : List Bk.Po) (w : World) (hv : Posts w v l) (hl : l.length ≤ 1000) :
    Calls Tryz.prog 74 #[v] w fun e w' => ∃ u, e = .returned u ∧ RowsOf 1 strL w' u (Bk.acR (Bk.nmL l)) ∧ Below w.heap.size w w' := by
  obtain ⟨i0, hi, hz0, hz1, hz2⟩ := info_parts infoStr
  have C := Lib.hid (accountsOf_any v l w hv hl)
  obtain ⟨va, vc, rfl⟩ := hv.form
  rw [Bk.nmL_ac]
  have hAl := Bk.acL_len l
  have hAl2 : (Bk.acL l).length ≤ 2000 := by omega
  have HNX := Lib.hid (fun j (h : j < (Bk.acL l).length) => names_next h)
  have HTT : Hid (((Bk.acL l).take (Bk.acL l).length).map Bk.acN = (Bk.acL l).map Bk.acN) := Lib.hid (by rw [List.take_length])
  clear hAl hv
  generalize Bk.acL l = A at *
  obtain ⟨G, hG⟩ : ∃ G : Nat → List (List UInt8), G = fun j => (A.take j).map Bk.acN := ⟨_, rfl⟩
  have hGk : ∀ j, (A.take j).map Bk.acN = G j := fun j => by rw [hG]
  have hGl : ∀ j, (G j).length ≤ 2000 := fun j => by rw [hG, List.length_map, List.length_take]; omega
  simp only [hGk] at HNX HTT
  have h0 : G 0 = [] := by rw [← hGk]; rfl
  rw [← HTT.out]
  have HGL := Lib.hid hGl
  have HSC := Lib.hid (fun v base W h => sortCompact_any v (G A.length) base W h (by have := hGl A.length; omega))
  clear hG hGk hGl HTT
  go_enter Tryz.func74, Tryz.ntmps74
  go_wp2_with fail
  refine C.out.mono ?_
  rintro e w1 ⟨u, rfl, ho, hb⟩
  have hro := ho.rows acC_len
  obtain ⟨ua, uc, e, hcap, hx⟩ := id hro
  subst e
  have HV := Lib.hid hx
  have HB1 := Lib.hid hb
  clear ho hro hx hb C
  go_wp2
  go_loopw [3, 9] (fun ls t wr => ∃ (j : Nat) (a : Option Addr) (c : Nat), j ≤ A.length ∧ ls = .slice a (G j).length c ∧ t = .int .i64 (j : Int) ∧ Hid (OwnG 9 1 strL w1.heap.size wr (.slice a (G j).length c) (G j) ∧ Below w1.heap.size w1 wr)) (fun _ t _ => A.length - (intOf t).toNat)
  case atStart => exact ⟨0, none, 0, Nat.zero_le _, by rw [h0]; rfl, rfl, Lib.hid ⟨by rw [h0]; exact OwnG.nil _ _, Below.refl _ _⟩⟩
  case round =>
    obtain ⟨j, a, c, hj, rfl, rfl, hg⟩ := hrel
    by_cases hlt : j < A.length
    · obtain ⟨b, off, rfl, hbl, hr⟩ := HV.out j hlt
      have c0 := (hr.below hg.out.2 hbl) 0 _ rfl
      have HN := HNX.out j hlt
      have hgl := HGL.out j
      simp only [Nat.mul_one, Nat.add_zero] at c0
      clear hr
      generalize A[j] = x at *
      obtain ⟨d, y⟩ := x
      cases d with
      | true =>
        simp only [if_true] at c0
        have HNM := Lib.hid (fun W => nameD_any y W)
        have e1 : Bk.acN (true, y) = y.1 := rfl
        rw [e1] at HN
        clear e1
        obtain ⟨yd, yc, yp⟩ := y
        dsimp only at HNM HN
        have HN2 := Lib.hid HN
        clear HN
        
        go_wp2_with fail
        refine (HNM.out _).mono ?_
        rintro e w2 ⟨rfl, hb2⟩
        have hw2 := below_step hg.out.2 hb2
        have hown := hg.out.1.all hb2
        have hca := cells_new (cs := strL yd) w2 9
        have hsz := hw2.size
        clear hb2 HNM c0
        go_wp2_with (at_builtin; refine wpList_append_own _ rfl _ _ 44 rfl w1.heap.size 9 i0 (.string ⟨#[]⟩) 1 16 Tryz.underlying44 hi hz0 hz1 hz2 rfl (by decide) _ _ _ rfl (hown.alloc _) ⟨w2.heap.size, 0, none⟩ 1 1 (strL yd) rfl rfl ?c1 (strL_one _) ?c3 ?c4 ?c5 ?_)
        case c1 => first | exact hca | exact fun j u h => h
        case c3 => unfold maxLen; omega
        case c4 => omega
        case c5 => first | omega | (simp; omega)
        intro v' w9 hr9 hg9 _
        have hw9 := (below_alloc hw2 (.cells (strL yd).toArray 9)).grown hg9 (by simp; omega) (fun j e => (World.ownsRow.lt hown j e).1)
        have hp9 : OwnG 9 1 strL w1.heap.size w9 v' (G j ++ [yd]) := OwnG.pushed hr9
        rw [← HN2.out] at hp9
        obtain ⟨a9, c9, e9⟩ := (hp9.rows strL_len).form
        subst e9
        have HG9 := Lib.hid (And.intro hp9 hw9)
        clear hown hw2 hca hr9 hg9 hw9 hp9
        go_wp2
        go_roundw
        case rel => exact ⟨j + 1, a9, c9, by omega, rfl, by go_num, Lib.hid HG9.out⟩
        case measure => simp [intOf]; omega
      | false =>
        simp only [Bool.false_eq_true, if_false] at c0
        have HNM := Lib.hid (fun W => nameC_any y W)
        have e1 : Bk.acN (false, y) = y.2.1 := rfl
        rw [e1] at HN
        clear e1
        obtain ⟨yd, yc, yp⟩ := y
        dsimp only at HNM HN
        have HN2 := Lib.hid HN
        clear HN
        
        go_wp2_with fail
        refine (HNM.out _).mono ?_
        rintro e w2 ⟨rfl, hb2⟩
        have hw2 := below_step hg.out.2 hb2
        have hown := hg.out.1.all hb2
        have hca := cells_new (cs := strL yc) w2 9
        have hsz := hw2.size
        clear hb2 HNM c0
        go_wp2_with (at_builtin; refine wpList_append_own _ rfl _ _ 44 rfl w1.heap.size 9 i0 (.string ⟨#[]⟩) 1 16 Tryz.underlying44 hi hz0 hz1 hz2 rfl (by decide) _ _ _ rfl (hown.alloc _) ⟨w2.heap.size, 0, none⟩ 1 1 (strL yc) rfl rfl ?c1 (strL_one _) ?c3 ?c4 ?c5 ?_)
        case c1 => first | exact hca | exact fun j u h => h
        case c3 => unfold maxLen; omega
        case c4 => omega
        case c5 => first | omega | (simp; omega)
        intro v' w9 hr9 hg9 _
        have hw9 := (below_alloc hw2 (.cells (strL yc).toArray 9)).grown hg9 (by simp; omega) (fun j e => (World.ownsRow.lt hown j e).1)
        have hp9 : OwnG 9 1 strL w1.heap.size w9 v' (G j ++ [yc]) := OwnG.pushed hr9
        rw [← HN2.out] at hp9
        obtain ⟨a9, c9, e9⟩ := (hp9.rows strL_len).form
        subst e9
        have HG9 := Lib.hid (And.intro hp9 hw9)
        clear hown hw2 hca hr9 hg9 hw9 hp9
        go_wp2
        go_roundw
        case rel => exact ⟨j + 1, a9, c9, by omega, rfl, by go_num, Lib.hid HG9.out⟩
        case measure => simp [intOf]; omega
    · obtain rfl : j = A.length := by omega
      have HS := Lib.hid (HSC.out _ _ _ hg.out.1)
      have hsz := hg.out.2.size
      clear HSC
      go_wp2_with fail
      refine HS.out.mono ?_
      rintro e w2 ⟨rfl, hb2, hcc⟩
      have HC2 := Lib.hid hcc
      clear hcc HS hb2
      go_wp2_with fail
      refine HC2.out.mono ?_
      rintro e w3 ⟨u, rfl, hu, hb3⟩
      have HR := Lib.hid (And.intro hu (HB1.out.trans ((hg.out.2.trans (hb3 w1.heap.size (Nat.le_refl _) hsz)).mono HB1.out.size)))
      clear hu hb3 HC2
      go_wp2
      go_ret
      exact ⟨_, rfl, HR.out.1, HR.out.2⟩
end Go.Proofs.YtcljpklgpedolaaGreatDoor
