/- A name put in: of the reference. The accounts and the trial balance: of both sides. -/
import Derived.Test.YtcljpklgpedolaaGreatDoorBkWJ
import Derived.Laws.AppendOwnNone
import Derived.Test.YtcljpklgpedolaaGreatDoorBkWI
namespace Go.Proofs.YtcljpklgpedolaaGreatDoor
open Go.RowKit Go.Sort

/-- What is told of a name put in. -/
def PutSays (L : List (List UInt8)) (s : List UInt8) (w : World) (e : Ending) (w' : World) : Prop := ∃ u, e = .returned u ∧ OwnG 9 1 strL w.heap.size w' u (Bk.put L s) ∧ Below w.heap.size w w'
set_option maxRecDepth 20000 in
set_option maxHeartbeats 1000000 in
theorem put_nil (s : List UInt8) (w : World) : Calls Tryz.prog 100 #[.slice none 0 0, sv s] w (PutSays [] s w) := by
  obtain ⟨i0, hi, hz0, hz1, hz2⟩ := info_parts infoStr
  unfold PutSays
  have hown := OwnG.nil (t := 9) (c := 1) (cs := strL) w.heap.size w
  have hw0 := Below.refl w.heap.size w
  go_enter Tryz.func100, Tryz.ntmps100
  go_wp2
  go_loopw [5, 6] (fun o t wr => o = .slice none 0 0 ∧ t = .int .i64 0 ∧ Hid (w = wr)) (fun _ _ _ => 0)
  case atStart => exact ⟨rfl, rfl, Lib.hid rfl⟩
  case round =>
    obtain ⟨rfl, rfl, hg⟩ := hrel
    obtain rfl := hg.out
    have hca := cells_new (cs := strL s) w 9
    go_wp2_with (at_builtin; refine wpList_append_own _ rfl _ _ 44 rfl w.heap.size 9 i0 (.string ⟨#[]⟩) 1 16 Tryz.underlying44 hi hz0 hz1 hz2 rfl (by decide) _ _ _ rfl (hown.alloc _) ⟨w.heap.size, 0, none⟩ 1 1 (strL s) rfl rfl ?c1 (strL_one _) ?c3 ?c4 ?c5 ?_)
    case c1 => first | exact hca | exact fun j u h => h
    try (case c3 => unfold maxLen; first | omega | (simp; omega))
    try (case c4 => first | omega | (simp; omega))
    try (case c5 => first | omega | (simp; omega))
    intro v' w9 hr9 hg9 _
    have hw9 := (below_alloc hw0 (.cells (strL s).toArray 9)).grown hg9 (by simp) (fun j e => (World.ownsRow.lt hown j e).1)
    have hp9 : OwnG 9 1 strL w.heap.size w9 v' [s] := OwnG.pushed (xs := []) hr9
    obtain ⟨a9, c9, e9⟩ := (hp9.rows strL_len).form
    subst e9
    clear hr9 hg9 hca
    go_wp2_with (at_builtin; refine wpList_append_own_none rfl _ _ 44 rfl w.heap.size 9 i0 1 Tryz.underlying44 hi _ _ _ rfl hp9 rfl ?_)
    go_wp2
    go_ret
    exact ⟨_, rfl, hp9, hw9⟩
theorem add_at (g n j : Nat) : (⟨g, n, none⟩ : Addr).add j = ⟨g, n + j, none⟩ := by cases j <;> simp [Addr.add]
set_option maxRecDepth 20000 in
set_option maxHeartbeats 2000000 in
theorem put_some (L : List (List UInt8)) (s : List UInt8) (g cap : Nat) (w : World) (hl : L.length ≤ 1000) (hg : g < w.heap.size) (hcap : L.length ≤ cap) (hc : ∀ k (hk : k < L.length), w.cell? ⟨g, k, none⟩ = some (sv L[k])) :
    Calls Tryz.prog 100 #[.slice (some ⟨g, 0, none⟩) L.length cap, sv s] w (PutSays L s w) := by
  obtain ⟨i0, hi, hz0, hz1, hz2⟩ := info_parts infoStr
  unfold PutSays
  have HC := Lib.hid hc
  have hw0 := Lib.hid (Below.refl w.heap.size w)
  obtain ⟨T, hT⟩ : ∃ T : Nat → List (List UInt8), T = fun i => L.take i := ⟨_, rfl⟩
  have hTi : ∀ i, L.take i = T i := fun i => by rw [hT]
  have HTL : Hid (∀ i, (T i).length ≤ 1000) := Lib.hid (fun i => by rw [hT, List.length_take]; omega)
  have HTN : Hid (∀ i (h : i < L.length), T (i + 1) = T i ++ [L[i]]) := Lib.hid (fun i h => by rw [hT]; exact List.take_succ_eq_append_getElem h)
  have h0 : T 0 = [] := by rw [hT]; rfl
  have HPA := Lib.hid (fun i h1 h2 h3 => Bk.put_at L s i h1 h2 h3)
  simp only [hTi] at HPA
  clear hc hT hTi
  go_enter Tryz.func100, Tryz.ntmps100
  go_wp2
  go_loopw [5, 6] (fun o t wr => ∃ (i : Nat) (a : Option Addr) (c : Nat), i ≤ L.length ∧ o = .slice a (T i).length c ∧ t = .int .i64 (i : Int) ∧ Hid ((∀ j (h : j < i) (h2 : j < L.length), L[j] < s) ∧ OwnG 9 1 strL w.heap.size wr (.slice a (T i).length c) (T i) ∧ Below w.heap.size w wr)) (fun _ t _ => L.length - (intOf t).toNat)
  case atStart => exact ⟨0, none, 0, Nat.zero_le _, by rw [h0]; rfl, rfl, Lib.hid ⟨fun j h => absurd h (Nat.not_lt_zero _), by rw [h0]; exact OwnG.nil _ _, hw0.out⟩⟩
  case round =>
    obtain ⟨i, a, c, hil, rfl, rfl, hG⟩ := hrel
    have hsz := hG.out.2.2.size
    have htl := HTL.out i
    by_cases hlt : i < L.length
    · have c0 : wr.cell? ⟨g, i, none⟩ = some (sv L[i]) := (hG.out.2.2.cell (p := ⟨g, i, none⟩) hg).trans (HC.out i hlt)
      have HT := Lib.hid (HTN.out i hlt)
      by_cases hs : L[i] < s
      · have HJ : Hid (∀ j (h : j < i + 1) (h2 : j < L.length), L[j] < s) := Lib.hid (fun j h h2 => by
          rcases Nat.lt_or_eq_of_le (Nat.le_of_lt_succ h) with h3 | rfl
          · exact hG.out.1 j h3 h2
          · exact hs)
        have HG := Lib.hid hG.out.2
        clear hG
        generalize L[i] = x at *
        have hown := HG.out.1
        have hq : Op.bytesLess x s = true := by rw [bytesLess_eq]; exact decide_eq_true hs
        clear hs
        have hca := cells_new (cs := strL x) wr 9
        go_wp2_with (at_builtin; refine wpList_append_own _ rfl _ _ 44 rfl w.heap.size 9 i0 (.string ⟨#[]⟩) 1 16 Tryz.underlying44 hi hz0 hz1 hz2 rfl (by decide) _ _ _ rfl (hown.alloc _) ⟨wr.heap.size, 0, none⟩ 1 1 (strL x) rfl rfl ?c1 (strL_one _) ?c3 ?c4 ?c5 ?_)
        case c1 => first | exact hca | exact fun j u h => h
        try (case c3 => unfold maxLen; first | omega | (simp; omega))
        try (case c4 => first | omega | (simp; omega))
        try (case c5 => first | omega | (simp; omega))
        intro v' w9 hr9 hg9 _
        have hw9 := (below_alloc HG.out.2 (.cells (strL x).toArray 9)).grown hg9 (by simp; omega) (fun j e => (World.ownsRow.lt hown j e).1)
        have hp9 : OwnG 9 1 strL w.heap.size w9 v' (T i ++ [x]) := OwnG.pushed hr9
        rw [← HT.out] at hp9
        obtain ⟨a9, c9, e9⟩ := (hp9.rows strL_len).form
        subst e9
        have HG9 := Lib.hid (And.intro hp9 hw9)
        clear hr9 hg9 hca hp9 hw9 hown c0 hq
        go_wp2
        go_roundw
        case rel => exact ⟨i + 1, a9, c9, by omega, rfl, by go_num, Lib.hid ⟨HJ.out, HG9.out⟩⟩
        case measure => simp [intOf]; omega
      · have HP0 := HPA.out i hG.out.1 hil (fun _ => hs)
        have HG := Lib.hid hG.out.2
        clear hG HPA
        have hown := HG.out.1
        have hq : Op.bytesLess L[i] s = false := by rw [bytesLess_eq]; exact decide_eq_false hs
        clear hs
        by_cases he : L[i] = s
        · have HP : Hid (Bk.put L s = T i ++ s :: L.drop (i + 1)) := Lib.hid (by rw [HP0, if_pos (by rw [List.getElem?_eq_getElem hlt, he])])
          have hq2 : (L[i] == s) = true := by rw [he]; exact beq_self_eq_true s
          clear HP0 he
          have hca := cells_new (cs := strL s) wr 9
          go_wp2_with (at_builtin; refine wpList_append_own _ rfl _ _ 44 rfl w.heap.size 9 i0 (.string ⟨#[]⟩) 1 16 Tryz.underlying44 hi hz0 hz1 hz2 rfl (by decide) _ _ _ rfl (hown.alloc _) ⟨wr.heap.size, 0, none⟩ 1 1 (strL s) rfl rfl ?c1 (strL_one _) ?c3 ?c4 ?c5 ?_)
          case c1 => first | exact hca | exact fun j u h => h
          try (case c3 => unfold maxLen; first | omega | (simp; omega))
          try (case c4 => first | omega | (simp; omega))
          try (case c5 => first | omega | (simp; omega))
          intro v' w9 hr9 hg9 _
          have hw9 := (below_alloc HG.out.2 (.cells (strL s).toArray 9)).grown hg9 (by simp; omega) (fun j e => (World.ownsRow.lt hown j e).1)
          have hp9 : OwnG 9 1 strL w.heap.size w9 v' (T i ++ [s]) := OwnG.pushed hr9
          obtain ⟨a9, c9, e9⟩ := (hp9.rows strL_len).form
          subst e9
          have hrest : ∀ j u, ((L.drop (i + 1)).flatMap strL)[j]? = some u → w9.cell? ((⟨g, i + 1, none⟩ : Addr).add j) = some u := fun j u hj => by
            have hj2 : j < ((L.drop (i + 1)).flatMap strL).length := (List.getElem?_eq_some_iff.1 hj).1
            rw [flat_len strL_len, List.length_drop, Nat.mul_one] at hj2
            rw [flat_enc, List.getElem?_map, List.getElem?_drop, List.getElem?_eq_getElem (show i + 1 + j < L.length by omega)] at hj
            rw [add_at, hw9.cell (p := ⟨g, i + 1 + j, none⟩) hg, HC.out (i + 1 + j) (by omega)]
            exact hj
          have hrest2 : ∀ j u, ((L.drop (i + 1)).flatMap strL)[j]? = some u → L.length = i + 1 → w9.cell? ((⟨g, 0, none⟩ : Addr).add j) = some u := fun j u hj he => by
            rw [List.drop_eq_nil_of_le (by omega)] at hj
            simp at hj
          have HRS := Lib.hid hrest
          have HRS2 := Lib.hid hrest2
          have hone : ∀ u ∈ (L.drop (i + 1)).flatMap strL, u.oneCell' = true := fun u h => by
            rw [List.mem_flatMap] at h
            obtain ⟨x, _, hx⟩ := h
            exact strL_one x u hx
          have HONE := Lib.hid hone
          have HLEN : Hid (((L.drop (i + 1)).flatMap strL).length = (L.length - (i + 1)) * 1) := Lib.hid (by rw [flat_len strL_len, List.length_drop])
          have hX : (T i ++ [s]).length ≤ 1001 := by simp; omega
          have HPX : Hid (∀ u w', w'.ownsRow w.heap.size 9 1 u ((T i ++ [s]).length + (L.length - (i + 1))) ((T i ++ [s]).flatMap strL ++ (L.drop (i + 1)).flatMap strL) → OwnG 9 1 strL w.heap.size w' u (Bk.put L s)) := Lib.hid (fun u w' h => by
            rw [HP.out]
            unfold OwnG
            rw [show T i ++ s :: L.drop (i + 1) = (T i ++ [s]) ++ L.drop (i + 1) by simp, List.flatMap_append, List.length_append, List.length_drop]
            exact h)
          have c0' : ∀ hlt : i < L.length, w9.cell? ⟨g, i, none⟩ = some (sv L[i]) := fun hlt => (hw9.cell (p := ⟨g, i, none⟩) hg).trans (HC.out i hlt)
          have hsz9 := hw9.size
          have c1 := c0' hlt
          generalize L[i] = x at *
          clear c0' HT
          clear hr9 hg9 hca hrest hrest2 hone hown
          generalize T i ++ [s] = X at *
          by_cases hcc : i + 1 < cap
          · go_wp2_with (at_builtin; refine wpList_append_own _ rfl _ _ 44 rfl w.heap.size 9 i0 (.string ⟨#[]⟩) 1 16 Tryz.underlying44 hi hz0 hz1 hz2 rfl (by decide) _ _ _ rfl hp9 ⟨g, i + 1, none⟩ (L.length - (i + 1)) (cap - (i + 1)) ((L.drop (i + 1)).flatMap strL) rfl HLEN.out HRS.out HONE.out ?c3 ?c4 ?c5 ?_)
            try (case c3 => unfold maxLen; first | omega | (simp; omega))
            try (case c4 => first | omega | (simp; omega))
            try (case c5 => first | omega | (simp; omega))
            intro v3 w3 hr3 hg3 _
            have hw3 := hw9.grown hg3 hsz9 (fun j e => (World.ownsRow.lt hp9 j e).1)
            have hp3 := HPX.out _ _ hr3
            obtain ⟨a3, c3, e3⟩ := (hp3.rows strL_len).form
            subst e3
            clear hr3 hg3 hp9
            go_wp2
            go_ret
            exact ⟨_, rfl, hp3, hw3⟩
          · have HLE : Hid (L.length = i + 1) := Lib.hid (by omega)
            obtain rfl : i + 1 = cap := by omega
            clear hcc hcap
            go_wp2_with (at_builtin; go_loud (refine wpList_append_own _ rfl _ _ 44 rfl w.heap.size 9 i0 (.string ⟨#[]⟩) 1 16 Tryz.underlying44 hi hz0 hz1 hz2 rfl (by decide) _ _ _ rfl hp9 ⟨g, 0, none⟩ (L.length - (i + 1)) 0 ((L.drop (i + 1)).flatMap strL) rfl HLEN.out (fun j u hj => HRS2.out j u hj HLE.out) HONE.out ?c3 ?c4 ?c5 ?_))
            try (case c3 => unfold maxLen; first | omega | (simp; omega))
            try (case c4 => first | omega | (simp; omega))
            try (case c5 => first | omega | (simp; omega))
            intro v3 w3 hr3 hg3 _
            have hw3 := hw9.grown hg3 hsz9 (fun j e => (World.ownsRow.lt hp9 j e).1)
            have hp3 := HPX.out _ _ hr3
            obtain ⟨a3, c3, e3⟩ := (hp3.rows strL_len).form
            subst e3
            clear hr3 hg3 hp9
            go_wp2
            go_ret
            exact ⟨_, rfl, hp3, hw3⟩
        · have HP : Hid (Bk.put L s = T i ++ s :: L.drop i) := Lib.hid (by rw [HP0, if_neg (by rw [List.getElem?_eq_getElem hlt]; simpa using he)])
          have hq2 : (L[i] == s) = false := beq_eq_false_iff_ne.2 he
          clear HP0 he
          have hca := cells_new (cs := strL s) wr 9
          go_wp2_with (at_builtin; refine wpList_append_own _ rfl _ _ 44 rfl w.heap.size 9 i0 (.string ⟨#[]⟩) 1 16 Tryz.underlying44 hi hz0 hz1 hz2 rfl (by decide) _ _ _ rfl (hown.alloc _) ⟨wr.heap.size, 0, none⟩ 1 1 (strL s) rfl rfl ?c1 (strL_one _) ?c3 ?c4 ?c5 ?_)
          case c1 => first | exact hca | exact fun j u h => h
          try (case c3 => unfold maxLen; first | omega | (simp; omega))
          try (case c4 => first | omega | (simp; omega))
          try (case c5 => first | omega | (simp; omega))
          intro v' w9 hr9 hg9 _
          have hw9 := (below_alloc HG.out.2 (.cells (strL s).toArray 9)).grown hg9 (by simp; omega) (fun j e => (World.ownsRow.lt hown j e).1)
          have hp9 : OwnG 9 1 strL w.heap.size w9 v' (T i ++ [s]) := OwnG.pushed hr9
          obtain ⟨a9, c9, e9⟩ := (hp9.rows strL_len).form
          subst e9
          have hrest : ∀ j u, ((L.drop (i)).flatMap strL)[j]? = some u → w9.cell? ((⟨g, i, none⟩ : Addr).add j) = some u := fun j u hj => by
            have hj2 : j < ((L.drop (i)).flatMap strL).length := (List.getElem?_eq_some_iff.1 hj).1
            rw [flat_len strL_len, List.length_drop, Nat.mul_one] at hj2
            rw [flat_enc, List.getElem?_map, List.getElem?_drop, List.getElem?_eq_getElem (show i + j < L.length by omega)] at hj
            rw [add_at, hw9.cell (p := ⟨g, i + j, none⟩) hg, HC.out (i + j) (by omega)]
            exact hj
          have hrest2 : ∀ j u, ((L.drop (i)).flatMap strL)[j]? = some u → L.length = i → w9.cell? ((⟨g, 0, none⟩ : Addr).add j) = some u := fun j u hj he => by
            rw [List.drop_eq_nil_of_le (by omega)] at hj
            simp at hj
          have HRS := Lib.hid hrest
          have HRS2 := Lib.hid hrest2
          have hone : ∀ u ∈ (L.drop (i)).flatMap strL, u.oneCell' = true := fun u h => by
            rw [List.mem_flatMap] at h
            obtain ⟨x, _, hx⟩ := h
            exact strL_one x u hx
          have HONE := Lib.hid hone
          have HLEN : Hid (((L.drop (i)).flatMap strL).length = (L.length - (i)) * 1) := Lib.hid (by rw [flat_len strL_len, List.length_drop])
          have hX : (T i ++ [s]).length ≤ 1001 := by simp; omega
          have HPX : Hid (∀ u w', w'.ownsRow w.heap.size 9 1 u ((T i ++ [s]).length + (L.length - (i))) ((T i ++ [s]).flatMap strL ++ (L.drop (i)).flatMap strL) → OwnG 9 1 strL w.heap.size w' u (Bk.put L s)) := Lib.hid (fun u w' h => by
            rw [HP.out]
            unfold OwnG
            rw [show T i ++ s :: L.drop (i) = (T i ++ [s]) ++ L.drop (i) by simp, List.flatMap_append, List.length_append, List.length_drop]
            exact h)
          have c0' : ∀ hlt : i < L.length, w9.cell? ⟨g, i, none⟩ = some (sv L[i]) := fun hlt => (hw9.cell (p := ⟨g, i, none⟩) hg).trans (HC.out i hlt)
          have hsz9 := hw9.size
          have c1 := c0' hlt
          generalize L[i] = x at *
          clear c0' HT
          clear hr9 hg9 hca hrest hrest2 hone hown
          generalize T i ++ [s] = X at *
          by_cases hcc : i < cap
          · go_wp2_with (at_builtin; refine wpList_append_own _ rfl _ _ 44 rfl w.heap.size 9 i0 (.string ⟨#[]⟩) 1 16 Tryz.underlying44 hi hz0 hz1 hz2 rfl (by decide) _ _ _ rfl hp9 ⟨g, i, none⟩ (L.length - (i)) (cap - (i)) ((L.drop (i)).flatMap strL) rfl HLEN.out HRS.out HONE.out ?c3 ?c4 ?c5 ?_)
            try (case c3 => unfold maxLen; first | omega | (simp; omega))
            try (case c4 => first | omega | (simp; omega))
            try (case c5 => first | omega | (simp; omega))
            intro v3 w3 hr3 hg3 _
            have hw3 := hw9.grown hg3 hsz9 (fun j e => (World.ownsRow.lt hp9 j e).1)
            have hp3 := HPX.out _ _ hr3
            obtain ⟨a3, c3, e3⟩ := (hp3.rows strL_len).form
            subst e3
            clear hr3 hg3 hp9
            go_wp2
            go_ret
            exact ⟨_, rfl, hp3, hw3⟩
          · exact absurd (show i < cap by omega) hcc
    · have HP0 := HPA.out i hG.out.1 hil (fun h => absurd h hlt)
      have HG := Lib.hid hG.out.2
      clear hG HPA
      have hown := HG.out.1
      have HP : Hid (Bk.put L s = T i ++ s :: L.drop i) := Lib.hid (by rw [HP0, if_neg (by rw [List.getElem?_eq_none (by omega)]; simp)])
      clear HP0
      have hca := cells_new (cs := strL s) wr 9
      go_wp2_with (at_builtin; refine wpList_append_own _ rfl _ _ 44 rfl w.heap.size 9 i0 (.string ⟨#[]⟩) 1 16 Tryz.underlying44 hi hz0 hz1 hz2 rfl (by decide) _ _ _ rfl (hown.alloc _) ⟨wr.heap.size, 0, none⟩ 1 1 (strL s) rfl rfl ?c1 (strL_one _) ?c3 ?c4 ?c5 ?_)
      case c1 => first | exact hca | exact fun j u h => h
      try (case c3 => unfold maxLen; first | omega | (simp; omega))
      try (case c4 => first | omega | (simp; omega))
      try (case c5 => first | omega | (simp; omega))
      intro v' w9 hr9 hg9 _
      have hw9 := (below_alloc HG.out.2 (.cells (strL s).toArray 9)).grown hg9 (by simp; omega) (fun j e => (World.ownsRow.lt hown j e).1)
      have hp9 : OwnG 9 1 strL w.heap.size w9 v' (T i ++ [s]) := OwnG.pushed hr9
      obtain ⟨a9, c9, e9⟩ := (hp9.rows strL_len).form
      subst e9
      have hrest : ∀ j u, ((L.drop (i)).flatMap strL)[j]? = some u → w9.cell? ((⟨g, i, none⟩ : Addr).add j) = some u := fun j u hj => by
        have hj2 : j < ((L.drop (i)).flatMap strL).length := (List.getElem?_eq_some_iff.1 hj).1
        rw [flat_len strL_len, List.length_drop, Nat.mul_one] at hj2
        rw [flat_enc, List.getElem?_map, List.getElem?_drop, List.getElem?_eq_getElem (show i + j < L.length by omega)] at hj
        rw [add_at, hw9.cell (p := ⟨g, i + j, none⟩) hg, HC.out (i + j) (by omega)]
        exact hj
      have hrest2 : ∀ j u, ((L.drop (i)).flatMap strL)[j]? = some u → L.length = i → w9.cell? ((⟨g, 0, none⟩ : Addr).add j) = some u := fun j u hj he => by
        rw [List.drop_eq_nil_of_le (by omega)] at hj
        simp at hj
      have HRS := Lib.hid hrest
      have HRS2 := Lib.hid hrest2
      have hone : ∀ u ∈ (L.drop (i)).flatMap strL, u.oneCell' = true := fun u h => by
        rw [List.mem_flatMap] at h
        obtain ⟨x, _, hx⟩ := h
        exact strL_one x u hx
      have HONE := Lib.hid hone
      have HLEN : Hid (((L.drop (i)).flatMap strL).length = (L.length - (i)) * 1) := Lib.hid (by rw [flat_len strL_len, List.length_drop])
      have hX : (T i ++ [s]).length ≤ 1001 := by simp; omega
      have HPX : Hid (∀ u w', w'.ownsRow w.heap.size 9 1 u ((T i ++ [s]).length + (L.length - (i))) ((T i ++ [s]).flatMap strL ++ (L.drop (i)).flatMap strL) → OwnG 9 1 strL w.heap.size w' u (Bk.put L s)) := Lib.hid (fun u w' h => by
        rw [HP.out]
        unfold OwnG
        rw [show T i ++ s :: L.drop (i) = (T i ++ [s]) ++ L.drop (i) by simp, List.flatMap_append, List.length_append, List.length_drop]
        exact h)
      have c0' : ∀ hlt : i < L.length, w9.cell? ⟨g, i, none⟩ = some (sv L[i]) := fun hlt => (hw9.cell (p := ⟨g, i, none⟩) hg).trans (HC.out i hlt)
      have hsz9 := hw9.size
      clear c0'
      clear hr9 hg9 hca hrest hrest2 hone hown
      generalize T i ++ [s] = X at *
      by_cases hcc : i < cap
      · go_wp2_with (at_builtin; refine wpList_append_own _ rfl _ _ 44 rfl w.heap.size 9 i0 (.string ⟨#[]⟩) 1 16 Tryz.underlying44 hi hz0 hz1 hz2 rfl (by decide) _ _ _ rfl hp9 ⟨g, i, none⟩ (L.length - (i)) (cap - (i)) ((L.drop (i)).flatMap strL) rfl HLEN.out HRS.out HONE.out ?c3 ?c4 ?c5 ?_)
        try (case c3 => unfold maxLen; first | omega | (simp; omega))
        try (case c4 => first | omega | (simp; omega))
        try (case c5 => first | omega | (simp; omega))
        intro v3 w3 hr3 hg3 _
        have hw3 := hw9.grown hg3 hsz9 (fun j e => (World.ownsRow.lt hp9 j e).1)
        have hp3 := HPX.out _ _ hr3
        obtain ⟨a3, c3, e3⟩ := (hp3.rows strL_len).form
        subst e3
        clear hr3 hg3 hp9
        go_wp2
        go_ret
        exact ⟨_, rfl, hp3, hw3⟩
      · have HLE : Hid (L.length = i) := Lib.hid (by omega)
        obtain rfl : i = cap := by omega
        clear hcc hcap
        go_wp2_with (at_builtin; go_loud (refine wpList_append_own _ rfl _ _ 44 rfl w.heap.size 9 i0 (.string ⟨#[]⟩) 1 16 Tryz.underlying44 hi hz0 hz1 hz2 rfl (by decide) _ _ _ rfl hp9 ⟨g, 0, none⟩ (L.length - (i)) 0 ((L.drop (i)).flatMap strL) rfl HLEN.out (fun j u hj => HRS2.out j u hj HLE.out) HONE.out ?c3 ?c4 ?c5 ?_))
        try (case c3 => unfold maxLen; first | omega | (simp; omega))
        try (case c4 => first | omega | (simp; omega))
        try (case c5 => first | omega | (simp; omega))
        intro v3 w3 hr3 hg3 _
        have hw3 := hw9.grown hg3 hsz9 (fun j e => (World.ownsRow.lt hp9 j e).1)
        have hp3 := HPX.out _ _ hr3
        obtain ⟨a3, c3, e3⟩ := (hp3.rows strL_len).form
        subst e3
        clear hr3 hg3 hp9
        go_wp2
        go_ret
        exact ⟨_, rfl, hp3, hw3⟩
end Go.Proofs.YtcljpklgpedolaaGreatDoor
namespace Go.Proofs.YtcljpklgpedolaaGreatDoor
open Go.RowKit Go.Sort

theorem put_any (v : Value) (L : List (List UInt8)) (s : List UInt8) (base : Nat) (w : World) (h : OwnG 9 1 strL base w v L) (hl : L.length ≤ 1000) :
    Calls Tryz.prog 100 #[v, sv s] w (PutSays L s w) := by
  rcases h.form with ⟨rfl, rfl⟩ | ⟨g, cap, rfl, _, hg, hcap, _⟩
  · exact put_nil s w
  · refine put_some L s g cap w hl hg hcap (fun k hk => ?_)
    obtain ⟨a, c, e, _, h2⟩ := h.rows strL_len
    injection e with e1 _ _
    obtain ⟨b, off, e2, _, h3⟩ := h2 k hk
    rw [← e1] at e2
    injection e2 with e2
    injection e2 with e2 e3
    subst e2 e3
    have := h3 0 _ rfl
    rwa [show 0 + k * 1 + 0 = k by omega] at this
theorem Bk.acR_next {l : List Bk.Po} {k : Nat} (h : k < l.length) : Bk.acR (Bk.nmL (l.take (k + 1))) = Bk.put (Bk.put (Bk.acR (Bk.nmL (l.take k))) l[k].1) l[k].2.1 := by
  unfold Bk.acR Bk.nmL
  rw [List.take_succ_eq_append_getElem h, List.flatMap_append, List.foldl_append]; rfl
theorem Bk.put_len : ∀ (L : List (List UInt8)) (s : List UInt8), (Bk.put L s).length ≤ L.length + 1
  | [], _ => by simp [Bk.put]
  | a :: r, s => by
    have := Bk.put_len r s
    rw [Bk.put]
    split
    · rw [List.length_cons, List.length_cons]; omega
    · split <;> simp
theorem Bk.fold_len : ∀ (l acc : List (List UInt8)), (l.foldl Bk.put acc).length ≤ acc.length + l.length
  | [], acc => by simp
  | s :: r, acc => by
    have h1 := Bk.fold_len r (Bk.put acc s)
    have h2 := Bk.put_len acc s
    rw [List.foldl_cons, List.length_cons]; omega
theorem Bk.nmL_len : ∀ l : List Bk.Po, (Bk.nmL l).length = 2 * l.length
  | [] => rfl
  | x :: r => by
    have h2 : Bk.nmL (x :: r) = x.1 :: x.2.1 :: Bk.nmL r := rfl
    rw [h2, List.length_cons, List.length_cons, Bk.nmL_len r, List.length_cons]; omega
theorem Bk.acR_len (l : List Bk.Po) : (Bk.acR (Bk.nmL l)).length ≤ 2 * l.length := by
  have := Bk.fold_len (Bk.nmL l) []
  rw [Bk.nmL_len] at this
  unfold Bk.acR; simpa using this
set_option maxRecDepth 20000 in
set_option maxHeartbeats 2000000 in
theorem refAccounts0_any (v : Value) (l : List Bk.Po) (w : World) (hv : Posts w v l) (hl : l.length ≤ 100) :
    Calls Tryz.prog 75 #[v] w fun e w' => ∃ u, e = .returned u ∧ OwnG 9 1 strL w.heap.size w' u (Bk.acR (Bk.nmL l)) ∧ Below w.heap.size w w' := by
  obtain ⟨va, vc, rfl, _, hvk⟩ := hv
  have HV := Lib.hid hvk
  have hw0 := Lib.hid (Below.refl w.heap.size w)
  obtain ⟨G, hG⟩ : ∃ G : Nat → List (List UInt8), G = fun k => Bk.acR (Bk.nmL (l.take k)) := ⟨_, rfl⟩
  have HGN : Hid (∀ k (h : k < l.length), G (k + 1) = Bk.put (Bk.put (G k) l[k].1) l[k].2.1) := Lib.hid (fun k h => by rw [hG]; exact Bk.acR_next h)
  have HGL : Hid (∀ k, (G k).length ≤ 200) := Lib.hid (fun k => by
    have := Bk.acR_len (l.take k)
    rw [List.length_take] at this
    rw [hG]; show (Bk.acR (Bk.nmL (l.take k))).length ≤ 200; omega)
  have h0 : G 0 = [] := by rw [hG]; rfl
  have HE : Hid (Bk.acR (Bk.nmL l) = G l.length) := Lib.hid (by rw [hG]; show _ = Bk.acR (Bk.nmL (l.take l.length)); rw [List.take_length])
  rw [HE.out]
  clear hvk hG HE
  go_enter Tryz.func75, Tryz.ntmps75
  go_wp2
  go_loopw [3, 4] (fun o t wr => ∃ (k : Nat) (a : Option Addr) (c : Nat), k ≤ l.length ∧ o = .slice a (G k).length c ∧ t = .int .i64 (k : Int) ∧ Hid (OwnG 9 1 strL w.heap.size wr (.slice a (G k).length c) (G k) ∧ Below w.heap.size w wr)) (fun _ t _ => l.length - (intOf t).toNat)
  case atStart => exact ⟨0, none, 0, Nat.zero_le _, by rw [h0]; rfl, rfl, Lib.hid ⟨by rw [h0]; exact OwnG.nil _ _, hw0.out⟩⟩
  case round =>
    obtain ⟨k, a, c, hk, rfl, rfl, hg⟩ := hrel
    by_cases hlt : k < l.length
    · obtain ⟨b, off, rfl, hbl, hr⟩ := HV.out k hlt
      have HN := Lib.hid (HGN.out k hlt)
      have hgl := HGL.out k
      have HCX : Hid (∀ W, Below w.heap.size w W → W.cell? ⟨b, off + k * 3, none⟩ = some (sv l[k].1) ∧ W.cell? ⟨b, off + k * 3 + 1, none⟩ = some (sv l[k].2.1) ∧ W.cell? ⟨b, off + k * 3 + 2, none⟩ = some (.int .i64 l[k].2.2)) := Lib.hid (fun W hW => po_at (hr.below hW hbl))
      clear hr
      generalize l[k] = x at *
      obtain ⟨xd, xc, xp⟩ := x
      dsimp only at HCX HN
      have HP1 := Lib.hid (put_any (.slice a (G k).length c) (G k) xd w.heap.size wr.drew (hg.out.1.all (Below.refl _ _).drew) (by omega))
      have HP2 := Lib.hid (fun u y base (h : OwnG 9 1 strL base y u (Bk.put (G k) xd)) => put_any u (Bk.put (G k) xd) xc base y h (by have := Bk.put_len (G k) xd; omega))
      unfold PutSays at HP1 HP2
      rw [← HN.out] at HP2
      have hsz := hg.out.2.size
      clear HN
      go_upto_region 5 with fail
      refine wp_region_seq [(0, true), (1, true), (2, true), (3, true), (4, true), (5, true), (7, true), (8, true), (9, true), (10, true), (11, true), (6, false), (12, false), (13, true)] (fun W => Below w.heap.size w W)
        (by kernel_rfl) (by kernel_rfl) (by kernel_rfl) (by kernel_rfl) (fun d _ _ _ _ h => by cases d <;> exact h) hg.out.2.drew (fun hS0 => ?_)
      repeat (first
        | (refine SeqH.take (v := ?_) rfl (by rfl) ?_ ?_; rotate_left; (· intro w hSw; obtain ⟨c0, c1, c2⟩ := HCX.out w hSw; go_simp; (try rw [if_pos (by omega)]); (try with_reducible rfl)); simp only [Act.put, List.setIfInBounds_toArray, List.set_cons_zero, List.set_cons_succ])
        | (refine SeqH.skip rfl (by rfl) ?_; simp only [Act.put, List.setIfInBounds_toArray, List.set_cons_zero, List.set_cons_succ]))
      refine SeqH.step rfl (by rfl) (fun K hK => ?_)
      go_simp
      go_at_call 100
      refine (HP1.out).mono ?_
      rintro e9 y1 ⟨u1, rfl, ho1, hb1⟩
      try dsimp only
      refine hK.out _ _ (hS0.trans (hb1.mono hS0.size)) (fun hS1 => ?_)
      clear hK K
      try simp only [Act.put, List.setIfInBounds_toArray, List.set_cons_zero, List.set_cons_succ]
      repeat (first
        | (refine SeqH.take (v := ?_) rfl (by rfl) ?_ ?_; rotate_left; (· intro w hSw; obtain ⟨c0, c1, c2⟩ := HCX.out w hSw; go_simp; (try rw [if_pos (by omega)]); (try with_reducible rfl)); simp only [Act.put, List.setIfInBounds_toArray, List.set_cons_zero, List.set_cons_succ])
        | (refine SeqH.skip rfl (by rfl) ?_; simp only [Act.put, List.setIfInBounds_toArray, List.set_cons_zero, List.set_cons_succ]))
      refine SeqH.step rfl (by rfl) (fun K hK => ?_)
      go_simp
      go_at_call 100
      refine (HP2.out _ _ _ ho1).mono ?_
      rintro e9 y2 ⟨u2, rfl, ho2, hb2⟩
      try dsimp only
      refine hK.out _ _ (hS1.trans (hb2.mono hS1.size)) (fun hS2 => ?_)
      clear hK K
      try simp only [Act.put, List.setIfInBounds_toArray, List.set_cons_zero, List.set_cons_succ]
      repeat (first
        | (refine SeqH.take (v := ?_) rfl (by rfl) ?_ ?_; rotate_left; (· intro w hSw; obtain ⟨c0, c1, c2⟩ := HCX.out w hSw; go_simp; (try rw [if_pos (by omega)]); (try with_reducible rfl)); simp only [Act.put, List.setIfInBounds_toArray, List.set_cons_zero, List.set_cons_succ])
        | (refine SeqH.skip rfl (by rfl) ?_; simp only [Act.put, List.setIfInBounds_toArray, List.set_cons_zero, List.set_cons_succ]))
      refine SeqH.done ?_
      have hp9 := ho2.mono (show w.heap.size ≤ y1.heap.size from hS1.size)
      obtain ⟨a9, c9, e9⟩ := (hp9.rows strL_len).form
      subst e9
      have HG9 := Lib.hid (And.intro hp9 hS2)
      clear ho1 ho2 hp9 hb1 hb2
      go_wp2
      go_roundw
      case rel => exact ⟨k + 1, a9, c9, by omega, rfl, by go_num, Lib.hid HG9.out⟩
      case measure => simp [intOf]; omega
    · obtain rfl : k = l.length := by omega
      go_wp2
      go_ret
      exact ⟨_, rfl, hg.out.1, hg.out.2⟩
end Go.Proofs.YtcljpklgpedolaaGreatDoor
