/- The order in which goods are planned: of the program. -/
import Derived.Test.YtabfcnfddemblaaLf54
namespace Go.Proofs.Ytabfcnfddemblaa.Lo
open Go.RowKit Go.Sort

theorem heapN {w : World} {g : Nat} {cur : Array Value} {e : TypeId} {fr : Nat × Nat} (enc : Nat → Value) (d : Array Nat) (q : Nat) (hb : w.heap[g]? = some (.cells cur e fr)) :
    ((putRow enc w g 0 d).drewN q).heap[g]? = some (.cells (putCells enc 0 d cur) e fr) := by
  show (putRow enc w g 0 d).heap[g]? = _
  simp [putRow, mapBlock, Array.getElem?_modify, hb, onCells]
theorem grownN {w : World} {g : Nat} (enc : Nat → Value) (d : Array Nat) (q : Nat) : w.grownBy ((putRow enc w g 0 d).drewN q) (some g) := by
  refine ⟨rfl, rfl, rfl, by show w.heap.size ≤ (putRow enc w g 0 d).heap.size; rw [size_putRow]; exact Nat.le_refl _, fun k hk hne => ?_⟩
  have : g ≠ k := fun e => hne (by rw [e])
  show (putRow enc w g 0 d).heap[k]? = _
  simp [putRow, mapBlock, Array.getElem?_modify, this]
theorem takeN (enc : Nat → Value) (cur : Array Value) (ts : List Nat) (h : ts.length ≤ cur.size) : (putCells enc 0 ts.toArray cur).toList.take ts.length = ts.map enc := by
  apply List.ext_getElem?
  intro j
  by_cases hj : j < ts.length
  · rw [List.getElem?_take_of_lt hj, Array.getElem?_toList]
    simp [putCells, hj, show j < cur.size by omega]
  · rw [List.getElem?_take_eq_none (by omega), List.getElem?_eq_none (by simp; omega)]
theorem rng_next (k : Nat) : (List.range (k + 1)).map (fun (i : Nat) => (i : Int)) = (List.range k).map (fun (i : Nat) => (i : Int)) ++ [(k : Int)] := by rw [List.range_succ, List.map_append]; rfl
set_option maxRecDepth 20000 in
set_option maxHeartbeats 4000000 in
theorem order_any (u v : Value) (gs : List Lf.G) (w : World) (hv : Goods w v gs) (h8 : gs.length ≤ 8) :
    Calls Try.prog 95 #[.agg #[u, v]] w fun e w' => ∃ a c, e = .returned (.slice a gs.length c) ∧ OwnI w.heap.size w' (.slice a gs.length c) (odr gs) ∧ Below w.heap.size w w' := by
  obtain ⟨i0, hi0, hz0, hz1, hz2⟩ := info_parts infoInt
  have HV := Lib.hid (fun W (hW : Below w.heap.size w W) => hv.all hW)
  have HVB : Hid (∀ va vc, v = .slice va gs.length vc → 0 < gs.length → ∀ b o i, va = some ⟨b, o, i⟩ → b < w.heap.size) := Lib.hid (fun va vc e hp b o i e2 => by
    obtain ⟨a2, c2, e3, _, hk⟩ := hv
    rw [e] at e3
    injection e3 with e3
    subst e3
    obtain ⟨b2, o2, e4, hb, _⟩ := hk 0 hp
    rw [e2] at e4
    injection e4 with e4
    injection e4 with e4
    omega)
  obtain ⟨va, vc, rfl⟩ := hv.form
  have HX := Lib.hid (And.intro (BlockAt.new w #[u, .slice va gs.length vc] DemT) (below_alloc2 (Below.refl w.heap.size w) (.cells #[u, .slice va gs.length vc] DemT)))
  obtain ⟨w1, hw1⟩ : ∃ W, W = w.alloc (.cells #[u, .slice va gs.length vc] DemT) := ⟨_, rfl⟩
  have HS0 := Lib.hid (show BlockAt w1 w.heap.size #[u, .slice va gs.length vc] DemT ∧ Below w.heap.size w w1 ∧ w1.heap.size = w.heap.size + 1 from by rw [hw1]; exact ⟨HX.out.1, HX.out.2, by simp⟩)
  have HE1 := Lib.hid hw1.symm
  have HRN := Lib.hid (fun k => rng_next k)
  have x1 : World.cell? _ _ = some (.slice va gs.length vc) := HX.out.1.cell 1
  clear hv hw1
  go_enter Try.func95, Try.ntmps95
  go_wp2
  rw [show w.alloc (.cells #[u, .slice va gs.length vc] DemT) = w1 from HE1.out]
  clear x1 HX HE1
  go_loopw [3, 8] (fun s t wr => ∃ (k : Nat) (L : List Int) (a : Option Addr) (c : Nat), (k ≤ gs.length ∧ L.length ≤ 8) ∧ s = .slice a L.length c ∧ t = .int .i64 k ∧ Hid ((L = (List.range k).map (fun (i : Nat) => (i : Int)) ∧ L.length = k ∧ (k = 0 → a = none ∧ c = 0)) ∧ OwnI w1.heap.size wr (.slice a L.length c) L ∧ Below w1.heap.size w1 wr)) (fun _ t _ => gs.length - (intOf t).toNat)
  case atStart => exact ⟨0, [], none, 0, ⟨Nat.zero_le _, by simp⟩, rfl, rfl, Lib.hid ⟨⟨rfl, rfl, fun _ => ⟨rfl, rfl⟩⟩, OwnG.nil _ _, Below.refl _ _⟩⟩
  case round =>
    obtain ⟨k, L, a, c, ⟨hk, hL8⟩, rfl, rfl, hg⟩ := hrel
    by_cases hlt : k < gs.length
    · have hown := hg.out.2.1
      have hsz := hg.out.2.2.size
      have HG := Lib.hid hg.out
      have HRk := Lib.hid (HRN.out k)
      have hca := cells_new (cs := intL (k : Int)) wr 3
      clear hg
      go_wp2_with (at_builtin; refine wpList_append_own _ rfl _ _ 24 rfl w1.heap.size 3 i0 _ 1 8 Try.underlying24 hi0 hz0 hz1 hz2 rfl (by decide) _ _ _ rfl (hown.alloc _) ⟨wr.heap.size, 0, none⟩ 1 1 (intL (k : Int)) rfl rfl ?c1 (intL_one _) ?c3 ?c4 ?c5 ?_)
      case c1 => first | exact hca | exact fun j u h => h
      case c3 => unfold maxLen; omega
      case c4 => omega
      case c5 => first | omega | (simp; omega)
      intro v' w9 hr9 hg9 _
      have hw9 := (below_alloc2 HG.out.2.2 (.cells (intL (k : Int)).toArray 3)).grown hg9 (by simp; omega) (fun j e => (World.ownsRow.lt hown j e).1)
      have hp9 : OwnI w1.heap.size w9 v' (L ++ [(k : Int)]) := OwnG.pushed hr9
      have HLL : Hid (L ++ [(k : Int)] = (List.range (k + 1)).map (fun (i : Nat) => (i : Int)) ∧ (L ++ [(k : Int)]).length = k + 1) := Lib.hid ⟨by rw [HRk.out, HG.out.1.1], by rw [List.length_append, HG.out.1.2.1]; rfl⟩
      obtain ⟨a9, c9, e9⟩ := hp9.form
      subst e9
      have H9 := Lib.hid (And.intro hp9 hw9)
      have hkk : (L ++ [(k : Int)]).length ≤ 8 := by rw [HLL.out.2]; omega
      clear hown hsz hca hr9 hg9 hw9 hp9 HG HRk
      generalize L ++ [(k : Int)] = L9 at *
      go_wp2
      go_roundw
      case rel => exact ⟨k + 1, L9, a9, c9, ⟨by omega, hkk⟩, rfl, by go_num, Lib.hid ⟨⟨HLL.out.1, HLL.out.2, fun h => absurd h (Nat.succ_ne_zero k)⟩, H9.out⟩⟩
      case measure => simp [intOf]; omega
    · obtain rfl : k = gs.length := by omega
      have HG := Lib.hid hg.out
      clear hg
      by_cases h0 : gs.length = 0
      · have hL0 : L.length = 0 := by rw [HG.out.1.2.1, h0]
        have HOD : Hid (odr gs = []) := Lib.hid (List.length_eq_zero_iff.1 (by rw [odr_len, h0]))
        obtain rfl := List.length_eq_zero_iff.1 hL0
        obtain ⟨ha, hc⟩ := HG.out.1.2.2 h0
        subst ha hc
        have HSB := Lib.hid (And.intro HS0.out.2.1 HG.out.2.2)
        have x0 : World.cell? _ _ = some (.slice va gs.length vc) := (HS0.out.1.below HG.out.2.2 (by have := HS0.out.2.2; omega)).cell 1
        have CN := Lib.hid (fun F W => sortStableNil_any F W)
        have HL0 := Lib.hid h0
        have hg0 : decide ((0 : Int) < (gs.length : Int)) = false := decide_eq_false (by omega)
        clear HG hL0
        go_wp2_with fail
        refine (CN.out _ _).mono ?_
        rintro e w5 ⟨rfl, rfl⟩
        go_wp2
        go_ret
        exact ⟨none, 0, by rw [HL0.out]; rfl, by rw [HOD.out, HL0.out]; exact OwnG.nil _ _, below_step HSB.out.1 HSB.out.2⟩
      · have hpos : 0 < gs.length := by omega
        have hLg := HG.out.1.2.1
        obtain ⟨bO, rfl⟩ : ∃ bO, a = some ⟨bO, 0, none⟩ := by
          rcases OwnG.form HG.out.2.1 with h | ⟨g, cap, e, _⟩
          · exact absurd (List.length_eq_zero_iff.2 h.2) (by omega)
          · injection e with e1 e2 e3
            exact ⟨g, e1⟩
        obtain ⟨_, hbase, hbO, cur, hcur, hlc, hcm, hcs, hct⟩ := ownI_block HG.out.2.1
        have hbw := below_step HS0.out.2.1 HG.out.2.2
        have hbx := HS0.out.1.below HG.out.2.2 (by have := HS0.out.2.2; omega)
        have hS : Sorts wr gs va vc w.heap.size bO :=
          ⟨hpos, by omega, hbx.cell 1, HV.out _ hbw, fun b o i e => by have h1 := HVB.out va vc rfl hpos b o i e; have h2 := HS0.out.2.2; omega,
           fun k hk => by
             have h1 := World.ownsRow.cellAt HG.out.2.1 k (by omega)
             have h2 := World.ownsRow.frozenAt HG.out.2.1 k
             rw [h1]
             refine ⟨?_, h2⟩
             rw [flat_ints, HG.out.1.1, List.map_map, List.getElem?_map]
             simp [hk],
           by have h2 := HS0.out.2.2; omega, hbx.lt⟩
        have CS := Lib.hid (sortStable_any (cap := c) hS)
        have HOW : Hid (∀ (D : Array Nat) (q : Nat), D.toList = Lr.srt (due gs) gs.length → OwnI w.heap.size ((putRow (idx gs.length) wr bO 0 D).drewN q) (.slice (some ⟨bO, 0, none⟩) gs.length c) (odr gs) ∧ Below w.heap.size w ((putRow (idx gs.length) wr bO 0 D).drewN q)) := Lib.hid (fun D q hD => by
          obtain ⟨D⟩ := D
          have hD2 : D = Lr.srt (due gs) gs.length := hD
          subst hD2
          have hDl := Lr.srt_len (due gs) gs.length
          refine ⟨⟨by rw [flat_ints, List.length_map, Nat.mul_one], .inr ⟨bO, c, _, by rw [odr_len], by have h2 := HS0.out.2.2; omega, heapN _ _ _ hcur, by rw [odr_len]; omega, hcm, by simp [putCells, hcs], ?_⟩⟩, hbw.grown (grownN _ _ _) (by have h2 := hbw.size; omega) (fun j e => by
            have : bO = j := by simpa using e
            have h2 := HS0.out.2.2
            omega)⟩
          have htk := takeN (idx gs.length) cur (Lr.srt (due gs) gs.length) (by rw [hcs, hDl]; omega)
          rw [hDl] at htk
          rw [flat_ints, Nat.mul_one, odr_len, htk]
          unfold odr
          rw [List.map_map]
          refine List.map_congr_left fun k hk => ?_
          have := (Lr.srt_mem (due gs)).1 hk
          show Value.int .i64 ((min k (gs.length - 1) : Nat) : Int) = .int .i64 (k : Int)
          rw [Nat.min_eq_left (by omega)])
        have HLG := Lib.hid hLg
        clear HG hS hcur hct hbw hbx hbase hbO hlc hcm hcs HV HVB
        rw [hLg]
        clear hLg HLG
        go_wp2_with fail
        refine CS.out.mono ?_
        rintro e w5 ⟨rfl, D, q, hD, rfl⟩
        have HO := Lib.hid (HOW.out D q hD)
        clear hD HOW CS
        go_wp2
        go_ret
        exact ⟨_, _, rfl, HO.out⟩
end Go.Proofs.Ytabfcnfddemblaa.Lo
