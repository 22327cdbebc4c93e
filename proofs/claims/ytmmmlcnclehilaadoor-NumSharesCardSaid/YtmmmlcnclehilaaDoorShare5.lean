/- The program's division of a total that can be divided. -/
import Derived.Test.YtmmmlcnclehilaaDoorShare4
namespace Go.Proofs.YtmmmlcnclehilaaDoor
open Go.RowKit Go.Sort

theorem heap_alloc3 (w : World) (o1 o3 o4 : Obj) (cs : Array Value) {t : TypeId} : BlockAt ((((w.alloc o1).alloc (.cells cs t)).alloc o3).alloc o4) (w.heap.size + 1) cs t := by
  have := ((BlockAt.new (w.alloc o1) cs t).alloc o3).alloc o4
  rwa [show (w.alloc o1).heap.size = w.heap.size + 1 by show (w.heap.push _).size = _; simp] at this
theorem heap_alloc2 (w : World) (o1 o2 o4 : Obj) (cs : Array Value) {t : TypeId} : BlockAt ((((w.alloc o1).alloc o2).alloc (.cells cs t)).alloc o4) (w.heap.size + 2) cs t := by
  have := (BlockAt.new ((w.alloc o1).alloc o2) cs t).alloc o4
  rwa [show ((w.alloc o1).alloc o2).heap.size = w.heap.size + 2 by show ((w.heap.push _).push _).size = _; simp] at this
theorem heap_alloc1 (w : World) (o1 o2 o3 : Obj) (cs : Array Value) {t : TypeId} : BlockAt ((((w.alloc o1).alloc o2).alloc o3).alloc (.cells cs t)) (w.heap.size + 3) cs t := by
  have := BlockAt.new (((w.alloc o1).alloc o2).alloc o3) cs t
  rwa [show (((w.alloc o1).alloc o2).alloc o3).heap.size = w.heap.size + 3 by show (((w.heap.push _).push _).push _).size = _; simp] at this

theorem BlockAt.putRow {W : World} {B blk off : Nat} {cs : Array Value} {t : TypeId} {enc : Nat → Value} {d : Array Nat} (h : BlockAt W B cs t) (hne : B ≠ blk) : BlockAt (Go.Sort.putRow enc W blk off d) B cs t := by
  show (W.heap.modify blk _)[B]? = _
  rw [Array.getElem?_modify, if_neg (by omega)]; exact h
theorem below_putRow {N : Nat} {w W : World} {blk off : Nat} {enc : Nat → Value} {d : Array Nat} (h : Below N w W) (hb : N ≤ blk) : Below N w (Go.Sort.putRow enc W blk off d) :=
  ⟨h.os, h.tape, h.output, by rw [size_putRow]; exact h.size, fun k hk => by
    show (W.heap.modify blk _)[k]? = _
    rw [Array.getElem?_modify, if_neg (by omega)]; exact h.block k hk⟩
/-- The index that stands at a place of the sorted row. -/
def nth (r : Nat → Int) (n k : Nat) : Nat := (Lr.srt r n).getD k 0
theorem nth_get {r : Nat → Int} {n k : Nat} (hk : k < n) : nth r n k = (Lr.srt r n)[k]'(Lr.at_get r hk) := by
  unfold nth
  rw [List.getD_eq_getElem?_getD, List.getElem?_eq_getElem (Lr.at_get r hk)]; rfl
theorem nth_lt {r : Nat → Int} {n k : Nat} (hk : k < n) : nth r n k < n := by rw [nth_get hk]; exact (Lr.next_bef hk).1
theorem Sorts.cells {w : World} {r : Nat → Int} {n bv bR bO : Nat} (h : Sorts w r n bv bR bO) {D : Array Nat} (hD : D.toList = Lr.srt r n) {k : Nat} (hk : k < n) : (Go.Sort.putRow (idx n) w bO 0 D).cell? ⟨bO, k, none⟩ = some (.int .i64 (nth r n k)) := by
  obtain ⟨d, hd⟩ : ∃ d : Array Nat, d = (List.range n).toArray := ⟨_, rfl⟩
  have hsz : d.size = n := by rw [hd]; simp
  have hH : Holds (idx n) w bO 0 d := by
    intro j hj
    rw [hsz] at hj
    have := h.ord j hj
    have e : d[j]! = j := by rw [hd]; simp [hj]
    rw [Nat.zero_add, e]
    refine ⟨?_, this.2⟩
    rw [this.1]
    show some (Value.int .i64 (j : Int)) = some (.int .i64 ((min j (n - 1) : Nat) : Int))
    rw [Nat.min_eq_left (by omega)]
  have hDs : D.size = n := by rw [← Array.length_toList, hD, Lr.srt_len]
  have := cell?_putRow (idx n) w bO 0 d D hH (by omega) k (by omega)
  rw [Nat.zero_add] at this
  rw [this]
  have e : D[k]! = nth r n k := by
    obtain ⟨L0⟩ := D
    simp only at hD
    subst hD
    rw [getElem!_pos _ k (by simpa [Lr.srt_len] using hk), nth_get hk]
    simp
  rw [e]
  have := nth_lt (r := r) hk
  show some (Value.int .i64 ((min (nth r n k) (n - 1) : Nat) : Int)) = _
  rw [Nat.min_eq_left (by omega)]
/-- The parts when the first j of the sorted indices have got one more. -/
def pJ (T : Int) (ws : List Int) (j : Nat) (i : Nat) : Int := if Lr.got (Lr.rF T ws) ws.length j i then Lr.qF T ws i + 1 else Lr.qF T ws i
theorem pJ_zero (T : Int) (ws : List Int) : pJ T ws 0 = Lr.qF T ws := by funext i; unfold pJ; rw [if_neg]; unfold Lr.got; simp
theorem pJ_at {T : Int} {ws : List Int} {j : Nat} (hj : j < ws.length) : pJ T ws j (nth (Lr.rF T ws) ws.length j) = Lr.qF T ws (nth (Lr.rF T ws) ws.length j) := by
  unfold pJ; rw [if_neg]; rw [nth_get hj]; exact (Lr.next_bef hj).2.1
theorem pJ_succ {T : Int} {ws : List Int} {j : Nat} (hj : j < ws.length) : upd (pJ T ws j) (nth (Lr.rF T ws) ws.length j) (Lr.qF T ws (nth (Lr.rF T ws) ws.length j) + 1) = pJ T ws (j + 1) := by
  funext i
  unfold upd
  by_cases e : i = nth (Lr.rF T ws) ws.length j
  · rw [if_pos e]; unfold pJ; rw [if_pos ((Lr.got_succ hj).2 (.inr (by rw [e, nth_get hj]))), e]
  · rw [if_neg e]; unfold pJ
    have : Lr.got (Lr.rF T ws) ws.length (j + 1) i ↔ Lr.got (Lr.rF T ws) ws.length j i := by
      rw [Lr.got_succ hj, ← nth_get hj]
      exact ⟨fun h => h.elim id fun h => absurd h e, .inl⟩
    by_cases hg : Lr.got (Lr.rF T ws) ws.length j i
    · rw [if_pos hg, if_pos (this.2 hg)]
    · rw [if_neg hg, if_neg fun h => hg (this.1 h)]

set_option maxRecDepth 20000 in
set_option maxHeartbeats 1000000 in
theorem share_good (T : Int) (v : Value) (ws : List Int) (w : World) (hv : Ints w v ws) (hlen : ws.length ≤ 1000) (hs : Sh.sumB ws = true) (h0 : 0 ≤ T) (h1 : T ≤ 1099511627776) :
    Calls Tryd.prog 9 #[.int .i64 T, v] w fun e w' => (e = .returned (.tuple #[.slice (some ⟨w.heap.size, 0, none⟩) ws.length ws.length, .int .i64 0]) ∧ BlockAt w' w.heap.size (fnC ws.length (Lr.partF T ws)) 3) ∧ Below w.heap.size w w' := by
  have C := Lib.hid (sumOfWeights_any v ws w hv hlen)
  obtain ⟨u1, u2, u3, u4, u5⟩ := Sh.usable hs
  rw [hs, u3] at C
  have hmf : ∀ (fn : Fn) (first cap : Array Value) (w : World), (Instr.makeFunc fn first cap).run Tryd.prog w = .ok (.func fn first cap) w := fun _ _ _ _ => rfl
  have hmk := made_ints ws.length hlen
  have HR := Lib.hid (fun k (hk : k < ws.length) => Lr.round_ok hs h0 h1 hk)
  have HF := Lib.hid (Lr.left_ok (Sh.fits_of hs h0))
  have HL := Lib.hid (show ∀ k, k ≤ ws.length → 0 ≤ T - Lr.sumN (Lr.qF T ws) k ∧ T - Lr.sumN (Lr.qF T ws) k ≤ T from fun k hk => by
    have a := Lr.sumN_le (n := ws.length) (f := Lr.qF T ws) (fun i hi => (HR.out i hi).2.2.2.2.1) k hk
    have c := HF.out.1
    omega)
  have hcell : ∃ b off cap, v = .slice (some ⟨b, off, none⟩) ws.length cap ∧ b < w.heap.size ∧ ∀ k, k < ws.length → w.cell? ⟨b, off + k, none⟩ = some (.int .i64 (Lr.wt ws k)) := by
    rcases hv with ⟨a, c, rfl, rfl⟩ | ⟨b, off, cap, rfl, _, hb, hc⟩
    · simp at u2
    · exact ⟨b, off, cap, rfl, hb, hc⟩
  obtain ⟨b, off, cap, rfl, hbl, hc⟩ := hcell
  have HC := Lib.hid hc
  have h0' : ¬ T < 0 := by omega
  have h1' : ¬ (1099511627776 : Int) < T := by omega
  have hsz : ws.length ≤ 16 := u1
  have hpos := u4
  clear hv hs u3 u5 hc u1 u4
  generalize hS : Lr.tot ws = S at *
  go_enter Tryd.func9, Tryd.ntmps9
  go_wp2_with fail
  refine C.out.mono ?_
  rintro e w1 ⟨rfl, rfl⟩
  go_wp2
  go_loopw [11, 43] (fun t u wr => ∃ k : Nat, k ≤ ws.length ∧ t = .int .i64 (T - Lr.sumN (Lr.qF T ws) k) ∧ u = .int .i64 k ∧ Hid (Below w.heap.size w wr ∧ BlockAt wr w.heap.size (fnC ws.length (upTo (Lr.qF T ws) k)) 3 ∧ BlockAt wr (w.heap.size + 1) (fnC ws.length (upTo (Lr.rF T ws) k)) 3 ∧ BlockAt wr (w.heap.size + 2) #[.slice (some ⟨w.heap.size + 1, 0, none⟩) ws.length ws.length] 22 ∧ BlockAt wr (w.heap.size + 3) (fnC ws.length (upTo (fun i => (i : Int)) k)) 3)) (fun _ u _ => ws.length - (intOf u).toNat)
  case atStart =>
    refine ⟨0, Nat.zero_le _, by show _ = Value.int .i64 (T - 0); rw [Int.sub_zero], rfl, Lib.hid ⟨?_, ?_, ?_, ?_, ?_⟩⟩
    · exact below_alloc (below_alloc (below_alloc (below_alloc (Below.refl _ _) _) _) _) _
    · rw [upTo_zero]; exact (((BlockAt.new _ _ _).alloc _).alloc _).alloc _
    · rw [upTo_zero]; exact heap_alloc3 w _ _ _ _
    · exact heap_alloc2 w _ _ _ _
    · rw [upTo_zero]; exact heap_alloc1 w _ _ _ _
  case round =>
    obtain ⟨k, hk, rfl, rfl, hg⟩ := hrel
    by_cases hlt : k < ws.length
    · obtain ⟨hw, g0, g1, g2, g3⟩ := hg.out
      have cw := (hw.cell (p := ⟨b, off + k, none⟩) hbl).trans (HC.out k hlt)
      obtain ⟨r0, r1, r2, r3, r4, r5, r6, r7⟩ := HR.out k hlt
      have c2 := g2.cell 0
      have f0 := g0.frozen k
      have f1 := g1.frozen k
      have f3 := g3.frozen k
      have c0 := (g0.cell k).trans (fnC_at hlt)
      have c1 := (g1.cell k).trans (fnC_at hlt)
      have c3 := (g3.cell k).trans (fnC_at hlt)
      have HG := Lib.hid hg.out
      obtain ⟨l0, l1⟩ := HL.out (k + 1) (by omega)
      have e1 : Lr.sumN (Lr.qF T ws) (k + 1) = Lr.sumN (Lr.qF T ws) k + Lr.qF T ws k := rfl
      rw [e1] at l0 l1
      have l2 : 0 ≤ T - Lr.sumN (Lr.qF T ws) k - Lr.qF T ws k := by omega
      have l3 : T - Lr.sumN (Lr.qF T ws) k - Lr.qF T ws k ≤ 1099511627776 := by omega
      clear g0 g1 g2 g3 hw hg l0 l1
      go_wp2_with fail
      go_region
      go_wp2
      go_roundw
      case rel =>
        obtain ⟨hw, g0, g1, g2, g3⟩ := HG.out
        have s0 := g0.set k (.int .i64 (Lr.qF T ws k))
        have s1 := g1.set k (.int .i64 (Lr.rF T ws k))
        have s3 := g3.set k (.int .i64 (k : Int))
        rw [fnC_set, upTo_upd] at s0 s1
        rw [fnC_set, show upd (upTo (fun i => (i : Int)) k) k (k : Int) = upTo (fun i => (i : Int)) (k + 1) from upTo_upd (fun i => (i : Int)) k] at s3
        refine ⟨k + 1, by omega, by rw [e1, show T - (Lr.sumN (Lr.qF T ws) k + Lr.qF T ws k) = T - Lr.sumN (Lr.qF T ws) k - Lr.qF T ws k by omega], by go_num, Lib.hid ⟨?_, ?_, ?_, ?_, ?_⟩⟩
        · exact (((hw.setCell (by simp) _).setCell (by simp <;> omega) _).setCell (by simp <;> omega) _).drew
        · exact ((s0.other (by omega) _).other (by omega) _).drew
        · have := (g1.other (B' := w.heap.size) (i := k) (by omega) (.int .i64 (Lr.qF T ws k))).set k (.int .i64 (Lr.rF T ws k))
          rw [fnC_set, upTo_upd] at this
          exact (this.other (by omega) _).drew
        · exact (((g2.other (by omega) _).other (by omega) _).other (by omega) _).drew
        · have := ((g3.other (B' := w.heap.size) (i := k) (by omega) (.int .i64 (Lr.qF T ws k))).other (B' := w.heap.size + 1) (i := k) (by omega) (.int .i64 (Lr.rF T ws k))).set k (.int .i64 (k : Int))
          rw [fnC_set, show upd (upTo (fun i => (i : Int)) k) k (k : Int) = upTo (fun i => (i : Int)) (k + 1) from upTo_upd (fun i => (i : Int)) k] at this
          exact this.drew
      case measure => simp [intOf]; omega
    · obtain rfl : k = ws.length := by omega
      obtain ⟨hw, g0, g1, g2, g3⟩ := hg.out
      rw [fnC_all] at g0 g1 g3
      have HG := Lib.hid (And.intro hw (And.intro g0 (And.intro g1 (And.intro g2 g3))))
      clear hg hw g0 g1 g2 g3
      have SO : Sorts wr (Lr.rF T ws) ws.length (w.heap.size + 1 + 1) (w.heap.size + 1) (w.heap.size + 1 + 1 + 1) := by
        obtain ⟨hw, g0, g1, g2, g3⟩ := HG.out
        exact ⟨u2, hsz, g2.cell 0, fun k hk => (g1.cell k).trans (fnC_at hk), fun k hk => ⟨(g3.cell k).trans (fnC_at hk), g3.frozen k⟩, by omega, by omega, g2.lt, g1.lt⟩
      have HS := Lib.hid SO
      clear SO
      obtain ⟨hL1, hL2⟩ := HF.out
      rw [← hL1]
      have HP := Lib.hid (show pJ T ws (Lr.leftN T ws) = Lr.partF T ws from rfl)
      generalize Lr.leftN T ws = L at *
      clear hL1
      go_wp2_with fail
      refine (sortStable_any HS.out).mono ?_
      rintro e w2 ⟨rfl, D, q, hD, rfl⟩
      have H2 := Lib.hid (show Below w.heap.size w ((Go.Sort.putRow (idx ws.length) wr (w.heap.size + 1 + 1 + 1) 0 D).drewN q) ∧ BlockAt ((Go.Sort.putRow (idx ws.length) wr (w.heap.size + 1 + 1 + 1) 0 D).drewN q) w.heap.size (fnC ws.length (pJ T ws 0)) 3 ∧ ∀ k, k < ws.length → ((Go.Sort.putRow (idx ws.length) wr (w.heap.size + 1 + 1 + 1) 0 D).drewN q).cell? ⟨w.heap.size + 1 + 1 + 1, k, none⟩ = some (.int .i64 (nth (Lr.rF T ws) ws.length k)) from by
        obtain ⟨hw, g0, g1, g2, g3⟩ := HG.out
        refine ⟨below_drewN (below_putRow hw (by omega)) q, ?_, fun k hk => HS.out.cells hD hk⟩
        rw [pJ_zero]
        exact g0.putRow (by omega))
      generalize (Go.Sort.putRow (idx ws.length) wr (w.heap.size + 1 + 1 + 1) 0 D).drewN q = w2 at *
      clear hD HS HG C HL
      go_wp2
      go_loopw [82] (fun u w3 => ∃ j : Nat, j ≤ L ∧ u = .int .i64 j ∧ Hid (Below w.heap.size w w3 ∧ BlockAt w3 w.heap.size (fnC ws.length (pJ T ws j)) 3 ∧ ∀ k, k < ws.length → w3.cell? ⟨w.heap.size + 1 + 1 + 1, k, none⟩ = some (.int .i64 (nth (Lr.rF T ws) ws.length k)))) (fun u _ => L - (intOf u).toNat)
      case atStart => exact ⟨0, Nat.zero_le _, rfl, H2⟩
      case round =>
        obtain ⟨j, hj, rfl, hg⟩ := hrel
        by_cases hlt : j < L
        · obtain ⟨hw, g0, ho⟩ := hg.out
          have hjn : j < ws.length := by omega
          have co := ho j hjn
          have hc := nth_lt (r := Lr.rF T ws) hjn
          have c0 := (g0.cell _).trans (fnC_at hc)
          rw [pJ_at hjn] at c0
          have f0 := g0.frozen (nth (Lr.rF T ws) ws.length j)
          obtain ⟨_, _, _, _, q0, q1, _, _⟩ := HR.out _ hc
          have HU := Lib.hid (pJ_succ (T := T) hjn)
          have HG := Lib.hid hg.out
          generalize nth (Lr.rF T ws) ws.length j = c at *
          clear g0 ho hg hw
          go_wp2
          go_roundw
          case rel =>
            obtain ⟨hw, g0, ho⟩ := HG.out
            have := g0.set c (.int .i64 (Lr.qF T ws c + 1))
            rw [fnC_set, HU.out] at this
            refine ⟨j + 1, by omega, by go_num, Lib.hid ⟨?_, ?_, fun k hk => ?_⟩⟩
            · exact hw.setCell (by simp) _
            · exact this
            · have := ho k hk
              exact (World.cell?_of_block (Below.heap_setCell _ _ _ _ (by simp <;> omega))).trans this
          case measure => simp [intOf]; omega
        · obtain rfl : j = L := by omega
          obtain ⟨hw, g0, _⟩ := hg.out
          rw [HP.out] at g0
          have HG := Lib.hid (And.intro g0 hw)
          clear hw g0 hg
          go_wp2
          go_ret2
          exact ⟨⟨rfl, HG.out.1⟩, HG.out.2⟩
end Go.Proofs.YtmmmlcnclehilaaDoor
