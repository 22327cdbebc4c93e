/- Lists of numbers that a loop over all parts reckons: how many paths, how deep. -/
import Derived.Test.YtccjbefmcifaeaaDenom
import Derived.Test.YtccjbefmcifaeaaAns1
namespace Go.Proofs.Ytccjbefmcifaeaa
open Go.RowKit

def upd (f : Nat → Int) (i : Nat) (v : Int) : Nat → Int := fun j => if j = i then v else f j
def fnC (n : Nat) (f : Nat → Int) : Array Value := intsC ((List.range n).map f)
theorem fnC_set (n : Nat) (f : Nat → Int) (i : Nat) (v : Int) : (fnC n f).setIfInBounds i (.int .i64 v) = fnC n (upd f i v) := by
  unfold fnC
  rw [intsC_set]
  congr 1
  refine List.ext_getElem (by simp) fun j h1 h2 => ?_
  simp only [List.getElem_set, List.getElem_map, List.getElem_range, upd]
  by_cases e : i = j
  · subst e; simp
  · rw [if_neg e, if_neg (fun h => e h.symm)]
theorem fnC_at {n : Nat} {f : Nat → Int} {i : Nat} (h : i < n) : (fnC n f)[i]? = some (.int .i64 (f i)) := by
  unfold fnC
  rw [intsC_at (by simpa using h)]
  simp [h]
theorem fnC_zero (n : Nat) : intsC (List.replicate n 0) = fnC n (fun _ => 0) := by
  unfold fnC
  congr 1
  refine List.ext_getElem (by simp) fun j h1 h2 => by simp
theorem upd_same (f : Nat → Int) (i : Nat) : upd f i (f i) = f := by
  funext j; unfold upd; by_cases e : j = i
  · rw [if_pos e, e]
  · rw [if_neg e]

def ad (a b : Int) : Int := IntKind.i64.wrap (a + b)
def od (b : Int) : Int := IntKind.i64.wrap (b + 1)
def mx (a b : Int) : Int := max a (od b)
def stepP (op : Int → Int → Int) (i : Nat) (f : Nat → Int) (p : Lt.P) : Nat → Int := upd f i (op (f i) (f p.l.toNat))
def stepL (op : Int → Int → Int) (ls : List Lt.L) (f : Nat → Int) (i : Nat) : Nat → Int := (ls.getD i default).ps.foldl (stepP op i) f
def runL (op : Int → Int → Int) (ls : List Lt.L) (f : Nat → Int) (a : Nat) : Nat → Nat → Int
  | 0 => f
  | n + 1 => stepL op ls (runL op ls f a n) (a + n)
theorem fold_succ {ps : List Lt.P} {j : Nat} (h : j < ps.length) (g : (Nat → Int) → Lt.P → Nat → Int) (f : Nat → Int) : (ps.take (j + 1)).foldl g f = g ((ps.take j).foldl g f) ps[j] := by
  rw [List.take_succ_eq_append_getElem h, List.foldl_append]; rfl
theorem foldP_ne (op : Int → Int → Int) {i j : Nat} (h : j ≠ i) (ps : List Lt.P) : ∀ f : Nat → Int, ps.foldl (stepP op i) f j = f j := by
  induction ps with
  | nil => intro f; rfl
  | cons p r ih => intro f; rw [List.foldl_cons, ih]; unfold stepP upd; rw [if_neg h]
theorem runL_stay (op : Int → Int → Int) (ls : List Lt.L) (f : Nat → Int) (a : Nat) {k j : Nat} (h : j < a + k) : ∀ m, runL op ls f a (k + m) j = runL op ls f a k j
  | 0 => rfl
  | m + 1 => by
    show stepL op ls (runL op ls f a (k + m)) (a + (k + m)) j = _
    unfold stepL
    rw [foldP_ne op (by omega)]
    exact runL_stay op ls f a h m
def pathsF (ls : List Lt.L) (i : Nat) : Nat → Int := runL ad ls (upd (fun _ => 0) i 1) (i + 1) (ls.length - (i + 1))
def deepF (ls : List Lt.L) (k : Nat) : Nat → Int := runL mx ls (fun _ => 0) 0 k
theorem deepF_stay (ls : List Lt.L) {i : Nat} (h : i < ls.length) : deepF ls ls.length i = deepF ls (i + 1) i := by
  have := runL_stay mx ls (fun _ => 0) 0 (k := i + 1) (j := i) (by omega) (ls.length - (i + 1))
  rw [show i + 1 + (ls.length - (i + 1)) = ls.length by omega] at this
  exact this
/-- The parts of a fine lot name lots that stand before it. -/
theorem part_before {ls : List Lt.L} {i : Nat} (h : Lt.errAt ls i = 0) {j : Nat} (hj : j < (ls.getD i default).ps.length) : ∃ q : Nat, (ls.getD i default).ps[j].l = (q : Int) ∧ q < i := by
  obtain ⟨_, _, h3, _⟩ := Lt.errAt_parts h
  obtain ⟨a, b, _⟩ := Lt.okPs_mem h3 _ (List.getElem_mem hj)
  exact ⟨((ls.getD i default).ps[j].l).toNat, by omega, by omega⟩
theorem made_ints (n : Nat) (hn : n ≤ 1000) : ∀ W : World, (Instr.makeSlice 54 (.int .i64 (n : Int)) (.int .i64 (n : Int))).run Try.prog W = .ok (.slice (some ⟨W.heap.size, 0, none⟩) n n) (W.alloc (.cells (fnC n (fun _ => 0)) 3)) := by
  intro W
  obtain ⟨i0, hi, hz0, hz1, hz2⟩ := info_parts infoInt
  have := run_makeSlice (P := Try.prog) (w := W) 54 3 i0 (.int .i64 0) Try.underlying54 hi hz0 .i64 .i64 (n : Int) (n : Int) (by omega) (by omega) (by rw [hz1]; omega) (by rw [hz2]; omega) (by omega)
  rw [this, hz1, Nat.mul_one, show ((n : Int)).toNat = n by omega, show (Value.int .i64 0).cells = #[.int .i64 0] from rfl, cellsInts, fnC_zero]

set_option maxRecDepth 20000 in
set_option maxHeartbeats 1000000 in
theorem paths_any (v : Value) (ls : List Lt.L) (i : Nat) (w : World) (hv : Lots w v ls) (hl : ls.length ≤ 24) (herr : ∀ j, j < ls.length → Lt.errAt ls j = 0) (hi : i < ls.length) :
    Calls Try.prog 84 #[v, .int .i64 i] w fun e w' => e = .returned (.slice (some ⟨w.heap.size, 0, none⟩) ls.length ls.length) ∧ BlockAt w' w.heap.size (fnC ls.length (pathsF ls i)) 3 ∧ Below w.heap.size w w' := by
  obtain ⟨a, c, rfl, hk⟩ := hv.look
  have HK := Lib.hid hk
  have HE := Lib.hid herr
  have hmk := made_ints ls.length (by omega)
  have hw0 := below_alloc (Below.refl w.heap.size w) (.cells (fnC ls.length (fun _ => 0)) 3)
  have hb0 := BlockAt.new w (fnC ls.length (fun _ => 0)) 3
  have hc0 := (hb0.cell i).trans (fnC_at hi)
  have hf0 := hb0.frozen i
  have hb1 : BlockAt (w.alloc (.cells ((fnC ls.length (fun _ => 0)).setIfInBounds i (.int .i64 1)) 3)) w.heap.size (fnC ls.length (upd (fun _ => 0) i 1)) 3 := by
    rw [fnC_set]; exact BlockAt.new _ _ _
  have H0 := Lib.hid (And.intro (below_alloc (Below.refl w.heap.size w) (.cells ((fnC ls.length (fun _ => 0)).setIfInBounds i (.int .i64 1)) 3)) hb1)
  clear hk hv herr hw0 hb0 hb1
  go_enter Try.func84, Try.ntmps84
  go_wp2
  clear hc0 hf0
  go_loopw [6] (fun t wr => ∃ k : Nat, i + 1 + k ≤ ls.length ∧ t = .int .i64 ((i + 1 + k : Nat) : Int) ∧ Hid (Below w.heap.size w wr ∧ BlockAt wr w.heap.size (fnC ls.length (runL ad ls (upd (fun _ => 0) i 1) (i + 1) k)) 3)) (fun t _ => ls.length - (intOf t).toNat)
  case atStart => exact ⟨0, by omega, by go_num, H0⟩
  case round =>
    obtain ⟨k, hk, rfl, hg⟩ := hrel
    clear H0
    by_cases hlt : i + 1 + k < ls.length
    · obtain ⟨hw, hb⟩ := hg.out
      obtain ⟨b, off, u, rfl, hbl, hlot⟩ := HK.out _ hlt
      have c2 := (hw.cell (p := ⟨b, off + (i + 1 + k) * 3 + 2, none⟩) hbl).trans hlot.2.2.1
      have hps := hlot.2.2.2
      have h6 := (Lt.errAt_parts (HE.out _ hlt)).2.1
      have HB := Lib.hid (fun j (hj : j < (ls.getD (i + 1 + k) default).ps.length) => part_before (HE.out _ hlt) hj)
      have HR := Lib.hid (show runL ad ls (upd (fun _ => 0) i 1) (i + 1) (k + 1) = (ls.getD (i + 1 + k) default).ps.foldl (stepP ad (i + 1 + k)) (runL ad ls (upd (fun _ => 0) i 1) (i + 1) k) from rfl)
      clear hlot
      generalize runL ad ls (upd (fun _ => 0) i 1) (i + 1) k = F at *
      generalize ls.getD (i + 1 + k) default = x at *
      obtain ⟨xk, xm, ps⟩ := x
      dsimp only at *
      obtain ⟨pa, pc, rfl, hpk⟩ := hps.look
      have HPK := Lib.hid hpk
      have hm1 : i + 1 + (k + 1) = i + 1 + k + 1 := by omega
      have HM := Lib.hid hm1
      generalize hm : i + 1 + k = m at *
      have HN := Lib.hid hm
      have HG := Lib.hid (And.intro hw hb)
      clear hps hpk hw hb hg hm1 hm
      go_wp2
      clear c2
      go_loopw [29] (fun t w2 => ∃ j : Nat, j ≤ ps.length ∧ t = .int .i64 j ∧ Hid (Below w.heap.size w w2 ∧ BlockAt w2 w.heap.size (fnC ls.length ((ps.take j).foldl (stepP ad m) F)) 3)) (fun t _ => ps.length - (intOf t).toNat)
      case atStart => exact ⟨0, Nat.zero_le _, rfl, HG⟩
      case round =>
        obtain ⟨j, hj, rfl, hg⟩ := hrel
        clear HG
        by_cases hjl : j < ps.length
        · obtain ⟨hw, hb⟩ := hg.out
          obtain ⟨pb, poff, rfl, hpb, hpt⟩ := HPK.out j hjl
          obtain ⟨d0, d1⟩ := hpt.below hw hpb
          obtain ⟨q, hq, hqm⟩ := HB.out j hjl
          have HS := Lib.hid (fold_succ hjl (stepP ad m) F)
          rw [getD_P hjl] at d0 d1
          generalize (ps.take j).foldl (stepP ad m) F = f at *
          generalize ps[j] = p at *
          obtain ⟨pl, pm⟩ := p
          dsimp only at *
          subst hq
          have hsz := hb.lt
          have hbA := hb.alloc (.cells #[.int .i64 (q : Int), .int .i64 pm] 35)
          have e1 := (hbA.cell m).trans (fnC_at hlt)
          have e2 := (hbA.cell q).trans (fnC_at (n := ls.length) (f := f) (i := q) (by omega))
          have e3 := hbA.frozen m
          have had : IntKind.i64.wrap (f m + f q) = ad (f m) (f q) := rfl
          have HST := Lib.hid (show stepP ad m f ⟨(q : Int), pm⟩ = upd f m (ad (f m) (f q)) from rfl)
          have hql : q < ls.length := by omega
          have HBA := Lib.hid (And.intro hw hb)
          generalize ad (f m) (f q) = z at *
          generalize f m = z1 at *
          generalize f q = z2 at *
          clear hpt hw hb hg hbA
          go_wp2_with fail
          go_region
          go_wp2
          go_roundw
          case rel =>
            obtain ⟨hw, hb⟩ := HBA.out
            have := (hb.set m (.int .i64 z))
            rw [fnC_set, ← HST.out, ← HS.out] at this
            exact ⟨j + 1, by omega, by go_num, Lib.hid ⟨(below_alloc (hw.setCell (by simp) _) _).drew, (this.alloc _).drew⟩⟩
          case measure => simp [intOf]; omega
        · obtain rfl : j = ps.length := by omega
          rw [List.take_length, ← HR.out] at hg
          go_wp2
          go_roundw
          case rel => exact ⟨k + 1, by have := HN.out; omega, by rw [HM.out]; go_num, hg⟩
          case measure => simp [intOf]; omega
    · obtain rfl : k = ls.length - (i + 1) := by omega
      obtain ⟨hw, hb⟩ := hg.out
      have hx : i + 1 + (ls.length - (i + 1)) = ls.length := by omega
      rw [hx]
      go_wp2
      go_ret
      exact ⟨rfl, hb, hw⟩
end Go.Proofs.Ytccjbefmcifaeaa
