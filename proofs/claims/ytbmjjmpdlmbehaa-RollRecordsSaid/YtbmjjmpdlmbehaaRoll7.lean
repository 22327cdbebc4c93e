/- The greatest values of all beginnings: of the program. -/
import Derived.Test.YtbmjjmpdlmbehaaRoll6
namespace Go.Proofs.Ytbmjjmpdlmbehaa
open Go.RowKit

def intsC (xs : List Int) : Array Value := (xs.map (Value.int .i64)).toArray
theorem intsC_set (xs : List Int) (k : Nat) (x : Int) : (intsC xs).setIfInBounds k (.int .i64 x) = intsC (xs.set k x) := by
  unfold intsC; rw [List.setIfInBounds_toArray, ← List.map_set]
theorem intsC_at {xs : List Int} {k : Nat} (h : k < xs.length) : (intsC xs)[k]? = some (.int .i64 (xs.getD k 0)) := by
  unfold intsC; simp [h]
theorem cellsInts (n : Nat) : madeCells #[.int .i64 0] n = intsC (List.replicate n 0) := by
  unfold intsC madeCells
  refine Array.ext (by simp) fun i h1 h2 => ?_
  simp [Nat.mod_one]
def fnC (n : Nat) (f : Nat → Int) : Array Value := intsC ((List.range n).map f)
theorem fnC_set (n : Nat) (f : Nat → Int) (i : Nat) (v : Int) : (fnC n f).setIfInBounds i (.int .i64 v) = fnC n (Ro.upd f i v) := by
  unfold fnC
  rw [intsC_set]
  congr 1
  refine List.ext_getElem (by simp) fun j h1 h2 => ?_
  simp only [List.getElem_set, List.getElem_map, List.getElem_range, Ro.upd]
  by_cases e : i = j
  · subst e; simp
  · rw [if_neg e, if_neg (fun h => e h.symm)]
theorem fnC_at {n : Nat} {f : Nat → Int} {i : Nat} (h : i < n) : (fnC n f)[i]? = some (.int .i64 (f i)) := by
  unfold fnC
  rw [intsC_at (by simpa using h)]
  simp [h]
theorem fnC_zero (n : Nat) : intsC (List.replicate n 0) = fnC n (fun _ => 0) := by
  unfold fnC
  congr 1
  refine List.ext_getElem (by simp) fun j h1 h2 => by simp
theorem made_ints (n : Nat) (hn : n ≤ 1000) : ∀ W : World, (Instr.makeSlice 56 (.int .i64 (n : Int)) (.int .i64 (n : Int))).run Try.prog W = .ok (.slice (some ⟨W.heap.size, 0, none⟩) n n) (W.alloc (.cells (fnC n (fun _ => 0)) 3)) := by
  intro W
  obtain ⟨i0, hi, hz0, hz1, hz2⟩ := info_parts infoInt
  have := run_makeSlice (P := Try.prog) (w := W) 56 3 i0 (.int .i64 0) Try.underlying56 hi hz0 .i64 .i64 (n : Int) (n : Int) (by omega) (by omega) (by rw [hz1]; omega) (by rw [hz2]; omega) (by omega)
  rw [this, hz1, Nat.mul_one, show ((n : Int)).toNat = n by omega, show (Value.int .i64 0).cells = #[.int .i64 0] from rfl, cellsInts, fnC_zero]
theorem fnC_congr {n : Nat} {f g : Nat → Int} (h : ∀ i, i < n → f i = g i) : fnC n f = fnC n g := by
  unfold fnC
  congr 1
  exact List.map_congr_left fun i hi => h i (List.mem_range.1 hi)
/-- The values while the ends are gone through, behind some articles. -/
def Ro.mid (ms : List Bd.M) (al : List Ro.A) (k j : Nat) : Int := (al.take j).foldl (Ro.one ms (Ro.wf ms al k) ((k + 1 : Nat) : Int)) (Ro.wf ms al k k)
theorem Ro.mid_zero (ms : List Bd.M) (al : List Ro.A) (k : Nat) : Ro.mid ms al k 0 = Ro.wf ms al k k := rfl
theorem Ro.mid_succ {ms : List Bd.M} {al : List Ro.A} {k j : Nat} (hj : j < al.length) : Ro.mid ms al k (j + 1) = Ro.one ms (Ro.wf ms al k) ((k + 1 : Nat) : Int) (Ro.mid ms al k j) al[j] := by
  unfold Ro.mid
  rw [List.take_succ_eq_append_getElem hj, List.foldl_append]
  rfl
theorem Ro.mid_all (ms : List Bd.M) (al : List Ro.A) (k : Nat) : Ro.upd (Ro.wf ms al k) (k + 1) (Ro.mid ms al k al.length) = Ro.wf ms al (k + 1) := by
  unfold Ro.mid
  rw [List.take_length]
  rfl
theorem Ro.one_no {ms : List Bd.M} {f : Nat → Int} {e b : Int} {a : Ro.A} (h : Ro.fit ms a (e - a.l) = false) : Ro.one ms f e b a = b := if_neg (by rw [h]; simp)
theorem Ro.one_yes {ms : List Bd.M} {f : Nat → Int} {e b : Int} {a : Ro.A} (h : Ro.fit ms a (e - a.l) = true) : Ro.one ms f e b a = max b (f (e - a.l).toNat + a.p) := if_pos h
theorem Ro.wf_range {ms : List Bd.M} {al : List Ro.A} (ho : Ro.okAs al) {k i : Nat} (h : i ≤ k) : 0 ≤ Ro.wf ms al k i ∧ Ro.wf ms al k i ≤ i * 10000 := by
  rw [Ro.wf_le ms al k i h]
  exact ⟨Ro.W_nonneg ms al i, Ro.W_bound ho i⟩
theorem Ro.upd_eq (f : Nat → Int) (i : Nat) (v w : Int) : Ro.upd (Ro.upd f i v) i w = Ro.upd f i w := Ro.upd_upd f i v w
/-- What lies in memory while the values are found. -/
def WoS (w : World) (bv : Value) (N : Nat) (ov : Value) (f : Nat → Int) (W : World) : Prop :=
  BlockAt W w.heap.size (tabA bv (N : Int) ov) TabT ∧ BlockAt W (w.heap.size + 1) (fnC (N + 1) f) 3 ∧ Below w.heap.size w W
theorem WoS.below {w : World} {bv : Value} {N : Nat} {ov : Value} {f : Nat → Int} {W W2 : World} (h : WoS w bv N ov f W) (hb : Below W.heap.size W W2) : WoS w bv N ov f W2 :=
  ⟨h.1.below hb h.1.lt, h.2.1.below hb h.2.1.lt, below_step h.2.2 hb⟩
theorem WoS.alloc {w : World} {bv : Value} {N : Nat} {ov : Value} {f : Nat → Int} {W : World} (h : WoS w bv N ov f W) (o : Obj) : WoS w bv N ov f (W.alloc o) := h.below ((Below.refl _ _).alloc (Nat.le_refl _) o)
theorem WoS.drew {w : World} {bv : Value} {N : Nat} {ov : Value} {f : Nat → Int} {W : World} (h : WoS w bv N ov f W) : WoS w bv N ov f W.drew := ⟨h.1.drew, h.2.1.drew, below_drewN h.2.2 1⟩
theorem WoS.set {w : World} {bv : Value} {N : Nat} {ov : Value} {f : Nat → Int} {W : World} (h : WoS w bv N ov f W) (i : Nat) (x : Int) : WoS w bv N ov (Ro.upd f i x) (W.setCell ⟨w.heap.size + 1, i, none⟩ (.int .i64 x)) := by
  refine ⟨h.1.other (by omega) _, ?_, h.2.2.setCell (by simp) _⟩
  rw [← fnC_set]
  exact h.2.1.set i _

set_option maxRecDepth 20000 in
set_option maxHeartbeats 4000000 in
theorem worth_any (bv ov : Value) (rs : List Bd.R) (al : List Ro.A) (w : World) (ho : Offs w ov rs al) (hf : Bd.fine rs) (hok : Ro.okAs al) (hal : al.length ≤ 5) (hN : (Bd.exp rs).length ≤ 300) :
    Calls Try.prog 37 #[tabV bv ((Bd.exp rs).length : Int) ov] w fun e w' => ∃ g, e = .returned (.slice (some ⟨g, 0, none⟩) ((Bd.exp rs).length + 1) ((Bd.exp rs).length + 1)) ∧ w.heap.size ≤ g ∧ BlockAt w' g (fnC ((Bd.exp rs).length + 1) (Ro.W (Bd.exp rs) al)) 3 ∧ Below w.heap.size w w' := by
  obtain ⟨oa, oc, rfl, hk⟩ := ho
  have HA := Lib.hid hk
  have HF := Lib.hid (fun (j : Nat) (hj : j < al.length) (f : Int) (u : Value) (W : World) (hl : 1 ≤ al[j].l ∧ al[j].l ≤ 300) (hsp : Spns W u (spaA rs al[j])) => fitsAt_any al[j] (j : Int) u f (spaA rs al[j]) W hl hsp (spaA_ok rs _) (spaA_len hf _))
  have HE := Lib.hid (fun (j : Nat) (hj : j < al.length) (f : Int) => spaA_fit hf (Ro.okA_iff.1 (hok _ (List.getElem_mem hj))).1.1 f)
  have HL := Lib.hid (fun (j : Nat) (hj : j < al.length) => Ro.okA_iff.1 (hok _ (List.getElem_mem hj)))
  have HR := Lib.hid (fun k i h => Ro.wf_range (ms := Bd.exp rs) hok (k := k) (i := i) h)
  have hmake := made_ints ((Bd.exp rs).length + 1) (by omega)
  have HWW : Hid (∀ g W, BlockAt W g (fnC ((Bd.exp rs).length + 1) (Ro.wf (Bd.exp rs) al (Bd.exp rs).length)) 3 → BlockAt W g (fnC ((Bd.exp rs).length + 1) (Ro.W (Bd.exp rs) al)) 3) := Lib.hid fun g W h => by
    rw [show fnC ((Bd.exp rs).length + 1) (Ro.W (Bd.exp rs) al) = fnC ((Bd.exp rs).length + 1) (Ro.wf (Bd.exp rs) al (Bd.exp rs).length) from fnC_congr fun i hi => (Ro.wf_le _ _ _ _ (by omega)).symm]
    exact h
  clear hk hok hf
  generalize Bd.exp rs = ms at *
  obtain ⟨N, hNe⟩ : ∃ N, N = ms.length := ⟨_, rfl⟩
  rw [← hNe] at hmake HWW hN ⊢
  have hfit : Hid (∀ (a : Ro.A) (f : Int), Ro.fit ms a f = true → 0 ≤ f ∧ f + a.l ≤ N) := Lib.hid fun a f h => by
    have := Ro.fit_iff.1 h
    omega
  clear hNe
  have hwN : IntKind.i64.wrap ((N : Int) + 1) = ((N + 1 : Nat) : Int) := by rw [IntWalk.i64_in _ ⟨by omega, by omega⟩]; omega
  have hmake' : ∀ W : World, (Instr.makeSlice 56 (.int .i64 ((N : Int) + 1)) (.int .i64 ((N : Int) + 1))).run Try.prog W = .ok (.slice (some ⟨W.heap.size, 0, none⟩) (N + 1) (N + 1)) (W.alloc (.cells (fnC (N + 1) (fun _ => 0)) 3)) := hmake
  have HS0 : Hid (WoS w bv N (.slice oa al.length oc) (Ro.wf ms al 0) ((w.alloc (.cells (tabA bv (N : Int) (.slice oa al.length oc)) TabT)).alloc (.cells (fnC (N + 1) (fun _ => 0)) 3))) := Lib.hid (by
    refine ⟨(BlockAt.new _ _ _).alloc _, ?_, below_alloc2 (below_alloc2 (Below.refl _ _) _) _⟩
    have := BlockAt.new (w.alloc (.cells (tabA bv (N : Int) (.slice oa al.length oc)) TabT)) (fnC (N + 1) (fun _ => 0)) 3
    simp only [World.size_alloc] at this
    exact this)
  have c1 : World.cell? (w.alloc (.cells (tabA bv (N : Int) (.slice oa al.length oc)) TabT)) ⟨w.heap.size, 1, none⟩ = some (.int .i64 (N : Int)) := (BlockAt.new w (tabA bv (N : Int) (.slice oa al.length oc)) TabT).cell 1
  go_enter Try.func37, Try.ntmps37
  go_wp2
  clear c1 hmake hmake' hwN
  go_loopw [4] (fun t wr => ∃ k E : Nat, k ≤ N ∧ E = k + 1 ∧ t = .int .i64 E ∧ Hid (WoS w bv N (.slice oa al.length oc) (Ro.wf ms al k) wr)) (fun t _ => (N + 1) - (intOf t).toNat)
  case atStart => exact ⟨0, 1, by omega, rfl, rfl, HS0⟩
  case round =>
    obtain ⟨k, E, hkN, hE, rfl, hg⟩ := hrel
    clear HS0
    have d1 : World.cell? wr ⟨w.heap.size, 1, none⟩ = some (.int .i64 (N : Int)) := hg.out.1.cell 1
    have d2 : World.cell? wr ⟨w.heap.size, 2, none⟩ = some (.slice oa al.length oc) := hg.out.1.cell 2
    by_cases hlt : E ≤ N
    · have hdE : decide ((E : Int) ≤ N) = true := decide_eq_true (by omega)
      have hdE' : decide (E ≤ N) = true := decide_eq_true hlt
      have hwE : IntKind.i64.wrap ((E : Int) - 1) = (k : Int) := by rw [IntWalk.i64_in _ ⟨by omega, by omega⟩]; omega
      have e0 : World.cell? wr ⟨w.heap.size + 1, k, none⟩ = some (.int .i64 (Ro.wf ms al k k)) := (hg.out.2.1.cell k).trans (fnC_at (by omega))
      have e1 : World.cell? wr ⟨w.heap.size + 1, E, none⟩ = some (.int .i64 (Ro.wf ms al k E)) := (hg.out.2.1.cell E).trans (fnC_at (by omega))
      have f1 := hg.out.2.1.frozen E
      have HN0 : Hid (WoS w bv N (.slice oa al.length oc) (Ro.upd (Ro.wf ms al k) E (Ro.mid ms al k 0)) (wr.setCell ⟨w.heap.size + 1, E, none⟩ (.int .i64 (Ro.wf ms al k k)))) := Lib.hid (by
        have := hg.out.set E (Ro.wf ms al k k)
        rw [Ro.mid_zero]
        exact this)
      have hkN' : k < N + 1 := by omega
      have hEN' : E < N + 1 := by omega
      have HEE := Lib.hid hE
      clear hg hE
      go_wp2
      clear e0 e1 f1 d1 d2
      go_loopw [29] (fun t wr => ∃ j : Nat, j ≤ al.length ∧ t = .int .i64 j ∧ Hid (WoS w bv N (.slice oa al.length oc) (Ro.upd (Ro.wf ms al k) E (Ro.mid ms al k j)) wr)) (fun t _ => al.length - (intOf t).toNat)
      case atStart => exact ⟨0, Nat.zero_le _, rfl, HN0⟩
      case round =>
        obtain ⟨j, hj, rfl, hg⟩ := hrel
        clear HN0
        by_cases hjl : j < al.length
        · obtain ⟨b, off, u, rfl, hb, hr, hsp⟩ := HA.out j hjl
          obtain ⟨⟨hl1, hl2⟩, hp1, hp2⟩ := HL.out j hjl
          obtain ⟨⟨c0, c1, c2, c3, c4, c5⟩, c6, c7⟩ := hr.below hg.out.2.2 hb
          obtain ⟨z, hz⟩ : ∃ z : Int, z = (E : Int) - al[j].l := ⟨_, rfl⟩
          have hwz : IntKind.i64.wrap ((E : Int) - al[j].l) = z := by rw [IntWalk.i64_in _ ⟨by omega, by omega⟩]; exact hz.symm
          have HC := Lib.hid (fun W (hW : Below w.heap.size w W) => HF.out j hjl z u W ⟨hl1, hl2⟩ (hsp.all hW))
          rw [HE.out j hjl z] at HC
          have HM := Lib.hid (Ro.mid_succ (ms := ms) (k := k) hjl)
          have HO1 : Hid (Ro.fit ms al[j] z = false → Ro.mid ms al k (j + 1) = Ro.mid ms al k j) := Lib.hid fun h => by rw [HM.out]; exact Ro.one_no (by rw [← HEE.out, ← hz]; exact h)
          have HO2 : Hid (Ro.fit ms al[j] z = true → Ro.mid ms al k (j + 1) = max (Ro.mid ms al k j) (Ro.wf ms al k z.toNat + al[j].p)) := Lib.hid fun h => by rw [HM.out, Ro.one_yes (by rw [← HEE.out, ← hz]; exact h), ← HEE.out, ← hz]
          have HFZ : Hid (Ro.fit ms al[j] z = true → 0 ≤ z ∧ z + al[j].l ≤ N) := Lib.hid (hfit.out al[j] z)
          obtain ⟨ua, uc, rfl, hsp2⟩ := hsp
          have HG := Lib.hid hg.out
          have HZ := Lib.hid hz
          obtain ⟨m0, hm0⟩ : ∃ m0, m0 = Ro.mid ms al k j := ⟨_, rfl⟩
          obtain ⟨m1, hm1⟩ : ∃ m1, m1 = Ro.mid ms al k (j + 1) := ⟨_, rfl⟩
          rw [← hm0] at HG HO1 HO2
          rw [← hm1] at HO1 HO2
          have HM1 := Lib.hid hm1
          clear hg hsp2 hr HM hz hm0 hm1
          obtain ⟨sl, hsl⟩ : ∃ sl, sl = (spaA rs al[j]).length := ⟨_, rfl⟩
          rw [← hsl] at HC c7
          clear hsl
          generalize hfz : Ro.fit ms al[j] z = r at *
          clear hfz
          generalize al[j] = a at *
          have HG1 := Lib.hid (HG.out.alloc (.cells (offA a (j : Int) (.slice ua sl uc)) OffT))
          go_wp2_with fail
          refine (HC.out _ HG1.out.2.2).mono ?_
          rintro e w3 ⟨rfl, hb3⟩
          have HG3 := Lib.hid (HG1.out.below hb3)
          have q5 := (((BlockAt.new wr (offA a (j : Int) (.slice ua sl uc)) OffT).below hb3 (BlockAt.new wr (offA a (j : Int) (.slice ua sl uc)) OffT).lt).cell 5).trans rfl
          clear c0 c1 c2 c3 c4 c5 c6 c7 HC hb3 HG1 HG
          cases r
          · have HM2 := Lib.hid (HO1.out rfl)
            clear HO1 HO2 HFZ q5
            go_wp2
            go_roundw
            case rel => exact ⟨j + 1, by omega, by go_num, Lib.hid (by rw [← HM1.out, HM2.out]; exact HG3.out)⟩
            case measure => simp [intOf]; omega
          · have HM2 := Lib.hid (HO2.out rfl)
            obtain ⟨hz0, hz1⟩ := HFZ.out rfl
            clear HO1 HO2 HFZ
            obtain ⟨p, rfl⟩ : ∃ p : Nat, z = p := ⟨z.toNat, by omega⟩
            have hzz := HZ.out
            have hpk : p ≤ k := by have := HEE.out; omega
            have hrg := HR.out k p hpk
            have hpE : p ≠ E := by have := HEE.out; omega
            rw [Int.toNat_natCast] at HM2
            have e0 : World.cell? w3 ⟨w.heap.size + 1, p, none⟩ = some (.int .i64 (Ro.wf ms al k p)) := (HG3.out.2.1.cell p).trans ((fnC_at (by omega)).trans (by rw [Ro.upd_other _ hpE]))
            have e1 : World.cell? w3 ⟨w.heap.size + 1, E, none⟩ = some (.int .i64 m0) := (HG3.out.2.1.cell E).trans ((fnC_at (by omega)).trans (by rw [Ro.upd_same]))
            have f1 := HG3.out.2.1.frozen E
            have hpN : p < N + 1 := by omega
            generalize Ro.wf ms al k p = x at *
            have hwx : IntKind.i64.wrap (x + a.p) = x + a.p := IntWalk.i64_in _ ⟨by omega, by omega⟩
            have hmx : (if m0 < x + a.p then x + a.p else m0) = max m0 (x + a.p) := by
              by_cases h : m0 < x + a.p
              · rw [if_pos h, Int.max_eq_right (by omega)]
              · rw [if_neg h, Int.max_eq_left (by omega)]
            have HGN : Hid (WoS w bv N (.slice (some ⟨b, off, none⟩) al.length oc) (Ro.upd (Ro.wf ms al k) E (max m0 (x + a.p))) ((w3.setCell ⟨w.heap.size + 1, E, none⟩ (.int .i64 (if m0 < x + a.p then x + a.p else m0))).drew)) := Lib.hid (by
              have := HG3.out.set E (max m0 (x + a.p))
              rw [Ro.upd_eq] at this
              rw [hmx]
              exact this.drew)
            clear hzz hrg hz0 hz1 hmx
            go_upto_region 11 with fail
            go_region
            clear e0 e1 f1 q5
            go_wp2
            go_roundw
            case rel => exact ⟨j + 1, by omega, by go_num, Lib.hid (by rw [← HM1.out, HM2.out]; exact HGN.out)⟩
            case measure => simp [intOf]; omega
        · obtain rfl : j = al.length := by omega
          have HN := Lib.hid (show WoS w bv N _ (Ro.wf ms al (k + 1)) wr from by rw [← Ro.mid_all, ← HEE.out]; exact hg.out)
          clear hg
          have hwE2 : IntKind.i64.wrap ((E : Int) + 1) = ((E + 1 : Nat) : Int) := by rw [IntWalk.i64_in _ ⟨by omega, by omega⟩]; omega
          go_wp2
          go_roundw
          case rel => exact ⟨k + 1, E + 1, by have := HEE.out; omega, by rw [HEE.out], by go_num, HN⟩
          case measure => simp [intOf]; omega
    · have hdE : decide ((E : Int) ≤ N) = false := decide_eq_false (by omega)
      have hdE' : decide (E ≤ N) = false := decide_eq_false hlt
      obtain rfl : k = N := by omega
      have HW := Lib.hid (HWW.out _ _ hg.out.2.1)
      have HB := Lib.hid hg.out.2.2
      clear hg
      go_wp2
      go_ret
      exact ⟨_, rfl, by omega, HW.out, HB.out⟩
end Go.Proofs.Ytbmjjmpdlmbehaa
