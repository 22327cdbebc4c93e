/- What all lots divide shares by, as the program lists it. -/
import Derived.Test.YtccjbefmcifaeaaTaken
import Derived.Test.YtccjbefmcifaeaaShN
namespace Go.Proofs.Ytccjbefmcifaeaa
open Go.RowKit

def intsC (xs : List Int) : Array Value := (xs.map (Value.int .i64)).toArray
theorem intsC_set (xs : List Int) (k : Nat) (x : Int) : (intsC xs).setIfInBounds k (.int .i64 x) = intsC (xs.set k x) := by
  unfold intsC; rw [List.setIfInBounds_toArray, ← List.map_set]
theorem intsC_at {xs : List Int} {k : Nat} (h : k < xs.length) : (intsC xs)[k]? = some (.int .i64 (xs.getD k 0)) := by
  unfold intsC; simp [h]
theorem cellsInts (n : Nat) : madeCells #[.int .i64 0] n = intsC (List.replicate n 0) := by
  unfold intsC madeCells
  refine Array.ext (by simp) fun i h1 h2 => ?_
  simp [Nat.mod_one]
theorem infoInt : (Try.prog.info? 3).map (fun i => (i.zero, i.size, i.bytes)) = some (some (.int .i64 0), 1, 8) := by kernel_rfl
def dens (ls : List Lt.L) : List Int := ls.map Sh.beI
/-- The divisors that are reckoned so far, and zeros. -/
def densK (ls : List Lt.L) (k : Nat) : List Int := (dens ls).take k ++ List.replicate (ls.length - k) 0
theorem densK_zero (ls : List Lt.L) : densK ls 0 = List.replicate ls.length 0 := by simp [densK]
theorem densK_all (ls : List Lt.L) : densK ls ls.length = dens ls := by unfold densK dens; rw [Nat.sub_self, List.take_of_length_le (by simp)]; simp
theorem densK_len (ls : List Lt.L) {k : Nat} (h : k ≤ ls.length) : (densK ls k).length = ls.length := by simp [densK, dens]; omega
theorem densK_succ {ls : List Lt.L} {k : Nat} (h : k < ls.length) : (densK ls k).set k (Sh.beI ls[k]) = densK ls (k + 1) := by
  have hd : k < (dens ls).length := by simpa [dens] using h
  have hl : ((dens ls).take k).length = k := by simp; omega
  unfold densK
  rw [List.set_append_right _ _ (by omega), hl, Nat.sub_self, List.take_succ_eq_append_getElem hd, show ls.length - k = (ls.length - (k + 1)) + 1 by omega, List.replicate_succ, List.set_cons_zero]
  simp [dens]

set_option maxRecDepth 20000 in
set_option maxHeartbeats 1000000 in
theorem denominators_any (v : Value) (ls : List Lt.L) (w : World) (hv : Lots w v ls) (hl : ls.length ≤ 24) (hf : ∀ j, j < ls.length → Lt.fine (ls.getD j default)) :
    Calls Try.prog 94 #[v] w fun e w' => e = .returned (.slice (some ⟨w.heap.size, 0, none⟩) ls.length ls.length) ∧ BlockAt w' w.heap.size (intsC (dens ls)) 3 ∧ Below w.heap.size w w' := by
  obtain ⟨a, c, rfl, hk⟩ := hv.look
  have HK := Lib.hid hk
  have HF := Lib.hid hf
  have hmk : ∀ W : World, (Instr.makeSlice 54 (.int .i64 (ls.length : Int)) (.int .i64 (ls.length : Int))).run Try.prog W = .ok (.slice (some ⟨W.heap.size, 0, none⟩) ls.length ls.length) (W.alloc (.cells (intsC (List.replicate ls.length 0)) 3)) := by
    intro W
    obtain ⟨i0, hi, hz0, hz1, hz2⟩ := info_parts infoInt
    have := run_makeSlice (P := Try.prog) (w := W) 54 3 i0 (.int .i64 0) Try.underlying54 hi hz0 .i64 .i64 (ls.length : Int) (ls.length : Int) (by omega) (by omega) (by rw [hz1]; omega) (by rw [hz2]; omega) (by omega)
    rw [this, hz1, Nat.mul_one, show ((ls.length : Int)).toNat = ls.length by omega, show (Value.int .i64 0).cells = #[.int .i64 0] from rfl, cellsInts]
  have hw0 := below_alloc (Below.refl w.heap.size w) (.cells (intsC (densK ls 0)) 3)
  have hb0 := BlockAt.new w (intsC (densK ls 0)) 3
  rw [← densK_zero] at hmk
  have H0 := Lib.hid (And.intro hw0 hb0)
  clear hk hv hf hw0 hb0
  go_enter Try.func94, Try.ntmps94
  go_wp2
  go_loopw [11] (fun t wr => ∃ k : Nat, k ≤ ls.length ∧ t = .int .i64 k ∧ Hid (Below w.heap.size w wr ∧ BlockAt wr w.heap.size (intsC (densK ls k)) 3)) (fun t _ => ls.length - (intOf t).toNat)
  case atStart => exact ⟨0, Nat.zero_le _, rfl, H0⟩
  case round =>
    obtain ⟨k, hk, rfl, hg⟩ := hrel
    obtain ⟨hw, hb⟩ := hg.out
    clear H0
    by_cases hlt : k < ls.length
    · obtain ⟨b, off, u, rfl, hbl, hlot⟩ := HK.out k hlt
      have hfx := HF.out k hlt
      have hlot := hlot.below hw hbl
      rw [getD_L hlt] at hlot hfx
      have hs := densK_succ hlt
      have HS := Lib.hid hs
      clear hs
      generalize ls[k] = x at *
      obtain ⟨c0, c1, c2, hps⟩ := hlot
      obtain ⟨au, cu, rfl⟩ := hps.form
      have hcell := (hb.cell k).trans (intsC_at (by rw [densK_len _ hk]; exact hlt))
      have hfr := hb.frozen k
      have hsz := hb.lt
      have T := Lib.hid (fun W (hW : Below wr.heap.size wr W) => taken_any x (.slice au x.ps.length cu) W (hps.all hW) (tame_of hfx))
      have hbd := Lt.takes_bd hfx.2.2
      clear hps hfx
      generalize hz : (densK ls k).getD k 0 = z at *
      clear hz
      have HG := Lib.hid (And.intro hw hb)
      clear hw hb hg
      go_wp2_with fail
      refine (T.out _ (below_alloc (Below.refl _ _) _)).mono ?_
      rintro e w1 ⟨rfl, hb1⟩
      obtain ⟨hw, hb⟩ := HG.out
      have hb := (hb.alloc (.cells #[.int .i64 x.k, .int .i64 x.m, .slice au x.ps.length cu] 25)).below hb1 (by have := hb.lt; simp; omega)
      have hw := below_step (below_alloc hw (.cells #[.int .i64 x.k, .int .i64 x.m, .slice au x.ps.length cu] 25)) hb1
      have hcell := (hb.cell k).trans (intsC_at (by rw [densK_len _ hk]; exact hlt))
      have hfr := hb.frozen k
      have HG := Lib.hid (And.intro hw hb)
      generalize (densK ls k).getD k 0 = z at *
      clear hw hb hb1 T
      go_wp2
      go_roundw
      case rel =>
        obtain ⟨hw, hb⟩ := HG.out
        have := hb.set k (.int .i64 (max 1 (Lt.takes x.ps)))
        rw [intsC_set, show max 1 (Lt.takes x.ps) = Sh.beI x from rfl, HS.out] at this
        exact ⟨k + 1, by omega, by go_num, Lib.hid ⟨hw.setCell (by simp) _, this⟩⟩
      case measure => simp [intOf]; omega
    · obtain rfl : k = ls.length := by omega
      rw [densK_all] at hb
      go_wp2
      go_ret
      exact ⟨rfl, hb, hw⟩
end Go.Proofs.Ytccjbefmcifaeaa
