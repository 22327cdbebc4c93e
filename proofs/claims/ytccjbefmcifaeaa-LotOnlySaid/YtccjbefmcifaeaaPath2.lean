/- How deep a lot lies: both sides. -/
import Derived.Test.YtccjbefmcifaeaaPath1
namespace Go.Proofs.Ytccjbefmcifaeaa
open Go.RowKit

def depthR (ls : List Lt.L) (n : Int) : Int := if numE ls [n] = 0 then deepF ls (n.toNat + 1) n.toNat else 0
theorem deepF_succ (ls : List Lt.L) (k : Nat) : deepF ls (k + 1) = (ls.getD k default).ps.foldl (stepP mx k) (deepF ls k) := by
  show stepL mx ls (deepF ls k) (0 + k) = _
  rw [Nat.zero_add]; rfl

set_option maxRecDepth 20000 in
set_option maxHeartbeats 1000000 in
theorem lotDepth_any (v : Value) (ls : List Lt.L) (n : Int) (w : World) (hv : Lots w v ls) (hsh : short ls) :
    Calls Try.prog 41 #[v, .int .i64 n] w fun e w' => e = .returned (.tuple #[.int .i64 (depthR ls n), .int .i64 (numE ls [n])]) ∧ Below w.heap.size w w' := by
  have hb1 := below_alloc (Below.refl w.heap.size w) (.cells #[.int .i64 n] 3)
  have N := Lib.hid (nums_one v ls n w.heap.size _ (hv.all hb1) hsh (BlockAt.new w #[.int .i64 n] 3))
  have HB1 := Lib.hid hb1
  obtain ⟨a, c, rfl, hk⟩ := hv.look
  have HK := Lib.hid hk
  clear hb1 hv hsh hk
  by_cases hz : numE ls [n] = 0
  · obtain ⟨h0, h1, h2⟩ := numE_zero hz
    obtain ⟨hl, herr, _⟩ := Lt.valE_zero h0
    have HR := Lib.hid (show depthR ls n = deepF ls (n.toNat + 1) n.toNat by unfold depthR; rw [if_pos hz])
    have HZ := Lib.hid hz
    rw [hz] at N
    obtain ⟨i, rfl⟩ : ∃ i : Nat, n = (i : Int) := ⟨n.toNat, by omega⟩
    simp only [Int.toNat_natCast] at HR
    have hi : i < ls.length := by omega
    have HE := Lib.hid herr
    have hmk : ∀ W : World, (Instr.makeSlice 54 (.int .i64 ((i : Int) + 1)) (.int .i64 ((i : Int) + 1))).run Try.prog W = .ok (.slice (some ⟨W.heap.size, 0, none⟩) (i + 1) (i + 1)) (W.alloc (.cells (fnC (i + 1) (fun _ => 0)) 3)) := made_ints (i + 1) (by omega)
    clear hz h0 h1 h2 herr
    go_enter Try.func41, Try.ntmps41
    go_wp2_with fail
    refine N.out.mono ?_
    rintro e w1 ⟨rfl, hbn⟩
    have hbn := below_step HB1.out hbn
    have hsz1 := hbn.size
    have hb0 := BlockAt.new w1 (fnC (i + 1) (deepF ls 0)) 3
    have H0 := Lib.hid (And.intro (below_alloc hbn (.cells (fnC (i + 1) (deepF ls 0)) 3)) hb0)
    clear hbn hb0 N HB1
    go_wp2
    go_loopw [23] (fun t wr => ∃ k : Nat, k ≤ i + 1 ∧ t = .int .i64 (k : Int) ∧ Hid (Below w.heap.size w wr ∧ BlockAt wr w1.heap.size (fnC (i + 1) (deepF ls k)) 3)) (fun t _ => i + 1 - (intOf t).toNat)
    case atStart => exact ⟨0, by omega, rfl, H0⟩
    case round =>
      obtain ⟨k, hk, rfl, hg⟩ := hrel
      clear H0
      by_cases hlt : k < i + 1
      · obtain ⟨hw, hb⟩ := hg.out
        have hkl : k < ls.length := by omega
        obtain ⟨b, off, u, rfl, hbl, hlot⟩ := HK.out _ hkl
        have c2 := (hw.cell (p := ⟨b, off + k * 3 + 2, none⟩) hbl).trans hlot.2.2.1
        have hps := hlot.2.2.2
        have h6 := (Lt.errAt_parts (HE.out _ hkl)).2.1
        have HB := Lib.hid (fun j (hj : j < (ls.getD k default).ps.length) => part_before (HE.out _ hkl) hj)
        have HRR := Lib.hid (deepF_succ ls k)
        clear hlot
        generalize deepF ls k = F at *
        generalize ls.getD k default = x at *
        obtain ⟨xk, xm, ps⟩ := x
        dsimp only at *
        obtain ⟨pa, pc, rfl, hpk⟩ := hps.look
        have HPK := Lib.hid hpk
        have HG := Lib.hid (And.intro hw hb)
        clear hps hpk hw hb hg
        go_wp2
        clear c2
        go_loopw [32] (fun t w2 => ∃ j : Nat, j ≤ ps.length ∧ t = .int .i64 j ∧ Hid (Below w.heap.size w w2 ∧ BlockAt w2 w1.heap.size (fnC (i + 1) ((ps.take j).foldl (stepP mx k) F)) 3)) (fun t _ => ps.length - (intOf t).toNat)
        case atStart => exact ⟨0, Nat.zero_le _, rfl, HG⟩
        case round =>
          obtain ⟨j, hj, rfl, hg⟩ := hrel
          clear HG
          obtain ⟨hw, hb⟩ := hg.out
          by_cases hjl : j < ps.length
          · obtain ⟨pb, poff, rfl, hpb, hpt⟩ := HPK.out j hjl
            obtain ⟨d0, d1⟩ := hpt.below hw hpb
            obtain ⟨q, hq, hqm⟩ := HB.out j hjl
            have HS := Lib.hid (fold_succ hjl (stepP mx k) F)
            rw [getD_P hjl] at d0 d1
            generalize (ps.take j).foldl (stepP mx k) F = f at *
            generalize ps[j] = p at *
            obtain ⟨pl, pm⟩ := p
            dsimp only at *
            subst hq
            have hsz := hb.lt
            have hbA := hb.alloc (.cells #[.int .i64 (q : Int), .int .i64 pm] 35)
            have e1 := (hbA.cell k).trans (fnC_at hlt)
            have e2 := (hbA.cell q).trans (fnC_at (n := i + 1) (f := f) (i := q) (by omega))
            have e3 := hbA.frozen k
            have had : IntKind.i64.wrap (1 + f q) = od (f q) := by unfold od; rw [Int.add_comm]
            have HST := Lib.hid (show stepP mx k f ⟨(q : Int), pm⟩ = upd f k (max (f k) (od (f q))) from rfl)
            have hql : q < i + 1 := by omega
            have HBA := Lib.hid (And.intro hw hb)
            generalize od (f q) = z at *
            generalize f k = z1 at *
            generalize f q = z2 at *
            clear hpt hw hb hg hbA
            go_wp2_with fail
            go_region
            go_wp2
            go_roundw
            case rel =>
              obtain ⟨hw, hb⟩ := HBA.out
              have := (hb.set k (.int .i64 (max z1 z)))
              rw [fnC_set, ← HST.out, ← HS.out] at this
              exact ⟨j + 1, by omega, by go_num, Lib.hid ⟨(below_alloc (hw.setCell (by simp; omega) _) _).drew, (this.alloc _).drew⟩⟩
            case measure => simp [intOf]; omega
          · obtain rfl : j = ps.length := by omega
            rw [List.take_length, ← HRR.out] at hg
            clear hw hb
            go_wp2
            go_roundw
            case rel => exact ⟨k + 1, by omega, by go_num, hg⟩
            case measure => simp [intOf]; omega
      · obtain rfl : k = i + 1 := by omega
        obtain ⟨hw, hb⟩ := hg.out
        have hc := (hb.cell i).trans (fnC_at (Nat.lt_succ_self i))
        clear hb hg
        generalize deepF ls (i + 1) i = z at *
        go_wp2
        go_ret2
        exact ⟨by rw [HR.out, HZ.out]; rfl, hw⟩
  · have HR := Lib.hid (show depthR ls n = 0 by unfold depthR; rw [if_neg hz])
    have hne : (numE ls [n] != 0) = true := by simpa using hz
    generalize hq : numE ls [n] = q at *
    have HQ := Lib.hid hq
    clear hz hq
    go_enter Try.func41, Try.ntmps41
    go_wp2_with fail
    refine N.out.mono ?_
    rintro e w1 ⟨rfl, hb⟩
    have hw := below_step HB1.out hb
    clear hb N
    go_wp2
    go_ret2
    exact ⟨by rw [HR.out]; rfl, hw⟩

set_option maxRecDepth 20000 in
set_option maxHeartbeats 1000000 in
theorem refDepth_any (v : Value) (ls : List Lt.L) (n : Int) (w : World) (hv : Lots w v ls) (hsh : short ls) :
    Calls Try.prog 42 #[v, .int .i64 n] w fun e w' => e = .returned (.tuple #[.int .i64 (depthR ls n), .int .i64 (numE ls [n])]) ∧ Below w.heap.size w w' := by
  have N := Lib.hid (named_any v ls n n w hv hsh)
  rw [numE_same] at N
  obtain ⟨a, c, rfl, hk⟩ := hv.look
  have HK := Lib.hid hk
  clear hv hsh hk
  by_cases hz : numE ls [n] = 0
  · obtain ⟨h0, h1, h2⟩ := numE_zero hz
    obtain ⟨hl, herr, _⟩ := Lt.valE_zero h0
    have HR := Lib.hid (show depthR ls n = deepF ls (n.toNat + 1) n.toNat by unfold depthR; rw [if_pos hz])
    have HZ := Lib.hid hz
    rw [hz] at N
    obtain ⟨i, rfl⟩ : ∃ i : Nat, n = (i : Int) := ⟨n.toNat, by omega⟩
    simp only [Int.toNat_natCast] at HR
    have hi : i < ls.length := by omega
    have HE := Lib.hid herr
    have hmk := made_ints ls.length (by omega)
    clear hz h0 h1 h2 herr
    go_enter Try.func42, Try.ntmps42
    go_wp2_with fail
    refine N.out.mono ?_
    rintro e w1 ⟨rfl, hbn⟩
    have hsz1 := hbn.size
    have hb0 := BlockAt.new w1 (fnC ls.length (deepF ls 0)) 3
    have H0 := Lib.hid (And.intro (below_alloc hbn (.cells (fnC ls.length (deepF ls 0)) 3)) hb0)
    clear hbn hb0 N
    go_wp2
    go_loopw [8] (fun t wr => ∃ k : Nat, k ≤ ls.length ∧ t = .int .i64 (k : Int) ∧ Hid (Below w.heap.size w wr ∧ BlockAt wr w1.heap.size (fnC ls.length (deepF ls k)) 3)) (fun t _ => ls.length - (intOf t).toNat)
    case atStart => exact ⟨0, by omega, rfl, H0⟩
    case round =>
      obtain ⟨k, hk, rfl, hg⟩ := hrel
      clear H0
      by_cases hlt : k < ls.length
      · obtain ⟨hw, hb⟩ := hg.out
        obtain ⟨b, off, u, rfl, hbl, hlot⟩ := HK.out _ hlt
        have hps := hlot.2.2.2
        have HC2 := Lib.hid hlot.2.2.1
        have h6 := (Lt.errAt_parts (HE.out _ hlt)).2.1
        have HB := Lib.hid (fun j (hj : j < (ls.getD k default).ps.length) => part_before (HE.out _ hlt) hj)
        have HRR := Lib.hid (deepF_succ ls k)
        clear hlot
        generalize deepF ls k = F at *
        generalize ls.getD k default = x at *
        obtain ⟨xk, xm, ps⟩ := x
        dsimp only at *
        obtain ⟨pa, pc, rfl, hpk⟩ := hps.look
        have HPK := Lib.hid hpk
        have HG := Lib.hid (And.intro hw hb)
        clear hps hpk hw hb hg
        go_wp2
        go_loopw [9, 10] (fun t s w2 => ∃ j : Nat, j ≤ ps.length ∧ t = .int .i64 j ∧ Hid (Below w.heap.size w w2 ∧ BlockAt w2 w1.heap.size (fnC ls.length ((ps.take j).foldl (stepP mx k) F)) 3)) (fun t _ _ => ps.length - (intOf t).toNat)
        case atStart => exact ⟨0, Nat.zero_le _, rfl, HG⟩
        case round =>
          obtain ⟨j, hj, rfl, hg⟩ := hrel
          clear HG
          obtain ⟨hw, hb⟩ := hg.out
          have c2 := (hw.cell (p := ⟨b, off + k * 3 + 2, none⟩) hbl).trans HC2.out
          by_cases hjl : j < ps.length
          · obtain ⟨pb, poff, rfl, hpb, hpt⟩ := HPK.out j hjl
            obtain ⟨d0, d1⟩ := hpt.below hw hpb
            obtain ⟨q, hq, hqm⟩ := HB.out j hjl
            have HS := Lib.hid (fold_succ hjl (stepP mx k) F)
            rw [getD_P hjl] at d0 d1
            generalize (ps.take j).foldl (stepP mx k) F = f at *
            generalize ps[j] = p at *
            obtain ⟨pl, pm⟩ := p
            dsimp only at *
            subst hq
            have hsz := hb.lt
            have e1 := (hb.cell k).trans (fnC_at hlt)
            have e2 := (hb.cell q).trans (fnC_at (n := ls.length) (f := f) (i := q) (by omega))
            have e3 := hb.frozen k
            have had : IntKind.i64.wrap (f q + 1) = od (f q) := rfl
            have HST := Lib.hid (show stepP mx k f ⟨(q : Int), pm⟩ = upd f k (max (f k) (od (f q))) from rfl)
            have HUS := Lib.hid (upd_same f k)
            have hql : q < ls.length := by omega
            have HBA := Lib.hid (And.intro hw hb)
            generalize od (f q) = z at *
            generalize f k = z1 at *
            generalize f q = z2 at *
            clear hpt hw hb hg d1
            by_cases hgt : z1 < z
            · have HMX := Lib.hid (show max z1 z = z by omega)
              have hgtb : decide (z1 < z) = true := by simpa using hgt
              clear hgt
              go_wp2
              go_roundw
              case rel =>
                obtain ⟨hw, hb⟩ := HBA.out
                have := (hb.set k (.int .i64 z))
                rw [HMX.out] at HST
                rw [fnC_set, ← HST.out, ← HS.out] at this
                exact ⟨j + 1, by omega, by go_num, Lib.hid ⟨(hw.setCell (by simp; omega) _), this⟩⟩
              case measure => simp [intOf]; omega
            · have HMX := Lib.hid (show max z1 z = z1 by omega)
              have hgtb : decide (z1 < z) = false := by simpa using hgt
              clear hgt
              go_wp2
              go_roundw
              case rel =>
                have h := HBA.out
                rw [HMX.out, HUS.out] at HST
                rw [← HST.out, ← HS.out] at h
                exact ⟨j + 1, by omega, by go_num, Lib.hid h⟩
              case measure => simp [intOf]; omega
          · obtain rfl : j = ps.length := by omega
            rw [List.take_length, ← HRR.out] at hg
            clear hw hb
            go_wp2
            go_roundw
            case rel => exact ⟨k + 1, by omega, by go_num, hg⟩
            case measure => simp [intOf]; omega
      · obtain rfl : k = ls.length := by omega
        obtain ⟨hw, hb⟩ := hg.out
        have hc := (hb.cell i).trans (fnC_at hi)
        rw [deepF_stay ls hi] at hc
        clear hb hg
        generalize deepF ls (i + 1) i = z at *
        go_wp2
        go_ret2
        exact ⟨by rw [HR.out, HZ.out]; rfl, hw⟩
  · have HR := Lib.hid (show depthR ls n = 0 by unfold depthR; rw [if_neg hz])
    have hne : (numE ls [n] != 0) = true := by simpa using hz
    generalize hq : numE ls [n] = q at *
    have HQ := Lib.hid hq
    clear hz hq
    go_enter Try.func42, Try.ntmps42
    go_wp2_with fail
    refine N.out.mono ?_
    rintro e w1 ⟨rfl, hb⟩
    clear N
    go_wp2
    go_ret2
    exact ⟨by rw [HR.out]; rfl, hb⟩
end Go.Proofs.Ytccjbefmcifaeaa
