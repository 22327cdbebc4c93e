/- How many paths there are: both sides. -/
import Derived.Test.YtccjbefmcifaeaaPathN
namespace Go.Proofs.Ytccjbefmcifaeaa
open Go.RowKit

def pathsR (ls : List Lt.L) (n m : Int) : Int := if numE ls [n, m] = 0 then pathsF ls n.toNat m.toNat else 0
theorem numE_zero2 {ls : List Lt.L} {n m : Int} (h : numE ls [n, m] = 0) : Lt.valE ls = 0 ∧ (0 ≤ n ∧ n < ls.length) ∧ 0 ≤ m ∧ m < ls.length := by
  rw [numE_two] at h
  by_cases hz : Lt.valE ls = 0
  · rw [if_pos hz] at h
    cases hi : inR ls n && inR ls m with
    | false => rw [hi] at h; cases h
    | true => unfold inR at hi; simp at hi; exact ⟨hz, hi.1, hi.2⟩
  · rw [if_neg hz] at h; exact absurd h hz

theorem lotPaths_any (v : Value) (ls : List Lt.L) (n m : Int) (w : World) (hv : Lots w v ls) (hsh : short ls) :
    Calls Try.prog 39 #[v, .int .i64 n, .int .i64 m] w fun e w' => e = .returned (.tuple #[.int .i64 (pathsR ls n m), .int .i64 (numE ls [n, m])]) ∧ Below w.heap.size w w' := by
  have hb1 := below_alloc (Below.refl w.heap.size w) (.cells #[.int .i64 n, .int .i64 m] 3)
  have N := Lib.hid (nums_two v ls n m w.heap.size _ (hv.all hb1) hsh (BlockAt.new w #[.int .i64 n, .int .i64 m] 3))
  have HB := Lib.hid (And.intro hb1 hv)
  obtain ⟨a, c, rfl⟩ := hv.form
  clear hb1 hv hsh
  by_cases hz : numE ls [n, m] = 0
  · obtain ⟨h0, ⟨h1, h2⟩, h3, h4⟩ := numE_zero2 hz
    obtain ⟨hl, herr, _⟩ := Lt.valE_zero h0
    have HR := Lib.hid (show pathsR ls n m = pathsF ls n.toNat m.toNat by unfold pathsR; rw [if_pos hz])
    have HZ := Lib.hid hz
    rw [hz] at N
    obtain ⟨i, rfl⟩ : ∃ i : Nat, n = (i : Int) := ⟨n.toNat, by omega⟩
    obtain ⟨q, rfl⟩ : ∃ i : Nat, m = (i : Int) := ⟨m.toNat, by omega⟩
    simp only [Int.toNat_natCast] at HR
    have hq : q < ls.length := by omega
    have L := Lib.hid (fun W (hW : Below w.heap.size w W) => paths_any _ ls i W (HB.out.2.all hW) hl herr (by omega))
    clear hz h0 h1 h2 h3 h4 herr
    go_enter Try.func39, Try.ntmps39
    go_wp2_with fail
    refine N.out.mono ?_
    rintro e w1 ⟨rfl, hb⟩
    have hw := below_step HB.out.1 hb
    have L1 := Lib.hid (L.out _ hw)
    clear hb N L
    go_wp2_with fail
    refine L1.out.mono ?_
    rintro e w2 ⟨rfl, hblk, hb2⟩
    have hw2 := below_step hw hb2
    have hc := (hblk.cell q).trans (fnC_at hq)
    clear hblk hb2 L1
    generalize pathsF ls i q = z at *
    go_wp2
    go_ret2
    exact ⟨by rw [HR.out, HZ.out]; rfl, hw2⟩
  · have HR := Lib.hid (show pathsR ls n m = 0 by unfold pathsR; rw [if_neg hz])
    have hne : (numE ls [n, m] != 0) = true := by simpa using hz
    generalize hq : numE ls [n, m] = q at *
    have HQ := Lib.hid hq
    clear hz hq
    go_enter Try.func39, Try.ntmps39
    go_wp2_with fail
    refine N.out.mono ?_
    rintro e w1 ⟨rfl, hb⟩
    have hw := below_step HB.out.1 hb
    clear hb N
    go_wp2
    go_ret2
    exact ⟨by rw [HR.out]; rfl, hw⟩

set_option maxRecDepth 20000 in
set_option maxHeartbeats 1000000 in
theorem refPaths_any (v : Value) (ls : List Lt.L) (n m : Int) (w : World) (hv : Lots w v ls) (hsh : short ls) :
    Calls Try.prog 40 #[v, .int .i64 n, .int .i64 m] w fun e w' => e = .returned (.tuple #[.int .i64 (pathsR ls n m), .int .i64 (numE ls [n, m])]) ∧ Below w.heap.size w w' := by
  have N := Lib.hid (named_any v ls n m w hv hsh)
  obtain ⟨a, c, rfl, hk⟩ := hv.look
  have HK := Lib.hid hk
  clear hv hsh hk
  by_cases hz : numE ls [n, m] = 0
  · obtain ⟨h0, ⟨h1, h2⟩, h3, h4⟩ := numE_zero2 hz
    obtain ⟨hl, herr, _⟩ := Lt.valE_zero h0
    have HR := Lib.hid (show pathsR ls n m = pathsF ls n.toNat m.toNat by unfold pathsR; rw [if_pos hz])
    have HZ := Lib.hid hz
    rw [hz] at N
    obtain ⟨i, rfl⟩ : ∃ i : Nat, n = (i : Int) := ⟨n.toNat, by omega⟩
    obtain ⟨r, rfl⟩ : ∃ i : Nat, m = (i : Int) := ⟨m.toNat, by omega⟩
    simp only [Int.toNat_natCast] at HR
    have hr : r < ls.length := by omega
    have hi : i < ls.length := by omega
    have HE := Lib.hid herr
    have hmk := made_ints ls.length (by omega)
    clear hz h0 h1 h2 h3 h4 herr
    go_enter Try.func40, Try.ntmps40
    go_wp2_with fail
    refine N.out.mono ?_
    rintro e w1 ⟨rfl, hbn⟩
    have hsz1 := hbn.size
    have hb0 := BlockAt.new w1 (fnC ls.length (fun _ => 0)) 3
    have hc0 := (hb0.cell i).trans (fnC_at hi)
    have hf0 := hb0.frozen i
    have hb1 : BlockAt (w1.alloc (.cells ((fnC ls.length (fun _ => 0)).setIfInBounds i (.int .i64 1)) 3)) w1.heap.size (fnC ls.length (upd (fun _ => 0) i 1)) 3 := by
      rw [fnC_set]; exact BlockAt.new _ _ _
    have H0 := Lib.hid (And.intro (below_alloc hbn (.cells ((fnC ls.length (fun _ => 0)).setIfInBounds i (.int .i64 1)) 3)) hb1)
    clear hbn hb0 hb1 N
    go_wp2
    clear hc0 hf0
    go_loopw [10] (fun t wr => ∃ k : Nat, i + 1 + k ≤ ls.length ∧ t = .int .i64 ((i + 1 + k : Nat) : Int) ∧ Hid (Below w.heap.size w wr ∧ BlockAt wr w1.heap.size (fnC ls.length (runL ad ls (upd (fun _ => 0) i 1) (i + 1) k)) 3)) (fun t _ => ls.length - (intOf t).toNat)
    case atStart => exact ⟨0, by omega, by go_num, H0⟩
    case round =>
      obtain ⟨k, hk, rfl, hg⟩ := hrel
      clear H0
      by_cases hlt : i + 1 + k < ls.length
      · obtain ⟨hw, hb⟩ := hg.out
        obtain ⟨b, off, u, rfl, hbl, hlot⟩ := HK.out _ hlt
        have hps := hlot.2.2.2
        have HC2 := Lib.hid hlot.2.2.1
        have h6 := (Lt.errAt_parts (HE.out _ hlt)).2.1
        have HB := Lib.hid (fun j (hj : j < (ls.getD (i + 1 + k) default).ps.length) => part_before (HE.out _ hlt) hj)
        have HRR := Lib.hid (show runL ad ls (upd (fun _ => 0) i 1) (i + 1) (k + 1) = (ls.getD (i + 1 + k) default).ps.foldl (stepP ad (i + 1 + k)) (runL ad ls (upd (fun _ => 0) i 1) (i + 1) k) from rfl)
        clear hlot
        generalize runL ad ls (upd (fun _ => 0) i 1) (i + 1) k = F at *
        generalize ls.getD (i + 1 + k) default = x at *
        obtain ⟨xk, xm, ps⟩ := x
        dsimp only at *
        obtain ⟨pa, pc, rfl, hpk⟩ := hps.look
        have HPK := Lib.hid hpk
        have hm1 : i + 1 + (k + 1) = i + 1 + k + 1 := by omega
        have HM := Lib.hid hm1
        generalize hm : i + 1 + k = m at *
        have HN := Lib.hid hm
        have HG := Lib.hid (And.intro hw hb)
        clear hps hpk hw hb hg hm1 hm
        go_wp2
        go_loopw [11] (fun t w2 => ∃ j : Nat, j ≤ ps.length ∧ t = .int .i64 j ∧ Hid (Below w.heap.size w w2 ∧ BlockAt w2 w1.heap.size (fnC ls.length ((ps.take j).foldl (stepP ad m) F)) 3)) (fun t _ => ps.length - (intOf t).toNat)
        case atStart => exact ⟨0, Nat.zero_le _, rfl, HG⟩
        case round =>
          obtain ⟨j, hj, rfl, hg⟩ := hrel
          clear HG
          obtain ⟨hw, hb⟩ := hg.out
          have c2 := (hw.cell (p := ⟨b, off + m * 3 + 2, none⟩) hbl).trans HC2.out
          by_cases hjl : j < ps.length
          · obtain ⟨pb, poff, rfl, hpb, hpt⟩ := HPK.out j hjl
            obtain ⟨d0, d1⟩ := hpt.below hw hpb
            obtain ⟨q, hq, hqm⟩ := HB.out j hjl
            have HS := Lib.hid (fold_succ hjl (stepP ad m) F)
            rw [getD_P hjl] at d0 d1
            generalize (ps.take j).foldl (stepP ad m) F = f at *
            generalize ps[j] = p at *
            obtain ⟨pl, pm⟩ := p
            dsimp only at *
            subst hq
            have hsz := hb.lt
            have e1 := (hb.cell m).trans (fnC_at hlt)
            have e2 := (hb.cell q).trans (fnC_at (n := ls.length) (f := f) (i := q) (by omega))
            have e3 := hb.frozen m
            have had : IntKind.i64.wrap (f m + f q) = ad (f m) (f q) := rfl
            have HST := Lib.hid (show stepP ad m f ⟨(q : Int), pm⟩ = upd f m (ad (f m) (f q)) from rfl)
            have hql : q < ls.length := by omega
            have HBA := Lib.hid (And.intro hw hb)
            generalize ad (f m) (f q) = z at *
            generalize f m = z1 at *
            generalize f q = z2 at *
            clear hpt hw hb hg d1
            go_wp2_with fail
            go_region
            go_wp2
            go_roundw
            case rel =>
              obtain ⟨hw, hb⟩ := HBA.out
              have := (hb.set m (.int .i64 z))
              rw [fnC_set, ← HST.out, ← HS.out] at this
              exact ⟨j + 1, by omega, by go_num, Lib.hid ⟨(hw.setCell (by simp; omega) _).drew, this.drew⟩⟩
            case measure => simp [intOf]; omega
          · obtain rfl : j = ps.length := by omega
            rw [List.take_length, ← HRR.out] at hg
            clear hw hb
            go_wp2
            go_roundw
            case rel => exact ⟨k + 1, by have := HN.out; omega, by rw [HM.out]; go_num, hg⟩
            case measure => simp [intOf]; omega
      · obtain rfl : k = ls.length - (i + 1) := by omega
        obtain ⟨hw, hb⟩ := hg.out
        have hx : i + 1 + (ls.length - (i + 1)) = ls.length := by omega
        have hc := (hb.cell r).trans (fnC_at hr)
        have HR2 := Lib.hid (show pathsF ls i r = runL ad ls (upd (fun _ => 0) i 1) (i + 1) (ls.length - (i + 1)) r from rfl)
        clear hb hg
        generalize runL ad ls (upd (fun _ => 0) i 1) (i + 1) (ls.length - (i + 1)) r = z at *
        rw [hx]
        go_wp2
        go_ret2
        exact ⟨by rw [HR.out, HR2.out, HZ.out]; rfl, hw⟩
  · have HR := Lib.hid (show pathsR ls n m = 0 by unfold pathsR; rw [if_neg hz])
    have hne : (numE ls [n, m] != 0) = true := by simpa using hz
    generalize hq : numE ls [n, m] = q at *
    have HQ := Lib.hid hq
    clear hz hq
    go_enter Try.func40, Try.ntmps40
    go_wp2_with fail
    refine N.out.mono ?_
    rintro e w1 ⟨rfl, hb⟩
    clear N
    go_wp2
    go_ret2
    exact ⟨by rw [HR.out]; rfl, hb⟩
end Go.Proofs.Ytccjbefmcifaeaa
