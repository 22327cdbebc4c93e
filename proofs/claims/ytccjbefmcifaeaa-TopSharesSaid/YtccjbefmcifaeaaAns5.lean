/- The audit: the program's. -/
import Derived.Test.YtccjbefmcifaeaaAns4
namespace Go.Proofs.Ytccjbefmcifaeaa
open Go.RowKit

def audE (ls : List Lt.L) (z : Int) : Int := if Lt.valE ls = 0 then z else 0
theorem sums_take_bd {ls : List Lt.L} (h : ∀ j, j < ls.length → Lt.fine (ls.getD j default)) (hl : ls.length ≤ 24) (k : Nat) :
    (0 ≤ Lt.recvAll (ls.take k) ∧ Lt.recvAll (ls.take k) ≤ 14400000) ∧ (0 ≤ Lt.lostAll (ls.take k) ∧ Lt.lostAll (ls.take k) ≤ 14400000) ∧ (0 ≤ Lt.airAll (ls.take k) ∧ Lt.airAll (ls.take k) ≤ 14400000) := by
  have := Lt.sums_bd (fine_take h k)
  have h2 : (ls.take k).length ≤ 24 := Nat.le_trans (List.length_take_le' _ _) hl
  omega
theorem leftK_bd {ls : List Lt.L} (h0 : Lt.valE ls = 0) : ∀ k, k ≤ ls.length → 0 ≤ Lt.leftK ls k ∧ Lt.leftK ls k ≤ k * 100000
  | 0, _ => by simp [Lt.leftK]
  | k + 1, h => by
    obtain ⟨hl, herr, hleft⟩ := Lt.valE_zero h0
    have ih := leftK_bd h0 k (by omega)
    have h1 := hleft k (by omega)
    have hf := Lt.fine_of (herr k (by omega))
    have hu := Lt.used_bd (k : Int) (fine_take (fun j hj => Lt.fine_of (herr j hj)) ls.length)
    rw [List.take_length] at hu
    have h2 : Lt.left ls k ≤ 100000 := by unfold Lt.left; have := hf.1; omega
    simp only [Lt.leftK]; omega
theorem left_le {ls : List Lt.L} (h0 : Lt.valE ls = 0) {k : Nat} (hk : k < ls.length) : 0 ≤ Lt.left ls k ∧ Lt.left ls k ≤ 100000 := by
  obtain ⟨hl, herr, hleft⟩ := Lt.valE_zero h0
  have hf := Lt.fine_of (herr k hk)
  have hu := Lt.used_bd (k : Int) (fine_take (fun j hj => Lt.fine_of (herr j hj)) ls.length)
  rw [List.take_length] at hu
  exact ⟨hleft k hk, by unfold Lt.left; have := hf.1; omega⟩

set_option maxRecDepth 20000 in
set_option maxHeartbeats 2000000 in
theorem audit_any (v : Value) (ls : List Lt.L) (w : World) (hv : Lots w v ls) (hsh : short ls) :
    Calls Try.prog 55 #[v] w fun e w' => e = .returned (.tuple #[.int .i64 (audE ls (Lt.recvAll ls)), .int .i64 (audE ls (Lt.leftK ls ls.length)), .int .i64 (audE ls (Lt.lostAll ls)), .int .i64 (audE ls (Lt.airAll ls)), .int .i64 (Lt.valE ls)]) ∧ Below w.heap.size w w' := by
  have V := Lib.hid (validate_any v ls w hv hsh)
  have HV := Lib.hid hv
  obtain ⟨a, c, rfl, hlk⟩ := hv.look
  have HLK := Lib.hid hlk
  have hlen := hsh.1
  clear hv hsh hlk
  by_cases hz : Lt.valE ls = 0
  · have HZ := Lib.hid hz
    obtain ⟨hl, herr, _⟩ := Lt.valE_zero hz
    have HF := Lib.hid (fun j (hj : j < ls.length) => Lt.fine_of (herr j hj))
    have L := Lib.hid (fun W (hW : Below w.heap.size w W) i (hi : i < ls.length) => leftOf_any _ ls i W (HV.out.all hW) hl HF.out hi)
    have HBD := Lib.hid (sums_take_bd HF.out hl)
    have HLB := Lib.hid (leftK_bd hz)
    have HLE := Lib.hid (fun k (hk : k < ls.length) => left_le hz hk)
    have HA : ∀ z, Hid (audE ls z = z) := fun z => Lib.hid (if_pos hz)
    have e1 := HA (Lt.recvAll ls)
    have e2 := HA (Lt.leftK ls ls.length)
    have e3 := HA (Lt.lostAll ls)
    have e4 := HA (Lt.airAll ls)
    rw [hz] at V
    clear hz herr HA
    go_enter Try.func55, Try.ntmps55
    go_wp2_with fail
    refine V.out.mono ?_
    rintro e w1 ⟨rfl, hw⟩
    have H0 := Lib.hid hw
    clear hw V
    go_wp2
    go_loopw [2, 3, 4, 5, 17] (fun r l o i t wr => ∃ k : Nat, k ≤ ls.length ∧ t = .int .i64 k ∧ r = .int .i64 (Lt.recvAll (ls.take k)) ∧ l = .int .i64 (Lt.leftK ls k) ∧ o = .int .i64 (Lt.lostAll (ls.take k)) ∧ i = .int .i64 (Lt.airAll (ls.take k)) ∧ Below w.heap.size w wr) (fun _ _ _ _ t _ => ls.length - (intOf t).toNat)
    case atStart => exact ⟨0, Nat.zero_le _, rfl, rfl, rfl, rfl, rfl, H0.out⟩
    case round =>
      obtain ⟨k, hk, rfl, rfl, rfl, rfl, rfl, hw⟩ := hrel
      clear H0
      by_cases hlt : k < ls.length
      · obtain ⟨b, off, u, rfl, hb, hlot⟩ := HLK.out k hlt
        have hlot := hlot.below hw hb
        have hfx := HF.out k hlt
        rw [getD_L hlt] at hlot hfx
        have S1 := Lib.hid (Lt.recvAll_succ hlt)
        have S2 : Hid (Lt.leftK ls (k + 1) = Lt.leftK ls k + Lt.left ls k) := Lib.hid rfl
        have S3 := Lib.hid (Lt.lostAll_succ hlt)
        have S4 := Lib.hid (Lt.airAll_succ hlt)
        obtain ⟨b1, b3, b4⟩ := HBD.out k
        have b2 := HLB.out k (by omega)
        have bl := HLE.out k hlt
        have C := Lib.hid (fun W (hW : Below w.heap.size w W) => L.out W hW k hlt)
        generalize Lt.recvAll (ls.take k) = s1 at *
        generalize Lt.leftK ls k = s2 at *
        generalize Lt.lostAll (ls.take k) = s3 at *
        generalize Lt.airAll (ls.take k) = s4 at *
        generalize Lt.left ls k = z at *
        generalize ls[k] = x at *
        obtain ⟨c0, c1, c2, hps⟩ := hlot
        obtain ⟨ua, uc, rfl⟩ := hps.form
        have hm := hfx.1
        have h6 := hfx.2.1
        have hlo := Lt.lostI_bd hfx
        have LI := Lib.hid (fun W (hW : Below wr.heap.size wr W) => lostIn_any x ua uc W (hps.all hW) hfx)
        have R1 := Lib.hid (received_any x ua uc (wr.alloc (.cells #[.int .i64 x.k, .int .i64 x.m, .slice ua x.ps.length uc] 25)) (by omega))
        have bX := BlockAt.new wr #[.int .i64 x.k, .int .i64 x.m, .slice ua x.ps.length uc] 25
        have hw2 := below_alloc (Below.refl wr.heap.size wr) (.cells #[.int .i64 x.k, .int .i64 x.m, .slice ua x.ps.length uc] 25)
        have HW := Lib.hid (And.intro hw2 (And.intro bX hw))
        have hkl : (k : Int) ≤ 24 := by omega
        generalize lostI x = li at *
        clear hps hfx hw2 bX hw
        by_cases h0 : x.ps.length = 0
        all_goals
          first
            | (have hd : decide (x.ps.length = 0) = true := by simpa using h0)
            | (have hd : decide (x.ps.length = 0) = false := by simpa using h0)
          rw [hd] at R1
          first
            | (have T1 := Lib.hid (S1.out.trans (by rw [if_pos h0])))
            | (have T1 := Lib.hid (S1.out.trans (by rw [if_neg h0])))
          clear h0 hd S1
          go_wp2_with fail
          refine R1.out.mono ?_
          rintro e w3 ⟨rfl, hb3⟩
          have bX := HW.out.2.1.below hb3 HW.out.2.1.lt
          have hw3 := below_step HW.out.1 hb3
          have d0 := bX.cell 0
          have d1 := bX.cell 1
          have d2 := bX.cell 2
          have HW3 := Lib.hid (And.intro hw3 bX)
          have C1 := Lib.hid (C.out _ (below_step HW.out.2.2 hw3))
          clear bX hb3 hw3 c0 c1 c2 R1
          go_wp2_with fail
          refine C1.out.mono ?_
          rintro e w4 ⟨rfl, hb4⟩
          have bX := HW3.out.2.below hb4 HW3.out.2.lt
          have hw4 := below_step HW3.out.1 hb4
          have d0 := bX.cell 0
          have d1 := bX.cell 1
          have d2 := bX.cell 2
          have HW4 := Lib.hid (And.intro hw4 bX)
          have L1 := Lib.hid (LI.out _ hw4)
          clear bX hb4 hw4 C1 HW3
          go_wp2_with fail
          refine L1.out.mono ?_
          rintro e w5 ⟨rfl, hb5⟩
          have bX := HW4.out.2.below hb5 HW4.out.2.lt
          have hw5 := below_step HW4.out.1 hb5
          have d0 := bX.cell 0
          have d1 := bX.cell 1
          have d2 := bX.cell 2
          have L2 := Lib.hid (LI.out _ hw5)
          have HW5 := Lib.hid hw5
          clear bX hb5 hw5 L1 HW4
          go_wp2_with fail
          refine L2.out.mono ?_
          rintro e w6 ⟨rfl, hb6⟩
          have hw6 := below_step HW.out.2.2 (below_step HW5.out hb6)
          clear hb6 L2 HW5 d0 d1 d2
          go_wp2
          go_roundw
          case rel => exact ⟨k + 1, by omega, by go_num, by rw [T1.out]; try simp, by rw [S2.out], by rw [S3.out], by rw [S4.out], hw6⟩
          case measure => simp [intOf]; omega
      · obtain rfl : k = ls.length := by omega
        rw [List.take_length]
        go_wp2
        exact bodyPost_ret (v := .tuple #[.int .i64 (Lt.recvAll ls), .int .i64 (Lt.leftK ls ls.length), .int .i64 (Lt.lostAll ls), .int .i64 (Lt.airAll ls), .int .i64 0]) (by simp [results, Try.results55, go_sem]) rfl ⟨by rw [e1.out, e2.out, e3.out, e4.out, HZ.out], hw⟩
  · have HA : ∀ z, Hid (audE ls z = 0) := fun z => Lib.hid (if_neg hz)
    have hne : (Lt.valE ls != 0) = true := by simpa using hz
    have e1 := HA (Lt.recvAll ls)
    have e2 := HA (Lt.leftK ls ls.length)
    have e3 := HA (Lt.lostAll ls)
    have e4 := HA (Lt.airAll ls)
    clear hz HA
    generalize Lt.valE ls = q at *
    go_enter Try.func55, Try.ntmps55
    go_wp2_with fail
    refine V.out.mono ?_
    rintro e w1 ⟨rfl, hw⟩
    go_wp2
    exact bodyPost_ret (v := .tuple #[.int .i64 0, .int .i64 0, .int .i64 0, .int .i64 0, .int .i64 q]) (by simp [results, Try.results55, go_sem]) rfl ⟨by rw [e1.out, e2.out, e3.out, e4.out], hw⟩
end Go.Proofs.Ytccjbefmcifaeaa
