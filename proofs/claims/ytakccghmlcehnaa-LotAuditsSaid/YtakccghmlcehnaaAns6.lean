/- The audit: the reference's. -/
import Derived.Test.YtakccghmlcehnaaAns5
namespace Go.Proofs.Ytakccghmlcehnaa
open Go.RowKit

set_option maxRecDepth 20000 in
set_option maxHeartbeats 2000000 in
theorem refAudit_any (v : Value) (ls : List Lt.L) (w : World) (hv : Lots w v ls) (hsh : short ls) :
    Calls Try.prog 56 #[v] w fun e w' => e = .returned (.tuple #[.int .i64 (audE ls (Lt.recvAll ls)), .int .i64 (audE ls (Lt.leftK ls ls.length)), .int .i64 (audE ls (Lt.lostAll ls)), .int .i64 (audE ls (Lt.airAll ls)), .int .i64 (Lt.valE ls)]) ∧ Below w.heap.size w w' := by
  have V := Lib.hid (ref_validate_any v ls w hv hsh)
  have HV := Lib.hid hv
  obtain ⟨a, c, rfl, hlk⟩ := hv.look
  have HLK := Lib.hid hlk
  have hlen := hsh.1
  clear hv hsh hlk
  by_cases hz : Lt.valE ls = 0
  · have HZ := Lib.hid hz
    obtain ⟨hl, herr, _⟩ := Lt.valE_zero hz
    have HF := Lib.hid (fun j (hj : j < ls.length) => Lt.fine_of (herr j hj))
    have L := Lib.hid (fun W (hW : Below w.heap.size w W) i (hi : i < ls.length) => ref_left_any _ ls i W (HV.out.all hW) hl HF.out hi)
    have HBD := Lib.hid (sums_take_bd HF.out hl)
    have HLB := Lib.hid (leftK_bd hz)
    have HLE := Lib.hid (fun k (hk : k < ls.length) => left_le hz hk)
    have HA : ∀ z, Hid (audE ls z = z) := fun z => Lib.hid (if_pos hz)
    have e1 := HA (Lt.recvAll ls)
    have e2 := HA (Lt.leftK ls ls.length)
    have e3 := HA (Lt.lostAll ls)
    have e4 := HA (Lt.airAll ls)
    rw [hz] at V
    clear hz herr HA
    go_enter Try.func56, Try.ntmps56
    go_wp2_with fail
    refine V.out.mono ?_
    rintro e w1 ⟨rfl, hw⟩
    have H0 := Lib.hid hw
    clear hw V
    go_wp2
    go_loopw [8, 9, 10, 11, 12] (fun r l o i t wr => ∃ k : Nat, k ≤ ls.length ∧ t = .int .i64 k ∧ r = .int .i64 (Lt.recvAll (ls.take k)) ∧ l = .int .i64 (Lt.leftK ls k) ∧ o = .int .i64 (Lt.lostAll (ls.take k)) ∧ i = .int .i64 (Lt.airAll (ls.take k)) ∧ Below w.heap.size w wr) (fun _ _ _ _ t _ => ls.length - (intOf t).toNat)
    case atStart => exact ⟨0, Nat.zero_le _, rfl, rfl, rfl, rfl, rfl, H0.out⟩
    case round =>
      obtain ⟨k, hk, rfl, rfl, rfl, rfl, rfl, hw⟩ := hrel
      clear H0
      by_cases hlt : k < ls.length
      · obtain ⟨b, off, u, rfl, hb, hlot⟩ := HLK.out k hlt
        have hfx := HF.out k hlt
        rw [getD_L hlt] at hlot hfx
        have S1 := Lib.hid (Lt.recvAll_succ hlt)
        have S2 : Hid (Lt.leftK ls (k + 1) = Lt.leftK ls k + Lt.left ls k) := Lib.hid rfl
        have S3 := Lib.hid (Lt.lostAll_succ hlt)
        have S4 := Lib.hid (Lt.airAll_succ hlt)
        obtain ⟨b1, b3, b4⟩ := HBD.out k
        have b2 := HLB.out k (by omega)
        have bl := HLE.out k hlt
        have C := Lib.hid (L.out wr hw k hlt)
        generalize Lt.recvAll (ls.take k) = s1 at *
        generalize Lt.leftK ls k = s2 at *
        generalize Lt.lostAll (ls.take k) = s3 at *
        generalize Lt.airAll (ls.take k) = s4 at *
        generalize Lt.left ls k = z at *
        generalize ls[k] = x at *
        have HLOT := Lib.hid hlot
        obtain ⟨ua, uc, rfl⟩ := hlot.2.2.2.form
        have hm := hfx.1
        have h6 := hfx.2.1
        have hbd := Lt.takes_bd hfx.2.2
        have htk : Lt.takes x.ps ≤ 600000 := by omega
        have htk0 : 0 ≤ Lt.takes x.ps := by omega
        have T := Lib.hid (fun W (hW : Below w.heap.size w W) => ref_takes_any x (.slice ua x.ps.length uc) W (HLOT.out.2.2.2.all hW) (tame_of hfx))
        have HW := Lib.hid hw
        have hkl : (k : Int) ≤ 24 := by omega
        have HL : Hid (lostI x = if x.ps.length = 0 then 0 else Lt.takes x.ps - x.m) := Lib.hid rfl
        clear hlot hfx hw hbd
        by_cases h0 : x.ps.length = 0
        · have hpb : ((x.ps.length : Int) == 0) = true := by simp [h0]
          have hl0 := HL.out.trans (if_pos h0)
          have T1 := Lib.hid (S1.out.trans (by rw [if_pos h0]))
          have T3 := Lib.hid (S3.out.trans (by rw [hl0]))
          have T4 := Lib.hid (S4.out.trans (by rw [hl0]))
          clear h0 S1 S3 S4 hl0 HL
          go_wp2_with fail
          refine C.out.mono ?_
          rintro e w4 ⟨rfl, hb4⟩
          have hw4 := below_step HW.out hb4
          obtain ⟨c0, c1, c2, _⟩ := HLOT.out.below hw4 hb
          clear hb4 C
          go_wp2
          go_roundw
          case rel => exact ⟨k + 1, by omega, by go_num, by rw [T1.out], by rw [S2.out], by rw [T3.out]; simp, by rw [T4.out]; simp, hw4⟩
          case measure => simp [intOf]; omega
        · have hpb : ((x.ps.length : Int) == 0) = false := by rw [beq_eq_false_iff_ne]; omega
          have hl0 := HL.out.trans (if_neg h0)
          have T1 := Lib.hid (S1.out.trans (by rw [if_neg h0]))
          have T3 := Lib.hid (S3.out.trans (by rw [hl0]))
          have T4 := Lib.hid (S4.out.trans (by rw [hl0]))
          clear h0 S1 S3 S4 hl0 HL
          go_wp2_with fail
          refine C.out.mono ?_
          rintro e w4 ⟨rfl, hb4⟩
          have hw4 := below_step HW.out hb4
          obtain ⟨c0, c1, c2, _⟩ := HLOT.out.below hw4 hb
          have hS0 : w4.drew.cell? ⟨b, off + k * 3, none⟩ = some (.int .i64 x.k) ∧ w4.drew.cell? ⟨b, off + k * 3 + 1, none⟩ = some (.int .i64 x.m) ∧ w4.drew.cell? ⟨b, off + k * 3 + 2, none⟩ = some (.slice ua x.ps.length uc) := ⟨c0, c1, c2⟩
          have T5 := Lib.hid (T.out _ hw4.drew)
          have HW4 := Lib.hid hw4
          clear hb4 C T
          go_wp2_with fail
          clear hw4
          refine wp_region_seq [(0, true), (1, true), (2, true), (3, true), (5, true), (6, true), (7, true), (8, true), (9, true), (4, false), (10, true), (11, true)] (fun W => W.cell? ⟨b, off + k * 3, none⟩ = some (.int .i64 x.k) ∧ W.cell? ⟨b, off + k * 3 + 1, none⟩ = some (.int .i64 x.m) ∧ W.cell? ⟨b, off + k * 3 + 2, none⟩ = some (.slice ua x.ps.length uc))
            (by kernel_rfl) (by kernel_rfl) (by kernel_rfl) (by kernel_rfl) (fun d _ _ _ _ h => by cases d <;> exact h) hS0 (fun hS => ?_)
          clear hS0
          have hi0 : (0 : Int) ≤ (k : Int) := by omega
          have hi1 : (k : Int) < (ls.length : Int) := by omega
          repeat (refine SeqH.take (v := ?_) rfl (by rfl) ?_ ?_; rotate_left; (· intro w hSw; (try dsimp only at hSw); obtain ⟨q0, q1, q2⟩ := hSw; go_simp; (try with_reducible rfl)); simp only [Act.put, List.setIfInBounds_toArray, List.set_cons_zero, List.set_cons_succ])
          refine SeqH.step rfl (by rfl) (fun K hK => ?_)
          go_simp
          refine T5.out.mono ?_
          rintro e w5 ⟨rfl, hb5⟩
          have hw5 := below_step HW4.out.drew hb5
          have hSn : w5.cell? ⟨b, off + k * 3, none⟩ = some (.int .i64 x.k) ∧ w5.cell? ⟨b, off + k * 3 + 1, none⟩ = some (.int .i64 x.m) ∧ w5.cell? ⟨b, off + k * 3 + 2, none⟩ = some (.slice ua x.ps.length uc) :=
            ⟨(HLOT.out.below hw5 hb).1, (HLOT.out.below hw5 hb).2.1, (HLOT.out.below hw5 hb).2.2.1⟩
          try dsimp only
          refine hK.out _ _ hSn (fun _ => ?_)
          clear hK K hSn hS hb5 T5 c0 c1 c2
          try simp only [Act.put, List.setIfInBounds_toArray, List.set_cons_zero, List.set_cons_succ]
          have hwr : IntKind.i64.wrap (Lt.takes x.ps - x.m) = Lt.takes x.ps - x.m := IntWalk.i64_in _ (by omega)
          repeat (refine SeqH.take (v := ?_) rfl (by rfl) ?_ ?_; rotate_left; (· intro w hSw; (try dsimp only at hSw); go_simp; (try with_reducible rfl)); simp only [Act.put, List.setIfInBounds_toArray, List.set_cons_zero, List.set_cons_succ])
          refine SeqH.done ?_
          clear hwr
          generalize hd : Lt.takes x.ps - x.m = d at *
          have hd1 : d ≤ 600000 := by omega
          have hd0 : -100000 ≤ d := by omega
          clear hd
          by_cases hp : 0 < d
          · go_wp2
            go_roundw
            case rel => exact ⟨k + 1, by omega, by go_num, by rw [T1.out]; simp, by rw [S2.out], by rw [T3.out]; congr 1; omega, by rw [T4.out]; congr 1; omega, hw5⟩
            case measure => simp [intOf]; omega
          · go_wp2
            go_roundw
            case rel => exact ⟨k + 1, by omega, by go_num, by rw [T1.out]; simp, by rw [S2.out], by rw [T3.out]; congr 1; omega, by rw [T4.out]; congr 1; omega, hw5⟩
            case measure => simp [intOf]; omega
      · obtain rfl : k = ls.length := by omega
        rw [List.take_length]
        go_wp2
        exact bodyPost_ret (v := .tuple #[.int .i64 (Lt.recvAll ls), .int .i64 (Lt.leftK ls ls.length), .int .i64 (Lt.lostAll ls), .int .i64 (Lt.airAll ls), .int .i64 0]) (by simp [results, Try.results56, go_sem]) rfl ⟨by rw [e1.out, e2.out, e3.out, e4.out, HZ.out], hw⟩
  · have HA : ∀ z, Hid (audE ls z = 0) := fun z => Lib.hid (if_neg hz)
    have hne : (Lt.valE ls != 0) = true := by simpa using hz
    have e1 := HA (Lt.recvAll ls)
    have e2 := HA (Lt.leftK ls ls.length)
    have e3 := HA (Lt.lostAll ls)
    have e4 := HA (Lt.airAll ls)
    clear hz HA
    generalize Lt.valE ls = q at *
    go_enter Try.func56, Try.ntmps56
    go_wp2_with fail
    refine V.out.mono ?_
    rintro e w1 ⟨rfl, hw⟩
    go_wp2
    exact bodyPost_ret (v := .tuple #[.int .i64 0, .int .i64 0, .int .i64 0, .int .i64 0, .int .i64 q]) (by simp [results, Try.results56, go_sem]) rfl ⟨by rw [e1.out, e2.out, e3.out, e4.out], hw⟩
end Go.Proofs.Ytakccghmlcehnaa
