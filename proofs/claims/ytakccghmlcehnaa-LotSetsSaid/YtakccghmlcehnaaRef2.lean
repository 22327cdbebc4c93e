/- What is left of a lot, and whether a genealogy is valid: the reference's. -/
import Derived.Test.YtakccghmlcehnaaRef1
namespace Go.Proofs.Ytakccghmlcehnaa
open Go.RowKit

set_option maxRecDepth 20000 in
set_option maxHeartbeats 1000000 in
theorem ref_left_any (v : Value) (ls : List Lt.L) (i : Nat) (w : World) (hv : Lots w v ls) (hl : ls.length ≤ 24) (hf : ∀ j, j < ls.length → Lt.fine (ls.getD j default)) (hi : i < ls.length) :
    Calls Try.prog 64 #[v, .int .i64 i] w fun e w' => e = .returned (.int .i64 (Lt.left ls i)) ∧ Below w.heap.size w w' := by
  obtain ⟨la, lc, rfl, hlk⟩ := hv.look
  obtain ⟨b, off, u, rfl, hb, c0, c1, c2, hps⟩ := hlk i hi
  have hLE : Lt.left ls i = (ls.getD i default).m - Lt.used (i : Int) ls := rfl
  have hfi := (hf i hi).1
  have HLK := Lib.hid hlk
  have HF := Lib.hid hf
  have HU := Lib.hid (left_bd hf hl (i : Int))
  have H0 := Lib.hid (Below.refl w.heap.size w)
  generalize hM : (ls.getD i default).m = M at *
  have HL := Lib.hid hLE
  clear hlk hf hv c0 c2 hps hLE hM
  go_enter Try.func64, Try.ntmps64
  go_wp2
  clear c1
  go_loopw [5, 6] (fun s t wr => ∃ k : Nat, k ≤ ls.length ∧ t = .int .i64 k ∧ s = .int .i64 (M - Lt.used i (ls.take k)) ∧ Below w.heap.size w wr) (fun _ t _ => ls.length - (intOf t).toNat)
  case atStart => exact ⟨0, Nat.zero_le _, rfl, by simp [Lt.used], H0.out⟩
  case round =>
    obtain ⟨k, hk, rfl, rfl, hw⟩ := hrel
    clear H0
    by_cases hlt : k < ls.length
    · obtain ⟨b', off', u, hbo, hb', hlot⟩ := HLK.out k hlt
      simp only [Option.some.injEq, Addr.mk.injEq, and_true] at hbo
      obtain ⟨rfl, rfl⟩ := hbo
      have hlot' := hlot.below hw hb
      have hfx := HF.out k hlt
      have hus := Lt.used_succ (i : Int) hlt
      rw [getD_L hlt] at hlot' hfx
      have HUS := Lib.hid hus
      have u1 := HU.out k
      have HUB := Lib.hid (usedP_take_bd hfx (i : Int))
      have HPS := Lib.hid (fun j (hj : j < ls[k].ps.length) => Lt.usedP_succ (i : Int) hj)
      have h6 := hfx.2.1
      have hall : Lt.usedP (i : Int) (ls[k].ps.take ls[k].ps.length) = Lt.usedP (i : Int) ls[k].ps := by rw [List.take_length]
      have HALL := Lib.hid hall
      clear hlot hus hfx hall
      generalize Lt.used (i : Int) (ls.take k) = U at *
      generalize ls[k] = x at *
      obtain ⟨xk, xm, ps⟩ := x
      obtain ⟨c0, c1, c2, hps⟩ := hlot'
      dsimp only at *
      obtain ⟨pa, pc, rfl, hpk⟩ := hps.look
      have HPK := Lib.hid hpk
      have HC2 := Lib.hid c2
      have HW := Lib.hid hw
      obtain ⟨wo, hwo⟩ : ∃ wo : World, wo = wr := ⟨_, rfl⟩
      subst hwo
      clear hps hpk hw c0 c1 c2
      go_wp2
      go_loopw [5, 7] (fun s t w2 => ∃ j : Nat, j ≤ ps.length ∧ t = .int .i64 j ∧ s = .int .i64 (M - U - Lt.usedP i (ps.take j)) ∧ Below wo.heap.size wo w2) (fun _ t _ => ps.length - (intOf t).toNat)
      case atStart => exact ⟨0, Nat.zero_le _, rfl, by simp [Lt.usedP], Below.refl _ _⟩
      case round =>
        obtain ⟨j, hj, rfl, rfl, hw2⟩ := hrel
        have hbw : b < wo.heap.size := by have := HW.out.size; omega
        have c2 := (hw2.cell (p := ⟨b, off + k * 3 + 2, none⟩) hbw).trans HC2.out
        by_cases hjl : j < ps.length
        · obtain ⟨pb, poff, rfl, hpb, hpt⟩ := HPK.out j hjl
          obtain ⟨d0, d1⟩ := hpt.below hw2 hpb
          rw [getD_P hjl] at d0 d1
          have hs := HPS.out j hjl
          have u2 := HUB.out j
          have u3 := HUB.out (j + 1)
          rw [hs] at u3
          have HS := Lib.hid hs
          clear hpt hs
          generalize Lt.usedP (i : Int) (ps.take j) = V at *
          generalize ps[j] = p at *
          obtain ⟨pl, pm⟩ := p
          dsimp only at *
          by_cases he : pl = (i : Int)
          · rw [if_pos he] at u3 HS
            subst he
            go_wp2
            go_roundw
            case rel => exact ⟨j + 1, by omega, by go_num, by rw [HS.out]; congr 1; omega, hw2⟩
            case measure => simp [intOf]; omega
          · rw [if_neg he] at u3 HS
            have he0 : (pl == (i : Int)) = false := by simpa using he
            clear he
            go_wp2
            go_roundw
            case rel => exact ⟨j + 1, by omega, by go_num, by rw [HS.out]; congr 1; omega, hw2⟩
            case measure => simp [intOf]; omega
        · obtain rfl : j = ps.length := by omega
          go_wp2
          go_roundw
          case rel => exact ⟨k + 1, by omega, by go_num, by rw [HUS.out, HALL.out]; congr 1; omega, below_step HW.out hw2⟩
          case measure => simp [intOf]; omega
    · obtain rfl : k = ls.length := by omega
      go_wp2
      go_ret
      exact ⟨ret_int (by rw [HL.out, List.take_length]), hw⟩
end Go.Proofs.Ytakccghmlcehnaa
