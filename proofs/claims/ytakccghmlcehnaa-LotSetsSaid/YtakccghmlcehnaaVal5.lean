/- What is left of a lot, and whether a genealogy is valid: the program's. -/
import Derived.Test.YtakccghmlcehnaaVal4
namespace Go.Proofs.Ytakccghmlcehnaa
open Go.RowKit

theorem fine_take {ls : List Lt.L} (h : ∀ j, j < ls.length → Lt.fine (ls.getD j default)) (k : Nat) : ∀ x ∈ ls.take k, Lt.fine x := by
  intro x hx
  obtain ⟨j, hj, rfl⟩ := List.getElem_of_mem (List.mem_of_mem_take hx)
  have := h j hj
  simpa [hj] using this
theorem left_bd {ls : List Lt.L} (h : ∀ j, j < ls.length → Lt.fine (ls.getD j default)) (hl : ls.length ≤ 24) (i : Int) (k : Nat) : 0 ≤ Lt.used i (ls.take k) ∧ Lt.used i (ls.take k) ≤ 14400000 := by
  have := Lt.used_bd i (fine_take h k)
  have h2 : (ls.take k).length ≤ 24 := Nat.le_trans (List.length_take_le' _ _) hl
  omega
theorem usedP_take_bd {x : Lt.L} (h : Lt.fine x) (i : Int) (k : Nat) : 0 ≤ Lt.usedP i (x.ps.take k) ∧ Lt.usedP i (x.ps.take k) ≤ 600000 := by
  have := Lt.usedP_bd i (ps := x.ps.take k) fun p hp => h.2.2 p (List.mem_of_mem_take hp)
  have h2 : (x.ps.take k).length ≤ 6 := Nat.le_trans (List.length_take_le' _ _) h.2.1
  omega

set_option maxRecDepth 20000 in
set_option maxHeartbeats 1000000 in
theorem leftOf_any (v : Value) (ls : List Lt.L) (i : Nat) (w : World) (hv : Lots w v ls) (hl : ls.length ≤ 24) (hf : ∀ j, j < ls.length → Lt.fine (ls.getD j default)) (hi : i < ls.length) :
    Calls Try.prog 62 #[v, .int .i64 i] w fun e w' => e = .returned (.int .i64 (Lt.left ls i)) ∧ Below w.heap.size w w' := by
  obtain ⟨la, lc, rfl, hlk⟩ := hv.look
  obtain ⟨b, off, u, rfl, hb, c0, c1, c2, hps⟩ := hlk i hi
  have hLE : Lt.left ls i = (ls.getD i default).m - Lt.used (i : Int) ls := rfl
  have hfi := (hf i hi).1
  have HLK := Lib.hid hlk
  have HF := Lib.hid hf
  have HU := Lib.hid (left_bd hf hl (i : Int))
  have H0 := Lib.hid (Below.refl w.heap.size w)
  generalize hM : (ls.getD i default).m = M at *
  have HL := Lib.hid hLE
  clear hlk hf hv c0 c2 hps hLE hM
  go_enter Try.func62, Try.ntmps62
  go_wp2
  clear c1
  go_loopw [5, 17] (fun s t wr => ∃ k : Nat, k ≤ ls.length ∧ t = .int .i64 k ∧ s = .int .i64 (M - Lt.used i (ls.take k)) ∧ Below w.heap.size w wr) (fun _ t _ => ls.length - (intOf t).toNat)
  case atStart => exact ⟨0, Nat.zero_le _, rfl, by simp [Lt.used], H0.out⟩
  case round =>
    obtain ⟨k, hk, rfl, rfl, hw⟩ := hrel
    clear H0
    by_cases hlt : k < ls.length
    · obtain ⟨b', off', u, hbo, hb', hlot⟩ := HLK.out k hlt
      simp only [Option.some.injEq, Addr.mk.injEq, and_true] at hbo
      obtain ⟨rfl, rfl⟩ := hbo
      obtain ⟨c0, c1, c2, hps⟩ := hlot.below hw hb
      have hfx := HF.out k hlt
      have hus := Lt.used_succ (i : Int) hlt
      rw [getD_L hlt] at c0 c1 hps hfx
      have HUS := Lib.hid hus
      have u1 := HU.out k
      have HUB := Lib.hid (usedP_take_bd hfx (i : Int))
      have HPS := Lib.hid (fun j (hj : j < ls[k].ps.length) => Lt.usedP_succ (i : Int) hj)
      have h6 := hfx.2.1
      have HFX := Lib.hid hfx
      have hall : Lt.usedP (i : Int) (ls[k].ps.take ls[k].ps.length) = Lt.usedP (i : Int) ls[k].ps := by rw [List.take_length]
      have HALL := Lib.hid hall
      clear hlot hus hfx hall
      generalize Lt.used (i : Int) (ls.take k) = U at *
      generalize ls[k] = x at *
      obtain ⟨xk, xm, ps⟩ := x
      dsimp only at *
      obtain ⟨pa, pc, rfl, hpk⟩ := hps.look
      have HPK := Lib.hid hpk
      have HW := Lib.hid hw
      clear hps hpk hw
      go_wp2
      obtain ⟨wo, hwo⟩ : ∃ wo, wr.alloc (.cells #[.int .i64 xk, .int .i64 xm, .slice pa ps.length pc] 25) = wo := ⟨_, rfl⟩
      have hwo1 : Below wr.heap.size wr wo := by rw [← hwo]; exact below_alloc (Below.refl _ _) _
      have HWO := Lib.hid hwo1
      rw [hwo]
      clear hwo hwo1 c0 c1 c2
      go_loopw [5, 24] (fun s t w2 => ∃ j : Nat, j ≤ ps.length ∧ t = .int .i64 j ∧ s = .int .i64 (M - U - Lt.usedP i (ps.take j)) ∧ Below wr.heap.size wr w2) (fun _ t _ => ps.length - (intOf t).toNat)
      case atStart => exact ⟨0, Nat.zero_le _, rfl, by simp [Lt.usedP], HWO.out⟩
      case round =>
        obtain ⟨j, hj, rfl, rfl, hw2⟩ := hrel
        clear HWO
        by_cases hjl : j < ps.length
        · obtain ⟨pb, poff, rfl, hpb, hpt⟩ := HPK.out j hjl
          obtain ⟨c0, c1⟩ := hpt.below hw2 hpb
          rw [getD_P hjl] at c0 c1
          have hs := HPS.out j hjl
          have u2 := HUB.out j
          have u3 := HUB.out (j + 1)
          rw [hs] at u3
          have HS := Lib.hid hs
          clear hpt hs
          generalize Lt.usedP (i : Int) (ps.take j) = V at *
          generalize ps[j] = p at *
          obtain ⟨pl, pm⟩ := p
          dsimp only at *
          by_cases he : pl = (i : Int)
          · rw [if_pos he] at u3 HS
            subst he
            go_wp2
            go_roundw
            case rel => exact ⟨j + 1, by omega, by go_num, by rw [HS.out]; congr 1; omega, below_alloc hw2 _⟩
            case measure => simp [intOf]; omega
          · rw [if_neg he] at u3 HS
            have he0 : (pl == (i : Int)) = false := by simpa using he
            clear he
            go_wp2
            go_roundw
            case rel => exact ⟨j + 1, by omega, by go_num, by rw [HS.out]; congr 1; omega, below_alloc hw2 _⟩
            case measure => simp [intOf]; omega
        · obtain rfl : j = ps.length := by omega
          go_wp2
          go_roundw
          case rel => exact ⟨k + 1, by omega, by go_num, by rw [HUS.out, HALL.out]; congr 1; omega, below_step HW.out hw2⟩
          case measure => simp [intOf]; omega
    · obtain rfl : k = ls.length := by omega
      go_wp2
      go_ret
      exact ⟨ret_int (by rw [HL.out, List.take_length]), hw⟩

set_option maxRecDepth 20000 in
set_option maxHeartbeats 1000000 in
theorem validate_any (v : Value) (ls : List Lt.L) (w : World) (hv : Lots w v ls) (hsh : short ls) :
    Calls Try.prog 21 #[v] w fun e w' => e = .returned (.int .i64 (Lt.valE ls)) ∧ Below w.heap.size w w' := by
  generalize hE : Lt.valE ls = E
  have HE := Lib.hid hE
  clear hE
  have H0 := Lib.hid (Below.refl w.heap.size w)
  by_cases h24 : 24 < ls.length
  · have HX := Lib.hid ((Lt.valE_large h24).symm.trans HE.out)
    obtain ⟨a, c, rfl⟩ := hv.form
    clear hv hsh
    go_enter Try.func21, Try.ntmps21
    go_wp2
    go_ret
    exact ⟨ret_int HX.out, H0.out⟩
  · have V := Lib.hid (fun W (hW : Below w.heap.size w W) i (hi : i < ls.length) => validateLot_any v ls i W (hv.all hW) hsh hi)
    have HV := Lib.hid hv
    obtain ⟨a, c, rfl⟩ := hv.form
    clear hv hsh
    go_enter Try.func21, Try.ntmps21
    go_wp2
    go_loopw [11] (fun t wr => ∃ k : Nat, k ≤ ls.length ∧ t = .int .i64 k ∧ Hid (Below w.heap.size w wr ∧ ∀ j, j < k → Lt.errAt ls j = 0)) (fun t _ => ls.length - (intOf t).toNat)
    case atStart => exact ⟨0, Nat.zero_le _, rfl, Lib.hid ⟨H0.out, fun j h => absurd h (Nat.not_lt_zero _)⟩⟩
    case round =>
      obtain ⟨k, hk, rfl, hg⟩ := hrel
      clear H0
      by_cases hlt : k < ls.length
      · have C := Lib.hid (V.out _ hg.out.1 k hlt)
        by_cases hz : Lt.errAt ls k = 0
        · rw [hz] at C
          have HZ := Lib.hid hz
          clear hz
          go_wp2_with fail
          refine C.out.mono ?_
          rintro e w1 ⟨rfl, hb1⟩
          go_wp2
          go_roundw
          case rel =>
            refine ⟨k + 1, by omega, by go_num, Lib.hid ⟨below_step hg.out.1 hb1, fun j hj => ?_⟩⟩
            by_cases e : j = k
            · subst e; exact HZ.out
            · exact hg.out.2 j (by omega)
          case measure => simp [intOf]; omega
        · have HX := Lib.hid ((Lt.valE_bad h24 hlt hg.out.2 hz).symm.trans HE.out)
          have hne : (Lt.errAt ls k != 0) = true := by simpa using hz
          have HG := Lib.hid hg.out.1
          clear hz hg
          generalize Lt.errAt ls k = er at *
          go_wp2_with fail
          refine C.out.mono ?_
          rintro e w1 ⟨rfl, hb1⟩
          go_wp2
          go_ret
          exact ⟨ret_int HX.out, below_step HG.out hb1⟩
      · obtain rfl : k = ls.length := by omega
        have hok := hg.out.2
        have hw := hg.out.1
        have HOK := Lib.hid hok
        have L := Lib.hid (fun W (hW : Below w.heap.size w W) i (hi : i < ls.length) => leftOf_any _ ls i W (HV.out.all hW) (by omega) (fun j hj => Lt.fine_of (hok j hj)) hi)
        have H1 := Lib.hid hw
        clear hg hok hw V
        go_wp2
        go_loopw [23] (fun t wr => ∃ k : Nat, k ≤ ls.length ∧ t = .int .i64 k ∧ Hid (Below w.heap.size w wr ∧ ∀ j, j < k → 0 ≤ Lt.left ls j)) (fun t _ => ls.length - (intOf t).toNat)
        case atStart => exact ⟨0, Nat.zero_le _, rfl, Lib.hid ⟨H1.out, fun j h => absurd h (Nat.not_lt_zero _)⟩⟩
        case round =>
          obtain ⟨k, hk, rfl, hg⟩ := hrel
          clear H1
          by_cases hlt : k < ls.length
          · have C := Lib.hid (L.out _ hg.out.1 k hlt)
            by_cases hz : Lt.left ls k < 0
            · have HX := Lib.hid ((Lt.valE_short h24 HOK.out hlt hg.out.2 hz).symm.trans HE.out)
              have HG := Lib.hid hg.out.1
              clear hg
              generalize Lt.left ls k = z at *
              go_wp2_with fail
              refine C.out.mono ?_
              rintro e w1 ⟨rfl, hb1⟩
              go_wp2
              go_ret
              exact ⟨ret_int HX.out, below_step HG.out hb1⟩
            · have HZ := Lib.hid (show 0 ≤ Lt.left ls k by omega)
              generalize hzz : Lt.left ls k = z at *
              have HZZ := Lib.hid hzz
              clear hzz
              go_wp2_with fail
              refine C.out.mono ?_
              rintro e w1 ⟨rfl, hb1⟩
              go_wp2
              go_roundw
              case rel =>
                refine ⟨k + 1, by omega, by go_num, Lib.hid ⟨below_step hg.out.1 hb1, fun j hj => ?_⟩⟩
                by_cases e : j = k
                · subst e; rw [HZZ.out]; exact HZ.out
                · exact hg.out.2 j (by omega)
              case measure => simp [intOf]; omega
          · obtain rfl : k = ls.length := by omega
            have HX := Lib.hid ((Lt.valE_ok h24 HOK.out hg.out.2).symm.trans HE.out)
            have HG := Lib.hid hg.out.1
            clear hg
            go_wp2
            go_ret
            exact ⟨ret_int HX.out, HG.out⟩
end Go.Proofs.Ytakccghmlcehnaa
