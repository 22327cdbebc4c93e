/- Whether a genealogy is valid, and the numbers of some lots: the reference's. -/
import Derived.Test.YtakccghmlcehnaaRef2
namespace Go.Proofs.Ytakccghmlcehnaa
open Go.RowKit

set_option maxRecDepth 20000 in
set_option maxHeartbeats 1000000 in
theorem ref_validate_any (v : Value) (ls : List Lt.L) (w : World) (hv : Lots w v ls) (hsh : short ls) :
    Calls Try.prog 22 #[v] w fun e w' => e = .returned (.int .i64 (Lt.valE ls)) ∧ Below w.heap.size w w' := by
  generalize hE : Lt.valE ls = E
  have HE := Lib.hid hE
  clear hE
  have H0 := Lib.hid (Below.refl w.heap.size w)
  have hlen := hsh.1
  by_cases h24 : 24 < ls.length
  · have HX := Lib.hid ((Lt.valE_large h24).symm.trans HE.out)
    obtain ⟨a, c, rfl⟩ := hv.form
    clear hv hsh
    go_enter Try.func22, Try.ntmps22
    go_wp2
    go_ret
    exact ⟨ret_int HX.out, H0.out⟩
  · have V := Lib.hid (fun W (hW : Below w.heap.size w W) i (hi : i < ls.length) => wrong_any v ls i W (hv.all hW) hsh hi)
    have HV := Lib.hid hv
    have h24b : decide (24 < (ls.length : Int)) = false := by simp; omega
    obtain ⟨a, c, rfl⟩ := hv.form
    clear hv hsh
    go_enter Try.func22, Try.ntmps22
    go_wp2
    go_loopw [3] (fun t wr => ∃ k : Nat, k ≤ ls.length ∧ t = .int .i64 k ∧ Hid (Below w.heap.size w wr ∧ ∀ j, j < k → Lt.errAt ls j = 0)) (fun t _ => ls.length - (intOf t).toNat)
    case atStart => exact ⟨0, Nat.zero_le _, rfl, Lib.hid ⟨H0.out, fun j h => absurd h (Nat.not_lt_zero _)⟩⟩
    case round =>
      obtain ⟨k, hk, rfl, hg⟩ := hrel
      clear H0
      by_cases hlt : k < ls.length
      · have C := Lib.hid (V.out _ hg.out.1 k hlt)
        by_cases hz : Lt.errAt ls k = 0
        · rw [hz] at C
          have HZ := Lib.hid hz
          clear hz
          go_wp2_with fail
          refine C.out.mono ?_
          rintro e w1 ⟨rfl, hb1⟩
          go_wp2
          go_roundw
          case rel =>
            refine ⟨k + 1, by omega, by go_num, Lib.hid ⟨below_step hg.out.1 hb1, fun j hj => ?_⟩⟩
            by_cases e : j = k
            · subst e; exact HZ.out
            · exact hg.out.2 j (by omega)
          case measure => simp [intOf]; omega
        · have HX := Lib.hid ((Lt.valE_bad h24 hlt hg.out.2 hz).symm.trans HE.out)
          have hne : (Lt.errAt ls k != 0) = true := by simpa using hz
          have HG := Lib.hid hg.out.1
          clear hz hg
          generalize Lt.errAt ls k = er at *
          go_wp2_with fail
          refine C.out.mono ?_
          rintro e w1 ⟨rfl, hb1⟩
          go_wp2
          go_ret
          exact ⟨ret_int HX.out, below_step HG.out hb1⟩
      · obtain rfl : k = ls.length := by omega
        have hok := hg.out.2
        have hw := hg.out.1
        have HOK := Lib.hid hok
        have L := Lib.hid (fun W (hW : Below w.heap.size w W) i (hi : i < ls.length) => ref_left_any _ ls i W (HV.out.all hW) (by omega) (fun j hj => Lt.fine_of (hok j hj)) hi)
        have H1 := Lib.hid hw
        clear hg hok hw V
        go_wp2
        go_loopw [5] (fun t wr => ∃ k : Nat, k ≤ ls.length ∧ t = .int .i64 k ∧ Hid (Below w.heap.size w wr ∧ ∀ j, j < k → 0 ≤ Lt.left ls j)) (fun t _ => ls.length - (intOf t).toNat)
        case atStart => exact ⟨0, Nat.zero_le _, rfl, Lib.hid ⟨H1.out, fun j h => absurd h (Nat.not_lt_zero _)⟩⟩
        case round =>
          obtain ⟨k, hk, rfl, hg⟩ := hrel
          clear H1
          by_cases hlt : k < ls.length
          · have C := Lib.hid (L.out _ hg.out.1 k hlt)
            by_cases hz : Lt.left ls k < 0
            · have HX := Lib.hid ((Lt.valE_short h24 HOK.out hlt hg.out.2 hz).symm.trans HE.out)
              have HG := Lib.hid hg.out.1
              clear hg
              generalize Lt.left ls k = z at *
              go_wp2_with fail
              refine C.out.mono ?_
              rintro e w1 ⟨rfl, hb1⟩
              go_wp2
              go_ret
              exact ⟨ret_int HX.out, below_step HG.out hb1⟩
            · have HZ := Lib.hid (show 0 ≤ Lt.left ls k by omega)
              generalize hzz : Lt.left ls k = z at *
              have HZZ := Lib.hid hzz
              clear hzz
              go_wp2_with fail
              refine C.out.mono ?_
              rintro e w1 ⟨rfl, hb1⟩
              go_wp2
              go_roundw
              case rel =>
                refine ⟨k + 1, by omega, by go_num, Lib.hid ⟨below_step hg.out.1 hb1, fun j hj => ?_⟩⟩
                by_cases e : j = k
                · subst e; rw [HZZ.out]; exact HZ.out
                · exact hg.out.2 j (by omega)
              case measure => simp [intOf]; omega
          · obtain rfl : k = ls.length := by omega
            have HX := Lib.hid ((Lt.valE_ok h24 HOK.out hg.out.2).symm.trans HE.out)
            have HG := Lib.hid hg.out.1
            clear hg
            go_wp2
            go_ret
            exact ⟨ret_int HX.out, HG.out⟩

theorem numE_two (ls : List Lt.L) (n m : Int) : numE ls [n, m] = if Lt.valE ls = 0 then (if inR ls n && inR ls m then 0 else 5) else Lt.valE ls := by
  unfold numE; simp
theorem numE_one (ls : List Lt.L) (n : Int) : numE ls [n] = if Lt.valE ls = 0 then (if inR ls n then 0 else 5) else Lt.valE ls := by
  unfold numE; simp
theorem numE_same (ls : List Lt.L) (n : Int) : numE ls [n, n] = numE ls [n] := by rw [numE_two, numE_one, Bool.and_self]
theorem numE_zero {ls : List Lt.L} {n : Int} (h : numE ls [n] = 0) : Lt.valE ls = 0 ∧ 0 ≤ n ∧ n < ls.length := by
  rw [numE_one] at h
  by_cases hz : Lt.valE ls = 0
  · rw [if_pos hz] at h
    cases hi : inR ls n with
    | false => rw [hi] at h; cases h
    | true => unfold inR at hi; simp at hi; exact ⟨hz, hi⟩
  · rw [if_neg hz] at h; exact absurd h hz
theorem named_any (v : Value) (ls : List Lt.L) (n m : Int) (w : World) (hv : Lots w v ls) (hsh : short ls) :
    Calls Try.prog 66 #[v, .int .i64 n, .int .i64 m] w fun e w' => e = .returned (.int .i64 (numE ls [n, m])) ∧ Below w.heap.size w w' := by
  have V := Lib.hid (ref_validate_any v ls w hv hsh)
  have hN := numE_two ls n m
  obtain ⟨a, c, rfl⟩ := hv.form
  generalize numE ls [n, m] = E at *
  have HN := Lib.hid hN
  have hlen := hsh.1
  clear hv hsh hN
  by_cases hz : Lt.valE ls = 0
  · have HN2 := Lib.hid (HN.out.trans (if_pos hz))
    rw [hz] at V
    clear HN hz
    by_cases h1 : n < 0
    · have HX := Lib.hid (show E = 5 by rw [HN2.out, show inR ls n = false by unfold inR; simp; intro h; omega]; rfl)
      go_enter Try.func66, Try.ntmps66
      go_wp2_with fail
      refine V.out.mono ?_
      rintro e w1 ⟨rfl, hb1⟩
      go_wp2
      go_ret
      exact ⟨ret_int HX.out.symm, hb1⟩
    · by_cases h2 : (ls.length : Int) ≤ n
      · have HX := Lib.hid (show E = 5 by rw [HN2.out, show inR ls n = false by unfold inR; simp; intro h; omega]; rfl)
        go_enter Try.func66, Try.ntmps66
        go_wp2_with fail
        refine V.out.mono ?_
        rintro e w1 ⟨rfl, hb1⟩
        go_wp2
        go_ret
        exact ⟨ret_int HX.out.symm, hb1⟩
      · have hin : inR ls n = true := by unfold inR; simp; omega
        by_cases h3 : m < 0
        · have HX := Lib.hid (show E = 5 by rw [HN2.out, hin, show inR ls m = false by unfold inR; simp; intro h; omega]; rfl)
          clear hin
          go_enter Try.func66, Try.ntmps66
          go_wp2_with fail
          refine V.out.mono ?_
          rintro e w1 ⟨rfl, hb1⟩
          go_wp2
          go_ret
          exact ⟨ret_int HX.out.symm, hb1⟩
        · by_cases h4 : (ls.length : Int) ≤ m
          · have HX := Lib.hid (show E = 5 by rw [HN2.out, hin, show inR ls m = false by unfold inR; simp; intro h; omega]; rfl)
            clear hin
            go_enter Try.func66, Try.ntmps66
            go_wp2_with fail
            refine V.out.mono ?_
            rintro e w1 ⟨rfl, hb1⟩
            go_wp2
            go_ret
            exact ⟨ret_int HX.out.symm, hb1⟩
          · have HX := Lib.hid (show E = 0 by rw [HN2.out, hin, show inR ls m = true by unfold inR; simp; omega]; rfl)
            clear hin
            go_enter Try.func66, Try.ntmps66
            go_wp2_with fail
            refine V.out.mono ?_
            rintro e w1 ⟨rfl, hb1⟩
            go_wp2
            go_ret
            exact ⟨ret_int HX.out.symm, hb1⟩
  · have HX := Lib.hid (HN.out.trans (if_neg hz))
    have hne : (Lt.valE ls != 0) = true := by simpa using hz
    clear HN hz
    generalize Lt.valE ls = er at *
    go_enter Try.func66, Try.ntmps66
    go_wp2_with fail
    refine V.out.mono ?_
    rintro e w1 ⟨rfl, hb1⟩
    go_wp2
    go_ret
    exact ⟨ret_int HX.out.symm, hb1⟩
end Go.Proofs.Ytakccghmlcehnaa
