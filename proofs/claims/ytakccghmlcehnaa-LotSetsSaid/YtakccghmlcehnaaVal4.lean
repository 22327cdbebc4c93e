/- The first error of a lot, what is left of a lot, and whether a genealogy is valid: the program's. -/
import Derived.Test.YtakccghmlcehnaaVal3
namespace Go.Proofs.Ytakccghmlcehnaa
open Go.RowKit

/-- No list of parts is long. -/
def short (ls : List Lt.L) : Prop := ls.length ≤ 1000 ∧ ∀ j, j < ls.length → (ls.getD j default).ps.length ≤ 20

set_option maxRecDepth 20000 in
set_option maxHeartbeats 1000000 in
theorem validateLot_any (v : Value) (ls : List Lt.L) (i : Nat) (w : World) (hv : Lots w v ls) (hsh : short ls) (hi : i < ls.length) :
    Calls Try.prog 61 #[v, .int .i64 i] w fun e w' => e = .returned (.int .i64 (Lt.errAt ls i)) ∧ Below w.heap.size w w' := by
  obtain ⟨la, lc, hvv, hlk⟩ := hv.look
  obtain ⟨b, off, u, rfl, hb, c0, c1, c2, hps⟩ := hlk i hi
  subst hvv
  have hl20 := hsh.2 i hi
  have hE : Lt.errAt ls i = (let x := ls.getD i default; if (Lt.okK x.k && Lt.okM x.m) = false then 1 else if 6 < x.ps.length then 4 else if Lt.okPs i x.ps = false then 1 else if Lt.ruleOk ls x = false then 9 else 0) := rfl
  generalize hx : ls.getD i default = x at *
  obtain ⟨kk, mm, ps⟩ := x
  dsimp only at *
  obtain ⟨a, c, rfl⟩ := hps.form
  have hw1 := below_alloc (Below.refl w.heap.size w) (.cells #[.int .i64 kk, .int .i64 mm, .slice a ps.length c] 25)
  have bX := BlockAt.new w #[.int .i64 kk, .int .i64 mm, .slice a ps.length c] 25
  have KIND := Lib.hid (fun W => isKind_any kk W)
  have MASS := Lib.hid (fun W => isMass_any mm W)
  have H0 := Lib.hid (And.intro hw1 bX)
  have HPV := Lib.hid (And.intro hps (And.intro hv hsh))
  have HE := Lib.hid hE
  clear hlk hw1 bX hps hv hsh hE hx
  cases hk : Lt.okK kk with
  | false =>
    have HX := Lib.hid (show Lt.errAt ls i = 1 by rw [HE.out, hk]; rfl)
    rw [hk] at KIND
    clear hk HE
    go_enter Try.func61, Try.ntmps61
    go_wp2_with fail
    refine (KIND.out _).mono ?_
    rintro e w1 ⟨rfl, rfl⟩
    go_wp2
    go_ret
    exact ⟨ret_int HX.out.symm, H0.out.1⟩
  | true =>
    rw [hk] at KIND
    cases hm : Lt.okM mm with
    | false =>
      have HX := Lib.hid (show Lt.errAt ls i = 1 by rw [HE.out, hk, hm]; rfl)
      rw [hm] at MASS
      clear hk hm HE
      go_enter Try.func61, Try.ntmps61
      go_wp2_with fail
      refine (KIND.out _).mono ?_
      rintro e w1 ⟨rfl, rfl⟩
      go_wp2_with fail
      refine (MASS.out _).mono ?_
      rintro e w1 ⟨rfl, rfl⟩
      go_wp2
      go_ret
      exact ⟨ret_int HX.out.symm, H0.out.1⟩
    | true =>
      rw [hm] at MASS
      have hE2 := HE.out
      rw [hk, hm] at hE2
      simp only [Bool.and_true, Bool.true_eq_false, if_false] at hE2
      have HE2 := Lib.hid hE2
      clear hk hm HE hE2
      by_cases h6 : 6 < ps.length
      · have HX := Lib.hid (show Lt.errAt ls i = 4 by rw [HE2.out, if_pos h6])
        go_enter Try.func61, Try.ntmps61
        go_wp2_with fail
        refine (KIND.out _).mono ?_
        rintro e w1 ⟨rfl, rfl⟩
        go_wp2_with fail
        refine (MASS.out _).mono ?_
        rintro e w1 ⟨rfl, rfl⟩
        go_wp2
        go_ret
        exact ⟨ret_int HX.out.symm, H0.out.1⟩
      · have HE3 := Lib.hid (show Lt.errAt ls i = (if Lt.okPs i ps = false then 1 else if Lt.ruleOk ls ⟨kk, mm, ps⟩ = false then 9 else 0) by rw [HE2.out, if_neg h6])
        clear HE2
        go_enter Try.func61, Try.ntmps61
        go_wp2_with fail
        refine (KIND.out _).mono ?_
        rintro e w1 ⟨rfl, rfl⟩
        go_wp2_with fail
        refine (MASS.out _).mono ?_
        rintro e w1 ⟨rfl, rfl⟩
        go_wp2_with fail
        refine (areParts_any (.slice a ps.length c) ps (i : Int) _ (HPV.out.1.all H0.out.1) (by omega)).mono ?_
        rintro e w2 ⟨rfl, hb2⟩
        have bX := H0.out.2.below hb2 H0.out.2.lt
        have hw2 := below_step H0.out.1 hb2
        clear hb2
        cases hok : Lt.okPs i ps with
        | false =>
          have HX := Lib.hid (show Lt.errAt ls i = 1 by rw [HE3.out, hok]; rfl)
          clear hok
          go_wp2
          go_ret
          exact ⟨ret_int HX.out.symm, hw2⟩
        | true =>
          have HE4 := Lib.hid (show Lt.errAt ls i = (if Lt.ruleOk ls ⟨kk, mm, ps⟩ = false then 9 else 0) by rw [HE3.out, hok]; rfl)
          obtain ⟨hps, hv, hsh⟩ := HPV.out
          have KR := Lib.hid (keepsRule_any _ ls ⟨kk, mm, ps⟩ (.slice a ps.length c) w2 (hv.all hw2) hsh.1 (hps.all hw2) ⟨hl20, fun p hp => (Lt.okPs_mem hok p hp).2.2⟩ (fun p hp => ⟨(Lt.okPs_mem hok p hp).1, by have := (Lt.okPs_mem hok p hp).2.1; omega⟩))
          have d0 := bX.cell 0
          have d1 := bX.cell 1
          have d2 := bX.cell 2
          have HW := Lib.hid hw2
          clear hok hps hv hsh HE3 bX hw2 HPV H0
          cases hr : Lt.ruleOk ls ⟨kk, mm, ps⟩ with
          | false =>
            rw [hr] at KR
            have HX := Lib.hid (show Lt.errAt ls i = 9 by rw [HE4.out, hr]; rfl)
            clear hr HE4
            go_wp2_with fail
            refine KR.out.mono ?_
            rintro e w3 ⟨rfl, hb3⟩
            go_wp2
            go_ret
            exact ⟨ret_int HX.out.symm, below_step HW.out hb3⟩
          | true =>
            rw [hr] at KR
            have HX := Lib.hid (show Lt.errAt ls i = 0 by rw [HE4.out, hr]; rfl)
            clear hr HE4
            go_wp2_with fail
            refine KR.out.mono ?_
            rintro e w3 ⟨rfl, hb3⟩
            go_wp2
            go_ret
            exact ⟨ret_int HX.out.symm, below_step HW.out hb3⟩
end Go.Proofs.Ytakccghmlcehnaa
