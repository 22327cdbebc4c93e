/- LotAudits returns true, whatever the genealogy. -/
import Derived.Test.YtakccghmlcehnaaAns6
import Derived.Test.YtakccghmlcehnaaKnown2
namespace Go.Proofs.Ytakccghmlcehnaa
open Go.RowKit

theorem aud_facts (ls : List Lt.L) : (0 ≤ audE ls (Lt.recvAll ls) ∧ audE ls (Lt.recvAll ls) ≤ 14400000) ∧ (0 ≤ audE ls (Lt.leftK ls ls.length) ∧ audE ls (Lt.leftK ls ls.length) ≤ 14400000) ∧ (0 ≤ audE ls (Lt.lostAll ls) ∧ audE ls (Lt.lostAll ls) ≤ 14400000) ∧
    (0 ≤ audE ls (Lt.airAll ls) ∧ audE ls (Lt.airAll ls) ≤ 14400000) ∧ audE ls (Lt.recvAll ls) + audE ls (Lt.airAll ls) = audE ls (Lt.leftK ls ls.length) + audE ls (Lt.lostAll ls) := by
  unfold audE
  by_cases hz : Lt.valE ls = 0
  · simp only [if_pos hz]
    obtain ⟨hl, herr, _⟩ := Lt.valE_zero hz
    have h1 := sums_take_bd (fun j hj => Lt.fine_of (herr j hj)) hl ls.length
    rw [List.take_length] at h1
    have h2 := leftK_bd hz ls.length (Nat.le_refl _)
    have h3 := Lt.balance herr
    omega
  · simp [hz]

set_option maxRecDepth 20000 in
set_option maxHeartbeats 1000000 in
theorem audits_walk (v : Value) (ls : List Lt.L) (w : World) (hv : Lots w v ls) :
    Calls Try.prog 14 #[v] w fun e w' => e = .returned (.bool true) ∧ Below w.heap.size w w' := by
  have L := Lib.hid (long_any v ls w hv)
  cases hb : longB ls with
  | true =>
    rw [hb] at L
    clear hb hv
    go_enter Try.func14, Try.ntmps14
    go_wp2_with fail
    refine L.out.mono ?_
    rintro e w1 ⟨rfl, rfl⟩
    go_wp2_with fail
    refine (known_any _).mono ?_
    rintro e w2 ⟨rfl, hb2⟩
    go_wp2
    go_ret
    exact ⟨rfl, hb2⟩
  | false =>
    rw [hb] at L
    have hsh := (longB_short hb).short
    have C1 := Lib.hid (fun W (hW : Below w.heap.size w W) => audit_any v ls W (hv.all hW) hsh)
    have C2 := Lib.hid (fun W (hW : Below w.heap.size w W) => refAudit_any v ls W (hv.all hW) hsh)
    obtain ⟨b1, b2, b3, b4, hbal⟩ := aud_facts ls
    clear hb hv hsh
    generalize audE ls (Lt.recvAll ls) = r1 at *
    generalize audE ls (Lt.leftK ls ls.length) = r2 at *
    generalize audE ls (Lt.lostAll ls) = r3 at *
    generalize audE ls (Lt.airAll ls) = r4 at *
    generalize Lt.valE ls = er at *
    have q1 : (r1 == r1) = true := by simp
    have q2 : (r2 == r2) = true := by simp
    have q3 : (r3 == r3) = true := by simp
    have q4 : (r4 == r4) = true := by simp
    have q5 : (er == er) = true := by simp
    have q6 : (r1 + r4 == r2 + r3) = true := by simpa using hbal
    clear hbal
    go_enter Try.func14, Try.ntmps14
    go_wp2_with fail
    refine L.out.mono ?_
    rintro e w1 ⟨rfl, rfl⟩
    go_wp2_with fail
    refine (C1.out _ (Below.refl _ _)).mono ?_
    rintro e w1 ⟨rfl, h1⟩
    go_wp2_with fail
    refine (C2.out _ h1).mono ?_
    rintro e w2 ⟨rfl, h2⟩
    have h2 := below_step h1 h2
    clear h1 C1 C2
    go_wp2_with fail
    refine (known_any _).mono ?_
    rintro e w7 ⟨rfl, h7⟩
    have h7 := below_step h2 h7
    go_wp2
    go_ret
    exact ⟨rfl, h7⟩
end Go.Proofs.Ytakccghmlcehnaa
