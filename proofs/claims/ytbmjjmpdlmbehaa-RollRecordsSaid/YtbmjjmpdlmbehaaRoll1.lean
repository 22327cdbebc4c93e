/- Which articles are valid: of the program and of the reference. -/
import Derived.Test.YtbmjjmpdlmbehaaRollM
namespace Go.Proofs.Ytbmjjmpdlmbehaa
open Go.RowKit

set_option maxRecDepth 20000 in
theorem rollFrom_any (lo hi n : Int) (w : World) : Calls Try.prog 39 #[.int .i64 lo, .int .i64 hi, .int .i64 n] w fun e w' => e = .returned (.bool (decide (lo ≤ n) && decide (n ≤ hi))) ∧ w = w' := by
  by_cases h1 : lo ≤ n
  · have HE : Hid ((decide (lo ≤ n) && decide (n ≤ hi)) = decide (n ≤ hi)) := Lib.hid (by rw [decide_eq_true h1]; rfl)
    generalize (decide (lo ≤ n) && decide (n ≤ hi)) = r at *
    go_enter Try.func39, Try.ntmps39
    go_wp2
    go_ret
    exact ⟨by rw [HE.out]; rfl, rfl⟩
  · have HE : Hid ((decide (lo ≤ n) && decide (n ≤ hi)) = false) := Lib.hid (by rw [decide_eq_false h1]; rfl)
    generalize (decide (lo ≤ n) && decide (n ≤ hi)) = r at *
    go_enter Try.func39, Try.ntmps39
    go_wp2
    go_ret
    exact ⟨by rw [HE.out]; rfl, rfl⟩
set_option maxRecDepth 20000 in
theorem rollWithin_any (n lo hi : Int) (w : World) : Calls Try.prog 42 #[.int .i64 n, .int .i64 lo, .int .i64 hi] w fun e w' => e = .returned (.bool (decide (lo ≤ n) && decide (n ≤ hi))) ∧ w = w' := by
  by_cases h1 : lo ≤ n
  · have HE : Hid ((decide (lo ≤ n) && decide (n ≤ hi)) = decide (n ≤ hi)) := Lib.hid (by rw [decide_eq_true h1]; rfl)
    generalize (decide (lo ≤ n) && decide (n ≤ hi)) = r at *
    go_enter Try.func42, Try.ntmps42
    go_wp2
    go_ret
    exact ⟨by rw [HE.out]; rfl, rfl⟩
  · have HE : Hid ((decide (lo ≤ n) && decide (n ≤ hi)) = false) := Lib.hid (by rw [decide_eq_false h1]; rfl)
    generalize (decide (lo ≤ n) && decide (n ≤ hi)) = r at *
    go_enter Try.func42, Try.ntmps42
    go_wp2
    go_ret
    exact ⟨by rw [HE.out]; rfl, rfl⟩

theorem Ro.valA_large {al : List Ro.A} (h : 5 < al.length) : Ro.valA al = 4 := if_pos h
theorem Ro.valA_bad {al : List Ro.A} (h : ¬ 5 < al.length) {k : Nat} (hk : k < al.length) (h2 : Ro.okA al[k] = false) : Ro.valA al = 1 := by
  unfold Ro.valA
  rw [if_neg h, if_pos]
  apply Bool.eq_false_iff.2
  intro hc
  have := List.all_eq_true.1 hc _ (List.getElem_mem hk)
  rw [h2] at this; cases this
theorem Ro.valA_ok {al : List Ro.A} (h : ¬ 5 < al.length) (h2 : ∀ k (hk : k < al.length), Ro.okA al[k] = true) : Ro.valA al = 0 := by
  unfold Ro.valA
  rw [if_neg h, if_neg]
  have : al.all Ro.okA = true := List.all_eq_true.2 fun a ha => by
    obtain ⟨i, hi, rfl⟩ := List.mem_iff_getElem.1 ha
    exact h2 i hi
  rw [this]; simp
theorem Ro.okA_split (a : Ro.A) : Ro.okA a = ((decide (1 ≤ a.l) && decide (a.l ≤ 300)) && (decide (0 ≤ a.p) && decide (a.p ≤ 10000))) := rfl

set_option maxRecDepth 20000 in
set_option maxHeartbeats 1000000 in
theorem rollValidate_any (v : Value) (al : List Ro.A) (w : World) (hv : Arts w v al) (hl : al.length ≤ 1000) :
    Calls Try.prog 52 #[v] w fun e w' => e = .returned (.int .i64 (Ro.valA al)) ∧ Below w.heap.size w w' := by
  obtain ⟨ao, c, rfl, hlk⟩ := hv
  have HK := Lib.hid hlk
  have hw0 := Below.refl w.heap.size w
  have F1 := Lib.hid (fun n W => rollFrom_any 1 300 n W)
  have F2 := Lib.hid (fun n W => rollFrom_any 0 10000 n W)
  by_cases h5 : 5 < al.length
  · have HE := Lib.hid (Ro.valA_large h5)
    generalize Ro.valA al = E at *
    go_enter Try.func52, Try.ntmps52
    go_wp2
    go_ret
    exact ⟨by rw [HE.out]; rfl, hw0⟩
  · have HBad := Lib.hid (fun k (hk : k < al.length) h => Ro.valA_bad h5 hk h)
    have HOk := Lib.hid (Ro.valA_ok h5)
    generalize Ro.valA al = E at *
    go_enter Try.func52, Try.ntmps52
    go_wp2
    clear hlk
    go_loopw [10] (fun t wr => ∃ k : Nat, k ≤ al.length ∧ t = .int .i64 k ∧ Hid ((∀ j (hj : j < al.length), j < k → Ro.okA al[j] = true) ∧ Below w.heap.size w wr)) (fun t _ => al.length - (intOf t).toNat)
    case atStart => exact ⟨0, Nat.zero_le _, rfl, Lib.hid ⟨fun j _ h => absurd h (Nat.not_lt_zero _), hw0⟩⟩
    case round =>
      obtain ⟨k, hk, rfl, hg⟩ := hrel
      clear hw0
      by_cases hlt : k < al.length
      · obtain ⟨b, off, rfl, hb, hr⟩ := HK.out k hlt
        obtain ⟨c0, c1, c2, c3, c4, c5⟩ := hr.below hg.out.2 hb
        have HB1 := Lib.hid (HBad.out k hlt)
        have HS := Lib.hid (Ro.okA_split al[k])
        have HI : Hid (Ro.okA al[k] = true → ∀ j (hj : j < al.length), j < k + 1 → Ro.okA al[j] = true) := Lib.hid fun h j hj hjk => by
          by_cases e : j = k
          · subst e; exact h
          · exact hg.out.1 j hj (by omega)
        have HG := Lib.hid hg.out.2
        have hgs := hg.out.2.size
        clear hg hr HBad
        generalize Ro.okA al[k] = o at *
        generalize al[k] = a at *
        have C1 := Lib.hid (fun W => F1.out a.l W)
        have C2 := Lib.hid (fun W => F2.out a.p W)
        cases h1 : (decide (1 ≤ a.l) && decide (a.l ≤ 300))
        · rw [h1] at C1
          have ho : o = false := by rw [HS.out, h1]; rfl
          have HE := Lib.hid (HB1.out ho)
          clear h1 ho HS HI HB1 C2
          go_wp2_with fail
          refine (C1.out _).mono ?_
          rintro e w1 ⟨rfl, rfl⟩
          go_wp2
          go_ret
          exact ⟨by rw [HE.out]; rfl, HG.out.alloc hgs _⟩
        · rw [h1] at C1
          cases h2 : (decide (0 ≤ a.p) && decide (a.p ≤ 10000))
          · rw [h2] at C2
            have ho : o = false := by rw [HS.out, h1, h2]; rfl
            have HE := Lib.hid (HB1.out ho)
            clear h1 h2 ho HS HI HB1
            go_wp2_with fail
            refine (C1.out _).mono ?_
            rintro e w1 ⟨rfl, rfl⟩
            go_wp2_with fail
            refine (C2.out _).mono ?_
            rintro e w1 ⟨rfl, rfl⟩
            go_wp2
            go_ret
            exact ⟨by rw [HE.out]; rfl, HG.out.alloc hgs _⟩
          · rw [h2] at C2
            have ho : o = true := by rw [HS.out, h1, h2]; rfl
            have HI := Lib.hid (HI.out ho)
            clear h1 h2 ho HS HB1
            go_wp2_with fail
            refine (C1.out _).mono ?_
            rintro e w1 ⟨rfl, rfl⟩
            go_wp2_with fail
            refine (C2.out _).mono ?_
            rintro e w1 ⟨rfl, rfl⟩
            go_wp2
            go_roundw
            case rel => exact ⟨k + 1, by omega, by go_num, Lib.hid ⟨HI.out, HG.out.alloc hgs _⟩⟩
            case measure => simp [intOf]; omega
      · obtain rfl : k = al.length := by omega
        have HE := Lib.hid (HOk.out fun j hj => hg.out.1 j hj hj)
        have HG := Lib.hid hg.out.2
        clear hg
        go_wp2
        go_ret
        exact ⟨by rw [HE.out]; rfl, HG.out⟩
set_option maxRecDepth 20000 in
set_option maxHeartbeats 1000000 in
theorem rollRefValidate_any (v : Value) (al : List Ro.A) (w : World) (hv : Arts w v al) (hl : al.length ≤ 1000) :
    Calls Try.prog 59 #[v] w fun e w' => e = .returned (.int .i64 (Ro.valA al)) ∧ Below w.heap.size w w' := by
  obtain ⟨ao, c, rfl, hlk⟩ := hv
  have HK := Lib.hid hlk
  have hw0 := Below.refl w.heap.size w
  have F1 := Lib.hid (fun n W => rollWithin_any n 1 300 W)
  have F2 := Lib.hid (fun n W => rollWithin_any n 0 10000 W)
  by_cases h5 : 5 < al.length
  · have HE := Lib.hid (Ro.valA_large h5)
    generalize Ro.valA al = E at *
    go_enter Try.func59, Try.ntmps59
    go_wp2
    go_ret
    exact ⟨by rw [HE.out]; rfl, hw0⟩
  · have HBad := Lib.hid (fun k (hk : k < al.length) h => Ro.valA_bad h5 hk h)
    have HOk := Lib.hid (Ro.valA_ok h5)
    generalize Ro.valA al = E at *
    go_enter Try.func59, Try.ntmps59
    go_wp2
    clear hlk
    go_loopw [3] (fun t wr => ∃ k : Nat, k ≤ al.length ∧ t = .int .i64 k ∧ Hid ((∀ j (hj : j < al.length), j < k → Ro.okA al[j] = true) ∧ Below w.heap.size w wr)) (fun t _ => al.length - (intOf t).toNat)
    case atStart => exact ⟨0, Nat.zero_le _, rfl, Lib.hid ⟨fun j _ h => absurd h (Nat.not_lt_zero _), hw0⟩⟩
    case round =>
      obtain ⟨k, hk, rfl, hg⟩ := hrel
      clear hw0
      by_cases hlt : k < al.length
      · obtain ⟨b, off, rfl, hb, hr⟩ := HK.out k hlt
        obtain ⟨c0, c1, c2, c3, c4, c5⟩ := hr.below hg.out.2 hb
        have HB1 := Lib.hid (HBad.out k hlt)
        have HS := Lib.hid (Ro.okA_split al[k])
        have HI : Hid (Ro.okA al[k] = true → ∀ j (hj : j < al.length), j < k + 1 → Ro.okA al[j] = true) := Lib.hid fun h j hj hjk => by
          by_cases e : j = k
          · subst e; exact h
          · exact hg.out.1 j hj (by omega)
        have HG := Lib.hid hg.out.2
        clear hg hr HBad
        generalize Ro.okA al[k] = o at *
        generalize al[k] = a at *
        have C1 := Lib.hid (fun W => F1.out a.l W)
        have C2 := Lib.hid (fun W => F2.out a.p W)
        cases h1 : (decide (1 ≤ a.l) && decide (a.l ≤ 300))
        · rw [h1] at C1
          have ho : o = false := by rw [HS.out, h1]; rfl
          have HE := Lib.hid (HB1.out ho)
          clear h1 ho HS HI HB1 C2
          go_wp2_with fail
          refine (C1.out _).mono ?_
          rintro e w1 ⟨rfl, rfl⟩
          go_wp2
          go_ret
          exact ⟨by rw [HE.out]; rfl, HG.out⟩
        · rw [h1] at C1
          cases h2 : (decide (0 ≤ a.p) && decide (a.p ≤ 10000))
          · rw [h2] at C2
            have ho : o = false := by rw [HS.out, h1, h2]; rfl
            have HE := Lib.hid (HB1.out ho)
            clear h1 h2 ho HS HI HB1
            go_wp2_with fail
            refine (C1.out _).mono ?_
            rintro e w1 ⟨rfl, rfl⟩
            go_wp2_with fail
            refine (C2.out _).mono ?_
            rintro e w1 ⟨rfl, rfl⟩
            go_wp2
            go_ret
            exact ⟨by rw [HE.out]; rfl, HG.out⟩
          · rw [h2] at C2
            have ho : o = true := by rw [HS.out, h1, h2]; rfl
            have HI := Lib.hid (HI.out ho)
            clear h1 h2 ho HS HB1
            go_wp2_with fail
            refine (C1.out _).mono ?_
            rintro e w1 ⟨rfl, rfl⟩
            go_wp2_with fail
            refine (C2.out _).mono ?_
            rintro e w1 ⟨rfl, rfl⟩
            go_wp2
            go_roundw
            case rel => exact ⟨k + 1, by omega, by go_num, Lib.hid ⟨HI.out, HG.out⟩⟩
            case measure => simp [intOf]; omega
      · obtain rfl : k = al.length := by omega
        have HE := Lib.hid (HOk.out fun j hj => hg.out.1 j hj hj)
        have HG := Lib.hid hg.out.2
        clear hg
        go_wp2
        go_ret
        exact ⟨by rw [HE.out]; rfl, HG.out⟩
end Go.Proofs.Ytbmjjmpdlmbehaa
