/- The program's division of a total. -/
import Derived.Test.YtmmmlcnclehilaaDoorFrow
import Derived.Test.YtmmmlcnclehilaaDoorShareQ
import Derived.Test.YtmmmlcnclehilaaDoorShare3
namespace Go.Proofs.YtmmmlcnclehilaaDoor
open Go.RowKit Go.Sort

theorem Lr.sumN_le {f : Nat → Int} : ∀ {n : Nat}, (∀ i, i < n → 0 ≤ f i) → ∀ k, k ≤ n → 0 ≤ Lr.sumN f k ∧ Lr.sumN f k ≤ Lr.sumN f n
  | 0, _, k, hk => by obtain rfl : k = 0 := by omega
                      exact ⟨Int.le_refl _, Int.le_refl _⟩
  | n + 1, h, k, hk => by
    have hn := h n (by omega)
    by_cases e : k = n + 1
    · subst e
      obtain ⟨h1, h2⟩ := sumN_le (n := n) (fun i hi => h i (by omega)) n (Nat.le_refl _)
      exact ⟨by show 0 ≤ Lr.sumN f n + f n; omega, Int.le_refl _⟩
    · obtain ⟨h1, h2⟩ := sumN_le (n := n) (fun i hi => h i (by omega)) k (by omega)
      exact ⟨h1, by show _ ≤ Lr.sumN f n + f n; omega⟩
/-- What a round of the first loop reckons. -/
theorem Lr.round_ok {T : Int} {ws : List Int} (hs : Sh.sumB ws = true) (h0 : 0 ≤ T) (h1 : T ≤ 1099511627776) {k : Nat} (hk : k < ws.length) :
    0 ≤ T * Lr.wt ws k ∧ T * Lr.wt ws k ≤ 1152921504606846976 ∧ (T * Lr.wt ws k).tdiv (Lr.tot ws) = Lr.qF T ws k ∧ (T * Lr.wt ws k).tmod (Lr.tot ws) = Lr.rF T ws k ∧ 0 ≤ Lr.qF T ws k ∧ Lr.qF T ws k ≤ 1152921504606846976 ∧ 0 ≤ Lr.rF T ws k ∧ Lr.rF T ws k ≤ 16777216 := by
  obtain ⟨a1, a2, a3, a4, a5⟩ := Sh.usable hs
  obtain ⟨b1, b2⟩ := a5 k hk
  have m0 : 0 ≤ T * Lr.wt ws k := Int.mul_nonneg h0 b1
  have m1 : T * Lr.wt ws k ≤ 1099511627776 * 1048576 := Int.mul_le_mul h1 b2 b1 (by omega)
  have e1 : (T * Lr.wt ws k).tdiv (Lr.tot ws) = Lr.qF T ws k := Int.tdiv_eq_ediv_of_nonneg m0
  have e2 : (T * Lr.wt ws k).tmod (Lr.tot ws) = Lr.rF T ws k := Int.tmod_eq_emod_of_nonneg m0
  have q0 : 0 ≤ Lr.qF T ws k := Int.ediv_nonneg m0 (by omega)
  have q1 : Lr.qF T ws k ≤ T * Lr.wt ws k := Int.ediv_le_self _ m0
  have hr := Lr.rF_bd (Sh.fits_of hs h0) k
  have ht : Lr.tot ws ≤ 16777216 := by
    have : ∀ m, m ≤ ws.length → Lr.sumN (Lr.wt ws) m ≤ 1048576 * (m : Int) := by
      intro m
      induction m with
      | zero => intro _; exact Int.le_refl _
      | succ m ih =>
        intro hm
        have := ih (by omega)
        have := a5 m (by omega)
        show Lr.sumN (Lr.wt ws) m + Lr.wt ws m ≤ _
        omega
    have := this ws.length (Nat.le_refl _)
    unfold Lr.tot; omega
  exact ⟨m0, by omega, e1, e2, q0, by omega, hr.1, by omega⟩

/-- What Share answers. -/
def shareOk (T : Int) (ws : List Int) : Bool := Sh.sumB ws && decide (0 ≤ T) && decide (T ≤ 1099511627776)
def ShareSays (T : Int) (ws : List Int) (w : World) (e : Ending) (w' : World) : Prop :=
  if shareOk T ws = true then e = .returned (.tuple #[.slice (some ⟨w.heap.size, 0, none⟩) ws.length ws.length, .int .i64 0]) ∧ BlockAt w' w.heap.size (fnC ws.length (Lr.partF T ws)) 3
  else e = .returned (.tuple #[.slice none 0 0, .int .i64 1])

set_option maxRecDepth 20000 in
set_option maxHeartbeats 1000000 in
theorem share_bad (T : Int) (v : Value) (ws : List Int) (w : World) (hv : Ints w v ws) (hlen : ws.length ≤ 1000) (hb : shareOk T ws = false) :
    Calls Tryd.prog 9 #[.int .i64 T, v] w fun e w' => e = .returned (.tuple #[.slice none 0 0, .int .i64 1]) ∧ Below w.heap.size w w' := by
  have C := Lib.hid (sumOfWeights_any v ws w hv hlen)
  unfold shareOk at hb
  have hform : ∃ a c, v = .slice a ws.length c := by
    rcases hv with ⟨a, c, rfl, rfl⟩ | ⟨b, off, cap, rfl, _⟩
    · exact ⟨a, c, rfl⟩
    · exact ⟨_, cap, rfl⟩
  obtain ⟨a, c, rfl⟩ := hform
  clear hv
  generalize Sh.sumV ws = s at *
  generalize Sh.sumB ws = g at *
  cases g with
  | false =>
    clear hb
    go_enter Tryd.func9, Tryd.ntmps9
    go_wp2_with fail
    refine C.out.mono ?_
    rintro e w1 ⟨rfl, rfl⟩
    go_wp2
    go_ret2
    exact ⟨rfl, Below.refl _ _⟩
  | true =>
    by_cases h0 : T < 0
    · clear hb
      go_enter Tryd.func9, Tryd.ntmps9
      go_wp2_with fail
      refine C.out.mono ?_
      rintro e w1 ⟨rfl, rfl⟩
      go_wp2
      go_ret2
      exact ⟨rfl, Below.refl _ _⟩
    · have h1 : (1099511627776 : Int) < T := by
        simp at hb
        have := hb (by omega)
        omega
      clear hb
      go_enter Tryd.func9, Tryd.ntmps9
      go_wp2_with fail
      refine C.out.mono ?_
      rintro e w1 ⟨rfl, rfl⟩
      go_wp2
      go_ret2
      exact ⟨rfl, Below.refl _ _⟩
end Go.Proofs.YtmmmlcnclehilaaDoor
