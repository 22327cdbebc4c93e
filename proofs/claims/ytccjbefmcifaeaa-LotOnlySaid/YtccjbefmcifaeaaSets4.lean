/- LotSets returns true, whatever the genealogy and the numbers. -/
import Derived.Test.YtccjbefmcifaeaaCmpShare
import Derived.Test.YtccjbefmcifaeaaKnowns
namespace Go.Proofs.Ytccjbefmcifaeaa
open Go.RowKit

set_option maxRecDepth 20000 in
set_option maxHeartbeats 1000000 in
theorem sameInts_any (u v : Value) (xs : List Int) (w : World) (hu : Ints w u xs) (hv : Ints w v xs) (hl : xs.length ≤ 1000) :
    Calls Try.prog 47 #[u, v] w fun e w' => e = .returned (.bool true) ∧ Below w.heap.size w w' := by
  obtain ⟨a, c, rfl, hk⟩ := hu.look
  obtain ⟨a2, c2, rfl, hk2⟩ := hv.look
  have HK := Lib.hid hk
  have HK2 := Lib.hid hk2
  have H0 := Lib.hid (Below.refl w.heap.size w)
  clear hu hv hk hk2
  go_enter Try.func47, Try.ntmps47
  go_wp2
  go_loopw [5] (fun t wr => ∃ k : Nat, k ≤ xs.length ∧ t = .int .i64 k ∧ Hid (Below w.heap.size w wr)) (fun t _ => xs.length - (intOf t).toNat)
  case atStart => exact ⟨0, Nat.zero_le _, rfl, H0⟩
  case round =>
    obtain ⟨k, hk, rfl, hg⟩ := hrel
    clear H0
    by_cases hlt : k < xs.length
    · obtain ⟨b, off, rfl, hb, hx⟩ := HK.out k hlt
      obtain ⟨b2, off2, rfl, hb2, hx2⟩ := HK2.out k hlt
      have c0 := (hg.out.cell (p := ⟨b, off + k, none⟩) hb).trans hx
      have c1 := (hg.out.cell (p := ⟨b2, off2 + k, none⟩) hb2).trans hx2
      clear hx hx2
      generalize xs.getD k 0 = z at *
      have hne : (z != z) = false := by simp
      go_wp2_with fail
      go_region
      go_wp2
      go_roundw
      case rel => exact ⟨k + 1, by omega, by go_num, by first | exact hg | exact Lib.hid hg.out.drew⟩
      case measure => simp [intOf]; try omega
    · obtain rfl : k = xs.length := by omega
      go_wp2
      go_ret
      exact ⟨rfl, hg.out⟩

def hasL (xs : List Int) (d : Int) : Bool := xs.any (· == d)
set_option maxRecDepth 20000 in
set_option maxHeartbeats 1000000 in
theorem has_any (u : Value) (xs : List Int) (d : Int) (w : World) (hu : Ints w u xs) (hl : xs.length ≤ 1000) :
    Calls Try.prog 48 #[u, .int .i64 d] w fun e w' => e = .returned (.bool (hasL xs d)) ∧ Below w.heap.size w w' := by
  obtain ⟨a, c, rfl, hk⟩ := hu.look
  have HK := Lib.hid hk
  have H0 := Lib.hid (Below.refl w.heap.size w)
  generalize hH : hasL xs d = h
  have HH := Lib.hid hH
  clear hu hk hH
  go_enter Try.func48, Try.ntmps48
  go_wp2
  go_loopw [5] (fun t wr => ∃ k : Nat, k ≤ xs.length ∧ t = .int .i64 k ∧ Hid (Below w.heap.size w wr ∧ ∀ j, (hj : j < xs.length) → j < k → xs[j] ≠ d)) (fun t _ => xs.length - (intOf t).toNat)
  case atStart => exact ⟨0, Nat.zero_le _, rfl, Lib.hid ⟨H0.out, fun j _ h => absurd h (Nat.not_lt_zero _)⟩⟩
  case round =>
    obtain ⟨k, hk, rfl, hg⟩ := hrel
    clear H0
    by_cases hlt : k < xs.length
    · obtain ⟨b, off, rfl, hb, hx⟩ := HK.out k hlt
      have c0 := (hg.out.1.cell (p := ⟨b, off + k, none⟩) hb).trans hx
      have hz : xs.getD k 0 = xs[k] := by simp [hlt]
      rw [hz] at c0
      clear hx hz
      by_cases he : xs[k] = d
      · have HX := Lib.hid (show h = true by rw [← HH.out]; exact List.any_eq_true.2 ⟨xs[k], List.getElem_mem hlt, by simpa using he⟩)
        have heb : (xs[k] == d) = true := by simpa using he
        have HG := Lib.hid hg.out.1
        generalize xs[k] = z at *
        clear he hg
        go_wp2
        go_ret
        exact ⟨by rw [HX.out]; rfl, HG.out⟩
      · have heb : (xs[k] == d) = false := by simpa using he
        have HE := Lib.hid he
        have HZ : Hid (∀ j, (hj : j < xs.length) → j < k + 1 → xs[j] ≠ d) := Lib.hid fun j hj hjk => by
          by_cases e : j = k
          · subst e; exact HE.out
          · exact hg.out.2 j hj (by omega)
        have HG := Lib.hid hg.out.1
        clear he HE hg
        generalize xs[k] = z at *
        go_wp2
        go_roundw
        case rel => exact ⟨k + 1, by omega, by go_num, Lib.hid ⟨HG.out, HZ.out⟩⟩
        case measure => simp [intOf]; try omega
    · obtain rfl : k = xs.length := by omega
      have HX := Lib.hid (show h = false by
        rw [← HH.out]
        unfold hasL
        rw [Bool.eq_false_iff]
        intro ha
        obtain ⟨x, hx, he⟩ := List.any_eq_true.1 ha
        obtain ⟨j, hj, rfl⟩ := List.getElem_of_mem hx
        exact hg.out.2 j hj hj (by simpa using he))
      have HG := Lib.hid hg.out.1
      clear hg
      go_wp2
      go_ret
      exact ⟨by rw [HX.out]; rfl, HG.out⟩
end Go.Proofs.Ytccjbefmcifaeaa
