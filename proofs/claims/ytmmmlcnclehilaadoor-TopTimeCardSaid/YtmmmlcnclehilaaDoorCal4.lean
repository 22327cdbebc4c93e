/- The program's hours of a calendar, and whether a day is open. -/
import Derived.Test.YtmmmlcnclehilaaDoorShelfB
import Derived.Test.YtmmmlcnclehilaaDoorCal3
import Derived.Test.YtmmmlcnclehilaaDoorShelf
namespace Go.Proofs.YtmmmlcnclehilaaDoor
open Go.RowKit

theorem search_any (v : Value) (xs : List Int) (x : Int) (w : World) (hv : Ints w v xs) (hlen : xs.length ≤ 1000) (hs : xs.Pairwise (· < ·)) :
    Calls Tryd.prog 76 #[v, .int .i64 x] w fun e w' => e = .returned (.tuple #[.int .i64 (xs.countP (· < x) : Nat), .bool (Cal.hasB xs x)]) ∧ Drawn w w' := by
  rcases hv with ⟨a0, c0, rfl, rfl⟩ | ⟨b, off, cap, rfl, hcap, hb, hc⟩
  · refine (Tryd.slices_BinarySearch_int_empty a0 c0 x w).mono ?_
    rintro e w' ⟨rfl, rfl⟩
    exact ⟨rfl, Drawn.refl _⟩
  · have hz : xs.take xs.length = xs := List.take_of_length_le (Nat.le_refl _)
    refine (Tryd.slices_BinarySearch_int b off xs.length cap xs x w (Nat.le_refl _) (by omega) hc (by rw [hz]; exact hs.imp (fun h => by omega))).mono ?_
    rintro e w' ⟨rfl, n, rfl⟩
    rw [hz]
    exact ⟨rfl, n, rfl⟩

/-- The hours of a calendar as a value. -/
abbrev hrs (s e : Int) (f : Nat → Bool) (vh : Value) : Value := .agg #[.int .i64 s, .int .i64 e, .bool (f 0), .bool (f 1), .bool (f 2), .bool (f 3), .bool (f 4), .bool (f 5), .bool (f 6), vh]

theorem setHas {xs : List Int} {k : Nat} {x : Int} (h : k < xs.length) (hx : xs[k] = x) (y : Int) : Cal.hasB (xs.take (k + 1)) y = (Cal.hasB (xs.take k) y || decide (y = x)) := by
  rw [Bool.eq_iff_iff, Cal.hasB_iff, List.take_succ_eq_append_getElem h]
  simp [Cal.hasB, hx]
theorem setHas_hit {xs : List Int} {k : Nat} {x : Int} (h : k < xs.length) (hx : xs[k] = x) : true = Cal.hasB (xs.take (k + 1)) x := by rw [setHas h hx]; simp
theorem setHas_miss {xs : List Int} {k : Nat} {x y : Int} {g : Bool} (h : k < xs.length) (hx : xs[k] = x) (hy : y ≠ x) (hg : g = Cal.hasB (xs.take k) y) : g = Cal.hasB (xs.take (k + 1)) y := by rw [setHas h hx, hg]; simp [hy]

set_option maxRecDepth 20000 in
set_option maxHeartbeats 1000000 in
theorem hoursOf_look (s e : Int) (vr vh : Value) (rs hs : List Int) (w : World) (hr : Ints w vr rs) (hh : Ints w vh hs) (lr : rs.length ≤ 1000) (lh : hs.length ≤ 1000) (hset : Cal.setB 7 rs = true) :
    Calls Tryd.prog 43 #[cal s e vr vh] w fun x w' => x = .returned (hrs s e (fun j => Cal.hasB rs j) vh) ∧ Below w.heap.size w w' := by
  obtain ⟨a', c', rfl⟩ := hh.form
  clear hh
  rcases hr with ⟨a0, c0, rfl, rfl⟩ | ⟨b, off, cap, rfl, hcap, hb, hc⟩
  · clear lr hset
    go_enter Tryd.func43, Tryd.ntmps43
    go_wp2
    go_loop [5, 16] (fun _ t => t = .int .i64 0) (fun _ t => (0 - intOf t).toNat)
    case atStart => exact rfl
    case round =>
      obtain rfl := hrel
      go_wp2
      refine bodyPost_ret (v := hrs s e (fun _ => false) (.slice a' hs.length c')) (by simp [results, Tryd.results43, go_sem]) rfl ⟨rfl, ?_⟩
      exact by repeat' (first | exact Below.refl _ _ | apply below_drewN | refine Below.setCell ?_ (by simp <;> omega) _ | refine Below.alloc ?_ (by simp <;> omega) _)
  · have hmem : ∀ x ∈ rs, 0 ≤ x ∧ x < 7 := (Cal.setGo_iff.1 hset).1
    clear hset
    go_enter Tryd.func43, Tryd.ntmps43
    go_wp2
    go_loopw [5, 16] (fun _ t wr => ∃ (k : Nat) (g0 g1 g2 g3 g4 g5 g6 : Bool), k ≤ rs.length ∧ t = .int .i64 k ∧ Hid (g0 = Cal.hasB (rs.take k) 0 ∧ g1 = Cal.hasB (rs.take k) 1 ∧ g2 = Cal.hasB (rs.take k) 2 ∧ g3 = Cal.hasB (rs.take k) 3 ∧ g4 = Cal.hasB (rs.take k) 4 ∧ g5 = Cal.hasB (rs.take k) 5 ∧ g6 = Cal.hasB (rs.take k) 6) ∧ wr = ((w.alloc (.cells #[.int .i64 s, .int .i64 e, .slice (some ⟨b, off, none⟩) rs.length cap, .slice a' hs.length c'] 40)).alloc (.cells #[.int .i64 0, .int .i64 0, .bool false, .bool false, .bool false, .bool false, .bool false, .bool false, .bool false, .slice none 0 0] 73)).alloc (.cells #[.int .i64 s, .int .i64 e, .bool g0, .bool g1, .bool g2, .bool g3, .bool g4, .bool g5, .bool g6, .slice a' hs.length c'] 73)) (fun _ t _ => rs.length - (intOf t).toNat)
    case atStart => exact ⟨0, false, false, false, false, false, false, false, Nat.zero_le _, rfl, Lib.hid (by simp [Cal.hasB]), rfl⟩
    case round =>
      obtain ⟨k, g0, g1, g2, g3, g4, g5, g6, hk, rfl, hg, rfl⟩ := hrel
      by_cases hlt : k < rs.length
      · have hbl : Below w.heap.size w (((w.alloc (.cells #[.int .i64 s, .int .i64 e, .slice (some ⟨b, off, none⟩) rs.length cap, .slice a' hs.length c'] 40)).alloc (.cells #[.int .i64 0, .int .i64 0, .bool false, .bool false, .bool false, .bool false, .bool false, .bool false, .bool false, .slice none 0 0] 73)).alloc (.cells #[.int .i64 s, .int .i64 e, .bool g0, .bool g1, .bool g2, .bool g3, .bool g4, .bool g5, .bool g6, .slice a' hs.length c'] 73)) := by repeat' (first | exact Below.refl _ _ | refine Below.alloc ?_ (by simp <;> omega) _)
        have hck := (hbl.cell (p := ⟨b, off + k, none⟩) hb).trans (hc k hlt)
        clear hbl
        rw [getD_at hlt] at hck
        clear hc
        obtain ⟨b1, b2⟩ := hmem _ (List.getElem_mem hlt)
        clear hmem
        obtain ⟨x, hx⟩ : ∃ x, x = rs[k] := ⟨_, rfl⟩
        rw [← hx] at hck b1 b2
        have HX : Hid (rs[k] = x) := Lib.hid hx.symm
        clear hx
        have hcases : x = 0 ∨ x = 1 ∨ x = 2 ∨ x = 3 ∨ x = 4 ∨ x = 5 ∨ x = 6 := by omega
        clear b1 b2
        rcases hcases with rfl | rfl | rfl | rfl | rfl | rfl | rfl
        all_goals
          go_wp2
          refine ⟨⟨k + 1, _, _, _, _, _, _, _, by omega, by go_num, Lib.hid ?_, rfl⟩, by simp [intOf]; omega⟩
          obtain ⟨h0, h1, h2, h3, h4, h5, h6⟩ := hg.out
          refine ⟨?_, ?_, ?_, ?_, ?_, ?_, ?_⟩
          all_goals (first | exact setHas_hit hlt HX.out | exact setHas_miss hlt HX.out (by omega) (by assumption))
      · obtain rfl : k = rs.length := by omega
        clear hc hmem
        rw [List.take_length] at hg
        go_wp2
        refine bodyPost_ret (v := hrs s e (fun j => Cal.hasB rs j) (.slice a' hs.length c')) ?_ rfl ⟨rfl, ?_⟩
        · obtain ⟨rfl, rfl, rfl, rfl, rfl, rfl, rfl⟩ := hg.out
          simp [results, Tryd.results43, go_sem]
        · repeat' (first | exact Below.refl _ _ | apply below_drewN | refine Below.setCell ?_ (by simp <;> omega) _ | refine Below.alloc ?_ (by simp <;> omega) _)

set_option maxRecDepth 20000 in
theorem isOpen_any (s e d : Int) (f : Nat → Bool) (vh : Value) (hs : List Int) (w : World) (hh : Ints w vh hs) (lh : hs.length ≤ 1000) (hsort : hs.Pairwise (· < ·)) (d1 : 0 ≤ d) (d2 : d ≤ 100000) :
    Calls Tryd.prog 60 #[hrs s e f vh, .int .i64 d] w fun x w' => x = .returned (.bool (!Cal.hasB hs d && !f (d % 7).toNat)) ∧ Below w.heap.size w w' := by
  obtain ⟨a', c', rfl⟩ := hh.form
  have SR := Lib.hid (fun n => search_any _ hs d ((w.alloc (.cells #[.int .i64 s, .int .i64 e, .bool (f 0), .bool (f 1), .bool (f 2), .bool (f 3), .bool (f 4), .bool (f 5), .bool (f 6), .slice a' hs.length c'] 73)).drewN n) ((hh.alloc _).drewN n) lh hsort)
  clear hh hsort
  by_cases k1 : Cal.hasB hs d = true
  · rw [k1] at SR ⊢
    go_enter Tryd.func60, Tryd.ntmps60
    go_wp2_with fail
    refine (SR.out 0).mono ?_
    rintro e w1 ⟨rfl, n, rfl⟩
    go_wp2
    go_ret
    exact ⟨rfl, by repeat' (first | exact Below.refl _ _ | apply below_drewN | refine Below.setCell ?_ (by simp <;> omega) _ | refine Below.alloc ?_ (by simp <;> omega) _)⟩
  · rw [show Cal.hasB hs d = false by simpa using k1] at SR ⊢
    clear k1
    have hcases : d % 7 = 0 ∨ d % 7 = 1 ∨ d % 7 = 2 ∨ d % 7 = 3 ∨ d % 7 = 4 ∨ d % 7 = 5 ∨ d % 7 = 6 := by omega
    rcases hcases with h7 | h7 | h7 | h7 | h7 | h7 | h7
    all_goals
      rw [h7]
      go_enter Tryd.func60, Tryd.ntmps60
      go_wp2_with fail
      refine (SR.out 0).mono ?_
      rintro e w1 ⟨rfl, n, rfl⟩
      go_wp2
      go_ret
      exact ⟨rfl, by repeat' (first | exact Below.refl _ _ | apply below_drewN | refine Below.setCell ?_ (by simp <;> omega) _ | refine Below.alloc ?_ (by simp <;> omega) _)⟩
end Go.Proofs.YtmmmlcnclehilaaDoor
