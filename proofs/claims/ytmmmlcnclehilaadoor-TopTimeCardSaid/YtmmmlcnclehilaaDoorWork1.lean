/- The hours of a day: the program's and the reference's. -/
import Derived.Test.YtmmmlcnclehilaaDoorCal7
import Derived.Test.YtmmmlcnclehilaaDoorSeq
namespace Go.Proofs.YtmmmlcnclehilaaDoor
open Go.RowKit

namespace Cal
def opn (s : Int) (o : Bool) (d : Int) : Int := if o = true then d * 1440 + s else d * 1440
/-- The working minutes of a day from one time to another one. -/
def dayV (s e : Int) (o : Bool) (d x y : Int) : Int :=
  if o = true then (if min (d * 1440 + e) y < max (d * 1440 + s) x then 0 else min (d * 1440 + e) y - max (d * 1440 + s) x) else 0
/-- Those of so many days from a day on. -/
def sumV (s e : Int) (rs hs : List Int) (x y : Int) : Nat → Int → Int
  | 0, _ => 0
  | n + 1, d => dayV s e (openB rs hs d) d x y + sumV s e rs hs x y n (d + 1)
theorem opn_bounds {s d : Int} {o : Bool} (h1 : 0 ≤ s) (h2 : s ≤ 1440) : d * 1440 ≤ opn s o d ∧ opn s o d ≤ d * 1440 + 1440 := by
  unfold opn; split <;> omega
theorem valE_zero_times {s e : Int} {rs hs : List Int} (h : valE s e rs hs = 0) : 0 ≤ s ∧ s ≤ 1440 ∧ 0 ≤ e ∧ e ≤ 1440 := by
  obtain ⟨h1, _⟩ := valE_zero h
  omega
theorem dayV_bounds {s e d x y : Int} {o : Bool} (h1 : 0 ≤ s) (h2 : e ≤ 1440) : 0 ≤ dayV s e o d x y ∧ dayV s e o d x y ≤ 1440 := by
  unfold dayV; split
  · split <;> omega
  · omega
theorem dayV_early {s e d x y : Int} {o : Bool} (h2 : e ≤ 1440) (h : d * 1440 + 1440 ≤ x) : dayV s e o d x y = 0 := by
  unfold dayV; split
  · split <;> omega
  · omega
theorem dayV_late {s e d x y : Int} {o : Bool} (h1 : 0 ≤ s) (h : y ≤ d * 1440) : dayV s e o d x y = 0 := by
  unfold dayV; split
  · split <;> omega
  · omega
theorem dayV_num {s e d x y : Int} {o : Bool} : max 0 (min (opn e o d) y - max (opn s o d) x) = dayV s e o d x y := by
  unfold dayV opn; split
  · split <;> omega
  · omega
theorem sumV_late {s e x y : Int} {rs hs : List Int} (h1 : 0 ≤ s) : ∀ {n : Nat} {d : Int}, y ≤ d * 1440 → sumV s e rs hs x y n d = 0
  | 0, _, _ => rfl
  | n + 1, d, h => by rw [sumV, dayV_late h1 h, sumV_late h1 (by omega)]; rfl
theorem sumV_early {s e x y : Int} {rs hs : List Int} (h2 : e ≤ 1440) : ∀ {k n : Nat} {d : Int}, (d + k) * 1440 ≤ x → sumV s e rs hs x y (k + n) d = sumV s e rs hs x y n (d + k)
  | 0, n, d, _ => by simp
  | k + 1, n, d, h => by
    rw [show k + 1 + n = (k + n) + 1 by omega, sumV, dayV_early h2 (by push_cast at h; omega), sumV_early h2 (by push_cast at h; omega)]
    rw [show d + 1 + (k : Int) = d + ((k + 1 : Nat) : Int) by push_cast; omega]
    omega
theorem sumV_step {s e x y : Int} {rs hs : List Int} {d : Int} (h : d < 2000) : sumV s e rs hs x y (2000 - d).toNat d = dayV s e (openB rs hs d) d x y + sumV s e rs hs x y (2000 - (d + 1)).toNat (d + 1) := by
  rw [show (2000 - d).toNat = (2000 - (d + 1)).toNat + 1 by omega, sumV]
end Cal

set_option maxRecDepth 20000 in
theorem of_any (s e d : Int) (vh : Value) (rs hs : List Int) (w : World) (hh : Ints w vh hs) (lh : hs.length ≤ 1000) (hsort : hs.Pairwise (· < ·)) (d1 : 0 ≤ d) (d2 : d ≤ 100000) (s1 : 0 ≤ s) (s2 : s ≤ 1440) (e1 : 0 ≤ e) (e2 : e ≤ 1440) :
    Calls Tryd.prog 44 #[hrs s e (fun j => Cal.hasB rs j) vh, .int .i64 d] w fun x w' => x = .returned (.tuple #[.int .i64 (Cal.opn s (Cal.openB rs hs d) d), .int .i64 (Cal.opn e (Cal.openB rs hs d) d)]) ∧ Below w.heap.size w w' := by
  obtain ⟨a', c', rfl⟩ := hh.form
  have SI := Lib.hid (fun W (hW : Below w.heap.size w W) => isOpen_rest s e d _ rs hs W (hh.all hW) lh hsort d1 d2)
  clear hh hsort
  generalize Cal.openB rs hs d = o at SI ⊢
  cases o with
  | false =>
    rw [show Cal.opn s false d = d * 1440 from rfl, show Cal.opn e false d = d * 1440 from rfl]
    go_enter Tryd.func44, Tryd.ntmps44
    go_wp2_with fail
    refine (SI.out _ (by repeat' (first | exact Below.refl _ _ | assumption | apply below_drewN | refine Below.setCell ?_ (by simp <;> omega) _ | refine Below.alloc ?_ (by simp <;> omega) _))).mono ?_
    rintro x w1 ⟨rfl, hb1⟩
    have hw1 := below_step (w := w) (by repeat' (first | exact Below.refl _ _ | assumption | apply below_drewN | refine Below.setCell ?_ (by simp <;> omega) _ | refine Below.alloc ?_ (by simp <;> omega) _)) hb1
    clear hb1
    go_wp2
    go_ret2
    exact ⟨rfl, hw1⟩
  | true =>
    have W1 := Lib.hid (show IntKind.i64.wrap (d * 1440 + s) = d * 1440 + s by simp [IntKind.wrap, IntKind.bits, IntKind.signed]; omega)
    have W2 := Lib.hid (show IntKind.i64.wrap (d * 1440 + e) = d * 1440 + e by simp [IntKind.wrap, IntKind.bits, IntKind.signed]; omega)
    rw [show Cal.opn s true d = d * 1440 + s from rfl, show Cal.opn e true d = d * 1440 + e from rfl]
    go_enter Tryd.func44, Tryd.ntmps44
    go_wp2_with fail
    refine (SI.out _ (by repeat' (first | exact Below.refl _ _ | assumption | apply below_drewN | refine Below.setCell ?_ (by simp <;> omega) _ | refine Below.alloc ?_ (by simp <;> omega) _))).mono ?_
    rintro x w1 ⟨rfl, hb1⟩
    have hw1 := below_step (w := w) (by repeat' (first | exact Below.refl _ _ | assumption | apply below_drewN | refine Below.setCell ?_ (by simp <;> omega) _ | refine Below.alloc ?_ (by simp <;> omega) _)) hb1
    have ha := (HrsAt.fresh w s e (fun j => Cal.hasB rs j) (.slice a' hs.length c') 73).all hb1
    obtain ⟨c0, c1, _⟩ := ha
    clear hb1
    have HS := Lib.hid (And.intro c0 (And.intro c1 hw1))
    clear c0 c1 hw1
    go_wp2_with fail
    refine wp_region_seq [(0, true), (1, true), (2, true), (3, true), (4, true), (5, true), (6, true), (7, true), (8, true), (9, true)]
      (fun W => W.cell? ⟨w.heap.size, 0, none⟩ = some (.int .i64 s) ∧ W.cell? ⟨w.heap.size, 1, none⟩ = some (.int .i64 e) ∧ Below w.heap.size w W)
      (by kernel_rfl) (by kernel_rfl) (by kernel_rfl) (by kernel_rfl) (fun d _ _ _ _ h => by cases d <;> exact h)
      (by obtain ⟨h0, h1, hw⟩ := HS.out; exact ⟨h0, h1, hw.drew⟩) (fun hS => ?_)
    clear HS
    repeat (first
      | (refine SeqH.take (v := ?_) rfl (by rfl) ?_ ?_; rotate_left; (· intro w hSw; (try dsimp only at hSw); go_simp; (try with_reducible rfl)); simp only [Act.put, List.setIfInBounds_toArray, List.set_cons_zero, List.set_cons_succ])
      | (refine SeqH.skip rfl (by rfl) ?_; simp only [Act.put, List.setIfInBounds_toArray, List.set_cons_zero, List.set_cons_succ])
      | (refine SeqH.pass rfl (by rfl) hS ?_; simp only [Act.put, List.setIfInBounds_toArray, List.set_cons_zero, List.set_cons_succ]))
    refine SeqH.done ?_
    (try simp only [W1.out, W2.out])
    go_wp2
    go_ret2
    exact ⟨rfl, hS.2.2⟩

end Go.Proofs.YtmmmlcnclehilaaDoor
