/- Days on which the works is open: the program's and the reference's answers. -/
import Derived.Test.YtfgignbmnfeikabDoorCal4
namespace Go.Proofs.YtfgignbmnfeikabDoor
open Go.RowKit

namespace Cal
/-- Whether the works is open on a day. -/
def openB (rs hs : List Int) (d : Int) : Bool := !hasB hs d && !hasB rs (d % 7)
/-- The error of a calendar and a day. -/
def valD (s e : Int) (rs hs : List Int) (d : Int) : Int := if valE s e rs hs = 0 then (if 0 ≤ d ∧ d ≤ 1999 then 0 else 1) else valE s e rs hs
theorem open_hit {rs hs : List Int} {d : Int} (h : hasB rs (d % 7) = true) : openB rs hs d = false := by simp [openB, h]
theorem open_miss {rs hs : List Int} {d : Int} (h : hasB rs (d % 7) = false) : openB rs hs d = !hasB hs d := by simp [openB, h]
theorem open_eq {rs hs : List Int} {d : Int} (h : 0 ≤ d) : (!hasB hs d && !hasB rs (((d % 7).toNat : Nat) : Int)) = openB rs hs d := by
  rw [show (((d % 7).toNat : Nat) : Int) = d % 7 by omega]; rfl
end Cal
theorem below_step {w wa w1 : World} (h : Below w.heap.size w wa) (hb : Below wa.heap.size wa w1) : Below w.heap.size w w1 := h.trans (hb.mono h.size)

set_option maxRecDepth 20000 in
theorem refOpen_any (s e d : Int) (vr vh : Value) (rs hs : List Int) (w : World) (hr : Ints w vr rs) (hh : Ints w vh hs) (lr : rs.length ≤ 1000) (lh : hs.length ≤ 1000) (d1 : 0 ≤ d) (d2 : d ≤ 100000) :
    Calls Tryd.prog 30 #[cal s e vr vh, .int .i64 d] w fun x w' => x = .returned (.bool (Cal.openB rs hs d)) ∧ Below w.heap.size w w' := by
  obtain ⟨a, c, rfl⟩ := hr.form
  obtain ⟨a', c', rfl⟩ := hh.form
  have SR := Lib.hid (fun n => has_any (.slice a rs.length c) rs (d % 7) ((w.alloc (.cells #[.int .i64 s, .int .i64 e, .slice a rs.length c, .slice a' hs.length c'] 24)).drewN n) ((hr.alloc _).drewN n) lr)
  have SH := Lib.hid (fun n => has_any (.slice a' hs.length c') hs d ((w.alloc (.cells #[.int .i64 s, .int .i64 e, .slice a rs.length c, .slice a' hs.length c'] 24)).drewN n) ((hh.alloc _).drewN n) lh)
  clear hr hh
  by_cases k1 : Cal.hasB rs (d % 7) = true
  · rw [Cal.open_hit k1]
    rw [k1] at SR
    clear k1
    go_enter Tryd.func30, Tryd.ntmps30
    go_wp2_with fail
    refine (SR.out 0).mono ?_
    rintro x w1 ⟨rfl, rfl⟩
    go_wp2
    go_ret
    exact ⟨rfl, by repeat' (first | exact Below.refl _ _ | assumption | apply below_drewN | refine Below.setCell ?_ (by simp <;> omega) _ | refine Below.alloc ?_ (by simp <;> omega) _)⟩
  · have k1' : Cal.hasB rs (d % 7) = false := by simpa using k1
    rw [Cal.open_miss k1']
    rw [k1'] at SR
    clear k1 k1'
    generalize Cal.hasB hs d = g at SH ⊢
    go_enter Tryd.func30, Tryd.ntmps30
    go_wp2_with fail
    refine (SR.out 0).mono ?_
    rintro x w1 ⟨rfl, rfl⟩
    go_wp2_with fail
    refine (SH.out 0).mono ?_
    rintro x w1 ⟨rfl, rfl⟩
    go_wp2
    go_ret
    exact ⟨rfl, by repeat' (first | exact Below.refl _ _ | assumption | apply below_drewN | refine Below.setCell ?_ (by simp <;> omega) _ | refine Below.alloc ?_ (by simp <;> omega) _)⟩

end Go.Proofs.YtfgignbmnfeikabDoor
