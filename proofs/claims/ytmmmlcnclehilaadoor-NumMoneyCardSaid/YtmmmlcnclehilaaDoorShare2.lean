/- The closure by which Share sorts the indices, and the stable sort with it. -/
import Derived.Test.YtmmmlcnclehilaaDoorIns
import Derived.Test.YtmmmlcnclehilaaDoorIntsI
import Derived.Test.YtmmmlcnclehilaaDoorShelf
import Derived.Test.YtmmmlcnclehilaaDoorSeq
namespace Go.Proofs.YtmmmlcnclehilaaDoor
open Go.RowKit

set_option maxRecDepth 20000 in
theorem cmpShare_any (r : Nat → Int) (n kx ky bv bR : Nat) (w : World) (hx : kx < n) (hy : ky < n) (hn : n ≤ 1000)
    (hc : w.cell? ⟨bv, 0, none⟩ = some (.slice (some ⟨bR, 0, none⟩) n n)) (hr : ∀ k, k < n → w.cell? ⟨bR, k, none⟩ = some (.int .i64 (r k))) :
    Calls Tryd.prog 26 #[.int .i64 kx, .int .i64 ky, .pointer (some ⟨bv, 0, none⟩)] w fun e w' => e = .returned (.int .i64 (Lib.compareInt (r ky) (r kx))) ∧ ∃ q, w' = w.drewN q := by
  have C := Lib.hid (Tryd.cmp_Compare_int (r ky) (r kx))
  have cx := hr kx hx
  have cy := hr ky hy
  clear hr
  generalize r kx = rx at *
  generalize r ky = ry at *
  generalize Lib.compareInt ry rx = z at *
  have hS0 : w.drew.cell? ⟨bv, 0, none⟩ = some (.slice (some ⟨bR, 0, none⟩) n n) ∧ w.drew.cell? ⟨bR, kx, none⟩ = some (.int .i64 rx) ∧ w.drew.cell? ⟨bR, ky, none⟩ = some (.int .i64 ry) := ⟨hc, cx, cy⟩
  clear hc cx cy
  go_enter Tryd.func26, Tryd.ntmps26
  go_wp2_with fail
  refine wp_region_seq [(0, true), (1, true), (2, true), (3, true), (4, true), (5, true), (6, true), (7, true), (8, false), (9, true)] (fun W => W.cell? ⟨bv, 0, none⟩ = some (.slice (some ⟨bR, 0, none⟩) n n) ∧ W.cell? ⟨bR, kx, none⟩ = some (.int .i64 rx) ∧ W.cell? ⟨bR, ky, none⟩ = some (.int .i64 ry))
    (by kernel_rfl) (by kernel_rfl) (by kernel_rfl) (by kernel_rfl) (fun d _ _ _ _ h => by cases d <;> exact h) hS0 (fun hS => ?_)
  clear hS0
  repeat (refine SeqH.take (v := ?_) rfl (by rfl) ?_ ?_; rotate_left; (· intro w hSw; obtain ⟨q0, q1, q2⟩ := hSw; go_simp; (try with_reducible rfl)); simp only [Act.put, List.setIfInBounds_toArray, List.set_cons_zero, List.set_cons_succ])
  refine SeqH.step rfl (by rfl) (fun K hK => ?_)
  go_simp
  refine (C.out w.drew).mono ?_
  rintro e w2 ⟨rfl, rfl⟩
  refine hK.out _ _ hS (fun _ => ?_)
  clear hK K C
  try simp only [Act.put, List.setIfInBounds_toArray, List.set_cons_zero, List.set_cons_succ]
  repeat (refine SeqH.take (v := ?_) rfl (by rfl) ?_ ?_; rotate_left; (· intro w hSw; go_simp; (try with_reducible rfl)); simp only [Act.put, List.setIfInBounds_toArray, List.set_cons_zero, List.set_cons_succ])
  refine SeqH.done ?_
  go_wp2
  go_ret
  exact ⟨rfl, 1, rfl⟩
end Go.Proofs.YtmmmlcnclehilaaDoor
