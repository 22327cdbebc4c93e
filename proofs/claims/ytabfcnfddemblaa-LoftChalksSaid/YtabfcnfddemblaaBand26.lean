/- Flaw and Press, of the program and of the reference. -/
import Derived.Test.YtabfcnfddemblaaBand25
namespace Go.Proofs.Ytabfcnfddemblaa
open Go.RowKit

namespace Bd
def chFOk (fl : Int) : Bool := decide (0 ≤ fl) && decide (fl ≤ 15)
def chPOk (th : Int) : Bool := decide (1 ≤ th) && decide (th ≤ 1000)
def chaE (rs : List R) (fr to : Int) (ok : Bool) (c : M → M) : Int := if sliE rs fr to = 0 then (if ok = true then toldE (repL rs fr (mapR c (cutL rs fr to))) else 1) else sliE rs fr to
def chaR (rs : List R) (fr to : Int) (ok : Bool) (c : M → M) : List R := if sliE rs fr to = 0 then (if ok = true then toldR (repL rs fr (mapR c (cutL rs fr to))) else []) else []
theorem cha_ok {rs : List R} {fr to : Int} {ok : Bool} {c : M → M} (h : sliE rs fr to = 0) (ho : ok = true) : chaE rs fr to ok c = toldE (repL rs fr (mapR c (cutL rs fr to))) ∧ chaR rs fr to ok c = toldR (repL rs fr (mapR c (cutL rs fr to))) := by
  unfold chaE chaR; rw [if_pos h, if_pos h, if_pos ho, if_pos ho]; exact ⟨rfl, rfl⟩
theorem cha_bad {rs : List R} {fr to : Int} {ok : Bool} {c : M → M} (h : sliE rs fr to = 0) (ho : ok = false) : chaE rs fr to ok c = 1 ∧ chaR rs fr to ok c = [] := by
  unfold chaE chaR; rw [if_pos h, if_pos h, if_neg (by simp [ho]), if_neg (by simp [ho])]; exact ⟨rfl, rfl⟩
theorem cha_inv {rs : List R} {fr to : Int} {ok : Bool} {c : M → M} (h : sliE rs fr to ≠ 0) : chaE rs fr to ok c = sliE rs fr to ∧ chaR rs fr to ok c = [] := by
  unfold chaE chaR; rw [if_neg h, if_neg h]; exact ⟨rfl, rfl⟩
end Bd

theorem cellsR_setOne : ∀ (rs : List Bd.R) (k i : Nat) (x : Int) (q : Bd.R), k < rs.length → i < 4 → (runC (rs.getD k default)).set i (.int .i64 x) = runC q → (cellsR rs).set (k * 4 + i) (.int .i64 x) = cellsR (rs.set k q)
  | [], k, i, x, q, h, _, _ => by simp at h
  | r :: b, 0, i, x, q, _, hi, e => by
    show (runC r ++ cellsR b).set (0 * 4 + i) _ = runC q ++ cellsR b
    simp only [List.getD_cons_zero] at e
    rw [Nat.zero_mul, Nat.zero_add, List.set_append_left _ _ (by simpa [runC] using hi), e]
  | r :: b, k + 1, i, x, q, h, hi, e => by
    simp only [List.getD_cons_succ] at e
    have ih := cellsR_setOne b k i x q (by simpa using h) hi e
    show (runC r ++ cellsR b).set ((k + 1) * 4 + i) _ = runC r ++ cellsR (b.set k q)
    rw [← ih, List.set_append_right _ _ (by simp [runC]; omega)]
    congr 2
    simp [runC]; omega
theorem Own.setOne {base : Nat} {w : World} {g n cap : Nat} {rs : List Bd.R} (h : Own base w (.slice (some ⟨g, 0, none⟩) n cap) rs) (hn : rs.length = n) (k i : Nat) (x : Int) (m : Bd.M) (hk : k < n) {q : Bd.R} (hq : rs.getD k default = q) (e : (runC q).set i (.int .i64 x) = runC ⟨q.l, m⟩ ∧ i < 4) :
    Own base (w.setCell ⟨g, k * 4 + i, none⟩ (.int .i64 x)) (.slice (some ⟨g, 0, none⟩) n cap) (rs.set k ⟨q.l, m⟩) := by
  subst hn hq
  have h1 := (World.ownsRow.stored h (k * 4 + i) (.int .i64 x)).1
  rw [cellsR_setOne rs k i x ⟨(rs.getD k default).l, m⟩ hk e.2 e.1] at h1
  unfold Own
  rw [List.length_set]
  exact h1
theorem set_same {rs : List Bd.R} {k : Nat} {q : Bd.R} (hk : k < rs.length) (h : rs.getD k default = q) : rs.set k ⟨q.l, q.m⟩ = rs := by
  rw [getD_run hk] at h
  subst h
  exact List.set_getElem_self hk

set_option maxRecDepth 20000 in
set_option maxHeartbeats 1000000 in
theorem num_flaw_any (v : Value) (rs : List Bd.R) (fr to fl : Int) (w : World) (hv : Runs w v rs) (hl : rs.length ≤ 1000) :
    Calls Try.prog 109 #[v, .int .i64 fr, .int .i64 to, .int .i64 fl] w fun e w' => ∃ x, e = .returned (.tuple #[x, .int .i64 (Bd.chaE rs fr to (Bd.chFOk fl) (Bd.chF fl))]) ∧ Own w.heap.size w' x (Bd.chaR rs fr to (Bd.chFOk fl) (Bd.chF fl)) ∧ Below w.heap.size w w' := by
  have V := Lib.hid (fun W (hW : Below w.heap.size w W) => validate_span_any v rs fr to W (hv.all hW) hl)
  have N := Lib.hid (fun W (hW : Below w.heap.size w W) h => changedF_any v rs fr to fl w.heap.size W (hv.all hW) h)
  obtain ⟨a, c, rfl⟩ := hv.form
  clear hv
  by_cases h : Bd.sliE rs fr to = 0
  · have N := Lib.hid (fun W hW => N.out W hW h)
    rw [h] at V
    rcases (show (0 ≤ fl ∧ fl ≤ 15) ∨ fl < 0 ∨ 15 < fl by omega) with ⟨h1, h2⟩ | h1 | h1
    · obtain ⟨hE, hR⟩ := Bd.cha_ok (c := Bd.chF fl) h (show Bd.chFOk fl = true by simp [Bd.chFOk]; omega)
      rw [hE, hR]
      clear h hE hR
      generalize Bd.repL rs fr (Bd.mapR (Bd.chF fl) (Bd.cutL rs fr to)) = L at *
      go_enter Try.func109, Try.ntmps109
      go_wp2_with fail
      refine (V.out _ ((Below.refl _ _).alloc (Nat.le_refl _) _)).mono ?_
      rintro e w1 ⟨rfl, hb1⟩
      have hB := (hb1.cell (p := ⟨w.heap.size, 0, none⟩) (by simp)).trans (by simp : (w.alloc (.cells #[.int .i64 fl] 3)).cell? ⟨w.heap.size, 0, none⟩ = some (.int .i64 fl))
      have hlt : w.heap.size < w1.heap.size := Nat.lt_of_lt_of_le (by simp) hb1.size
      have hw1 := below_step ((Below.refl w.heap.size w).alloc (Nat.le_refl _) (.cells #[.int .i64 fl] 3)) hb1
      clear hb1
      go_wp2_with fail
      refine (N.out _ hw1 hB hlt).mono ?_
      rintro e w2 ⟨x, rfl, hx, hb2⟩
      obtain ⟨xa, xc, hxf⟩ := hx.runs.form
      subst hxf
      go_wp2
      go_ret2
      exact ⟨_, rfl, hx.mono hw1.size, below_step hw1 hb2⟩
    · obtain ⟨hE, hR⟩ := Bd.cha_bad (c := Bd.chF fl) h (show Bd.chFOk fl = false by simp [Bd.chFOk]; omega)
      have HE := Lib.hid (And.intro hE hR)
      clear N hE hR
      go_enter Try.func109, Try.ntmps109
      go_wp2_with fail
      refine (V.out _ ((Below.refl _ _).alloc (Nat.le_refl _) _)).mono ?_
      rintro e w1 ⟨rfl, hb1⟩
      have hB := (hb1.cell (p := ⟨w.heap.size, 0, none⟩) (by simp)).trans (by simp : (w.alloc (.cells #[.int .i64 fl] 3)).cell? ⟨w.heap.size, 0, none⟩ = some (.int .i64 fl))
      have hw1 := below_step ((Below.refl w.heap.size w).alloc (Nat.le_refl _) (.cells #[.int .i64 fl] 3)) hb1
      go_wp2
      go_ret2
      exact ⟨_, by rw [HE.out.1]; rfl, by rw [HE.out.2]; exact Own.nil _ _, hw1⟩
    · obtain ⟨hE, hR⟩ := Bd.cha_bad (c := Bd.chF fl) h (show Bd.chFOk fl = false by simp [Bd.chFOk]; omega)
      have HE := Lib.hid (And.intro hE hR)
      clear N hE hR
      go_enter Try.func109, Try.ntmps109
      go_wp2_with fail
      refine (V.out _ ((Below.refl _ _).alloc (Nat.le_refl _) _)).mono ?_
      rintro e w1 ⟨rfl, hb1⟩
      have hB := (hb1.cell (p := ⟨w.heap.size, 0, none⟩) (by simp)).trans (by simp : (w.alloc (.cells #[.int .i64 fl] 3)).cell? ⟨w.heap.size, 0, none⟩ = some (.int .i64 fl))
      have hw1 := below_step ((Below.refl w.heap.size w).alloc (Nat.le_refl _) (.cells #[.int .i64 fl] 3)) hb1
      go_wp2
      go_ret2
      exact ⟨_, by rw [HE.out.1]; rfl, by rw [HE.out.2]; exact Own.nil _ _, hw1⟩
  · obtain ⟨hE, hR⟩ := Bd.cha_inv (ok := Bd.chFOk fl) (c := Bd.chF fl) h
    rw [hE, hR]
    generalize Bd.sliE rs fr to = z at *
    have hz : (z == 0) = false := by simp [h]
    clear h N hE hR
    go_enter Try.func109, Try.ntmps109
    go_wp2_with fail
    refine (V.out _ ((Below.refl _ _).alloc (Nat.le_refl _) _)).mono ?_
    rintro e w1 ⟨rfl, hb1⟩
    have hw1 := below_step ((Below.refl w.heap.size w).alloc (Nat.le_refl _) (.cells #[.int .i64 fl] 3)) hb1
    go_wp2
    go_ret2
    exact ⟨_, rfl, Own.nil _ _, hw1⟩

end Go.Proofs.Ytabfcnfddemblaa
