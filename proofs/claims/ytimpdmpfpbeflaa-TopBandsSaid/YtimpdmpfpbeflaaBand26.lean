/- Flaw and Press, of the program and of the reference. -/
import Derived.Test.YtimpdmpfpbeflaaBand25
namespace Go.Proofs.Ytimpdmpfpbeflaa
open Go.RowKit

namespace Bd
def chFOk (fl : Int) : Bool := decide (0 ≤ fl) && decide (fl ≤ 15)
def chPOk (th : Int) : Bool := decide (1 ≤ th) && decide (th ≤ 1000)
def chaE (rs : List R) (fr to : Int) (ok : Bool) (c : M → M) : Int := if sliE rs fr to = 0 then (if ok = true then toldE (repL rs fr (mapR c (cutL rs fr to))) else 1) else sliE rs fr to
def chaR (rs : List R) (fr to : Int) (ok : Bool) (c : M → M) : List R := if sliE rs fr to = 0 then (if ok = true then toldR (repL rs fr (mapR c (cutL rs fr to))) else []) else []
theorem cha_ok {rs : List R} {fr to : Int} {ok : Bool} {c : M → M} (h : sliE rs fr to = 0) (ho : ok = true) : chaE rs fr to ok c = toldE (repL rs fr (mapR c (cutL rs fr to))) ∧ chaR rs fr to ok c = toldR (repL rs fr (mapR c (cutL rs fr to))) := by
  unfold chaE chaR; rw [if_pos h, if_pos h, if_pos ho, if_pos ho]; exact ⟨rfl, rfl⟩
theorem cha_bad {rs : List R} {fr to : Int} {ok : Bool} {c : M → M} (h : sliE rs fr to = 0) (ho : ok = false) : chaE rs fr to ok c = 1 ∧ chaR rs fr to ok c = [] := by
  unfold chaE chaR; rw [if_pos h, if_pos h, if_neg (by simp [ho]), if_neg (by simp [ho])]; exact ⟨rfl, rfl⟩
theorem cha_inv {rs : List R} {fr to : Int} {ok : Bool} {c : M → M} (h : sliE rs fr to ≠ 0) : chaE rs fr to ok c = sliE rs fr to ∧ chaR rs fr to ok c = [] := by
  unfold chaE chaR; rw [if_neg h, if_neg h]; exact ⟨rfl, rfl⟩
end Bd

theorem cellsR_setOne : ∀ (rs : List Bd.R) (k i : Nat) (x : Int) (q : Bd.R), k < rs.length → i < 4 → (runC (rs.getD k default)).set i (.int .i64 x) = runC q → (cellsR rs).set (k * 4 + i) (.int .i64 x) = cellsR (rs.set k q)
  | [], k, i, x, q, h, _, _ => by simp at h
  | r :: b, 0, i, x, q, _, hi, e => by
    show (runC r ++ cellsR b).set (0 * 4 + i) _ = runC q ++ cellsR b
    simp only [List.getD_cons_zero] at e
    rw [Nat.zero_mul, Nat.zero_add, List.set_append_left _ _ (by simpa [runC] using hi), e]
  | r :: b, k + 1, i, x, q, h, hi, e => by
    simp only [List.getD_cons_succ] at e
    have ih := cellsR_setOne b k i x q (by simpa using h) hi e
    show (runC r ++ cellsR b).set ((k + 1) * 4 + i) _ = runC r ++ cellsR (b.set k q)
    rw [← ih, List.set_append_right _ _ (by simp [runC]; omega)]
    congr 2
    simp [runC]; omega
theorem Own.setOne {base : Nat} {w : World} {g n cap : Nat} {rs : List Bd.R} (h : Own base w (.slice (some ⟨g, 0, none⟩) n cap) rs) (hn : rs.length = n) (k i : Nat) (x : Int) (m : Bd.M) (hk : k < n) {q : Bd.R} (hq : rs.getD k default = q) (e : (runC q).set i (.int .i64 x) = runC ⟨q.l, m⟩ ∧ i < 4) :
    Own base (w.setCell ⟨g, k * 4 + i, none⟩ (.int .i64 x)) (.slice (some ⟨g, 0, none⟩) n cap) (rs.set k ⟨q.l, m⟩) := by
  subst hn hq
  have h1 := (World.ownsRow.stored h (k * 4 + i) (.int .i64 x)).1
  rw [cellsR_setOne rs k i x ⟨(rs.getD k default).l, m⟩ hk e.2 e.1] at h1
  unfold Own
  rw [List.length_set]
  exact h1
theorem set_same {rs : List Bd.R} {k : Nat} {q : Bd.R} (hk : k < rs.length) (h : rs.getD k default = q) : rs.set k ⟨q.l, q.m⟩ = rs := by
  rw [getD_run hk] at h
  subst h
  exact List.set_getElem_self hk

set_option maxRecDepth 20000 in
set_option maxHeartbeats 1000000 in
theorem num_flaw_any (v : Value) (rs : List Bd.R) (fr to fl : Int) (w : World) (hv : Runs w v rs) (hl : rs.length ≤ 1000) :
    Calls Try.prog 40 #[v, .int .i64 fr, .int .i64 to, .int .i64 fl] w fun e w' => ∃ x, e = .returned (.tuple #[x, .int .i64 (Bd.chaE rs fr to (Bd.chFOk fl) (Bd.chF fl))]) ∧ Own w.heap.size w' x (Bd.chaR rs fr to (Bd.chFOk fl) (Bd.chF fl)) ∧ Below w.heap.size w w' := by
  have V := Lib.hid (fun W (hW : Below w.heap.size w W) => validate_span_any v rs fr to W (hv.all hW) hl)
  have N := Lib.hid (fun W (hW : Below w.heap.size w W) h => changedF_any v rs fr to fl w.heap.size W (hv.all hW) h)
  obtain ⟨a, c, rfl⟩ := hv.form
  clear hv
  by_cases h : Bd.sliE rs fr to = 0
  · have N := Lib.hid (fun W hW => N.out W hW h)
    rw [h] at V
    rcases (show (0 ≤ fl ∧ fl ≤ 15) ∨ fl < 0 ∨ 15 < fl by omega) with ⟨h1, h2⟩ | h1 | h1
    · obtain ⟨hE, hR⟩ := Bd.cha_ok (c := Bd.chF fl) h (show Bd.chFOk fl = true by simp [Bd.chFOk]; omega)
      rw [hE, hR]
      clear h hE hR
      generalize Bd.repL rs fr (Bd.mapR (Bd.chF fl) (Bd.cutL rs fr to)) = L at *
      go_enter Try.func40, Try.ntmps40
      go_wp2_with fail
      refine (V.out _ ((Below.refl _ _).alloc (Nat.le_refl _) _)).mono ?_
      rintro e w1 ⟨rfl, hb1⟩
      have hB := (hb1.cell (p := ⟨w.heap.size, 0, none⟩) (by simp)).trans (by simp : (w.alloc (.cells #[.int .i64 fl] 3)).cell? ⟨w.heap.size, 0, none⟩ = some (.int .i64 fl))
      have hlt : w.heap.size < w1.heap.size := Nat.lt_of_lt_of_le (by simp) hb1.size
      have hw1 := below_step ((Below.refl w.heap.size w).alloc (Nat.le_refl _) (.cells #[.int .i64 fl] 3)) hb1
      clear hb1
      go_wp2_with fail
      refine (N.out _ hw1 hB hlt).mono ?_
      rintro e w2 ⟨x, rfl, hx, hb2⟩
      obtain ⟨xa, xc, hxf⟩ := hx.runs.form
      subst hxf
      go_wp2
      go_ret2
      exact ⟨_, rfl, hx.mono hw1.size, below_step hw1 hb2⟩
    · obtain ⟨hE, hR⟩ := Bd.cha_bad (c := Bd.chF fl) h (show Bd.chFOk fl = false by simp [Bd.chFOk]; omega)
      have HE := Lib.hid (And.intro hE hR)
      clear N hE hR
      go_enter Try.func40, Try.ntmps40
      go_wp2_with fail
      refine (V.out _ ((Below.refl _ _).alloc (Nat.le_refl _) _)).mono ?_
      rintro e w1 ⟨rfl, hb1⟩
      have hB := (hb1.cell (p := ⟨w.heap.size, 0, none⟩) (by simp)).trans (by simp : (w.alloc (.cells #[.int .i64 fl] 3)).cell? ⟨w.heap.size, 0, none⟩ = some (.int .i64 fl))
      have hw1 := below_step ((Below.refl w.heap.size w).alloc (Nat.le_refl _) (.cells #[.int .i64 fl] 3)) hb1
      go_wp2
      go_ret2
      exact ⟨_, by rw [HE.out.1]; rfl, by rw [HE.out.2]; exact Own.nil _ _, hw1⟩
    · obtain ⟨hE, hR⟩ := Bd.cha_bad (c := Bd.chF fl) h (show Bd.chFOk fl = false by simp [Bd.chFOk]; omega)
      have HE := Lib.hid (And.intro hE hR)
      clear N hE hR
      go_enter Try.func40, Try.ntmps40
      go_wp2_with fail
      refine (V.out _ ((Below.refl _ _).alloc (Nat.le_refl _) _)).mono ?_
      rintro e w1 ⟨rfl, hb1⟩
      have hB := (hb1.cell (p := ⟨w.heap.size, 0, none⟩) (by simp)).trans (by simp : (w.alloc (.cells #[.int .i64 fl] 3)).cell? ⟨w.heap.size, 0, none⟩ = some (.int .i64 fl))
      have hw1 := below_step ((Below.refl w.heap.size w).alloc (Nat.le_refl _) (.cells #[.int .i64 fl] 3)) hb1
      go_wp2
      go_ret2
      exact ⟨_, by rw [HE.out.1]; rfl, by rw [HE.out.2]; exact Own.nil _ _, hw1⟩
  · obtain ⟨hE, hR⟩ := Bd.cha_inv (ok := Bd.chFOk fl) (c := Bd.chF fl) h
    rw [hE, hR]
    generalize Bd.sliE rs fr to = z at *
    have hz : (z == 0) = false := by simp [h]
    clear h N hE hR
    go_enter Try.func40, Try.ntmps40
    go_wp2_with fail
    refine (V.out _ ((Below.refl _ _).alloc (Nat.le_refl _) _)).mono ?_
    rintro e w1 ⟨rfl, hb1⟩
    have hw1 := below_step ((Below.refl w.heap.size w).alloc (Nat.le_refl _) (.cells #[.int .i64 fl] 3)) hb1
    go_wp2
    go_ret2
    exact ⟨_, rfl, Own.nil _ _, hw1⟩

set_option maxRecDepth 20000 in
set_option maxHeartbeats 1000000 in
theorem num_press_any (v : Value) (rs : List Bd.R) (fr to th : Int) (w : World) (hv : Runs w v rs) (hl : rs.length ≤ 1000) :
    Calls Try.prog 42 #[v, .int .i64 fr, .int .i64 to, .int .i64 th] w fun e w' => ∃ x, e = .returned (.tuple #[x, .int .i64 (Bd.chaE rs fr to (Bd.chPOk th) (Bd.chP th))]) ∧ Own w.heap.size w' x (Bd.chaR rs fr to (Bd.chPOk th) (Bd.chP th)) ∧ Below w.heap.size w w' := by
  have V := Lib.hid (fun W (hW : Below w.heap.size w W) => validate_span_any v rs fr to W (hv.all hW) hl)
  have N := Lib.hid (fun W (hW : Below w.heap.size w W) h => changedP_any v rs fr to th w.heap.size W (hv.all hW) h)
  obtain ⟨a, c, rfl⟩ := hv.form
  clear hv
  by_cases h : Bd.sliE rs fr to = 0
  · have N := Lib.hid (fun W hW => N.out W hW h)
    rw [h] at V
    rcases (show (1 ≤ th ∧ th ≤ 1000) ∨ th < 1 ∨ 1000 < th by omega) with ⟨h1, h2⟩ | h1 | h1
    · obtain ⟨hE, hR⟩ := Bd.cha_ok (c := Bd.chP th) h (show Bd.chPOk th = true by simp [Bd.chPOk]; omega)
      rw [hE, hR]
      clear h hE hR
      generalize Bd.repL rs fr (Bd.mapR (Bd.chP th) (Bd.cutL rs fr to)) = L at *
      go_enter Try.func42, Try.ntmps42
      go_wp2_with fail
      refine (V.out _ ((Below.refl _ _).alloc (Nat.le_refl _) _)).mono ?_
      rintro e w1 ⟨rfl, hb1⟩
      have hB := (hb1.cell (p := ⟨w.heap.size, 0, none⟩) (by simp)).trans (by simp : (w.alloc (.cells #[.int .i64 th] 3)).cell? ⟨w.heap.size, 0, none⟩ = some (.int .i64 th))
      have hlt : w.heap.size < w1.heap.size := Nat.lt_of_lt_of_le (by simp) hb1.size
      have hw1 := below_step ((Below.refl w.heap.size w).alloc (Nat.le_refl _) (.cells #[.int .i64 th] 3)) hb1
      clear hb1
      go_wp2_with fail
      refine (N.out _ hw1 hB hlt).mono ?_
      rintro e w2 ⟨x, rfl, hx, hb2⟩
      obtain ⟨xa, xc, hxf⟩ := hx.runs.form
      subst hxf
      go_wp2
      go_ret2
      exact ⟨_, rfl, hx.mono hw1.size, below_step hw1 hb2⟩
    · obtain ⟨hE, hR⟩ := Bd.cha_bad (c := Bd.chP th) h (show Bd.chPOk th = false by simp [Bd.chPOk]; omega)
      have HE := Lib.hid (And.intro hE hR)
      clear N hE hR
      go_enter Try.func42, Try.ntmps42
      go_wp2_with fail
      refine (V.out _ ((Below.refl _ _).alloc (Nat.le_refl _) _)).mono ?_
      rintro e w1 ⟨rfl, hb1⟩
      have hB := (hb1.cell (p := ⟨w.heap.size, 0, none⟩) (by simp)).trans (by simp : (w.alloc (.cells #[.int .i64 th] 3)).cell? ⟨w.heap.size, 0, none⟩ = some (.int .i64 th))
      have hw1 := below_step ((Below.refl w.heap.size w).alloc (Nat.le_refl _) (.cells #[.int .i64 th] 3)) hb1
      go_wp2
      go_ret2
      exact ⟨_, by rw [HE.out.1]; rfl, by rw [HE.out.2]; exact Own.nil _ _, hw1⟩
    · obtain ⟨hE, hR⟩ := Bd.cha_bad (c := Bd.chP th) h (show Bd.chPOk th = false by simp [Bd.chPOk]; omega)
      have HE := Lib.hid (And.intro hE hR)
      clear N hE hR
      go_enter Try.func42, Try.ntmps42
      go_wp2_with fail
      refine (V.out _ ((Below.refl _ _).alloc (Nat.le_refl _) _)).mono ?_
      rintro e w1 ⟨rfl, hb1⟩
      have hB := (hb1.cell (p := ⟨w.heap.size, 0, none⟩) (by simp)).trans (by simp : (w.alloc (.cells #[.int .i64 th] 3)).cell? ⟨w.heap.size, 0, none⟩ = some (.int .i64 th))
      have hw1 := below_step ((Below.refl w.heap.size w).alloc (Nat.le_refl _) (.cells #[.int .i64 th] 3)) hb1
      go_wp2
      go_ret2
      exact ⟨_, by rw [HE.out.1]; rfl, by rw [HE.out.2]; exact Own.nil _ _, hw1⟩
  · obtain ⟨hE, hR⟩ := Bd.cha_inv (ok := Bd.chPOk th) (c := Bd.chP th) h
    rw [hE, hR]
    generalize Bd.sliE rs fr to = z at *
    have hz : (z == 0) = false := by simp [h]
    clear h N hE hR
    go_enter Try.func42, Try.ntmps42
    go_wp2_with fail
    refine (V.out _ ((Below.refl _ _).alloc (Nat.le_refl _) _)).mono ?_
    rintro e w1 ⟨rfl, hb1⟩
    have hw1 := below_step ((Below.refl w.heap.size w).alloc (Nat.le_refl _) (.cells #[.int .i64 th] 3)) hb1
    go_wp2
    go_ret2
    exact ⟨_, rfl, Own.nil _ _, hw1⟩

set_option maxRecDepth 20000 in
set_option maxHeartbeats 4000000 in
theorem ref_flaw_any (v : Value) (rs : List Bd.R) (fr to fl : Int) (w : World) (hv : Runs w v rs) (hl : rs.length ≤ 1000) :
    Calls Try.prog 41 #[v, .int .i64 fr, .int .i64 to, .int .i64 fl] w fun e w' => ∃ x, e = .returned (.tuple #[x, .int .i64 (Bd.chaE rs fr to (Bd.chFOk fl) (Bd.chF fl))]) ∧ Own w.heap.size w' x (Bd.chaR rs fr to (Bd.chFOk fl) (Bd.chF fl)) ∧ Below w.heap.size w w' := by
  have V := Lib.hid (ref_validate_any v rs w hv hl)
  by_cases hv0 : Bd.valE rs = 0
  · have S := Lib.hid (fun W (hW : Below w.heap.size w W) => span_any v rs fr to W (hv.all hW) hv0)
    rw [hv0] at V
    by_cases h : Bd.sliE rs fr to = 0
    · have S := Lib.hid (fun W hW => (by have := S.out W hW; rw [h] at this; exact this : Calls Try.prog _ _ W fun e w' => e = .returned (.bool true) ∧ Below W.heap.size W w'))
      obtain ⟨z0, z1, z2, z3⟩ := Bd.sliE_zero.1 h
      have hf := Bd.fine_of_valid z0
      have hlv := Bd.len_valid z0
      have hcl := Bd.len_cutL hf z1 z2 z3
      have hcn := Bd.cutL_length rs fr to
      obtain ⟨a1, _, _⟩ := Bd.valE_zero z0
      have P1 := Lib.hid (fun W (hW : Below w.heap.size w W) => ref_cut_any v rs fr to W (hv.all hW) hf (by omega) (by omega) (by omega) (by omega))
      have R1 := Lib.hid (fun u W (hW : Below w.heap.size w W) (hu : Runs W u (Bd.mapR (Bd.chF fl) (Bd.cutL rs fr to))) => ref_changed_any v u rs _ fr to W (hv.all hW) hu z0 z1 (Bd.pos_mapR (Bd.pos_cutL rs fr to)) (by rw [Bd.mapR_length]; omega) (by rw [Bd.len_mapR]; omega) (by rw [Bd.len_mapR]; omega))
      obtain ⟨a, cc, rfl⟩ := hv.form
      rcases (show (0 ≤ fl ∧ fl ≤ 15) ∨ (fl < 0 ∨ 15 < fl) by omega) with h1 | h1
      · obtain ⟨hE, hR⟩ := Bd.cha_ok (c := Bd.chF fl) h (show Bd.chFOk fl = true by simp [Bd.chFOk]; omega)
        rw [hE, hR]
        generalize Bd.repL rs fr (Bd.mapR (Bd.chF fl) (Bd.cutL rs fr to)) = L at *
        clear hv h hE hR z0 z1 z2 z3 hf hlv hcl hv0
        generalize Bd.cutL rs fr to = cs at *
        go_enter Try.func41, Try.ntmps41
        go_wp2_with fail
        refine V.out.mono ?_
        rintro e w1 ⟨rfl, hb1⟩
        go_wp2_with fail
        refine (S.out _ hb1).mono ?_
        rintro e w2 ⟨rfl, hb2⟩
        have hw2 := below_step hb1 hb2
        clear hb1 hb2
        go_wp2_with fail
        refine (within_true _ _ _ _ h1).mono ?_
        rintro e w2' ⟨rfl, rfl⟩
        go_wp2_with fail
        refine (P1.out _ hw2).mono ?_
        rintro e w3 ⟨x, rfl, hx, hb3⟩
        have hx := hx.mono hw2.size
        have hw3 := below_step hw2 hb3
        clear P1 V S hb3 hw2
        rcases hx.form with ⟨rfl, rfl⟩ | ⟨g, cap, rfl, hg1, hg2, hg3, hg4, hg5⟩
        · go_wp2
          go_loop [12] (fun t => t = .int .i64 0) (fun t => (0 - intOf t).toNat)
          case atStart => exact rfl
          case round =>
            obtain rfl := hrel
            have R2 := Lib.hid (R1.out (.slice none 0 0) w3 hw3 hx.runs)
            clear hx
            go_wp2_with fail
            refine R2.out.mono ?_
            rintro e w4 ⟨y, rfl, hy, hb4⟩
            obtain ⟨ya, yc, hyf⟩ := hy.runs.form
            subst hyf
            go_wp2
            go_ret2
            exact ⟨_, rfl, hy.mono hw3.size, below_step hw3 hb4⟩
        · generalize hn : cs.length = n at *
          have HN := Lib.hid (And.intro hn (And.intro hx hw3))
          clear hn hx hg3 hg4 hg5 hg2 hw3
          go_wp2
          go_loopw [12] (fun t wr => ∃ (k : Nat), k ≤ n ∧ t = .int .i64 k ∧ Hid (Own w.heap.size wr (.slice (some ⟨g, 0, none⟩) n cap) (Bd.part (Bd.chF fl) cs k) ∧ Below w.heap.size w wr)) (fun t _ => n - (intOf t).toNat)
          case atStart => exact ⟨0, Nat.zero_le _, rfl, Lib.hid ⟨by rw [Bd.part_zero]; exact HN.out.2.1, HN.out.2.2⟩⟩
          case round =>
            obtain ⟨k, hk, rfl, hg⟩ := hrel
            by_cases hkn : k < n
            · obtain ⟨hown, hw⟩ := hg.out
              have hkc : k < cs.length := by have := HN.out.1; omega
              have hpl : (Bd.part (Bd.chF fl) cs k).length = n := (Bd.part_length _ _ _).trans HN.out.1
              rcases hown.form with ⟨h, _⟩ | ⟨g', cap', h, _, hgl, _, hfz, hr⟩
              · simp at h
              · rw [hpl] at h
                obtain ⟨rfl, rfl⟩ : g = g' ∧ cap = cap' := by simpa using h
                obtain ⟨c0, c1, c2, c3⟩ := hr k (by omega)
                rw [Bd.part_at hkc] at c0 c1 c2 c3
                have hset := Lib.hid (Bd.part_succ (c := Bd.chF fl) hkc)
                have hpk := Bd.part_at (c := Bd.chF fl) hkc
                have ff := hfz (k * 4 + 3)
                generalize hrr : cs[k] = r at *
                have hs := hown.setOne hpl k 3 (Bd.chF fl r.m).f (Bd.chF fl r.m) hkn hpk (by simp [runC, Bd.chF])
                have hsw := hw.setCell (p := ⟨g, k * 4 + 3, none⟩) hg1 (.int .i64 (Bd.chF fl r.m).f)
                have HS := Lib.hid (And.intro hs hsw)
                clear hs hsw hown hw hrr hg h hpl hfz hr hpk
                go_wp2
                go_roundw
                case rel => exact ⟨k + 1, by omega, by go_num, Lib.hid ⟨by rw [← hset.out]; exact HS.out.1, HS.out.2⟩⟩
                case measure => simp [intOf]; omega
            · obtain rfl : k = n := by omega
              obtain ⟨hown, hw⟩ := hg.out
              have hall : Bd.part (Bd.chF fl) cs k = Bd.mapR (Bd.chF fl) cs := by rw [← HN.out.1, Bd.part_all]
              rw [hall] at hown
              have R2 := Lib.hid (R1.out _ _ hw hown.runs)
              clear hown hg hall
              go_wp2_with fail
              refine R2.out.mono ?_
              rintro e w4 ⟨y, rfl, hy, hb4⟩
              obtain ⟨ya, yc, hyf⟩ := hy.runs.form
              subst hyf
              go_wp2
              go_ret2
              exact ⟨_, rfl, hy.mono hw.size, below_step hw hb4⟩
      · obtain ⟨hE, hR⟩ := Bd.cha_bad (c := Bd.chF fl) h (show Bd.chFOk fl = false by simp [Bd.chFOk]; omega)
        rw [hE, hR]
        clear hv h hE hR z0 z1 z2 z3 hf hlv hcl hv0 P1 R1
        go_enter Try.func41, Try.ntmps41
        go_wp2_with fail
        refine V.out.mono ?_
        rintro e w1 ⟨rfl, hb1⟩
        go_wp2_with fail
        refine (S.out _ hb1).mono ?_
        rintro e w2 ⟨rfl, hb2⟩
        have hw2 := below_step hb1 hb2
        go_wp2_with fail
        refine (within_false _ _ _ _ h1).mono ?_
        rintro e w2' ⟨rfl, rfl⟩
        go_wp2
        go_ret2
        exact ⟨_, rfl, Own.nil _ _, hw2⟩
    · have h1 : Bd.sliE rs fr to = 1 := by
        unfold Bd.sliE at h ⊢
        rw [if_pos hv0] at h ⊢
        by_cases hs : Bd.spanOk rs fr to
        · rw [if_pos hs] at h; exact absurd rfl h
        · rw [if_neg hs]
      obtain ⟨hE, hR⟩ := Bd.cha_inv (ok := Bd.chFOk fl) (c := Bd.chF fl) h
      rw [hE, hR, h1]
      have S := Lib.hid (fun W hW => (by have := S.out W hW; rw [h1] at this; exact this : Calls Try.prog _ _ W fun e w' => e = .returned (.bool false) ∧ Below W.heap.size W w'))
      obtain ⟨a, cc, rfl⟩ := hv.form
      clear hv h h1 hv0 hE hR
      go_enter Try.func41, Try.ntmps41
      go_wp2_with fail
      refine V.out.mono ?_
      rintro e w1 ⟨rfl, hb1⟩
      go_wp2_with fail
      refine (S.out _ hb1).mono ?_
      rintro e w2 ⟨rfl, hb2⟩
      have hw2 := below_step hb1 hb2
      go_wp2
      go_ret2
      exact ⟨_, rfl, Own.nil _ _, hw2⟩
  · have h : Bd.sliE rs fr to ≠ 0 := by rw [Bd.sliE_inv hv0]; exact hv0
    obtain ⟨hE, hR⟩ := Bd.cha_inv (ok := Bd.chFOk fl) (c := Bd.chF fl) h
    rw [hE, hR, Bd.sliE_inv hv0]
    obtain ⟨a, cc, rfl⟩ := hv.form
    generalize Bd.valE rs = z at *
    have hz : (z == 0) = false := by simp [hv0]
    clear hv h hE hR hv0
    go_enter Try.func41, Try.ntmps41
    go_wp2_with fail
    refine V.out.mono ?_
    rintro e w1 ⟨rfl, hb1⟩
    go_wp2
    go_ret2
    exact ⟨_, rfl, Own.nil _ _, hb1⟩

set_option maxRecDepth 20000 in
set_option maxHeartbeats 4000000 in
theorem ref_press_any (v : Value) (rs : List Bd.R) (fr to th : Int) (w : World) (hv : Runs w v rs) (hl : rs.length ≤ 1000) :
    Calls Try.prog 43 #[v, .int .i64 fr, .int .i64 to, .int .i64 th] w fun e w' => ∃ x, e = .returned (.tuple #[x, .int .i64 (Bd.chaE rs fr to (Bd.chPOk th) (Bd.chP th))]) ∧ Own w.heap.size w' x (Bd.chaR rs fr to (Bd.chPOk th) (Bd.chP th)) ∧ Below w.heap.size w w' := by
  have V := Lib.hid (ref_validate_any v rs w hv hl)
  by_cases hv0 : Bd.valE rs = 0
  · have S := Lib.hid (fun W (hW : Below w.heap.size w W) => span_any v rs fr to W (hv.all hW) hv0)
    rw [hv0] at V
    by_cases h : Bd.sliE rs fr to = 0
    · have S := Lib.hid (fun W hW => (by have := S.out W hW; rw [h] at this; exact this : Calls Try.prog _ _ W fun e w' => e = .returned (.bool true) ∧ Below W.heap.size W w'))
      obtain ⟨z0, z1, z2, z3⟩ := Bd.sliE_zero.1 h
      have hf := Bd.fine_of_valid z0
      have hlv := Bd.len_valid z0
      have hcl := Bd.len_cutL hf z1 z2 z3
      have hcn := Bd.cutL_length rs fr to
      obtain ⟨a1, _, _⟩ := Bd.valE_zero z0
      have P1 := Lib.hid (fun W (hW : Below w.heap.size w W) => ref_cut_any v rs fr to W (hv.all hW) hf (by omega) (by omega) (by omega) (by omega))
      have R1 := Lib.hid (fun u W (hW : Below w.heap.size w W) (hu : Runs W u (Bd.mapR (Bd.chP th) (Bd.cutL rs fr to))) => ref_changed_any v u rs _ fr to W (hv.all hW) hu z0 z1 (Bd.pos_mapR (Bd.pos_cutL rs fr to)) (by rw [Bd.mapR_length]; omega) (by rw [Bd.len_mapR]; omega) (by rw [Bd.len_mapR]; omega))
      obtain ⟨a, cc, rfl⟩ := hv.form
      rcases (show (1 ≤ th ∧ th ≤ 1000) ∨ (th < 1 ∨ 1000 < th) by omega) with h1 | h1
      · obtain ⟨hE, hR⟩ := Bd.cha_ok (c := Bd.chP th) h (show Bd.chPOk th = true by simp [Bd.chPOk]; omega)
        rw [hE, hR]
        generalize Bd.repL rs fr (Bd.mapR (Bd.chP th) (Bd.cutL rs fr to)) = L at *
        clear hv h hE hR z0 z1 z2 z3 hf hlv hcl hv0
        generalize Bd.cutL rs fr to = cs at *
        go_enter Try.func43, Try.ntmps43
        go_wp2_with fail
        refine V.out.mono ?_
        rintro e w1 ⟨rfl, hb1⟩
        go_wp2_with fail
        refine (S.out _ hb1).mono ?_
        rintro e w2 ⟨rfl, hb2⟩
        have hw2 := below_step hb1 hb2
        clear hb1 hb2
        go_wp2_with fail
        refine (within_true _ _ _ _ h1).mono ?_
        rintro e w2' ⟨rfl, rfl⟩
        go_wp2_with fail
        refine (P1.out _ hw2).mono ?_
        rintro e w3 ⟨x, rfl, hx, hb3⟩
        have hx := hx.mono hw2.size
        have hw3 := below_step hw2 hb3
        clear P1 V S hb3 hw2
        rcases hx.form with ⟨rfl, rfl⟩ | ⟨g, cap, rfl, hg1, hg2, hg3, hg4, hg5⟩
        · go_wp2
          go_loop [12] (fun t => t = .int .i64 0) (fun t => (0 - intOf t).toNat)
          case atStart => exact rfl
          case round =>
            obtain rfl := hrel
            have R2 := Lib.hid (R1.out (.slice none 0 0) w3 hw3 hx.runs)
            clear hx
            go_wp2_with fail
            refine R2.out.mono ?_
            rintro e w4 ⟨y, rfl, hy, hb4⟩
            obtain ⟨ya, yc, hyf⟩ := hy.runs.form
            subst hyf
            go_wp2
            go_ret2
            exact ⟨_, rfl, hy.mono hw3.size, below_step hw3 hb4⟩
        · generalize hn : cs.length = n at *
          have HN := Lib.hid (And.intro hn (And.intro hx hw3))
          clear hn hx hg3 hg4 hg5 hg2 hw3
          go_wp2
          go_loopw [12] (fun t wr => ∃ (k : Nat), k ≤ n ∧ t = .int .i64 k ∧ Hid (Own w.heap.size wr (.slice (some ⟨g, 0, none⟩) n cap) (Bd.part (Bd.chP th) cs k) ∧ Below w.heap.size w wr)) (fun t _ => n - (intOf t).toNat)
          case atStart => exact ⟨0, Nat.zero_le _, rfl, Lib.hid ⟨by rw [Bd.part_zero]; exact HN.out.2.1, HN.out.2.2⟩⟩
          case round =>
            obtain ⟨k, hk, rfl, hg⟩ := hrel
            by_cases hkn : k < n
            · obtain ⟨hown, hw⟩ := hg.out
              have hkc : k < cs.length := by have := HN.out.1; omega
              have hpl : (Bd.part (Bd.chP th) cs k).length = n := (Bd.part_length _ _ _).trans HN.out.1
              rcases hown.form with ⟨h, _⟩ | ⟨g', cap', h, _, hgl, _, hfz, hr⟩
              · simp at h
              · rw [hpl] at h
                obtain ⟨rfl, rfl⟩ : g = g' ∧ cap = cap' := by simpa using h
                obtain ⟨c0, c1, c2, c3⟩ := hr k (by omega)
                rw [Bd.part_at hkc] at c0 c1 c2 c3
                have hset := Lib.hid (Bd.part_succ (c := Bd.chP th) hkc)
                have hpk := Bd.part_at (c := Bd.chP th) hkc
                have ff := hfz (k * 4 + 1)
                generalize hrr : cs[k] = r at *
                by_cases hth : th < r.m.t
                · have hs := hown.setOne hpl k 1 th (Bd.chP th r.m) hkn hpk (by simp [runC, Bd.chP, Int.min_eq_right (Int.le_of_lt hth)])
                  have hsw := hw.setCell (p := ⟨g, k * 4 + 1, none⟩) hg1 (.int .i64 th)
                  have HS := Lib.hid (And.intro hs hsw)
                  clear hs hsw hown hw hrr hg h hpl hfz hr hpk
                  go_wp2
                  go_roundw
                  case rel => exact ⟨k + 1, by omega, by go_num, Lib.hid ⟨by rw [← hset.out]; exact HS.out.1, HS.out.2⟩⟩
                  case measure => simp [intOf]; omega
                · have hse : Bd.chP th r.m = r.m := by unfold Bd.chP; rw [Int.min_eq_left (by omega)]
                  have hs : (Bd.part (Bd.chP th) cs k).set k ⟨r.l, Bd.chP th r.m⟩ = Bd.part (Bd.chP th) cs k := by
                    rw [hse]; exact set_same (by omega) hpk
                  have HS := Lib.hid (And.intro hs (And.intro hown hw))
                  clear hs hse hown hw hrr hg h hpl hfz hr hpk
                  go_wp2
                  go_roundw
                  case rel => exact ⟨k + 1, by omega, by go_num, Lib.hid ⟨by rw [← hset.out, HS.out.1]; exact HS.out.2.1, HS.out.2.2⟩⟩
                  case measure => simp [intOf]; omega
            · obtain rfl : k = n := by omega
              obtain ⟨hown, hw⟩ := hg.out
              have hall : Bd.part (Bd.chP th) cs k = Bd.mapR (Bd.chP th) cs := by rw [← HN.out.1, Bd.part_all]
              rw [hall] at hown
              have R2 := Lib.hid (R1.out _ _ hw hown.runs)
              clear hown hg hall
              go_wp2_with fail
              refine R2.out.mono ?_
              rintro e w4 ⟨y, rfl, hy, hb4⟩
              obtain ⟨ya, yc, hyf⟩ := hy.runs.form
              subst hyf
              go_wp2
              go_ret2
              exact ⟨_, rfl, hy.mono hw.size, below_step hw hb4⟩
      · obtain ⟨hE, hR⟩ := Bd.cha_bad (c := Bd.chP th) h (show Bd.chPOk th = false by simp [Bd.chPOk]; omega)
        rw [hE, hR]
        clear hv h hE hR z0 z1 z2 z3 hf hlv hcl hv0 P1 R1
        go_enter Try.func43, Try.ntmps43
        go_wp2_with fail
        refine V.out.mono ?_
        rintro e w1 ⟨rfl, hb1⟩
        go_wp2_with fail
        refine (S.out _ hb1).mono ?_
        rintro e w2 ⟨rfl, hb2⟩
        have hw2 := below_step hb1 hb2
        go_wp2_with fail
        refine (within_false _ _ _ _ h1).mono ?_
        rintro e w2' ⟨rfl, rfl⟩
        go_wp2
        go_ret2
        exact ⟨_, rfl, Own.nil _ _, hw2⟩
    · have h1 : Bd.sliE rs fr to = 1 := by
        unfold Bd.sliE at h ⊢
        rw [if_pos hv0] at h ⊢
        by_cases hs : Bd.spanOk rs fr to
        · rw [if_pos hs] at h; exact absurd rfl h
        · rw [if_neg hs]
      obtain ⟨hE, hR⟩ := Bd.cha_inv (ok := Bd.chPOk th) (c := Bd.chP th) h
      rw [hE, hR, h1]
      have S := Lib.hid (fun W hW => (by have := S.out W hW; rw [h1] at this; exact this : Calls Try.prog _ _ W fun e w' => e = .returned (.bool false) ∧ Below W.heap.size W w'))
      obtain ⟨a, cc, rfl⟩ := hv.form
      clear hv h h1 hv0 hE hR
      go_enter Try.func43, Try.ntmps43
      go_wp2_with fail
      refine V.out.mono ?_
      rintro e w1 ⟨rfl, hb1⟩
      go_wp2_with fail
      refine (S.out _ hb1).mono ?_
      rintro e w2 ⟨rfl, hb2⟩
      have hw2 := below_step hb1 hb2
      go_wp2
      go_ret2
      exact ⟨_, rfl, Own.nil _ _, hw2⟩
  · have h : Bd.sliE rs fr to ≠ 0 := by rw [Bd.sliE_inv hv0]; exact hv0
    obtain ⟨hE, hR⟩ := Bd.cha_inv (ok := Bd.chPOk th) (c := Bd.chP th) h
    rw [hE, hR, Bd.sliE_inv hv0]
    obtain ⟨a, cc, rfl⟩ := hv.form
    generalize Bd.valE rs = z at *
    have hz : (z == 0) = false := by simp [hv0]
    clear hv h hE hR hv0
    go_enter Try.func43, Try.ntmps43
    go_wp2_with fail
    refine V.out.mono ?_
    rintro e w1 ⟨rfl, hb1⟩
    go_wp2
    go_ret2
    exact ⟨_, rfl, Own.nil _ _, hb1⟩
end Go.Proofs.Ytimpdmpfpbeflaa
