/- Which lots are received ones of a kind: the program's function. -/
import Derived.Test.YtccjbefmcifaeaaVisit
import Derived.Test.YtccjbefmcifaeaaTaken
namespace Go.Proofs.Ytccjbefmcifaeaa
open Go.RowKit

/-- Which lots are received ones of a kind. -/
def kindO (ls : List Lt.L) (kd : Nat) (i : Nat) : Bool := decide ((ls.getD i default).ps.length = 0) && decide ((ls.getD i default).k = (kd : Int))
set_option maxRecDepth 20000 in
theorem kinds1_any (i kd bof bk : Nat) (v : Value) (ls : List Lt.L) (w : World) (hi : i < ls.length) (hv : Lots w v ls) (h6 : ∀ j, j < ls.length → (ls.getD j default).ps.length ≤ 6) (hf : BlockAt w bof #[v] 22) (hk : BlockAt w bk #[.int .i64 kd] 3) :
    Calls Try.prog 86 #[.int .i64 i, ptr bof, ptr bk] w fun e w' => e = .returned (.bool (kindO ls kd i)) ∧ Below w.heap.size w w' := by
  obtain ⟨la, lc, rfl, hlk⟩ := hv.look
  obtain ⟨lb, lo, lu, rfl, hlb, hlot⟩ := hlk i hi
  have hps := h6 i hi
  have hko : kindO ls kd i = (decide ((ls.getD i default).ps.length = 0) && decide ((ls.getD i default).k = (kd : Int))) := rfl
  rw [hko]
  generalize ls.getD i default = x at *
  obtain ⟨x0, x1, x2, hpp⟩ := hlot
  obtain ⟨pa, pc, rfl⟩ := hpp.form
  have RC := Lib.hid (fun W => received_any x pa pc W (by omega))
  have HB := Lib.hid (And.intro hf hk)
  have HC := Lib.hid (show ∀ W, Below w.heap.size w W → (fun W : World => W.cell? ⟨bof, 0, none⟩ = some (.slice (some ⟨lb, lo, none⟩) ls.length lc) ∧ W.cell? ⟨bk, 0, none⟩ = some (.int .i64 kd) ∧ W.cell? ⟨lb, lo + i * 3, none⟩ = some (.int .i64 x.k) ∧ W.cell? ⟨lb, lo + i * 3 + 1, none⟩ = some (.int .i64 x.m) ∧ W.cell? ⟨lb, lo + i * 3 + 2, none⟩ = some (.slice pa x.ps.length pc)) W from fun W hW =>
    ⟨(hW.cell (p := ⟨bof, 0, none⟩) hf.lt).trans (hf.cell 0), (hW.cell (p := ⟨bk, 0, none⟩) hk.lt).trans (hk.cell 0), (hW.cell (p := ⟨lb, lo + i * 3, none⟩) hlb).trans x0, (hW.cell (p := ⟨lb, lo + i * 3 + 1, none⟩) hlb).trans x1, (hW.cell (p := ⟨lb, lo + i * 3 + 2, none⟩) hlb).trans x2⟩)
  have H0 := Lib.hid ((Below.refl w.heap.size w).drew)
  clear hf hk hlk hv hpp x0 x1 x2 hko h6
  go_enter Try.func86, Try.ntmps86
  go_wp2_with fail
  refine wp_region_seq [(0, true), (1, true), (2, true), (3, true), (4, false), (5, true), (6, true), (7, true), (8, true), (9, true), (10, true), (11, true), (12, true), (13, true), (14, true)] (fun W => W.cell? ⟨bof, 0, none⟩ = some (.slice (some ⟨lb, lo, none⟩) ls.length lc) ∧ W.cell? ⟨bk, 0, none⟩ = some (.int .i64 kd) ∧ W.cell? ⟨lb, lo + i * 3, none⟩ = some (.int .i64 x.k) ∧ W.cell? ⟨lb, lo + i * 3 + 1, none⟩ = some (.int .i64 x.m) ∧ W.cell? ⟨lb, lo + i * 3 + 2, none⟩ = some (.slice pa x.ps.length pc))
    (by kernel_rfl) (by kernel_rfl) (by kernel_rfl) (by kernel_rfl) (fun d _ _ _ _ h => by cases d <;> exact h) (HC.out _ H0.out) (fun hS => ?_)
  clear hS
  repeat (refine SeqH.take (v := ?_) rfl (by rfl) ?_ ?_; rotate_left; (· intro w hSw; (try dsimp only at hSw); obtain ⟨q0, q1, q2, q3, q4⟩ := hSw; go_simp; (try with_reducible rfl)); simp only [Act.put, List.setIfInBounds_toArray, List.set_cons_zero, List.set_cons_succ])
  refine SeqH.step rfl (by rfl) (fun K hK => ?_)
  go_simp
  refine (RC.out _).mono ?_
  rintro e w2 ⟨rfl, hb2⟩
  have hw2 := below_step H0.out hb2
  have HW := Lib.hid hw2
  try dsimp only
  refine hK.out _ _ (HC.out _ hw2) (fun _ => ?_)
  clear hK K hb2 hw2 RC
  try simp only [Act.put, List.setIfInBounds_toArray, List.set_cons_zero, List.set_cons_succ]
  generalize hxn : x.ps.length = n at *
  by_cases hn : n = 0
  · subst hn
    have hp0 : x.ps = [] := List.length_eq_zero_iff.1 hxn
    repeat (first
      | (refine SeqH.take (v := ?_) rfl (by rfl) ?_ ?_; rotate_left; (· intro w hSw; (try dsimp only at hSw); obtain ⟨q0, q1, q2, q3, q4⟩ := hSw; go_simp; (try with_reducible rfl)); simp only [Act.put, List.setIfInBounds_toArray, List.set_cons_zero, List.set_cons_succ])
      | (refine SeqH.skip rfl (by rfl) ?_; simp only [Act.put, List.setIfInBounds_toArray, List.set_cons_zero, List.set_cons_succ]))
    refine SeqH.done ?_
    go_wp2
    go_ret
    exact ⟨by show Ending.returned _ = Ending.returned _; rw [Bool.eq_iff_iff.2 (show (x.k == (kd : Int)) = true ↔ (decide (x.ps.length = 0) && decide (x.k = (kd : Int))) = true by simp [hp0])]; rfl, HW.out⟩
  · have hd : decide (n = 0) = false := decide_eq_false hn
    repeat (first
      | (refine SeqH.take (v := ?_) rfl (by rfl) ?_ ?_; rotate_left; (· intro w hSw; (try dsimp only at hSw); obtain ⟨q0, q1, q2, q3, q4⟩ := hSw; go_simp; (try with_reducible rfl)); simp only [Act.put, List.setIfInBounds_toArray, List.set_cons_zero, List.set_cons_succ])
      | (refine SeqH.skip rfl (by rfl) ?_; simp only [Act.put, List.setIfInBounds_toArray, List.set_cons_zero, List.set_cons_succ]))
    refine SeqH.done ?_
    go_wp2
    go_ret
    exact ⟨by show Ending.returned _ = Ending.returned _; rw [show (decide (x.ps.length = 0) && decide (x.k = (kd : Int))) = false by rw [hxn, hd]; rfl]; rfl, HW.out⟩

end Go.Proofs.Ytccjbefmcifaeaa
