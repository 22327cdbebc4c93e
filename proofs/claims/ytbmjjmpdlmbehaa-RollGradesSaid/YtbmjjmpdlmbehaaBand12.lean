/- Lists of runs one behind the other, in new memory. -/
import Derived.Test.YtbmjjmpdlmbehaaBand9
import Derived.Lib.AppendZeros
import Derived.Laws.AppendOwnNone
namespace Go.Proofs.Ytbmjjmpdlmbehaa
open Go.RowKit

theorem Bd.fine_append {a b : List Bd.R} (h1 : a.length + b.length ≤ 1000) (h2 : Bd.pos a) (h3 : Bd.pos b) (h4 : Bd.len a + Bd.len b ≤ 1000000000) : Bd.fine (a ++ b) :=
  ⟨by simp; omega, Bd.pos_append.2 ⟨h2, h3⟩, by rw [Bd.len_append]; exact h4⟩

/-- A slice that is read and appended to an own list. -/
theorem runs_src {w : World} {v : Value} {rs : List Bd.R} (h : Runs w v rs) :
    (v = .slice none 0 0 ∧ rs = []) ∨ ∃ ad c, v = .slice (some ad) rs.length c ∧ ∀ (j : Nat) (u : Value), (cellsR rs)[j]? = some u → w.cell? (ad.add j) = some u := by
  rcases h with ⟨a, c, rfl, rfl, hn⟩ | ⟨b, off, cap, rfl, hcap, hb, hc⟩
  · cases a with
    | none => obtain rfl := hn rfl; exact .inl ⟨rfl, rfl⟩
    | some ad => exact .inr ⟨ad, c, rfl, fun j u h => by simp [cellsR] at h⟩
  · refine .inr ⟨⟨b, off, none⟩, cap, rfl, fun j u h => ?_⟩
    have h1 := runs_cells (o := .deferred none) hb hc j u h
    have ha : ∀ n : Nat, (⟨b, off, none⟩ : Addr).add n = ⟨b, off + n, none⟩ := fun n => by
      unfold Addr.add
      split
      · rename_i e; subst e; rfl
      · rfl
    rw [ha] at h1 ⊢
    rwa [World.cell?_alloc_past _ _ _ hb] at h1
theorem Own.joined {base : Nat} {w : World} {v : Value} {a b : List Bd.R} (h : w.ownsRow base 52 4 v (a.length + b.length) (cellsR a ++ cellsR b)) : Own base w v (a ++ b) := by
  unfold Own; rw [List.length_append, cellsR_append]; exact h

set_option maxRecDepth 20000 in
set_option maxHeartbeats 1000000 in
theorem both_any (v u : Value) (rs qs : List Bd.R) (w : World) (hv : Runs w v rs) (hu : Runs w u qs) (hl : rs.length ≤ 1000) (hl2 : qs.length ≤ 1000) :
    Calls Try.prog 26 #[v, u] w fun e w' => ∃ x, e = .returned x ∧ Own w.heap.size w' x (rs ++ qs) ∧ Below w.heap.size w w' := by
  obtain ⟨i0, hi, hz0, hz1, hz2⟩ := info_parts infoRun
  have hown := World.ownsRow_made (base := w.heap.size) (e := 52) (size := 4) w #[] 0 (Nat.le_refl _) (by unfold maxLen; omega) rfl
  have hw0 := (Below.refl w.heap.size w).alloc (Nat.le_refl _) (.cells #[] 52)
  have hv1 := runs_src (hv.all hw0)
  have hu1 := hu.all hw0
  clear hv
  rcases hv1 with ⟨rfl, rfl⟩ | ⟨ad, c, rfl, hca⟩
  · rcases runs_src hu1 with ⟨rfl, rfl⟩ | ⟨ad2, c2, rfl, hcb⟩
    · go_enter Try.func26, Try.ntmps26
      go_wp2_with (at_builtin; refine wpList_append_own_none rfl _ _ 22 rfl w.heap.size 52 i0 4 Try.underlying22 hi _ _ _ rfl hown rfl ?_)
      go_ret
      exact ⟨_, rfl, hown, hw0⟩
    · go_enter Try.func26, Try.ntmps26
      go_wp2_with (first | (at_builtin; refine wpList_append_own_none rfl _ _ 22 rfl w.heap.size 52 i0 4 Try.underlying22 hi _ _ _ rfl hown rfl ?_) | (at_builtin; refine wpList_append_own _ rfl _ _ 22 rfl w.heap.size 52 i0 (.agg #[.int .i64 0, .int .i64 0, .int .i64 0, .int .i64 0]) 4 32 Try.underlying22 hi hz0 hz1 hz2 rfl (by decide) _ _ _ rfl hown ad2 qs.length c2 (cellsR qs) rfl (cellsR_length qs) hcb (cellsR_one qs) (by unfold maxLen; omega) (by omega) (by simp) ?_))
      intro v' w1 hown1 hgrow _
      have hw1 := hw0.grown hgrow (by simp) (fun j e => (World.ownsRow.lt hown j e).1)
      have hx : Own w.heap.size w1 v' ([] ++ qs) := Own.joined (a := []) (b := qs) (by simpa [cellsR] using hown1)
      clear hown hgrow hown1 hcb
      go_wp2
      go_ret
      exact ⟨_, rfl, hx, hw1⟩
  · go_enter Try.func26, Try.ntmps26
    go_wp2_with (at_builtin; refine wpList_append_own _ rfl _ _ 22 rfl w.heap.size 52 i0 (.agg #[.int .i64 0, .int .i64 0, .int .i64 0, .int .i64 0]) 4 32 Try.underlying22 hi hz0 hz1 hz2 rfl (by decide) _ _ _ rfl hown ad rs.length c (cellsR rs) rfl (cellsR_length rs) hca (cellsR_one rs) (by unfold maxLen; omega) (by omega) (by simp) ?_)
    intro v' w1 hown1 hgrow _
    have hw1 := hw0.grown hgrow (by simp) (fun j e => (World.ownsRow.lt hown j e).1)
    have hx1 : w1.ownsRow w.heap.size 52 4 v' rs.length (cellsR rs) := by simpa using hown1
    have hu2 := runs_src (hu.all hw1)
    clear hu hown hgrow hown1 hca hw0
    rcases hu2 with ⟨rfl, rfl⟩ | ⟨ad2, c2, rfl, hcb⟩
    · go_wp2_with (at_builtin; refine wpList_append_own_none rfl _ _ 22 rfl w.heap.size 52 i0 4 Try.underlying22 hi _ _ _ rfl hx1 rfl ?_)
      go_ret
      exact ⟨_, rfl, by rw [List.append_nil]; exact hx1, hw1⟩
    · go_wp2_with (at_builtin; refine wpList_append_own _ rfl _ _ 22 rfl w.heap.size 52 i0 (.agg #[.int .i64 0, .int .i64 0, .int .i64 0, .int .i64 0]) 4 32 Try.underlying22 hi hz0 hz1 hz2 rfl (by decide) _ _ _ rfl hx1 ad2 qs.length c2 (cellsR qs) rfl (cellsR_length qs) hcb (cellsR_one qs) (by unfold maxLen; omega) (by omega) hw1.size ?_)
      intro v2 w2 hown2 hgrow2 _
      have hw2 := hw1.grown hgrow2 hw1.size (fun j e => (World.ownsRow.lt hx1 j e).1)
      have hx2 := Own.joined hown2
      clear hown2 hgrow2 hcb hx1
      go_wp2
      go_ret
      exact ⟨_, rfl, hx2, hw2⟩
end Go.Proofs.Ytbmjjmpdlmbehaa
