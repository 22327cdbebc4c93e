/- Parts of bands: what they are place by place; the reference's. -/
import Derived.Test.YtbmjjmpdlmbehaaBand21
import Derived.Test.YtbmjjmpdlmbehaaRmQ
namespace Go.Proofs.Ytbmjjmpdlmbehaa
open Go.RowKit

namespace Bd
def cutL (rs : List R) (fr to : Int) : List R := cutS fr to (upto rs rs.length)
theorem exp_cutSp (fr to : Int) (x : Sp) : exp (cutSp fr to x) = List.replicate (min x.t to - max x.f fr).toNat x.m := by
  unfold cutSp; split
  · simp [exp]
  · rw [show (min x.t to - max x.f fr).toNat = 0 by omega]; rfl
theorem pos_cutSp (fr to : Int) (x : Sp) : pos (cutSp fr to x) := by
  unfold cutSp; split
  · intro r hr; simp at hr; subst hr; assumption
  · exact pos_nil
theorem pos_cutS (fr to : Int) (pre : List SpB) : pos (cutS fr to pre) := by
  intro r hr
  obtain ⟨x, _, hx⟩ := List.mem_flatMap.1 hr
  exact pos_cutSp fr to x.1 r hx
theorem exp_take_len {rs : List R} (h : pos rs) (k : Nat) : ((exp (rs.take k)).length : Int) = len (rs.take k) := (len_exp (pos_take h k)).symm
theorem exp_cut {rs : List R} (h : fine rs) {fr to : Int} (h1 : 0 ≤ fr) : ∀ k, k ≤ rs.length → exp (cutS fr to (upto rs k)) = ((exp (rs.take k)).take to.toNat).drop fr.toNat
  | 0, _ => by simp [upto, cutS, exp]
  | k + 1, hk => by
    have ih := exp_cut h (to := to) h1 k (by omega)
    have hl := exp_take_len h.2.1 k
    have hs := len_take_succ (b := rs) (k := k) (by omega)
    have hp := h.2.1 rs[k] (List.getElem_mem (by omega))
    rw [upto_succ, cutS_snoc, exp_append, ih, exp_cutSp, spk_eq h (by omega), List.take_succ_eq_append_getElem (by omega), exp_append, exp_one, List.take_append, List.drop_append]
    congr 1
    rw [List.take_replicate, List.drop_replicate, List.length_take]
    congr 1
    dsimp only
    rw [List.take_succ_eq_append_getElem (by omega)] at hs
    rw [hs, ← hl]
    omega
theorem exp_cutL {rs : List R} (h : fine rs) {fr to : Int} (h1 : 0 ≤ fr) : exp (cutL rs fr to) = ((exp rs).take to.toNat).drop fr.toNat := by
  unfold cutL; rw [exp_cut h h1 _ (Nat.le_refl _), List.take_length]
theorem pos_cutL (rs : List R) (fr to : Int) : pos (cutL rs fr to) := pos_cutS _ _ _
theorem cutL_length (rs : List R) (fr to : Int) : (cutL rs fr to).length ≤ rs.length := by
  have := cutS_le fr to (upto rs rs.length)
  rwa [upto_length] at this
theorem len_cutL {rs : List R} (h : fine rs) {fr to : Int} (h1 : 0 ≤ fr) (h2 : fr ≤ to) (h3 : to ≤ len rs) : len (cutL rs fr to) = to - fr := by
  rw [len_exp (pos_cutL _ _ _), exp_cutL h h1, List.length_drop, List.length_take]
  rw [len_exp h.2.1] at h3
  omega
theorem fine_cutL {rs : List R} (h : fine rs) {fr to : Int} (h1 : 0 ≤ fr) (h2 : fr ≤ to) (h3 : to ≤ len rs) : fine (cutL rs fr to) := by
  have a := cutL_length rs fr to
  have b := len_cutL h h1 h2 h3
  obtain ⟨c1, c2, c3⟩ := h
  exact ⟨by omega, pos_cutL _ _ _, by omega⟩
def spanOk (rs : List R) (fr to : Int) : Prop := 0 ≤ fr ∧ fr ≤ to ∧ to ≤ len rs
instance (rs : List R) (fr to : Int) : Decidable (spanOk rs fr to) := inferInstanceAs (Decidable (_ ∧ _ ∧ _))
def sliE (rs : List R) (fr to : Int) : Int := if valE rs = 0 then (if spanOk rs fr to then 0 else 1) else valE rs
def sliR (rs : List R) (fr to : Int) : List R := if sliE rs fr to = 0 then norm (cutL rs fr to) else []
theorem sliE_zero {rs : List R} {fr to : Int} : sliE rs fr to = 0 ↔ valE rs = 0 ∧ spanOk rs fr to := by
  unfold sliE
  by_cases h : valE rs = 0
  · rw [if_pos h]
    by_cases h2 : spanOk rs fr to
    · simp [h, h2]
    · simp [h2]
  · simp [h]
theorem told_cut {rs : List R} {fr to : Int} (h : sliE rs fr to = 0) : toldE (cutL rs fr to) = 0 ∧ toldR (cutL rs fr to) = norm (cutL rs fr to) := by
  obtain ⟨h1, h2, h3, h4⟩ := sliE_zero.1 h
  obtain ⟨a1, _, a3⟩ := valE_zero h1
  have hf := fine_of_valid h1
  have b1 := len_cutL hf h2 h3 h4
  have b2 := cutL_length rs fr to
  have b3 := norm_length (cutL rs fr to)
  exact told_fits (by omega)
end Bd

set_option maxRecDepth 20000 in
set_option maxHeartbeats 4000000 in
theorem ref_cut_any (v : Value) (rs : List Bd.R) (fr to : Int) (w : World) (hv : Runs w v rs) (hf : Bd.fine rs) (f1 : 0 ≤ fr) (f2 : fr ≤ 2000000000) (t1 : 0 ≤ to) (t2 : to ≤ 2000000000) :
    Calls Try.prog 68 #[v, .int .i64 fr, .int .i64 to] w fun e w' => ∃ u, e = .returned u ∧ Own w.heap.size w' u (Bd.cutL rs fr to) ∧ Below w.heap.size w w' := by
  obtain ⟨i0, hi, hz0, hz1, hz2⟩ := info_parts infoRun
  obtain ⟨ao, c, rfl, hlk⟩ := hv.look
  have HK := Lib.hid hlk
  have HB := Lib.hid (Bd.len_take_le hf.2.1)
  have HX := Lib.hid (fun k (hk : k < rs.length) => Bd.spk_eq hf hk)
  have hmax := hf.2.2
  have hlen := hf.1
  have HP := Lib.hid hf.2.1
  clear hv hlk hf
  go_enter Try.func68, Try.ntmps68
  go_wp2
  have hw0 := Below.refl w.heap.size w
  go_loopw [7, 8, 9] (fun o s t wr => ∃ k : Nat, k ≤ rs.length ∧ t = .int .i64 k ∧ s = .int .i64 (Bd.len (rs.take k)) ∧ Hid (Own w.heap.size wr o (cutS fr to (Bd.upto rs k)) ∧ Below w.heap.size w wr)) (fun _ _ t _ => rs.length - (intOf t).toNat)
  case atStart => exact ⟨0, Nat.zero_le _, rfl, rfl, Lib.hid ⟨Own.nil _ _, hw0⟩⟩
  case round =>
    obtain ⟨k, hk, rfl, rfl, hg⟩ := hrel
    clear hw0
    by_cases hlt : k < rs.length
    · obtain ⟨hown, hw⟩ := hg.out
      obtain ⟨b, off, rfl, hb, hr⟩ := HK.out k hlt
      obtain ⟨c0, c1, c2, c3⟩ := hr.below hw hb
      have hs := Bd.len_take_succ hlt
      have b1 := HB.out k
      have b2 := HB.out (k + 1)
      have hx := HX.out k hlt
      have hp := HP.out rs[k] (List.getElem_mem hlt)
      rw [hs] at b2 hx
      have HS := Lib.hid hs
      have HF := Lib.hid hx
      have hcl := cutS_le fr to (Bd.upto rs k)
      rw [Bd.upto_length] at hcl
      clear hs hx hg hr HB HX HP
      generalize hc2 : cutS fr to (Bd.upto rs k) = cs at *
      have HC2 := Lib.hid hc2
      clear hc2
      generalize Bd.len (rs.take k) = s at *
      generalize rs[k] = r at *
      rcases (show (s + r.l ≤ to ∧ fr ≤ s) ∨ (s + r.l ≤ to ∧ s < fr) ∨ (to < s + r.l ∧ fr ≤ s) ∨ (to < s + r.l ∧ s < fr) by omega) with ⟨h1, h2⟩ | ⟨h1, h2⟩ | ⟨h1, h2⟩ | ⟨h1, h2⟩
      · by_cases hc : 0 < s + r.l - s
        · have HCut := Lib.hid ((congrArg (cutSp fr to) HF.out).trans (cutSp_pos (x := ⟨s, s + r.l, r.m⟩) hc (by dsimp only; omega) (by dsimp only; omega)))
          clear HF
          go_wp2
          go_quiet (fail)
          obtain ⟨wq, hq⟩ : ∃ wq : World, wq = wr.drewN nq := ⟨_, rfl⟩
          have hown' := hown.drewN nq
          rw [← hq] at hown'
          have hw' : Below w.heap.size w wq := by rw [hq]; exact below_drewN hw _
          have c1' : wq.cell? ⟨b, off + k * 4 + 1, none⟩ = some (.int .i64 r.m.t) := by rw [hq]; exact c1
          have c2' : wq.cell? ⟨b, off + k * 4 + 2, none⟩ = some (.int .i64 r.m.s) := by rw [hq]; exact c2
          have c3' : wq.cell? ⟨b, off + k * 4 + 3, none⟩ = some (.int .i64 r.m.f) := by rw [hq]; exact c3
          rw [← hq]
          clear hq hown hw c0 c1 c2 c3
          unfold Own at hown'
          go_wp2_with (at_builtin; refine wpList_append_own _ rfl _ _ 22 rfl w.heap.size 52 i0 (.agg #[.int .i64 0, .int .i64 0, .int .i64 0, .int .i64 0]) 4 32 Try.underlying22 hi hz0 hz1 hz2 rfl (by decide) _ _ _ rfl (hown'.alloc _) ⟨wq.heap.size, 0, none⟩ 1 1 (runC ⟨s + r.l - s, r.m⟩) rfl rfl (runC_at wq _ _) (runC_one _) (by unfold maxLen; omega) (by omega) (by have := hw'.size; simp; omega) ?_)
          intro v' w2 hown1 hgrow _
          have hw2 := (hw'.alloc hw'.size (runObj ⟨s + r.l - s, r.m⟩)).grown hgrow (by have := hw'.size; simp; omega) (fun j e => (World.ownsRow.lt hown' j e).1)
          have hx2 := Own.pushed (a := cs) hown1
          clear hown1 hgrow hown' c1' c2' c3' hw'
          go_wp2
          go_roundw
          case rel => exact ⟨k + 1, by omega, by go_num, by rw [HS.out], Lib.hid ⟨by rw [Bd.upto_succ, cutS_snoc, HCut.out, HC2.out]; exact hx2, hw2⟩⟩
          case measure => simp [intOf]; omega
        · exfalso; omega
      · by_cases hc : 0 < s + r.l - fr
        · have HCut := Lib.hid ((congrArg (cutSp fr to) HF.out).trans (cutSp_pos (x := ⟨s, s + r.l, r.m⟩) hc (by dsimp only; omega) (by dsimp only; omega)))
          clear HF
          go_wp2
          go_quiet (fail)
          obtain ⟨wq, hq⟩ : ∃ wq : World, wq = wr.drewN nq := ⟨_, rfl⟩
          have hown' := hown.drewN nq
          rw [← hq] at hown'
          have hw' : Below w.heap.size w wq := by rw [hq]; exact below_drewN hw _
          have c1' : wq.cell? ⟨b, off + k * 4 + 1, none⟩ = some (.int .i64 r.m.t) := by rw [hq]; exact c1
          have c2' : wq.cell? ⟨b, off + k * 4 + 2, none⟩ = some (.int .i64 r.m.s) := by rw [hq]; exact c2
          have c3' : wq.cell? ⟨b, off + k * 4 + 3, none⟩ = some (.int .i64 r.m.f) := by rw [hq]; exact c3
          rw [← hq]
          clear hq hown hw c0 c1 c2 c3
          unfold Own at hown'
          go_wp2_with (at_builtin; refine wpList_append_own _ rfl _ _ 22 rfl w.heap.size 52 i0 (.agg #[.int .i64 0, .int .i64 0, .int .i64 0, .int .i64 0]) 4 32 Try.underlying22 hi hz0 hz1 hz2 rfl (by decide) _ _ _ rfl (hown'.alloc _) ⟨wq.heap.size, 0, none⟩ 1 1 (runC ⟨s + r.l - fr, r.m⟩) rfl rfl (runC_at wq _ _) (runC_one _) (by unfold maxLen; omega) (by omega) (by have := hw'.size; simp; omega) ?_)
          intro v' w2 hown1 hgrow _
          have hw2 := (hw'.alloc hw'.size (runObj ⟨s + r.l - fr, r.m⟩)).grown hgrow (by have := hw'.size; simp; omega) (fun j e => (World.ownsRow.lt hown' j e).1)
          have hx2 := Own.pushed (a := cs) hown1
          clear hown1 hgrow hown' c1' c2' c3' hw'
          go_wp2
          go_roundw
          case rel => exact ⟨k + 1, by omega, by go_num, by rw [HS.out], Lib.hid ⟨by rw [Bd.upto_succ, cutS_snoc, HCut.out, HC2.out]; exact hx2, hw2⟩⟩
          case measure => simp [intOf]; omega
        · have HCut := Lib.hid ((congrArg (cutSp fr to) HF.out).trans (cutSp_neg (x := ⟨s, s + r.l, r.m⟩) hc (by dsimp only; omega) (by dsimp only; omega)))
          clear HF
          go_wp2
          go_quiet (fail)
          go_wp2
          go_roundw
          case rel => exact ⟨k + 1, by omega, by go_num, by rw [HS.out], Lib.hid ⟨by rw [Bd.upto_succ, cutS_snoc, HCut.out, List.append_nil, HC2.out]; exact hown.drewN _, below_drewN hw _⟩⟩
          case measure => simp [intOf]; omega
      · by_cases hc : 0 < to - s
        · have HCut := Lib.hid ((congrArg (cutSp fr to) HF.out).trans (cutSp_pos (x := ⟨s, s + r.l, r.m⟩) hc (by dsimp only; omega) (by dsimp only; omega)))
          clear HF
          go_wp2
          go_quiet (fail)
          obtain ⟨wq, hq⟩ : ∃ wq : World, wq = wr.drewN nq := ⟨_, rfl⟩
          have hown' := hown.drewN nq
          rw [← hq] at hown'
          have hw' : Below w.heap.size w wq := by rw [hq]; exact below_drewN hw _
          have c1' : wq.cell? ⟨b, off + k * 4 + 1, none⟩ = some (.int .i64 r.m.t) := by rw [hq]; exact c1
          have c2' : wq.cell? ⟨b, off + k * 4 + 2, none⟩ = some (.int .i64 r.m.s) := by rw [hq]; exact c2
          have c3' : wq.cell? ⟨b, off + k * 4 + 3, none⟩ = some (.int .i64 r.m.f) := by rw [hq]; exact c3
          rw [← hq]
          clear hq hown hw c0 c1 c2 c3
          unfold Own at hown'
          go_wp2_with (at_builtin; refine wpList_append_own _ rfl _ _ 22 rfl w.heap.size 52 i0 (.agg #[.int .i64 0, .int .i64 0, .int .i64 0, .int .i64 0]) 4 32 Try.underlying22 hi hz0 hz1 hz2 rfl (by decide) _ _ _ rfl (hown'.alloc _) ⟨wq.heap.size, 0, none⟩ 1 1 (runC ⟨to - s, r.m⟩) rfl rfl (runC_at wq _ _) (runC_one _) (by unfold maxLen; omega) (by omega) (by have := hw'.size; simp; omega) ?_)
          intro v' w2 hown1 hgrow _
          have hw2 := (hw'.alloc hw'.size (runObj ⟨to - s, r.m⟩)).grown hgrow (by have := hw'.size; simp; omega) (fun j e => (World.ownsRow.lt hown' j e).1)
          have hx2 := Own.pushed (a := cs) hown1
          clear hown1 hgrow hown' c1' c2' c3' hw'
          go_wp2
          go_roundw
          case rel => exact ⟨k + 1, by omega, by go_num, by rw [HS.out], Lib.hid ⟨by rw [Bd.upto_succ, cutS_snoc, HCut.out, HC2.out]; exact hx2, hw2⟩⟩
          case measure => simp [intOf]; omega
        · have HCut := Lib.hid ((congrArg (cutSp fr to) HF.out).trans (cutSp_neg (x := ⟨s, s + r.l, r.m⟩) hc (by dsimp only; omega) (by dsimp only; omega)))
          clear HF
          go_wp2
          go_quiet (fail)
          go_wp2
          go_roundw
          case rel => exact ⟨k + 1, by omega, by go_num, by rw [HS.out], Lib.hid ⟨by rw [Bd.upto_succ, cutS_snoc, HCut.out, List.append_nil, HC2.out]; exact hown.drewN _, below_drewN hw _⟩⟩
          case measure => simp [intOf]; omega
      · by_cases hc : 0 < to - fr
        · have HCut := Lib.hid ((congrArg (cutSp fr to) HF.out).trans (cutSp_pos (x := ⟨s, s + r.l, r.m⟩) hc (by dsimp only; omega) (by dsimp only; omega)))
          clear HF
          go_wp2
          go_quiet (fail)
          obtain ⟨wq, hq⟩ : ∃ wq : World, wq = wr.drewN nq := ⟨_, rfl⟩
          have hown' := hown.drewN nq
          rw [← hq] at hown'
          have hw' : Below w.heap.size w wq := by rw [hq]; exact below_drewN hw _
          have c1' : wq.cell? ⟨b, off + k * 4 + 1, none⟩ = some (.int .i64 r.m.t) := by rw [hq]; exact c1
          have c2' : wq.cell? ⟨b, off + k * 4 + 2, none⟩ = some (.int .i64 r.m.s) := by rw [hq]; exact c2
          have c3' : wq.cell? ⟨b, off + k * 4 + 3, none⟩ = some (.int .i64 r.m.f) := by rw [hq]; exact c3
          rw [← hq]
          clear hq hown hw c0 c1 c2 c3
          unfold Own at hown'
          go_wp2_with (at_builtin; refine wpList_append_own _ rfl _ _ 22 rfl w.heap.size 52 i0 (.agg #[.int .i64 0, .int .i64 0, .int .i64 0, .int .i64 0]) 4 32 Try.underlying22 hi hz0 hz1 hz2 rfl (by decide) _ _ _ rfl (hown'.alloc _) ⟨wq.heap.size, 0, none⟩ 1 1 (runC ⟨to - fr, r.m⟩) rfl rfl (runC_at wq _ _) (runC_one _) (by unfold maxLen; omega) (by omega) (by have := hw'.size; simp; omega) ?_)
          intro v' w2 hown1 hgrow _
          have hw2 := (hw'.alloc hw'.size (runObj ⟨to - fr, r.m⟩)).grown hgrow (by have := hw'.size; simp; omega) (fun j e => (World.ownsRow.lt hown' j e).1)
          have hx2 := Own.pushed (a := cs) hown1
          clear hown1 hgrow hown' c1' c2' c3' hw'
          go_wp2
          go_roundw
          case rel => exact ⟨k + 1, by omega, by go_num, by rw [HS.out], Lib.hid ⟨by rw [Bd.upto_succ, cutS_snoc, HCut.out, HC2.out]; exact hx2, hw2⟩⟩
          case measure => simp [intOf]; omega
        · have HCut := Lib.hid ((congrArg (cutSp fr to) HF.out).trans (cutSp_neg (x := ⟨s, s + r.l, r.m⟩) hc (by dsimp only; omega) (by dsimp only; omega)))
          clear HF
          go_wp2
          go_quiet (fail)
          go_wp2
          go_roundw
          case rel => exact ⟨k + 1, by omega, by go_num, by rw [HS.out], Lib.hid ⟨by rw [Bd.upto_succ, cutS_snoc, HCut.out, List.append_nil, HC2.out]; exact hown.drewN _, below_drewN hw _⟩⟩
          case measure => simp [intOf]; omega
    · obtain rfl : k = rs.length := by omega
      go_wp2
      go_ret
      exact ⟨_, rfl, hg.out.1, hg.out.2⟩
end Go.Proofs.Ytbmjjmpdlmbehaa
