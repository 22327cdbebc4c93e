/- The reference's normal forms. -/
import Derived.Test.YtbmjjmpdlmbehaaBand2
import Derived.StillTailTactics
namespace Go.Proofs.Ytbmjjmpdlmbehaa
open Go.RowKit

set_option maxRecDepth 20000 in
set_option maxHeartbeats 1000000 in
theorem ref_join_any (v : Value) (rs : List Bd.R) (w : World) (hv : Runs w v rs) (hlen : rs.length ≤ 1000) (hp : Bd.pos rs) (hm : Bd.len rs ≤ 1000000000000) :
    Calls Try.prog 82 #[v] w fun e w' => ∃ u, e = .returned u ∧ Own w.heap.size w' u (Bd.norm rs) ∧ Below w.heap.size w w' := by
  rcases hv with ⟨a0, c0, rfl, rfl, hn0⟩ | ⟨b, off, cap, rfl, hcap, hb, hc⟩
  · go_enter Try.func82, Try.ntmps82
    go_wp2
    go_loop [3, 4] (fun s t => s = .slice none 0 0 ∧ t = .int .i64 0) (fun _ t => (0 - intOf t).toNat)
    case atStart => exact ⟨rfl, rfl⟩
    case round =>
      obtain ⟨rfl, rfl⟩ := hrel
      go_wp2
      go_ret
      exact ⟨_, rfl, Own.nil _ _, Below.refl _ _⟩
  · obtain ⟨i0, hi, hz0, hz1, hz2⟩ := info_parts infoRun
    have hP := Lib.hid hp
    clear hp
    go_enter Try.func82, Try.ntmps82
    go_wp2
    have hw0 := Below.refl w.heap.size w
    go_loopw [3, 4] (fun s t wr => ∃ k : Nat, k ≤ rs.length ∧ t = .int .i64 k ∧ Own w.heap.size wr s (Bd.norm (rs.take k)) ∧ Below w.heap.size w wr) (fun _ t _ => rs.length - (intOf t).toNat)
    case atStart => exact ⟨0, Nat.zero_le _, rfl, Own.nil _ _, hw0⟩
    case round =>
      obtain ⟨k, hk, rfl, hown, hw⟩ := hrel
      clear hw0
      by_cases hlt : k < rs.length
      · have hck := hc k hlt
        rw [getD_run hlt] at hck
        clear hc
        obtain ⟨c0, c1, c2, c3⟩ := hck.below hw hb
        clear hck
        have hns := Bd.norm_take_succ hlt
        rcases Bd.snoc_cases (Bd.norm (rs.take k)) with he | ⟨a, q, he⟩
        · have h1 := hP.out rs[k] (List.getElem_mem hlt)
          rw [he] at hown hns
          rw [Bd.push_nil] at hns
          have HN := Lib.hid hns
          clear hns he
          generalize rs[k] = r at *
          obtain ⟨ga, gc, rfl⟩ := hown.empty
          have hl0 : ((r.l : Int) == 0) = false := by simp; omega
          go_wp2
          go_quiet (fail)
          obtain ⟨wq, hq⟩ : ∃ wq : World, wq = wr.drewN nq := ⟨_, rfl⟩
          have hown' : Own w.heap.size wq (.slice ga 0 gc) [] := by rw [hq]; exact hown.drewN _
          have hw' : Below w.heap.size w wq := by rw [hq]; exact below_drewN hw _
          have c0' : wq.cell? ⟨b, off + k * 4, none⟩ = some (.int .i64 r.l) := by rw [hq]; exact c0
          have c1' : wq.cell? ⟨b, off + k * 4 + 1, none⟩ = some (.int .i64 r.m.t) := by rw [hq]; exact c1
          have c2' : wq.cell? ⟨b, off + k * 4 + 2, none⟩ = some (.int .i64 r.m.s) := by rw [hq]; exact c2
          have c3' : wq.cell? ⟨b, off + k * 4 + 3, none⟩ = some (.int .i64 r.m.f) := by rw [hq]; exact c3
          rw [← hq]
          clear hq hown hw c0 c1 c2 c3
          go_wp2_with (at_builtin; refine wpList_append_own _ rfl _ _ 22 rfl w.heap.size 52 i0 (.agg #[.int .i64 0, .int .i64 0, .int .i64 0, .int .i64 0]) 4 32 Try.underlying22 hi hz0 hz1 hz2 rfl (by decide) _ _ _ rfl (hown'.alloc _) ⟨wq.heap.size, 0, none⟩ 1 1 (runC r) rfl rfl (runC_at wq r _) (runC_one r) ?c3 ?c4 ?c5 ?_)
          case c3 => unfold maxLen; simp
          case c4 => simp
          case c5 => have := hw'.size; simp; omega
          intro v' w1 hown1 hgrow _
          have hw1 := (hw'.alloc hw'.size _).grown hgrow (by have := hw'.size; simp; omega) (fun j e => (World.ownsRow.lt hown' j e).1)
          have hown2 := Own.pushed (a := []) hown1
          clear hown1 hgrow hown' hw' c0' c1' c2' c3'
          go_wp2
          go_roundw
          case rel => exact ⟨k + 1, by omega, by go_num, by rw [HN.out]; exact hown2, hw1⟩
          case measure => simp [intOf]; omega
        · obtain ⟨h1, h2, h3, h4⟩ := Bd.norm_last hP.out hlt he
          rw [he] at hown hns
          rw [Bd.push_snoc] at hns
          obtain ⟨g, cp, rfl, hg1, hg2, hg3, hg4, d0, d1, d2, d3⟩ := hown.snoc
          have HN := Lib.hid hns
          clear hns he
          generalize rs[k] = r at *
          have hl0 : ((r.l : Int) == 0) = false := by simp; omega
          by_cases hmk : q.m = r.m
          · have hmk' := hmk
            have e1 : (q.m.t == r.m.t) = true := by simp [hmk]
            have e2 : (q.m.s == r.m.s) = true := by simp [hmk]
            have e3 : (q.m.f == r.m.f) = true := by simp [hmk]
            have HN' := Lib.hid (HN.out.trans (if_pos hmk))
            clear hmk hmk' HN
            go_wp2
            go_quiet (fail)
            obtain ⟨wq, hq⟩ : ∃ wq : World, wq = wr.drewN nq := ⟨_, rfl⟩
            have hown' : Own w.heap.size wq (.slice (some ⟨g, 0, none⟩) (a.length + 1) cp) (a ++ [q]) := by rw [hq]; exact hown.drewN _
            have hw' : Below w.heap.size w wq := by rw [hq]; exact below_drewN hw _
            have c0' : wq.cell? ⟨b, off + k * 4, none⟩ = some (.int .i64 r.l) := by rw [hq]; exact c0
            have d0' : wq.cell? ⟨g, a.length * 4, none⟩ = some (.int .i64 q.l) := by rw [hq]; exact d0
            have f0' : wq.frozen? ⟨g, a.length * 4, none⟩ = false := by rw [hq]; exact hg4 _
            rw [← hq]
            clear hq hown hw c0 c1 c2 c3 d0 d1 d2 d3 hg4 e1 e2 e3
            go_wp2
            have hs := hown'.setL (q.l + r.l)
            have hsw := hw'.setCell (p := ⟨g, a.length * 4, none⟩) hg1 (.int .i64 (q.l + r.l))
            have HS := Lib.hid (And.intro hs hsw)
            clear hs hsw hown' hw'
            go_region
            go_wp2
            go_roundw
            case rel => exact ⟨k + 1, by omega, by go_num, by rw [HN'.out]; exact HS.out.1, HS.out.2.drew⟩
            case measure => simp [intOf]; omega
          · have HN' := Lib.hid (HN.out.trans (if_neg hmk))
            rcases m_ne hmk with e1 | ⟨e1, e2⟩ | ⟨e1, e2, e3⟩
            all_goals
              clear hmk HN
              go_wp2
              go_quiet (fail)
              obtain ⟨wq, hq⟩ : ∃ wq : World, wq = wr.drewN nq := ⟨_, rfl⟩
              have hown' : Own w.heap.size wq (.slice (some ⟨g, 0, none⟩) (a.length + 1) cp) (a ++ [q]) := by rw [hq]; exact hown.drewN _
              have hw' : Below w.heap.size w wq := by rw [hq]; exact below_drewN hw _
              have c0' : wq.cell? ⟨b, off + k * 4, none⟩ = some (.int .i64 r.l) := by rw [hq]; exact c0
              have c1' : wq.cell? ⟨b, off + k * 4 + 1, none⟩ = some (.int .i64 r.m.t) := by rw [hq]; exact c1
              have c2' : wq.cell? ⟨b, off + k * 4 + 2, none⟩ = some (.int .i64 r.m.s) := by rw [hq]; exact c2
              have c3' : wq.cell? ⟨b, off + k * 4 + 3, none⟩ = some (.int .i64 r.m.f) := by rw [hq]; exact c3
              rw [← hq]
              clear hq hown hw c0 c1 c2 c3 d0 d1 d2 d3
              have hl1 : (a ++ [q]).length = a.length + 1 := by simp
              have hr : wq.ownsRow w.heap.size 52 4 (.slice (some ⟨g, 0, none⟩) (a.length + 1) cp) (a.length + 1) (cellsR (a ++ [q])) := by rw [← hl1]; unfold Own at hown'; rw [hl1] at hown' ⊢; exact hown'
              have HL := Lib.hid hl1
              clear hl1
              go_wp2_with (at_builtin; refine wpList_append_own _ rfl _ _ 22 rfl w.heap.size 52 i0 (.agg #[.int .i64 0, .int .i64 0, .int .i64 0, .int .i64 0]) 4 32 Try.underlying22 hi hz0 hz1 hz2 rfl (by decide) _ _ _ rfl (hr.alloc _) ⟨wq.heap.size, 0, none⟩ 1 1 (runC r) rfl rfl (runC_at wq r _) (runC_one r) (by unfold maxLen; omega) (by omega) (by have := hw'.size; simp; omega) ?_)
              intro v' w1 hown1 hgrow _
              have hw1 := (hw'.alloc hw'.size _).grown hgrow (by have := hw'.size; simp; omega) (fun j e => (World.ownsRow.lt hown' j e).1)
              have hown2 := Own.pushed (a := a ++ [q]) (by rw [HL.out]; exact hown1)
              clear hown1 hgrow hown' hw' c0' c1' c2' c3' hr
              go_wp2
              go_roundw
              case rel => exact ⟨k + 1, by omega, by go_num, by rw [HN'.out]; exact hown2, hw1⟩
              case measure => simp [intOf]; omega
      · obtain rfl : k = rs.length := by omega
        clear hc
        rw [List.take_length] at hown
        rcases hown.form with ⟨rfl, _⟩ | ⟨g, cp, rfl, hg1, hg2, hg3, hg4, _⟩
        all_goals
          go_wp2
          go_ret
          exact ⟨_, rfl, hown, hw⟩

namespace Bd
/-- What a result is told as. -/
def toldE (b : List R) : Int := if 40 < (norm b).length ∨ 1000000 < len b then 4 else 0
def toldR (b : List R) : List R := if 40 < (norm b).length ∨ 1000000 < len b then [] else norm b
theorem told_large {b : List R} (h : 40 < (norm b).length ∨ 1000000 < len b) : toldE b = 4 ∧ toldR b = [] := by unfold toldE toldR; rw [if_pos h, if_pos h]; exact ⟨rfl, rfl⟩
theorem told_fits {b : List R} (h : ¬ (40 < (norm b).length ∨ 1000000 < len b)) : toldE b = 0 ∧ toldR b = norm b := by unfold toldE toldR; rw [if_neg h, if_neg h]; exact ⟨rfl, rfl⟩
end Bd

set_option maxRecDepth 20000 in
theorem told_any (v : Value) (rs : List Bd.R) (w : World) (hv : Runs w v rs) (hf : Bd.fine rs) :
    Calls Try.prog 67 #[v] w fun e w' => ∃ u, e = .returned (.tuple #[u, .int .i64 (Bd.toldE rs)]) ∧ Own w.heap.size w' u (Bd.toldR rs) ∧ Below w.heap.size w w' := by
  have J := Lib.hid (fun W (hW : Below w.heap.size w W) => ref_join_any v rs W (hv.all hW) hf.1 hf.2.1 (by have := hf.2.2; omega))
  obtain ⟨a, c, rfl⟩ := hv.form
  have HF := Lib.hid hf
  clear hv hf
  generalize hE : Bd.toldE rs = E
  generalize hR : Bd.toldR rs = T
  have HE := Lib.hid (And.intro hE hR)
  clear hE hR
  go_enter Try.func67, Try.ntmps67
  go_wp2_with fail
  refine (J.out _ (Below.refl _ _)).mono ?_
  rintro e w1 ⟨u, rfl, hu, hb1⟩
  clear J
  have S := Lib.hid (size_any u (Bd.norm rs) w1 hu.runs (Bd.fine_norm HF.out))
  have hl := Bd.norm_length rs
  have hl2 := HF.out.1
  rw [Bd.norm_len] at S
  by_cases h1 : 40 < (Bd.norm rs).length
  · obtain ⟨e1, e2⟩ := Bd.told_large (b := rs) (.inl h1)
    rw [HE.out.1] at e1
    rw [HE.out.2] at e2
    have EQ := Lib.hid (And.intro e1 e2)
    clear e1 e2 S HF HE
    generalize Bd.norm rs = ns at *
    obtain ⟨ua, uc, hu'⟩ := hu.runs.form
    subst hu'
    go_wp2
    go_ret2
    exact ⟨_, by rw [EQ.out.1]; rfl, by rw [EQ.out.2]; exact Own.nil _ _, hb1⟩
  · by_cases h2 : 1000000 < Bd.len rs
    · obtain ⟨e1, e2⟩ := Bd.told_large (b := rs) (.inr h2)
      rw [HE.out.1] at e1
      rw [HE.out.2] at e2
      have EQ := Lib.hid (And.intro e1 e2)
      clear e1 e2 HF HE
      generalize Bd.norm rs = ns at *
      generalize Bd.len rs = n at *
      obtain ⟨ua, uc, hu'⟩ := hu.runs.form
      subst hu'
      go_wp2_with fail
      refine S.out.mono ?_
      rintro e w2 ⟨rfl, hb2⟩
      go_wp2
      go_ret2
      exact ⟨_, by rw [EQ.out.1]; rfl, by rw [EQ.out.2]; exact Own.nil _ _, below_step hb1 hb2⟩
    · obtain ⟨e1, e2⟩ := Bd.told_fits (b := rs) (by omega)
      rw [HE.out.1] at e1
      rw [HE.out.2] at e2
      have EQ := Lib.hid (And.intro e1 e2)
      clear e1 e2 HF HE
      generalize Bd.norm rs = ns at *
      generalize Bd.len rs = n at *
      obtain ⟨ua, uc, hu'⟩ := hu.runs.form
      subst hu'
      go_wp2_with fail
      refine S.out.mono ?_
      rintro e w2 ⟨rfl, hb2⟩
      go_wp2
      go_ret2
      exact ⟨_, by rw [EQ.out.1]; rfl, by rw [EQ.out.2]; exact hu.all hb2, below_step hb1 hb2⟩
end Go.Proofs.Ytbmjjmpdlmbehaa
