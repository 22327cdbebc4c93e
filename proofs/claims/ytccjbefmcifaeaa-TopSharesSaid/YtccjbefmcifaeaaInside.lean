/- Marks of lots, and the lots contained in marked ones: the reference's. -/
import Derived.Test.YtccjbefmcifaeaaOwnI
namespace Go.Proofs.Ytccjbefmcifaeaa
open Go.RowKit

def updB (f : Nat → Bool) (i : Nat) : Nat → Bool := fun j => if j = i then true else f j
def marksL (n : Nat) (f : Nat → Bool) : List Value := (List.range n).map fun j => .bool (f j)
theorem marksL_len (n : Nat) (f : Nat → Bool) : (marksL n f).length = n := by simp [marksL]
theorem marksL_at {n : Nat} {f : Nat → Bool} {j : Nat} (h : j < n) : (marksL n f)[j]? = some (.bool (f j)) := by simp [marksL, h]
theorem marksL_set (n : Nat) (f : Nat → Bool) (i : Nat) : (marksL n f).set i (.bool true) = marksL n (updB f i) := by
  refine List.ext_getElem (by simp [marksL]) fun j h1 h2 => ?_
  simp only [marksL, List.getElem_set, List.getElem_map, List.getElem_range, updB]
  by_cases e : i = j
  · subst e; simp
  · rw [if_neg e, if_neg (fun h => e h.symm)]
theorem marksL_one (n : Nat) (f : Nat → Bool) : ∀ u ∈ marksL n f, u.oneCell' = true := by
  intro u h
  simp only [marksL, List.mem_map] at h
  obtain ⟨j, _, rfl⟩ := h
  rfl
theorem infoBool : (Try.prog.info? 4).map (fun i => (i.zero, i.size, i.bytes)) = some (some (.bool false), 1, 1) := by kernel_rfl
theorem cellsBools (n : Nat) : madeCells #[.bool false] n = (marksL n (fun _ => false)).toArray := by
  unfold marksL madeCells
  refine Array.ext (by simp) fun i h1 h2 => ?_
  simp [Nat.mod_one]
theorem made_bools (n : Nat) (hn : n ≤ 1000) : ∀ W : World, (Instr.makeSlice 95 (.int .i64 (n : Int)) (.int .i64 (n : Int))).run Try.prog W = .ok (.slice (some ⟨W.heap.size, 0, none⟩) n n) (W.alloc (.cells (marksL n (fun _ => false)).toArray 4)) := by
  intro W
  obtain ⟨i0, hi, hz0, hz1, hz2⟩ := info_parts infoBool
  have := run_makeSlice (P := Try.prog) (w := W) 95 4 i0 (.bool false) Try.underlying95 hi hz0 .i64 .i64 (n : Int) (n : Int) (by omega) (by omega) (by rw [hz1]; omega) (by rw [hz2]; omega) (by omega)
  rw [this, hz1, Nat.mul_one, show ((n : Int)).toNat = n by omega, show (Value.bool false).cells = #[.bool false] from rfl, cellsBools]

/-- What the marks become when a lot's parts are marked, if the lot is. -/
def insL (ls : List Lt.L) (f : Nat → Bool) (i : Nat) : Nat → Bool := if f i then (ls.getD i default).ps.foldl (fun g p => updB g p.l.toNat) f else f
def insK (ls : List Lt.L) (f : Nat → Bool) : Nat → Nat → Bool
  | 0 => f
  | k + 1 => insL ls (insK ls f k) (ls.length - 1 - k)

theorem one_any (v : Value) (ls : List Lt.L) (i : Nat) (w : World) (hv : Lots w v ls) (hl : ls.length ≤ 24) (hi : i < ls.length) :
    Calls Try.prog 75 #[v, .int .i64 i] w fun e w' => e = .returned (.slice (some ⟨w.heap.size, 0, none⟩) ls.length ls.length) ∧ BlockAt w' w.heap.size (marksL ls.length (updB (fun _ => false) i)).toArray 4 ∧ Below w.heap.size w w' := by
  have hmk := made_bools ls.length (by omega)
  have hb0 := BlockAt.new w (marksL ls.length (fun _ => false)).toArray 4
  have hc0 := (hb0.cell i)
  have hc1 : (w.alloc (.cells (marksL ls.length (fun _ => false)).toArray 4)).cell? ⟨w.heap.size, i, none⟩ = some (.bool false) := by rw [hc0]; simp [marksL, hi]
  have hf0 := hb0.frozen i
  have hb1 : BlockAt (w.alloc (.cells ((marksL ls.length (fun _ => false)).set i (.bool true)).toArray 4)) w.heap.size (marksL ls.length (updB (fun _ => false) i)).toArray 4 := by
    rw [marksL_set]; exact BlockAt.new _ _ _
  have H0 := Lib.hid (And.intro (below_alloc (Below.refl w.heap.size w) (.cells ((marksL ls.length (fun _ => false)).set i (.bool true)).toArray 4)) hb1)
  obtain ⟨a, c, rfl⟩ := hv.form
  clear hv hb0 hb1 hc0
  go_enter Try.func75, Try.ntmps75
  go_wp2
  go_ret
  exact ⟨rfl, H0.out.2, H0.out.1⟩

set_option maxRecDepth 20000 in
set_option maxHeartbeats 1000000 in
theorem inside_any (v : Value) (ls : List Lt.L) (B : Nat) (f : Nat → Bool) (w : World) (hv : Lots w v ls) (hl : ls.length ≤ 24) (hl0 : 0 < ls.length) (herr : ∀ j, j < ls.length → Lt.errAt ls j = 0) (hB : BlockAt w B (marksL ls.length f).toArray 4) :
    Calls Try.prog 85 #[v, .slice (some ⟨B, 0, none⟩) ls.length ls.length] w fun e w' => ∃ g cap, e = .returned (.slice (some ⟨g, 0, none⟩) ls.length cap) ∧ w'.ownsRow w.heap.size 4 1 (.slice (some ⟨g, 0, none⟩) ls.length cap) ls.length (marksL ls.length (insK ls f ls.length)) ∧ Below w.heap.size w w' := by
  obtain ⟨i0, hi, hz0, hz1, hz2⟩ := info_parts infoBool
  have hown := World.ownsRow_made (base := w.heap.size) (e := 4) (size := 1) w #[] 0 (Nat.le_refl _) (by unfold maxLen; omega) rfl
  have hw0 := (Below.refl w.heap.size w).alloc (Nat.le_refl _) (.cells #[] 4)
  have hB1 := hB.alloc (.cells #[] 4)
  have hca : ∀ (j : Nat) (u : Value), (marksL ls.length f)[j]? = some u → (w.alloc (.cells #[] 4)).cell? ((⟨B, 0, none⟩ : Addr).add j) = some u := by
    intro j u h
    have := hB1.cell j
    simp only [List.getElem?_toArray] at this
    rw [← h, ← this]
    cases j <;> simp [Addr.add]
  obtain ⟨a, c, rfl, hk⟩ := hv.look
  have HK := Lib.hid hk
  have HE := Lib.hid herr
  clear hv hk herr hB hB1
  go_enter Try.func85, Try.ntmps85
  go_wp2_with (at_builtin; refine wpList_append_own _ rfl _ _ 95 rfl w.heap.size 4 i0 (.bool false) 1 1 Try.underlying95 hi hz0 hz1 hz2 rfl (by decide) _ _ _ rfl hown ⟨B, 0, none⟩ ls.length ls.length (marksL ls.length f) rfl (by rw [marksL_len, Nat.mul_one]) hca (marksL_one _ _) (by unfold maxLen; omega) (by omega) (by simp) ?_)
  intro v' w1 hown1 hgrow _
  have hw1 := hw0.grown hgrow (by simp) (fun j e => (World.ownsRow.lt hown j e).1)
  have hx : w1.ownsRow w.heap.size 4 1 v' ls.length (marksL ls.length f) := by simpa using hown1
  obtain ⟨g, cap, rfl⟩ : ∃ g cap, v' = .slice (some ⟨g, 0, none⟩) ls.length cap := by
    rcases hx.2 with ⟨_, h0⟩ | ⟨g, cap, cur, h1, _⟩
    · omega
    · exact ⟨g, cap, h1⟩
  have H0 := Lib.hid (And.intro hx hw1)
  clear hown hgrow hown1 hca hw0 hx hw1
  go_wp2
  go_loopw [6] (fun t wr => ∃ k : Nat, k ≤ ls.length ∧ t = .int .i64 ((ls.length : Int) - 1 - k) ∧ Hid (wr.ownsRow w.heap.size 4 1 (.slice (some ⟨g, 0, none⟩) ls.length cap) ls.length (marksL ls.length (insK ls f k)) ∧ Below w.heap.size w wr)) (fun t _ => (intOf t + 1).toNat)
  case atStart => exact ⟨0, Nat.zero_le _, by simp, H0⟩
  case round =>
    obtain ⟨k, hk, rfl, hg⟩ := hrel
    clear H0
    by_cases hlt : k < ls.length
    · obtain ⟨m, hm⟩ : ∃ m : Nat, (m : Int) = (ls.length : Int) - 1 - k := ⟨ls.length - 1 - k, by omega⟩
      have hml : m < ls.length := by omega
      obtain ⟨hx, hw⟩ := hg.out
      obtain ⟨b, off, u, rfl, hbl, hlot⟩ := HK.out m hml
      have hps := hlot.2.2.2
      have HC2 := Lib.hid hlot.2.2.1
      have h6 := (Lt.errAt_parts (HE.out _ hml)).2.1
      have HB := Lib.hid (fun j (hj : j < (ls.getD m default).ps.length) => part_before (HE.out _ hml) hj)
      have HRR := Lib.hid (show insK ls f (k + 1) = if insK ls f k m then (ls.getD m default).ps.foldl (fun g p => updB g p.l.toNat) (insK ls f k) else insK ls f k by
        show insL ls (insK ls f k) (ls.length - 1 - k) = _
        rw [show ls.length - 1 - k = m by omega]; rfl)
      have HM := Lib.hid hm
      rw [← hm]
      have hm0 : (0 : Int) ≤ (m : Int) := by omega
      have hmn : (m : Int) < ls.length := by omega
      clear hlot hm
      generalize insK ls f k = F at *
      generalize ls.getD m default = x at *
      obtain ⟨xk, xm, ps⟩ := x
      dsimp only at *
      obtain ⟨pa, pc, rfl, hpk⟩ := hps.look
      have HPK := Lib.hid hpk
      have HG := Lib.hid (And.intro hx hw)
      clear hps hpk hx hw hg
      by_cases hF : F m
      · rw [if_pos hF] at HRR
        go_wp2
        go_loopw [7] (fun t w2 => ∃ j : Nat, j ≤ ps.length ∧ t = .int .i64 j ∧ Hid (w2.ownsRow w.heap.size 4 1 (.slice (some ⟨g, 0, none⟩) ls.length cap) ls.length (marksL ls.length ((ps.take j).foldl (fun g p => updB g p.l.toNat) F)) ∧ Below w.heap.size w w2 ∧ (ps.take j).foldl (fun g p => updB g p.l.toNat) F m = true)) (fun t _ => ps.length - (intOf t).toNat)
        case atStart => exact ⟨0, Nat.zero_le _, rfl, Lib.hid ⟨HG.out.1, HG.out.2, hF⟩⟩
        case round =>
          obtain ⟨j, hj, rfl, hg⟩ := hrel
          clear HG
          obtain ⟨hx, hw, hfm⟩ := hg.out
          have c2 := (hw.cell (p := ⟨b, off + m * 3 + 2, none⟩) hbl).trans HC2.out
          by_cases hjl : j < ps.length
          · obtain ⟨pb, poff, rfl, hpb, hpt⟩ := HPK.out j hjl
            obtain ⟨d0, d1⟩ := hpt.below hw hpb
            obtain ⟨q, hq, hqm⟩ := HB.out j hjl
            have HS := Lib.hid (show (ps.take (j + 1)).foldl (fun g p => updB g p.l.toNat) F = updB ((ps.take j).foldl (fun g p => updB g p.l.toNat) F) ps[j].l.toNat by
              rw [List.take_succ_eq_append_getElem hjl, List.foldl_append]; rfl)
            rw [getD_P hjl] at d0 d1
            generalize (ps.take j).foldl (fun g p => updB g p.l.toNat) F = f2 at *
            generalize ps[j] = p at *
            obtain ⟨pl, pm⟩ := p
            dsimp only at *
            subst hq
            rw [Int.toNat_natCast] at HS
            have hql : q < ls.length := by omega
            have e1 := (World.ownsRow.cellAt hx m (by omega)).trans (marksL_at hml)
            rw [hfm] at e1
            have e2 := (World.ownsRow.cellAt hx q (by omega)).trans (marksL_at hql)
            have e3 := World.ownsRow.frozenAt hx q
            obtain ⟨hx2, hgrow⟩ := World.ownsRow.stored hx q (.bool true)
            rw [marksL_set, ← HS.out] at hx2
            have hw2 := hw.grown hgrow (by have := hw.size; omega) (fun j e => by simp at e; subst e; exact (World.ownsRow.lt hx g rfl).1)
            have hm2 : (ps.take (j + 1)).foldl (fun g p => updB g p.l.toNat) F m = true := by rw [HS.out]; unfold updB; rw [if_neg (by omega)]; exact hfm
            have HN := Lib.hid (And.intro hx2 (And.intro hw2 hm2))
            generalize f2 q = z at *
            clear hpt hx hw hg d1 hx2 hw2 hm2 hgrow hfm
            go_wp2
            go_roundw
            case rel => exact ⟨j + 1, by omega, by go_num, HN⟩
            case measure => simp [intOf]; omega
          · obtain rfl : j = ps.length := by omega
            rw [List.take_length, ← HRR.out] at hg
            have HH := Lib.hid (And.intro hg.out.1 hg.out.2.1)
            clear hx hw hfm hg
            go_wp2
            go_roundw
            case rel => exact ⟨k + 1, by omega, by (have := HM.out); go_num, HH⟩
            case measure => simp [intOf]; try omega
      · rw [if_neg hF] at HRR
        have hFm : F m = false := by simpa using hF
        have hc2 := (HG.out.2.cell (p := ⟨b, off + m * 3 + 2, none⟩) hbl).trans HC2.out
        have e1 := (World.ownsRow.cellAt HG.out.1 m (by omega)).trans (marksL_at hml)
        rw [hFm] at e1
        rw [← HRR.out] at HG
        clear hF
        go_wp2
        go_loopw [7] (fun t w2 => t = .int .i64 0 ∧ w2 = wr) (fun _ _ => 0)
        case atStart => exact ⟨rfl, rfl⟩
        case round =>
          obtain ⟨rfl, rfl⟩ := hrel
          by_cases hp0 : ps.length = 0
          · have hp1 : ¬ 0 < ps.length := by omega
            clear hp0
            go_wp2
            go_roundw
            case rel => exact ⟨k + 1, by omega, by (have := HM.out); go_num, HG⟩
            case measure => simp [intOf]; try omega
          · have hp1 : 0 < ps.length := by omega
            clear hp0
            go_wp2
            go_roundw
            case rel => exact ⟨k + 1, by omega, by (have := HM.out); go_num, HG⟩
            case measure => simp [intOf]; try omega
    · obtain rfl : k = ls.length := by omega
      obtain ⟨hx, hw⟩ := hg.out
      clear hg
      have hneg : ¬ (0 : Int) ≤ (ls.length : Int) - 1 - ls.length := by omega
      go_wp2
      go_ret
      exact ⟨_, _, rfl, hx, hw⟩
end Go.Proofs.Ytccjbefmcifaeaa
