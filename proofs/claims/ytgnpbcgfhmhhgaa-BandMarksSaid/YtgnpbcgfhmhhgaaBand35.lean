/- Places of the reference. -/
import Derived.Test.YtgnpbcgfhmhhgaaBand34
namespace Go.Proofs.Ytgnpbcgfhmhhgaa
open Go.RowKit

theorem OwnI.mono {base B : Nat} {w : World} {v : Value} {rs : List Int} (h : OwnI base w v rs) (hB : B ≤ base) : OwnI B w v rs := by
  obtain ⟨h0, h⟩ := h
  rcases h with h | ⟨g, cap, cur, h1, h2, h3⟩
  · exact ⟨h0, .inl h⟩
  · exact ⟨h0, .inr ⟨g, cap, cur, h1, Nat.le_trans hB h2, h3⟩⟩
theorem OwnI.drewN {base : Nat} {w : World} {v : Value} {rs : List Int} (h : OwnI base w v rs) (n : Nat) : OwnI base (w.drewN n) v rs := h
def plcK (x : List Bd.R) (n : Nat) : List Int := (List.range n).map fun i => Bd.len (x.take (i + 1))
theorem plcK_succ (x : List Bd.R) (n : Nat) : plcK x (n + 1) = plcK x n ++ [Bd.len (x.take (n + 1))] := by simp [plcK, List.range_succ]
theorem plcK_length (x : List Bd.R) (n : Nat) : (plcK x n).length = n := by simp [plcK]

set_option maxRecDepth 20000 in
set_option maxHeartbeats 2000000 in
theorem ref_places_any (v : Value) (rs : List Bd.R) (w : World) (hv : Runs w v rs) (hl : rs.length ≤ 1000) :
    Calls Try.prog 30 #[v] w fun e w' => ∃ u, e = .returned (.tuple #[u, .int .i64 (Bd.valE rs)]) ∧ OwnI w.heap.size w' u (Bd.plcR rs) ∧ Below w.heap.size w w' := by
  obtain ⟨i0, hi, hz0, hz1, hz2⟩ := info_parts infoInt
  have V := Lib.hid (ref_validate_any v rs w hv hl)
  have NR := Lib.hid (fun W (hW : Below w.heap.size w W) h1 h2 => ref_join_any v rs W (hv.all hW) hl h1 h2)
  obtain ⟨ao, c, rfl⟩ := hv.form
  generalize hE : Bd.valE rs = E
  generalize hPL : Bd.plcR rs = ps
  have HE := Lib.hid (And.intro hE hPL)
  clear hE hPL hv
  go_enter Try.func30, Try.ntmps30
  go_wp2_with fail
  refine V.out.mono ?_
  rintro e w1 ⟨rfl, hB1⟩
  have hs1 := hB1.size
  by_cases hv0 : Bd.valE rs = 0
  · have hE0 : E = 0 := HE.out.1.symm.trans hv0
    have hPS : ps = Bd.plc (Bd.norm rs) := by rw [← HE.out.2]; unfold Bd.plcR; rw [if_pos hv0]
    subst hE0
    have HPS := Lib.hid hPS
    rw [hv0]
    have hf := Bd.fine_of_valid hv0
    have hnf : Bd.fine (Bd.norm rs) := Bd.fine_norm hf
    have C := Lib.hid (NR.out _ hB1 hf.2.1 (by have := hf.2.2; omega))
    clear V NR HE hf hv0 hPS
    go_wp2_with fail
    refine C.out.mono ?_
    rintro e w2 ⟨u, rfl, hu, hb2⟩
    have hB2 := below_step hB1 hb2
    have hs2 := hb2.size
    clear hb2 C hB1
    obtain ⟨uo, uc, rfl, hlk⟩ := hu.runs.look
    generalize Bd.norm rs = xs at *
    have HK := Lib.hid hlk
    have HB := Lib.hid (Bd.len_take_le hnf.2.1)
    have hmax := hnf.2.2
    have hlen := hnf.1
    clear hlk hu hnf
    go_wp2
    have hw0 := Below.refl w2.heap.size w2
    go_loopw [6, 7, 8] (fun o s t wr => ∃ k : Nat, k ≤ xs.length - 1 ∧ t = .int .i64 k ∧ s = .int .i64 (Bd.len (xs.take k)) ∧ Hid (OwnI w2.heap.size wr o (plcK xs k) ∧ Below w2.heap.size w2 wr)) (fun _ _ t _ => xs.length - (intOf t).toNat)
    case atStart => exact ⟨0, Nat.zero_le _, rfl, rfl, Lib.hid ⟨OwnI.nil _ _, hw0⟩⟩
    case round =>
      obtain ⟨k, hk, rfl, rfl, hg⟩ := hrel
      clear hw0
      by_cases hlt : k + 1 < xs.length
      · obtain ⟨hown, hw⟩ := hg.out
        have hlt' : k < xs.length := by omega
        obtain ⟨b, off, rfl, hb, hr⟩ := HK.out k hlt'
        obtain ⟨c0, c1, c2, c3⟩ := hr.below hw hb
        have hs := Bd.len_take_succ hlt'
        have b1 := HB.out k
        have b2 := HB.out (k + 1)
        rw [hs] at b2
        have HS := Lib.hid hs
        have hcl := plcK_length xs k
        clear hs hg hr HB c1 c2 c3
        generalize hc2 : plcK xs k = cs at *
        have HC2 := Lib.hid hc2
        clear hc2
        generalize Bd.len (xs.take k) = s at *
        generalize xs[k] = r at *
        unfold OwnI at hown
        go_wp2_with (at_builtin; refine wpList_append_own _ rfl _ _ 38 rfl w2.heap.size 3 i0 (.int .i64 0) 1 8 Try.underlying38 hi hz0 hz1 hz2 rfl (by decide) _ _ _ rfl (hown.alloc _) ⟨wr.heap.size, 0, none⟩ 1 1 (intC (s + r.l)) rfl rfl (intC_at wr _ _) (intC_one _) (by unfold maxLen; omega) (by omega) (by have := hw.size; simp; omega) ?_)
        intro v' w3 hown1 hgrow _
        have hw3 := (hw.alloc hw.size (.cells #[.int .i64 (s + r.l)] 3)).grown hgrow (by have := hw.size; simp; omega) (fun j e => (World.ownsRow.lt hown j e).1)
        rw [← hcl] at hown1
        have hx3 := OwnI.pushed (a := cs) hown1
        clear hown1 hgrow hown c0 hw
        go_wp2
        go_roundw
        case rel => exact ⟨k + 1, by omega, by go_num, by rw [HS.out], Lib.hid ⟨by rw [plcK_succ, HC2.out, HS.out]; exact hx3, hw3⟩⟩
        case measure => simp [intOf]; omega
      · obtain rfl : k = xs.length - 1 := by omega
        go_wp2
        go_ret2
        exact ⟨_, rfl, by rw [HPS.out]; exact hg.out.1.mono (by omega), hB2.trans (hg.out.2.mono (by omega))⟩
  · have hPS : ps = [] := by rw [← HE.out.2]; unfold Bd.plcR; rw [if_neg hv0]
    subst hPS
    have hEE := HE.out.1
    generalize Bd.valE rs = z at *
    have hz : (z == 0) = false := by simp [hv0]
    have HZ := Lib.hid hEE
    clear hEE HE V NR hv0
    go_wp2
    go_ret2
    exact ⟨_, by rw [HZ.out]; rfl, OwnI.nil _ _, hB1⟩
end Go.Proofs.Ytgnpbcgfhmhhgaa
