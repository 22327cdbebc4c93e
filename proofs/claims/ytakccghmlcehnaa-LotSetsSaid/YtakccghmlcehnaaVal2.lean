/- Whether a lot keeps the rule: the program's; the errors of one lot. -/
import Derived.Test.YtakccghmlcehnaaVal1
namespace Go.Proofs.Ytakccghmlcehnaa
open Go.RowKit

abbrev ptrV (b : Nat) : Value := .pointer (some ⟨b, 0, none⟩)
theorem oilClosure_any (p : Lt.P) (bl : Nat) (v : Value) (ls : List Lt.L) (w : World) (hc : w.cell? ⟨bl, 0, none⟩ = some v) (hbl : bl < w.heap.size) (hv : Lots w v ls) (h0 : 0 ≤ p.l) (h1 : p.l < ls.length) (hl : ls.length ≤ 1000) :
    Calls Try.prog 115 #[partV p, ptrV bl] w fun e w' => e = .returned (.bool (Lt.kindAt ls p.l == 0)) ∧ Below w.heap.size w w' := by
  obtain ⟨pl, pm⟩ := p
  obtain ⟨j, rfl⟩ : ∃ j : Nat, pl = (j : Int) := ⟨pl.toNat, by dsimp only at h0; omega⟩
  dsimp only at h0 h1 ⊢
  obtain ⟨a, c, rfl, hk⟩ := hv.look
  obtain ⟨b, off, u, rfl, hb, hlot⟩ := hk j (by omega)
  have hw := below_alloc (Below.refl w.heap.size w) (.cells #[.int .i64 (j : Int), .int .i64 pm] 35)
  have hc1 : (w.alloc (.cells #[.int .i64 (j : Int), .int .i64 pm] 35)).cell? ⟨bl, 0, none⟩ = some (.slice (some ⟨b, off, none⟩) ls.length c) := (hw.cell (p := ⟨bl, 0, none⟩) hbl).trans hc
  obtain ⟨c0, _, _, _⟩ := hlot.below hw hb
  have hK : Lt.kindAt ls (j : Int) = (ls.getD j default).k := by simp [Lt.kindAt]
  rw [hK]
  have H0 := Lib.hid hw
  have hj : j < ls.length := by omega
  clear hk hlot hw hv hc hK
  generalize (ls.getD j default).k = kk at *
  by_cases hz : kk = 0
  · subst hz
    go_enter Try.func115, Try.ntmps115
    go_wp2
    go_ret
    exact ⟨rfl, H0.out⟩
  · have hz2 : (kk == 0) = false := by simpa using hz
    have HZ := Lib.hid hz2
    go_enter Try.func115, Try.ntmps115
    go_wp2
    go_ret
    exact ⟨ret_bool (by rw [HZ.out]), H0.out⟩

/-- The first place of an element that passes, or -1. -/
def idxP (f : Lt.P → Bool) (ps : List Lt.P) : Int := match ps.findIdx? f with | some k => k | none => -1
theorem idxP_any (f : Lt.P → Bool) (ps : List Lt.P) : decide (0 ≤ idxP f ps) = ps.any f := by
  unfold idxP
  cases h : ps.findIdx? f with
  | none =>
    have : ps.any f = false := by rw [List.findIdx?_eq_none_iff] at h; simpa using h
    simp [this]
  | some k =>
    have : ps.any f = true := by
      obtain ⟨hk, h1, _⟩ := List.findIdx?_eq_some_iff_getElem.1 h
      exact List.any_eq_true.2 ⟨_, List.getElem_mem hk, h1⟩
    simp [this]
theorem idxP_hit {f : Lt.P → Bool} {ps : List Lt.P} {k : Nat} (h : k < ps.length) (h0 : ∀ j, (hj : j < ps.length) → j < k → f ps[j] = false) (hk : f ps[k] = true) : idxP f ps = k := by
  unfold idxP
  rw [List.findIdx?_eq_some_iff_getElem.2 ⟨h, hk, fun j hj => by simpa using h0 j (by omega) hj⟩]
theorem idxP_none {f : Lt.P → Bool} {ps : List Lt.P} (h0 : ∀ j, (hj : j < ps.length) → f ps[j] = false) : idxP f ps = -1 := by
  unfold idxP
  rw [List.findIdx?_eq_none_iff.2 fun p hp => by obtain ⟨j, hj, rfl⟩ := List.getElem_of_mem hp; exact h0 j hj]

set_option maxRecDepth 20000 in
set_option maxHeartbeats 1000000 in
theorem indexOil_any (u : Value) (ps : List Lt.P) (bl : Nat) (v : Value) (ls : List Lt.L) (w : World) (hp : Parts w u ps) (hpl : ps.length ≤ 1000) (hin : ∀ p ∈ ps, 0 ≤ p.l ∧ p.l < ls.length) (hc : w.cell? ⟨bl, 0, none⟩ = some v) (hbl : bl < w.heap.size) (hv : Lots w v ls) (hl : ls.length ≤ 1000) :
    Calls Try.prog 122 #[u, .func (.func 115) #[] #[ptrV bl]] w fun e w' => e = .returned (.int .i64 (idxP (fun p => Lt.kindAt ls p.l == 0) ps)) ∧ Below w.heap.size w w' := by
  obtain ⟨a, c, rfl, hk⟩ := hp.look
  have HK := Lib.hid hk
  have HC := Lib.hid (fun W (hW : Below w.heap.size w W) (p : Lt.P) (h : p ∈ ps) => oilClosure_any p bl v ls W ((hW.cell (p := ⟨bl, 0, none⟩) hbl).trans hc) (Nat.lt_of_lt_of_le hbl hW.size) (hv.all hW) (hin p h).1 (hin p h).2 hl)
  have H0 := Lib.hid (Below.refl w.heap.size w)
  generalize hR : idxP (fun p => Lt.kindAt ls p.l == 0) ps = R
  have HR := Lib.hid hR
  clear hk hp hR hc hv hin
  go_enter Try.func122, Try.ntmps122
  go_wp2
  go_loopw [8] (fun t wr => ∃ k : Nat, k ≤ ps.length ∧ t = .int .i64 k ∧ Hid (Below w.heap.size w wr ∧ ∀ j, (hj : j < ps.length) → j < k → (Lt.kindAt ls ps[j].l == 0) = false)) (fun t _ => ps.length - (intOf t).toNat)
  case atStart => exact ⟨0, Nat.zero_le _, rfl, Lib.hid ⟨H0.out, fun j _ h => absurd h (Nat.not_lt_zero _)⟩⟩
  case round =>
    obtain ⟨k, hk, rfl, hg⟩ := hrel
    obtain ⟨hw, hpre⟩ := hg.out
    have HPRE := Lib.hid hpre
    clear H0 hg hpre
    by_cases hlt : k < ps.length
    · obtain ⟨b, off, rfl, hb, hpt⟩ := HK.out k hlt
      rw [getD_P hlt] at hpt
      obtain ⟨c0, c1⟩ := hpt.below hw hb
      have C := Lib.hid (HC.out _ hw ps[k] (List.getElem_mem hlt))
      have HHIT := Lib.hid (idxP_hit (f := fun p => Lt.kindAt ls p.l == 0) hlt HPRE.out)
      have HW := Lib.hid hw
      clear hpt hw
      generalize hpk : ps[k] = p at *
      have HPK := Lib.hid hpk
      clear hpk
      cases hb0 : (Lt.kindAt ls p.l == 0) with
      | true =>
        have HB := Lib.hid hb0
        clear hb0
        go_wp2_with fail
        refine C.out.mono ?_
        rw [HB.out]
        rintro e w1 ⟨rfl, hb1⟩
        go_wp2
        go_ret
        exact ⟨ret_int (by rw [← HR.out]; exact (HHIT.out HB.out).symm), below_step HW.out hb1⟩
      | false =>
        have HB := Lib.hid hb0
        clear hb0
        go_wp2_with fail
        refine C.out.mono ?_
        rw [HB.out]
        rintro e w1 ⟨rfl, hb1⟩
        go_wp2
        go_roundw
        case rel =>
          refine ⟨k + 1, by omega, by go_num, Lib.hid ⟨below_step HW.out hb1, fun j hj hjk => ?_⟩⟩
          by_cases e : j = k
          · subst e; rw [HPK.out]; exact HB.out
          · exact HPRE.out j hj (by omega)
        case measure => simp [intOf]; omega
    · obtain rfl : k = ps.length := by omega
      have HN := Lib.hid (idxP_none (f := fun p => Lt.kindAt ls p.l == 0) (fun j hj => HPRE.out j hj hj))
      go_wp2
      go_ret
      exact ⟨ret_int (by rw [← HR.out]; exact HN.out.symm), hw⟩

theorem containsOil_any (u : Value) (ps : List Lt.P) (bl : Nat) (v : Value) (ls : List Lt.L) (w : World) (hp : Parts w u ps) (hpl : ps.length ≤ 1000) (hin : ∀ p ∈ ps, 0 ≤ p.l ∧ p.l < ls.length) (hc : w.cell? ⟨bl, 0, none⟩ = some v) (hbl : bl < w.heap.size) (hv : Lots w v ls) (hl : ls.length ≤ 1000) :
    Calls Try.prog 114 #[u, .func (.func 115) #[] #[ptrV bl]] w fun e w' => e = .returned (.bool (Lt.oil ls ps)) ∧ Below w.heap.size w w' := by
  have C := Lib.hid (indexOil_any u ps bl v ls w hp hpl hin hc hbl hv hl)
  have HI := Lib.hid (idxP_any (fun p => Lt.kindAt ls p.l == 0) ps)
  obtain ⟨a, c, rfl⟩ := hp.form
  clear hp hin hc hv
  generalize idxP (fun p => Lt.kindAt ls p.l == 0) ps = z at *
  go_enter Try.func114, Try.ntmps114
  go_wp2_with fail
  refine C.out.mono ?_
  rintro e w1 ⟨rfl, hb1⟩
  go_wp2
  go_ret
  exact ⟨ret_bool HI.out, hb1⟩
end Go.Proofs.Ytakccghmlcehnaa
