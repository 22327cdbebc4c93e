/- Whether a genealogy has long lists; the answers of one lot: both sides. -/
import Derived.Test.YtccjbefmcifaeaaRefs
namespace Go.Proofs.Ytccjbefmcifaeaa
open Go.RowKit

def isShort (ls : List Lt.L) : Prop := ls.length ≤ 40 ∧ ∀ j, j < ls.length → (ls.getD j default).ps.length ≤ 20
theorem isShort.short {ls : List Lt.L} (h : isShort ls) : short ls := ⟨by have := h.1; omega, h.2⟩
def longB (ls : List Lt.L) : Bool := decide (40 < ls.length) || ls.any fun x => decide (20 < x.ps.length)
theorem longB_short {ls : List Lt.L} (h : longB ls = false) : isShort ls := by
  unfold longB at h
  simp only [Bool.or_eq_false_iff, decide_eq_false_iff_not, List.any_eq_false, decide_eq_true_eq] at h
  refine ⟨by omega, fun j hj => ?_⟩
  have := h.2 ls[j] (List.getElem_mem hj)
  simp [hj]; omega
theorem longB_hit {ls : List Lt.L} {k : Nat} (h : k < ls.length) (hk : 20 < ls[k].ps.length) : longB ls = true := by
  unfold longB
  rw [Bool.or_eq_true]; right
  exact List.any_eq_true.2 ⟨_, List.getElem_mem h, by simpa using hk⟩
theorem longB_none {ls : List Lt.L} (h0 : ls.length ≤ 40) (h : ∀ k, (hk : k < ls.length) → ls[k].ps.length ≤ 20) : longB ls = false := by
  unfold longB
  rw [Bool.or_eq_false_iff]
  refine ⟨by simpa using h0, ?_⟩
  rw [List.any_eq_false]
  intro x hx
  obtain ⟨k, hk, rfl⟩ := List.getElem_of_mem hx
  have := h k hk
  simp; omega

set_option maxRecDepth 20000 in
theorem long_any (v : Value) (ls : List Lt.L) (w : World) (hv : Lots w v ls) :
    Calls Try.prog 16 #[v] w fun e w' => e = .returned (.bool (longB ls)) ∧ w' = w := by
  obtain ⟨a, c, rfl, hlk⟩ := hv.look
  have HK := Lib.hid hlk
  clear hv hlk
  generalize hR : longB ls = R
  have HR := Lib.hid hR
  clear hR
  by_cases h40 : 40 < ls.length
  · have HX := Lib.hid (show R = true by rw [← HR.out]; unfold longB; simp [h40])
    go_enter Try.func16, Try.ntmps16
    go_wp2
    go_ret
    exact ⟨ret_bool HX.out.symm, rfl⟩
  · have h40b : decide (40 < (ls.length : Int)) = false := by simp; omega
    go_enter Try.func16, Try.ntmps16
    go_wp2
    go_loop [3] (fun t => ∃ k : Nat, k ≤ ls.length ∧ t = .int .i64 k ∧ Hid (∀ j, (hj : j < ls.length) → j < k → ls[j].ps.length ≤ 20)) (fun t => ls.length - (intOf t).toNat)
    case atStart => exact ⟨0, Nat.zero_le _, rfl, Lib.hid fun j _ h => absurd h (Nat.not_lt_zero _)⟩
    case round =>
      obtain ⟨k, hk, rfl, hg⟩ := hrel
      by_cases hlt : k < ls.length
      · obtain ⟨b, off, u, rfl, hb, c0, c1, c2, hps⟩ := HK.out k hlt
        rw [getD_L hlt] at hps
        obtain ⟨pa, pc, rfl⟩ := hps.form
        have HHIT := Lib.hid (longB_hit hlt)
        clear hps c0 c1
        generalize hx : ls[k].ps.length = n at *
        have HX := Lib.hid hx
        clear hx
        by_cases h20 : 20 < n
        · have HT := Lib.hid ((HHIT.out h20).symm.trans HR.out)
          go_wp2
          go_ret
          exact ⟨ret_bool HT.out, rfl⟩
        · go_wp2
          go_round
          case rel =>
            refine ⟨k + 1, by omega, by go_num, Lib.hid fun j hj hjk => ?_⟩
            by_cases e : j = k
            · subst e; rw [HX.out]; omega
            · exact hg.out j hj (by omega)
          case measure => simp [intOf]; omega
      · obtain rfl : k = ls.length := by omega
        have HX := Lib.hid (show R = false by rw [← HR.out]; exact longB_none (by omega) (fun j hj => hg.out j hj hj))
        go_wp2
        go_ret
        exact ⟨ret_bool HX.out.symm, rfl⟩
end Go.Proofs.Ytccjbefmcifaeaa
