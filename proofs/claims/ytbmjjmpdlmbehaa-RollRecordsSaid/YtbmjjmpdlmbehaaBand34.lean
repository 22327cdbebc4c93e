/- Places of the program. -/
import Derived.Test.YtbmjjmpdlmbehaaBand33
namespace Go.Proofs.Ytbmjjmpdlmbehaa
open Go.RowKit Go.Shelf

attribute [local go_sem] Oper.semAt_some

namespace Bd
/-- The places where a normal band changes. -/
def plc (x : List R) : List Int := (List.range (x.length - 1)).map fun i => len (x.take (i + 1))
def plcR (rs : List R) : List Int := if valE rs = 0 then plc (norm rs) else []
end Bd
def plcSp (x : Bd.Sp) : List Int := if 0 < x.f then [x.f] else []
def plcS (pre : List Bd.SpB) : List Int := pre.flatMap fun x => plcSp x.1
theorem plcS_snoc (pre : List Bd.SpB) (x : Bd.SpB) : plcS (pre ++ [x]) = plcS pre ++ plcSp x.1 := by simp [plcS]
theorem plcSp_pos {x : Bd.Sp} (h : 0 < x.f) : plcSp x = [x.f] := if_pos h
theorem plcSp_neg {x : Bd.Sp} (h : ¬ 0 < x.f) : plcSp x = [] := if_neg h
theorem plcS_le : ∀ pre : List Bd.SpB, (plcS pre).length ≤ pre.length
  | [] => by simp [plcS]
  | x :: pre => by
    have h1 := plcS_le pre
    have e : plcS (x :: pre) = plcSp x.1 ++ plcS pre := by simp [plcS]
    have h2 : (plcSp x.1).length ≤ 1 := by unfold plcSp; split <;> simp
    rw [e]; simp; omega
theorem plcS_upto {x : List Bd.R} (hf : Bd.fine x) : ∀ n, n + 1 ≤ x.length → plcS (Bd.upto x (n + 1)) = (List.range n).map fun i => Bd.len (x.take (i + 1))
  | 0, h => by
    have e := Bd.spk_eq hf (k := 0) (by omega)
    rw [Bd.upto_succ, plcS_snoc, e]
    simp [plcS, Bd.upto, plcSp, Bd.len]
  | n + 1, h => by
    have ih := plcS_upto hf n (by omega)
    have e := Bd.spk_eq hf (k := n + 1) (by omega)
    have h3 : 0 < Bd.len (x.take (n + 1)) := by
      rw [Bd.len_take_succ (show n < x.length by omega)]
      have := (Bd.len_take_le hf.2.1 n).1
      have := hf.2.1 x[n] (List.getElem_mem (by omega))
      omega
    rw [Bd.upto_succ, plcS_snoc, ih, e, plcSp_pos h3, List.range_succ, List.map_append]
    rfl
theorem plcS_all {x : List Bd.R} (hf : Bd.fine x) : plcS (Bd.upto x x.length) = Bd.plc x := by
  unfold Bd.plc
  rcases Nat.eq_zero_or_pos x.length with h | h
  · rw [h]; simp [plcS, Bd.upto]
  · obtain ⟨n, hn⟩ : ∃ n, x.length = n + 1 := ⟨x.length - 1, by omega⟩
    rw [hn]
    exact plcS_upto hf n (by omega)
theorem BlockAt.not_row {W : World} {B : Nat} {cs : Array Value} {t e : TypeId} (h : BlockAt W B cs t) (hte : t ≠ e) {base size k : Nat} {v : Value} {xs : List Value} (hr : W.ownsRow base e size v k xs) : some B ≠ v.ownBlock := by
  rcases hr.2 with ⟨rfl, _⟩ | ⟨g, cap, cur, rfl, _, hgb, _⟩
  · simp [Value.ownBlock]
  · intro e'
    obtain rfl : B = g := by simpa [Value.ownBlock] using e'
    have := (show W.heap[B]? = _ from h).symm.trans hgb
    simp at this
    exact hte this.2

end Go.Proofs.Ytbmjjmpdlmbehaa
