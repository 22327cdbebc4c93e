/- Where of the program; volumes, of the program and of the reference. -/
import Derived.Test.YtbmjjmpdlmbehaaBand44
namespace Go.Proofs.Ytbmjjmpdlmbehaa
open Go.RowKit

namespace Bd
def vol : List R → Int
  | [] => 0
  | r :: b => r.l * r.m.t + vol b
theorem vol_append (a b : List R) : vol (a ++ b) = vol a + vol b := by
  induction a with
  | nil => simp [vol]
  | cons r a ih => simp only [List.cons_append, vol, ih]; omega
theorem vol_take_succ {b : List R} {k : Nat} (h : k < b.length) : vol (b.take (k + 1)) = vol (b.take k) + b[k].l * b[k].m.t := by
  rw [List.take_succ_eq_append_getElem h, vol_append]; simp [vol]
theorem okR_mul {r : R} (h : okR r = true) : 0 ≤ r.l * r.m.t ∧ r.l * r.m.t ≤ 1000000000 := by
  simp only [okR, okM, Bool.and_eq_true, decide_eq_true_eq] at h
  obtain ⟨⟨h1, h2⟩, ⟨⟨h3, h4⟩, _⟩, _⟩ := h
  refine ⟨Int.mul_nonneg (by omega) (by omega), ?_⟩
  have := Int.mul_le_mul h2 h4 (by omega) (by omega)
  simpa using this
theorem vol_bound {b : List R} (h : ∀ r ∈ b, okR r = true) : ∀ k, k ≤ b.length → 0 ≤ vol (b.take k) ∧ vol (b.take k) ≤ k * 1000000000
  | 0, _ => by simp [vol]
  | k + 1, hk => by
    have ih := vol_bound h k (by omega)
    have hm := okR_mul (h b[k] (List.getElem_mem (by omega)))
    rw [vol_take_succ (by omega)]
    omega
def volR (rs : List R) : Int := if valE rs = 0 then vol rs else 0
end Bd

set_option maxRecDepth 20000 in
set_option maxHeartbeats 1000000 in
theorem num_where_any (v : Value) (rs : List Bd.R) (la mo sh fl : Int) (w : World) (hv : Runs w v rs) (hl : rs.length ≤ 1000) :
    Calls Try.prog 53 #[v, .agg #[.int .i64 la, .int .i64 mo, .int .i64 sh, .int .i64 fl]] w fun e w' => ∃ u, e = .returned (.tuple #[u, .int .i64 (Bd.valE rs)]) ∧ OwnS w.heap.size w' u (Bd.whR la mo sh fl rs) ∧ Below w.heap.size w w' := by
  have hb0 := (Below.refl w.heap.size w).alloc (Nat.le_refl _) (.cells #[.int .i64 la, .int .i64 mo, .int .i64 sh, .int .i64 fl] 76)
  have V := Lib.hid (validate_any v rs _ (hv.all hb0) hl)
  have P := Lib.hid (fun W (hW : Below w.heap.size w W) h => spans_any v rs la mo sh fl W (hv.all hW) h)
  obtain ⟨ao, c, rfl⟩ := hv.form
  generalize hE : Bd.valE rs = E
  generalize hPL : Bd.whR la mo sh fl rs = ps
  have HE := Lib.hid (And.intro hE hPL)
  have hbQ := BlockAt.new w #[.int .i64 la, .int .i64 mo, .int .i64 sh, .int .i64 fl] 76
  obtain ⟨Wq, hWq⟩ : ∃ Wq, w.alloc (.cells #[.int .i64 la, .int .i64 mo, .int .i64 sh, .int .i64 fl] 76) = Wq := ⟨_, rfl⟩
  rw [hWq] at hb0 V hbQ
  have HW := Lib.hid hWq
  clear hE hPL hv hWq
  go_enter Try.func53, Try.ntmps53
  go_wp2_with fail
  rw [HW.out]
  refine V.out.mono ?_
  rintro e w1 ⟨rfl, hb1⟩
  have hB1 := below_step hb0 hb1
  have bQ := hbQ.below hb1 hbQ.lt
  have hs1 := hB1.size
  clear hb1 hbQ HW hb0
  by_cases hv0 : Bd.valE rs = 0
  · have hE0 : E = 0 := HE.out.1.symm.trans hv0
    have hPS : ps = Bd.spa la mo sh fl rs := by rw [← HE.out.2]; unfold Bd.whR; rw [if_pos hv0]
    subst hE0 hPS
    rw [hv0]
    have J := Lib.hid (P.out _ hB1 (Bd.fine_of_valid hv0))
    have q0 := (bQ.cell 0).trans rfl
    have q1 := (bQ.cell 1).trans rfl
    have q2 := (bQ.cell 2).trans rfl
    have q3 := (bQ.cell 3).trans rfl
    clear V HE hv0 P bQ
    go_wp2_with fail
    refine J.out.mono ?_
    rintro e w2 ⟨u, rfl, hu, hb2⟩
    obtain ⟨ua, uc, hu', _⟩ := hu.spns
    subst hu'
    clear q0 q1 q2 q3
    go_wp2
    go_ret2
    exact ⟨_, rfl, hu.mono hs1, below_step hB1 hb2⟩
  · have hPS : ps = [] := by rw [← HE.out.2]; unfold Bd.whR; rw [if_neg hv0]
    subst hPS
    have hEE := HE.out.1
    generalize Bd.valE rs = z at *
    have hz : (z == 0) = false := by simp [hv0]
    have HZ := Lib.hid hEE
    clear hEE HE V hv0 P bQ
    go_wp2
    go_ret2
    exact ⟨_, by rw [HZ.out]; rfl, OwnS.nil _ _, hB1⟩

end Go.Proofs.Ytbmjjmpdlmbehaa
