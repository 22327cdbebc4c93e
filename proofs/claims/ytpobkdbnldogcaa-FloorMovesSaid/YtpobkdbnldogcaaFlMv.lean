/- Strips of a room that is moved along x, in plain words. -/
import Derived.Test.YtpobkdbnldogcaaFlN3
namespace Go.Proofs.Ytpobkdbnldogcaa
namespace Fl
def mvR (d : Int) (r : R) : R := ⟨r.x + d, r.y, r.w, r.h⟩
def mvS (d : Int) (s : S) : S := ⟨s.x + d, s.f, s.t⟩
theorem mt_mv (a b c e d : Int) : mt (a + d) (b + d) (c + d) (e + d) = mt a b c e := by
  unfold mt
  congr 1 <;> (apply decide_eq_decide.2; constructor <;> intro h <;> omega)
theorem s_mv (rs : List R) (d x w : Int) : ∀ k : Nat, k ≤ rs.length → sF (rs.map (mvR d)) (x + d) w k = sF rs x w k ∧ sT (rs.map (mvR d)) (x + d) w k = sT rs x w k
  | 0, _ => ⟨rfl, rfl⟩
  | k + 1, h => by
    obtain ⟨i1, i2⟩ := s_mv rs d x w k (by omega)
    have hk : k < (rs.map (mvR d)).length := by simp; omega
    have hm : mt (x + d) (x + d + w) (rs.map (mvR d))[k].x ((rs.map (mvR d))[k].x + (rs.map (mvR d))[k].w) = mt x (x + w) rs[k].x (rs[k].x + rs[k].w) := by
      rw [List.getElem_map]
      show mt (x + d) (x + d + w) (rs[k].x + d) (rs[k].x + d + rs[k].w) = _
      rw [show x + d + w = x + w + d by omega, show rs[k].x + d + rs[k].w = rs[k].x + rs[k].w + d by omega, mt_mv]
    cases e : mt x (x + w) rs[k].x (rs[k].x + rs[k].w)
    · rw [e] at hm
      rw [(s_no hk hm).1, (s_no hk hm).2, (s_no (by omega) e).1, (s_no (by omega) e).2]
      exact ⟨i1, i2⟩
    · rw [e] at hm
      rw [(s_yes hk hm).1, (s_yes hk hm).2, (s_yes (by omega) e).1, (s_yes (by omega) e).2, i1, i2, List.getElem_map]
      exact ⟨rfl, rfl⟩
theorem one_mv (rs : List R) (d w x : Int) : one (rs.map (mvR d)) w (x + d) = (one rs w x).map (mvS d) := by
  unfold one
  rw [List.length_map, (s_mv rs d x w _ (Nat.le_refl _)).1, (s_mv rs d x w _ (Nat.le_refl _)).2]
  split <;> rfl
theorem s_none {rs : List R} {x w : Int} (h : ∀ k (hk : k < rs.length), mt x (x + w) rs[k].x (rs[k].x + rs[k].w) = false) : ∀ k, k ≤ rs.length → sF rs x w k = 60 ∧ sT rs x w k = 0
  | 0, _ => ⟨rfl, rfl⟩
  | k + 1, hk => by
    rw [(s_no (by omega) (h k (by omega))).1, (s_no (by omega) (h k (by omega))).2]
    exact s_none h k (by omega)
theorem one_none {rs : List R} {x w : Int} (h : ∀ k (hk : k < rs.length), mt x (x + w) rs[k].x (rs[k].x + rs[k].w) = false) : one rs w x = [] := by
  unfold one
  rw [(s_none h _ (Nat.le_refl _)).1, (s_none h _ (Nat.le_refl _)).2, if_neg (by omega)]
/-- No strip begins where the room has ended. -/
theorem one_past {rs : List R} (ho : ∀ k (hk : k < rs.length), okR rs[k] = true) {x w : Int} (hx : 60 ≤ x) : one rs w x = [] :=
  one_none fun k hk => by
    obtain ⟨⟨b1, b2, b3, b4⟩, _⟩ := okR_iff.1 (ho k hk)
    apply Bool.eq_false_iff.2
    intro hc
    have := mt_iff.1 hc
    omega
theorem one_before {rs : List R} {d x w : Int} (hr : ∀ k (hk : k < rs.length), d ≤ rs[k].x) (hx : x + w ≤ d) : one rs w x = [] :=
  one_none fun k hk => by
    have := hr k hk
    apply Bool.eq_false_iff.2
    intro hc
    have := mt_iff.1 hc
    omega
theorem stk_past {rs : List R} (ho : ∀ k (hk : k < rs.length), okR rs[k] = true) {w o : Int} (hw : 1 ≤ w) (h1 : o < w) : ∀ m, stk rs w o (nS w o + m) = stk rs w o (nS w o)
  | 0 => rfl
  | m + 1 => by
    have e : ¬ nS w o + m < nS w o := by omega
    rw [nS_iff hw h1] at e
    rw [show nS w o + (m + 1) = nS w o + m + 1 by omega, stk, stk_past ho hw h1 m, one_past ho (by omega), List.append_nil]
theorem stk_before {rs : List R} {d w o : Int} (hr : ∀ k (hk : k < rs.length), d ≤ rs[k].x) (hw : 1 ≤ w) : ∀ q : Nat, o + (q : Int) * w < d + w → stk rs w o q = []
  | 0, _ => rfl
  | q + 1, h => by
    have e : ((q + 1 : Nat) : Int) * w = q * w + w := by rw [Int.natCast_add, Int.add_mul]; simp
    rw [stk, stk_before hr hw q (by omega), one_before hr (by omega)]; rfl
theorem stk_mv {rs : List R} {d w o o' : Int} {q : Nat} (hq : o + d = q * w + o') (h0 : stk (rs.map (mvR d)) w o' q = []) : ∀ i, stk (rs.map (mvR d)) w o' (q + i) = (stk rs w o i).map (mvS d)
  | 0 => h0
  | i + 1 => by
    have e : o' - w + ((q + i : Nat) : Int) * w = o - w + i * w + d := by rw [Int.natCast_add, Int.add_mul]; omega
    rw [show q + (i + 1) = q + i + 1 by omega, stk, stk_mv hq h0 i, stk, List.map_append, e, one_mv]
theorem stL_mv {rs : List R} {d w o o' : Int} {q : Nat} (ho : ∀ k (hk : k < rs.length), okR rs[k] = true) (ho2 : ∀ k (hk : k < (rs.map (mvR d)).length), okR (rs.map (mvR d))[k] = true)
    (hw : 1 ≤ w) (h1 : o < w) (h3 : o' < w) (hd : 0 ≤ d) (hq : o + d = q * w + o') : stL (rs.map (mvR d)) w o' = (stL rs w o).map (mvS d) := by
  have hr : ∀ k (hk : k < (rs.map (mvR d)).length), d ≤ (rs.map (mvR d))[k].x := fun k hk => by
    rw [List.getElem_map]
    obtain ⟨⟨b1, _⟩, _⟩ := okR_iff.1 (ho k (by simpa using hk))
    show d ≤ _ + d
    omega
  have h0 : stk (rs.map (mvR d)) w o' q = [] := stk_before hr hw q (by omega)
  have hm := stk_mv hq h0 (nS w o)
  have hle : nS w o' ≤ q + nS w o := by
    by_cases e : q + nS w o < nS w o'
    · have e2 := (nS_iff hw h3 _).1 e
      have e3 : ¬ nS w o < nS w o := by omega
      rw [nS_iff hw h1] at e3
      rw [Int.natCast_add, Int.add_mul] at e2
      omega
    · omega
  unfold stL
  rw [← hm, show q + nS w o = nS w o' + (q + nS w o - nS w o') by omega, stk_past ho2 hw h3]
/-- The offset of the moved room. -/
theorem off_mv {d w o : Int} (hw : 1 ≤ w) (h0 : 0 ≤ o) (hd : 0 ≤ d) : ∃ q : Nat, o + d = q * w + (o + d) % w ∧ 0 ≤ (o + d) % w ∧ (o + d) % w < w := by
  have hq : 0 ≤ (o + d) / w := Int.ediv_nonneg (by omega) (by omega)
  refine ⟨((o + d) / w).toNat, ?_, Int.emod_nonneg _ (by omega), Int.emod_lt_of_pos _ (by omega)⟩
  rw [Int.toNat_of_nonneg hq, Int.mul_comm, Int.mul_ediv_add_emod]
end Fl
end Go.Proofs.Ytpobkdbnldogcaa
