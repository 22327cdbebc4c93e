/- The reference's mark at a place. -/
import Derived.Test.YtimpdmpfpbeflaaBand30
namespace Go.Proofs.Ytimpdmpfpbeflaa
open Go.RowKit

set_option maxRecDepth 20000 in
set_option maxHeartbeats 1000000 in
theorem ref_mark_any (v : Value) (rs : List Bd.R) (p : Int) (w : World) (hv : Runs w v rs) (hv0 : Bd.valE rs = 0) (h1 : 0 ≤ p) (h2 : p < Bd.len rs) :
    Calls Try.prog 66 #[v, .int .i64 p] w fun e w' => e = .returned (markV (Bd.atM rs p)) ∧ Below w.heap.size w w' := by
  have hp := (Bd.fine_of_valid hv0).2.1
  have hlv := Bd.len_valid hv0
  have hlen := (Bd.valE_zero hv0).1
  have hb0 := (Below.refl w.heap.size w).alloc (Nat.le_refl _) (.cells #[.int .i64 0, .int .i64 0, .int .i64 0] 35)
  obtain ⟨ao, c, rfl, hlk⟩ := (hv.all hb0).look
  have HK := Lib.hid hlk
  have HB := Lib.hid hb0
  have HP := Lib.hid hp
  obtain ⟨m, hm⟩ : ∃ m, Bd.atM rs p = m := ⟨_, rfl⟩
  rw [hm]
  have HE := Lib.hid (fun k (hk : k < rs.length) (a : Bd.len (rs.take k) ≤ p) (b : p < Bd.len (rs.take k) + rs[k].l) => hm.symm.trans (Bd.at_ok hv0 hk a b).2)
  clear hm
  have hpos : 0 < rs.length := by
    rcases Nat.eq_zero_or_pos rs.length with h | h
    · rw [List.length_eq_zero_iff.1 h] at h2; simp [Bd.len] at h2; omega
    · exact h
  clear hv hlk hb0 hp hv0
  go_enter Try.func66, Try.ntmps66
  go_wp2
  go_loop [1, 5] (fun s t => ∃ (k : Nat) (q : Int), k < rs.length ∧ s = .int .i64 q ∧ t = .int .i64 k ∧ 0 ≤ q ∧ q ≤ p ∧ Hid (Bd.len (rs.take k) + q = p)) (fun _ t => rs.length - (intOf t).toNat)
  case atStart => exact ⟨0, p, hpos, rfl, rfl, h1, by omega, Lib.hid (by simp [Bd.len])⟩
  case round =>
    obtain ⟨k, q, hk, rfl, rfl, hq0, hqp, hg⟩ := hrel
    obtain ⟨b, off, rfl, hb, c0, c1, c2, c3⟩ := HK.out k hk
    have hs := Bd.len_take_succ hk
    have hpk := HP.out rs[k] (List.getElem_mem hk)
    by_cases hle : rs[k].l ≤ q
    · have hk2 : k + 1 < rs.length := by
        rcases Nat.lt_or_ge (k + 1) rs.length with h | h
        · exact h
        · have := Bd.len_take_all rs h
          have := hg.out
          omega
      have HS := Lib.hid hs
      clear hs HE
      generalize rs[k] = r at *
      go_wp2
      go_round
      case rel => exact ⟨k + 1, q - r.l, hk2, rfl, by go_num, by omega, by omega, Lib.hid (by have := hg.out; rw [HS.out]; omega)⟩
      case measure => simp [intOf]; omega
    · have hM := Lib.hid (HE.out k hk (by have := hg.out; omega) (by have := hg.out; omega))
      clear hs HE HP HK hg
      generalize rs[k] = r at *
      have hM := hM.out
      subst hM
      go_wp2
      refine bodyPost_ret (v := .agg #[.int .i64 r.m.t, .int .i64 r.m.s, .int .i64 r.m.f]) (by simp [results, Try.results66, go_sem]) rfl ⟨rfl, ?_⟩
      exact (Below.refl w.heap.size w).alloc (Nat.le_refl _) _
end Go.Proofs.Ytimpdmpfpbeflaa
