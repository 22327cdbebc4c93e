/- BandSames returns true, whatever the two lists of runs. -/
import Derived.Test.YtgnpbcgfhmhhgaaBand10
namespace Go.Proofs.Ytgnpbcgfhmhhgaa
open Go.RowKit

theorem Bd.same_agr {a b : List Bd.R} (h : Bd.bothE a b = 0) : Bd.sameB a b = ((Bd.agrV a b == Bd.lenR a) && (Bd.agrV a b == Bd.lenR b)) := by
  obtain ⟨h1, h2⟩ := Bd.bothE_zero.1 h
  unfold Bd.sameB Bd.agrV Bd.lenR
  rw [if_pos h, if_pos h, if_pos h1, if_pos h2]
  have := Bd.agr_full (Bd.norm_nrm (Bd.valE_pos h1)) (Bd.norm_nrm (Bd.valE_pos h2))
  rw [Bd.norm_len, Bd.norm_len] at this
  rw [Bool.eq_iff_iff]
  simp [← this]

set_option maxRecDepth 20000 in
set_option maxHeartbeats 2000000 in
theorem sames_walk (v u : Value) (rs qs : List Bd.R) (w : World) (hv : Runs w v rs) (hu : Runs w u qs) :
    Calls Try.prog 5 #[v, u] w fun e w' => e = .returned (.bool true) ∧ Below w.heap.size w w' := by
  by_cases hl : 100 < rs.length
  · have L := Lib.hid (long_true v rs w hv hl)
    clear hv hl hu
    go_enter Try.func5, Try.ntmps5
    go_wp2_with fail
    refine L.out.mono ?_
    rintro e w1 ⟨rfl, hb1⟩
    go_wp2_with fail
    refine (known_any _).mono ?_
    rintro e w2 ⟨rfl, hb2⟩
    go_wp2
    go_ret
    exact ⟨rfl, below_step hb1 hb2⟩
  by_cases hl2 : 100 < qs.length
  · have L := Lib.hid (long_false v rs w hv (by omega))
    have L2 := Lib.hid (fun W (hW : Below w.heap.size w W) => long_true u qs W (hu.all hW) hl2)
    clear hv hl hu hl2
    go_enter Try.func5, Try.ntmps5
    go_wp2_with fail
    refine L.out.mono ?_
    rintro e w1 ⟨rfl, hb1⟩
    go_wp2_with fail
    refine (L2.out _ hb1).mono ?_
    rintro e w2 ⟨rfl, hb2⟩
    have hb2 := below_step hb1 hb2
    go_wp2_with fail
    refine (known_any _).mono ?_
    rintro e w3 ⟨rfl, hb3⟩
    go_wp2
    go_ret
    exact ⟨rfl, below_step hb2 hb3⟩
  have hv_0 := hv
  have hu_0 := hu
  have l1 : rs.length ≤ 100 := by omega
  have l2 : rs.length ≤ 1000 := by omega
  have m1 : qs.length ≤ 100 := by omega
  have m2 : qs.length ≤ 1000 := by omega
  clear hl hl2 hv hu
  by_cases hE : Bd.bothE rs qs = 0
  · have hS := Bd.same_agr hE
    have A1 := Lib.hid (fun W h1 h2 => num_same_any v u rs qs W h1 h2 l2 m2)
    have A2 := Lib.hid (fun W h1 h2 => ref_same_any v u rs qs W h1 h2 l2 m2)
    have A3 := Lib.hid (fun W h1 h2 => num_agree_any v u rs qs W h1 h2 l2 m2)
    have A4 := Lib.hid (fun W h1 => num_length_any v rs W h1 l2)
    have A5 := Lib.hid (fun W h1 => num_length_any u qs W h1 m2)
    rw [hE] at A1 A2 A3
    rw [hS] at A1 A2
    clear hE hS
    generalize Bd.agrV rs qs = n at *
    generalize Bd.lenR rs = m at *
    generalize Bd.lenR qs = k at *
    generalize Bd.valE rs = e1 at *
    generalize Bd.valE qs = e2 at *
    rcases Bool.eq_false_or_eq_true (n == m) with hm | hm <;> rcases Bool.eq_false_or_eq_true (n == k) with hk | hk
    all_goals
      rw [hm, hk] at A1 A2
      go_enter Try.func5, Try.ntmps5
      go_wp2_with fail
      refine (long_false v rs _ hv_0 l1).mono ?_
      rintro e w1 ⟨rfl, hb1⟩
      have hc0_1 := hb1
      have hu_1 := hu_0.all hb1
      have hv_1 := hv_0.all hb1
      go_wp2_with fail
      refine (long_false u qs _ hu_1 m1).mono ?_
      rintro e w2 ⟨rfl, hb2⟩
      have hc0_2 := below_step hc0_1 hb2
      have hu_2 := hu_1.all hb2
      have hv_2 := hv_1.all hb2
      go_wp2_with fail
      refine (A1.out _ hv_2 hu_2).mono ?_
      rintro e w3 ⟨rfl, hb3⟩
      have hc0_3 := below_step hc0_2 hb3
      have hu_3 := hu_2.all hb3
      have hv_3 := hv_2.all hb3
      go_wp2_with fail
      refine (A2.out _ hv_3 hu_3).mono ?_
      rintro e w4 ⟨rfl, hb4⟩
      have hc0_4 := below_step hc0_3 hb4
      have hu_4 := hu_3.all hb4
      have hv_4 := hv_3.all hb4
      go_wp2_with fail
      refine (A3.out _ hv_4 hu_4).mono ?_
      rintro e w5 ⟨rfl, hb5⟩
      have hc0_5 := below_step hc0_4 hb5
      have hu_5 := hu_4.all hb5
      have hv_5 := hv_4.all hb5
      go_wp2_with fail
      refine (A4.out _ hv_5).mono ?_
      rintro e w6 ⟨rfl, hb6⟩
      have hc0_6 := below_step hc0_5 hb6
      have hu_6 := hu_5.all hb6
      have hv_6 := hv_5.all hb6
      go_wp2_with fail
      refine (A5.out _ hu_6).mono ?_
      rintro e w7 ⟨rfl, hb7⟩
      have hc0_7 := below_step hc0_6 hb7
      have hu_7 := hu_6.all hb7
      have hv_7 := hv_6.all hb7
      go_wp2_with fail
      refine (known_any _).mono ?_
      rintro e w8 ⟨rfl, hb8⟩
      have hc0_8 := below_step hc0_7 hb8
      have hu_8 := hu_7.all hb8
      have hv_8 := hv_7.all hb8
      go_wp2
      go_ret
      exact ⟨rfl, hc0_8⟩
  · generalize hz' : Bd.bothE rs qs = z at *
    have hz : (z == 0) = false := by simp [hE]
    have hz2 : (z != 0) = true := by simp [hE]
    have A1 := Lib.hid (fun W h1 h2 => num_same_any v u rs qs W h1 h2 l2 m2)
    have A2 := Lib.hid (fun W h1 h2 => ref_same_any v u rs qs W h1 h2 l2 m2)
    have A3 := Lib.hid (fun W h1 h2 => num_agree_any v u rs qs W h1 h2 l2 m2)
    have A4 := Lib.hid (fun W h1 => num_length_any v rs W h1 l2)
    have A5 := Lib.hid (fun W h1 => num_length_any u qs W h1 m2)
    rw [hz'] at A1 A2 A3
    clear hE hz'
    generalize Bd.sameB rs qs = B at *
    generalize Bd.agrV rs qs = n at *
    generalize Bd.lenR rs = m at *
    generalize Bd.lenR qs = k at *
    generalize Bd.valE rs = e1 at *
    generalize Bd.valE qs = e2 at *
    go_enter Try.func5, Try.ntmps5
    go_wp2_with fail
    refine (long_false v rs _ hv_0 l1).mono ?_
    rintro e w1 ⟨rfl, hb1⟩
    have hc0_1 := hb1
    have hu_1 := hu_0.all hb1
    have hv_1 := hv_0.all hb1
    go_wp2_with fail
    refine (long_false u qs _ hu_1 m1).mono ?_
    rintro e w2 ⟨rfl, hb2⟩
    have hc0_2 := below_step hc0_1 hb2
    have hu_2 := hu_1.all hb2
    have hv_2 := hv_1.all hb2
    go_wp2_with fail
    refine (A1.out _ hv_2 hu_2).mono ?_
    rintro e w3 ⟨rfl, hb3⟩
    have hc0_3 := below_step hc0_2 hb3
    have hu_3 := hu_2.all hb3
    have hv_3 := hv_2.all hb3
    go_wp2_with fail
    refine (A2.out _ hv_3 hu_3).mono ?_
    rintro e w4 ⟨rfl, hb4⟩
    have hc0_4 := below_step hc0_3 hb4
    have hu_4 := hu_3.all hb4
    have hv_4 := hv_3.all hb4
    go_wp2_with fail
    refine (A3.out _ hv_4 hu_4).mono ?_
    rintro e w5 ⟨rfl, hb5⟩
    have hc0_5 := below_step hc0_4 hb5
    have hu_5 := hu_4.all hb5
    have hv_5 := hv_4.all hb5
    go_wp2_with fail
    refine (A4.out _ hv_5).mono ?_
    rintro e w6 ⟨rfl, hb6⟩
    have hc0_6 := below_step hc0_5 hb6
    have hu_6 := hu_5.all hb6
    have hv_6 := hv_5.all hb6
    go_wp2_with fail
    refine (A5.out _ hu_6).mono ?_
    rintro e w7 ⟨rfl, hb7⟩
    have hc0_7 := below_step hc0_6 hb7
    have hu_7 := hu_6.all hb7
    have hv_7 := hv_6.all hb7
    go_wp2_with fail
    refine (known_any _).mono ?_
    rintro e w8 ⟨rfl, hb8⟩
    have hc0_8 := below_step hc0_7 hb8
    have hu_8 := hu_7.all hb8
    have hv_8 := hv_7.all hb8
    go_wp2
    go_ret
    exact ⟨rfl, hc0_8⟩
end Go.Proofs.Ytgnpbcgfhmhhgaa
