/- Over, of the program and of the reference; BandOvers returns true. -/
import Derived.Test.YtimpdmpfpbeflaaBand27
namespace Go.Proofs.Ytimpdmpfpbeflaa
open Go.RowKit

namespace Bd
def ovE (rs : List R) (fr : Int) (qs : List R) : Int := if bothE rs qs = 0 then (if 0 ≤ fr ∧ fr + len qs ≤ len rs then toldE (repL rs fr qs) else 1) else bothE rs qs
def ovR (rs : List R) (fr : Int) (qs : List R) : List R := if bothE rs qs = 0 then (if 0 ≤ fr ∧ fr + len qs ≤ len rs then toldR (repL rs fr qs) else []) else []
theorem ov_ok {rs qs : List R} {fr : Int} (h : bothE rs qs = 0) (h1 : 0 ≤ fr) (h2 : fr + len qs ≤ len rs) : ovE rs fr qs = toldE (repL rs fr qs) ∧ ovR rs fr qs = toldR (repL rs fr qs) := by
  unfold ovE ovR; rw [if_pos h, if_pos h, if_pos ⟨h1, h2⟩, if_pos ⟨h1, h2⟩]; exact ⟨rfl, rfl⟩
theorem ov_bad {rs qs : List R} {fr : Int} (h : bothE rs qs = 0) (h1 : fr < 0 ∨ len rs - len qs < fr) : ovE rs fr qs = 1 ∧ ovR rs fr qs = [] := by
  unfold ovE ovR; rw [if_pos h, if_pos h, if_neg (by omega), if_neg (by omega)]; exact ⟨rfl, rfl⟩
theorem ov_inv {rs qs : List R} {fr : Int} (h : bothE rs qs ≠ 0) : ovE rs fr qs = bothE rs qs ∧ ovR rs fr qs = [] := by
  unfold ovE ovR; rw [if_neg h, if_neg h]; exact ⟨rfl, rfl⟩
theorem ovR_length (rs : List R) (fr : Int) (qs : List R) : (ovR rs fr qs).length ≤ 1000 := by
  unfold ovR; split
  · split
    · exact Nat.le_trans (toldR_40 _) (by omega)
    · simp
  · simp
end Bd

set_option maxRecDepth 20000 in
set_option maxHeartbeats 1000000 in
theorem num_over_any (v u : Value) (rs qs : List Bd.R) (fr : Int) (w : World) (hv : Runs w v rs) (hu : Runs w u qs) (hl : rs.length ≤ 1000) (hl2 : qs.length ≤ 1000) (r1 : -9223372036854775808 ≤ fr) (r2 : fr ≤ 9223372036854775807) :
    Calls Try.prog 44 #[v, .int .i64 fr, u] w fun e w' => ∃ x, e = .returned (.tuple #[x, .int .i64 (Bd.ovE rs fr qs)]) ∧ Own w.heap.size w' x (Bd.ovR rs fr qs) ∧ Below w.heap.size w w' := by
  have V := Lib.hid (validate_both_any v u rs qs w hv hu hl hl2)
  generalize hE : Bd.ovE rs fr qs = E
  generalize hR : Bd.ovR rs fr qs = RR
  by_cases h : Bd.bothE rs qs = 0
  · obtain ⟨z1, z2⟩ := Bd.bothE_zero.1 h
    have hf1 := Bd.fine_of_valid z1
    have hf2 := Bd.fine_of_valid z2
    have L1 := Lib.hid (fun W (hW : Below w.heap.size w W) => length_any v rs W (hv.all hW) hf1)
    have L2 := Lib.hid (fun W (hW : Below w.heap.size w W) => length_any u qs W (hu.all hW) hf2)
    have b1 := Bd.len_valid z1
    have b2 := Bd.len_valid z2
    obtain ⟨a1, _, _⟩ := Bd.valE_zero z2
    rcases (show (0 ≤ fr ∧ fr + Bd.len qs ≤ Bd.len rs) ∨ fr < 0 ∨ (0 ≤ fr ∧ Bd.len rs - Bd.len qs < fr) by omega) with ⟨h1, h2⟩ | h1 | ⟨h1, h2⟩
    · have N := Lib.hid (fun W (hW : Below w.heap.size w W) => replaced_any v u rs qs fr W (hv.all hW) (hu.all hW) z1 h1 (Bd.valE_pos z2) (by omega) h2)
      obtain ⟨e1, e2⟩ := Bd.ov_ok h h1 h2
      rw [e1] at hE
      rw [e2] at hR
      have HE := Lib.hid (And.intro hE hR)
      rw [h] at V
      obtain ⟨a, c, hvf⟩ := hv.form
      obtain ⟨a2, c2, huf⟩ := hu.form
      subst hvf huf
      clear hv hu h hE hR e1 e2 z1 z2 hf1 hf2
      generalize Bd.repL rs fr qs = L at *
      generalize Bd.len rs = m at *
      generalize Bd.len qs = p at *
      go_enter Try.func44, Try.ntmps44
      go_wp2_with fail
      refine V.out.mono ?_
      rintro e w1 ⟨rfl, hw1⟩
      go_wp2_with fail
      refine (L1.out _ hw1).mono ?_
      rintro e w2 ⟨rfl, hb2⟩
      have hw2 := below_step hw1 hb2
      go_wp2_with fail
      refine (L2.out _ hw2).mono ?_
      rintro e w3 ⟨rfl, hb3⟩
      have hw3 := below_step hw2 hb3
      go_wp2_with fail
      refine (N.out _ hw3).mono ?_
      rintro e w4 ⟨x, rfl, hx, hb4⟩
      have hw4 := below_step hw3 hb4
      obtain ⟨xa, xc, hxf⟩ := hx.runs.form
      subst hxf
      go_wp2
      go_ret2
      exact ⟨_, by rw [← HE.out.1]; rfl, by rw [← HE.out.2]; exact hx.mono hw3.size, hw4⟩
    · obtain ⟨e1, e2⟩ := Bd.ov_bad h (.inl h1)
      rw [e1] at hE
      rw [e2] at hR
      have HE := Lib.hid (And.intro hE hR)
      rw [h] at V
      obtain ⟨a, c, hvf⟩ := hv.form
      obtain ⟨a2, c2, huf⟩ := hu.form
      subst hvf huf
      clear hv hu h hE hR e1 e2 z1 z2 hf1 hf2 L1 L2
      go_enter Try.func44, Try.ntmps44
      go_wp2_with fail
      refine V.out.mono ?_
      rintro e w1 ⟨rfl, hw1⟩
      go_wp2
      go_ret2
      exact ⟨_, by rw [← HE.out.1]; rfl, by rw [← HE.out.2]; exact Own.nil _ _, hw1⟩
    · obtain ⟨e1, e2⟩ := Bd.ov_bad h (.inr h2)
      rw [e1] at hE
      rw [e2] at hR
      have HE := Lib.hid (And.intro hE hR)
      rw [h] at V
      obtain ⟨a, c, hvf⟩ := hv.form
      obtain ⟨a2, c2, huf⟩ := hu.form
      subst hvf huf
      clear hv hu h hE hR e1 e2 z1 z2 hf1 hf2
      generalize Bd.len rs = m at *
      generalize Bd.len qs = p at *
      go_enter Try.func44, Try.ntmps44
      go_wp2_with fail
      refine V.out.mono ?_
      rintro e w1 ⟨rfl, hw1⟩
      go_wp2_with fail
      refine (L1.out _ hw1).mono ?_
      rintro e w2 ⟨rfl, hb2⟩
      have hw2 := below_step hw1 hb2
      go_wp2_with fail
      refine (L2.out _ hw2).mono ?_
      rintro e w3 ⟨rfl, hb3⟩
      have hw3 := below_step hw2 hb3
      go_wp2
      go_ret2
      exact ⟨_, by rw [← HE.out.1]; rfl, by rw [← HE.out.2]; exact Own.nil _ _, hw3⟩
  · obtain ⟨e1, e2⟩ := Bd.ov_inv (fr := fr) h
    rw [e1] at hE
    rw [e2] at hR
    subst hE hR
    obtain ⟨a, c, hvf⟩ := hv.form
    obtain ⟨a2, c2, huf⟩ := hu.form
    subst hvf huf
    generalize Bd.bothE rs qs = z at *
    have hz : (z == 0) = false := by simp [h]
    clear h hv hu e1 e2
    go_enter Try.func44, Try.ntmps44
    go_wp2_with fail
    refine V.out.mono ?_
    rintro e w1 ⟨rfl, hb1⟩
    go_wp2
    go_ret2
    exact ⟨_, rfl, Own.nil _ _, hb1⟩

set_option maxRecDepth 20000 in
set_option maxHeartbeats 1000000 in
theorem ref_over_any (v u : Value) (rs qs : List Bd.R) (fr : Int) (w : World) (hv : Runs w v rs) (hu : Runs w u qs) (hl : rs.length ≤ 1000) (hl2 : qs.length ≤ 1000) (r1 : -9223372036854775808 ≤ fr) (r2 : fr ≤ 9223372036854775807) :
    Calls Try.prog 45 #[v, .int .i64 fr, u] w fun e w' => ∃ x, e = .returned (.tuple #[x, .int .i64 (Bd.ovE rs fr qs)]) ∧ Own w.heap.size w' x (Bd.ovR rs fr qs) ∧ Below w.heap.size w w' := by
  have V := Lib.hid (ref_both_any v u rs qs w hv hu hl hl2)
  generalize hE : Bd.ovE rs fr qs = E
  generalize hR : Bd.ovR rs fr qs = RR
  by_cases h : Bd.bothE rs qs = 0
  · obtain ⟨z1, z2⟩ := Bd.bothE_zero.1 h
    have hf1 := Bd.fine_of_valid z1
    have hf2 := Bd.fine_of_valid z2
    have L1 := Lib.hid (fun W (hW : Below w.heap.size w W) => size_any v rs W (hv.all hW) hf1)
    have L2 := Lib.hid (fun W (hW : Below w.heap.size w W) => size_any u qs W (hu.all hW) hf2)
    have b1 := Bd.len_valid z1
    have b2 := Bd.len_valid z2
    obtain ⟨a1, _, _⟩ := Bd.valE_zero z2
    rcases (show (0 ≤ fr ∧ fr + Bd.len qs ≤ Bd.len rs) ∨ fr < 0 ∨ (0 ≤ fr ∧ Bd.len rs - Bd.len qs < fr) by omega) with ⟨h1, h2⟩ | h1 | ⟨h1, h2⟩
    · have N := Lib.hid (fun W (hW : Below w.heap.size w W) => ref_changed_any v u rs qs fr (fr + Bd.len qs) W (hv.all hW) (hu.all hW) z1 h1 (Bd.valE_pos z2) (by omega) h2 rfl)
      obtain ⟨e1, e2⟩ := Bd.ov_ok h h1 h2
      rw [e1] at hE
      rw [e2] at hR
      have HE := Lib.hid (And.intro hE hR)
      rw [h] at V
      obtain ⟨a, c, hvf⟩ := hv.form
      obtain ⟨a2, c2, huf⟩ := hu.form
      subst hvf huf
      clear hv hu h hE hR e1 e2 z1 z2 hf1 hf2
      generalize Bd.repL rs fr qs = L at *
      generalize Bd.len rs = m at *
      generalize Bd.len qs = p at *
      go_enter Try.func45, Try.ntmps45
      go_wp2_with fail
      refine V.out.mono ?_
      rintro e w1 ⟨rfl, hw1⟩
      go_wp2_with fail
      refine (L1.out _ hw1).mono ?_
      rintro e w2 ⟨rfl, hb2⟩
      have hw2 := below_step hw1 hb2
      go_wp2_with fail
      refine (L2.out _ hw2).mono ?_
      rintro e w3 ⟨rfl, hb3⟩
      have hw3 := below_step hw2 hb3
      go_wp2_with fail
      refine (L2.out _ hw3).mono ?_
      rintro e w3' ⟨rfl, hb3'⟩
      have hw3 := below_step hw3 hb3'
      go_wp2_with fail
      refine (N.out _ hw3).mono ?_
      rintro e w4 ⟨x, rfl, hx, hb4⟩
      have hw4 := below_step hw3 hb4
      obtain ⟨xa, xc, hxf⟩ := hx.runs.form
      subst hxf
      go_wp2
      go_ret2
      exact ⟨_, by rw [← HE.out.1]; rfl, by rw [← HE.out.2]; exact hx.mono hw3.size, hw4⟩
    · obtain ⟨e1, e2⟩ := Bd.ov_bad h (.inl h1)
      rw [e1] at hE
      rw [e2] at hR
      have HE := Lib.hid (And.intro hE hR)
      rw [h] at V
      obtain ⟨a, c, hvf⟩ := hv.form
      obtain ⟨a2, c2, huf⟩ := hu.form
      subst hvf huf
      clear hv hu h hE hR e1 e2 z1 z2 hf1 hf2 L1 L2
      go_enter Try.func45, Try.ntmps45
      go_wp2_with fail
      refine V.out.mono ?_
      rintro e w1 ⟨rfl, hw1⟩
      go_wp2
      go_ret2
      exact ⟨_, by rw [← HE.out.1]; rfl, by rw [← HE.out.2]; exact Own.nil _ _, hw1⟩
    · obtain ⟨e1, e2⟩ := Bd.ov_bad h (.inr h2)
      rw [e1] at hE
      rw [e2] at hR
      have HE := Lib.hid (And.intro hE hR)
      rw [h] at V
      obtain ⟨a, c, hvf⟩ := hv.form
      obtain ⟨a2, c2, huf⟩ := hu.form
      subst hvf huf
      clear hv hu h hE hR e1 e2 z1 z2 hf1 hf2
      generalize Bd.len rs = m at *
      generalize Bd.len qs = p at *
      go_enter Try.func45, Try.ntmps45
      go_wp2_with fail
      refine V.out.mono ?_
      rintro e w1 ⟨rfl, hw1⟩
      go_wp2_with fail
      refine (L1.out _ hw1).mono ?_
      rintro e w2 ⟨rfl, hb2⟩
      have hw2 := below_step hw1 hb2
      go_wp2_with fail
      refine (L2.out _ hw2).mono ?_
      rintro e w3 ⟨rfl, hb3⟩
      have hw3 := below_step hw2 hb3
      go_wp2
      go_ret2
      exact ⟨_, by rw [← HE.out.1]; rfl, by rw [← HE.out.2]; exact Own.nil _ _, hw3⟩
  · obtain ⟨e1, e2⟩ := Bd.ov_inv (fr := fr) h
    rw [e1] at hE
    rw [e2] at hR
    subst hE hR
    obtain ⟨a, c, hvf⟩ := hv.form
    obtain ⟨a2, c2, huf⟩ := hu.form
    subst hvf huf
    generalize Bd.bothE rs qs = z at *
    have hz : (z == 0) = false := by simp [h]
    clear h hv hu e1 e2
    go_enter Try.func45, Try.ntmps45
    go_wp2_with fail
    refine V.out.mono ?_
    rintro e w1 ⟨rfl, hb1⟩
    go_wp2
    go_ret2
    exact ⟨_, rfl, Own.nil _ _, hb1⟩

set_option maxRecDepth 20000 in
set_option maxHeartbeats 4000000 in
theorem overs_walk (v u : Value) (rs qs : List Bd.R) (fr : Int) (w : World) (hv : Runs w v rs) (hu : Runs w u qs) (r1 : -9223372036854775808 ≤ fr) (r2 : fr ≤ 9223372036854775807) :
    Calls Try.prog 9 #[v, .int .i64 fr, u] w fun e w' => e = .returned (.bool true) ∧ Below w.heap.size w w' := by
  by_cases hl : 100 < rs.length
  · have L := Lib.hid (long_true v rs w hv hl)
    clear hv hl hu
    go_enter Try.func9, Try.ntmps9
    go_wp2_with fail
    refine L.out.mono ?_
    rintro e w1 ⟨rfl, hb1⟩
    go_wp2_with fail
    refine (known_any _).mono ?_
    rintro e w2 ⟨rfl, hb2⟩
    go_wp2
    go_ret
    exact ⟨rfl, below_step hb1 hb2⟩
  by_cases hl2 : 100 < qs.length
  · have L := Lib.hid (long_false v rs w hv (by omega))
    have L2 := Lib.hid (fun W (hW : Below w.heap.size w W) => long_true u qs W (hu.all hW) hl2)
    clear hv hl hu hl2
    go_enter Try.func9, Try.ntmps9
    go_wp2_with fail
    refine L.out.mono ?_
    rintro e w1 ⟨rfl, hb1⟩
    go_wp2_with fail
    refine (L2.out _ hb1).mono ?_
    rintro e w2 ⟨rfl, hb2⟩
    have hb2 := below_step hb1 hb2
    go_wp2_with fail
    refine (known_any _).mono ?_
    rintro e w3 ⟨rfl, hb3⟩
    go_wp2
    go_ret
    exact ⟨rfl, below_step hb2 hb3⟩
  have hv_0 := hv
  have hu_0 := hu
  have l1 : rs.length ≤ 100 := by omega
  have l2 : rs.length ≤ 1000 := by omega
  have m1 : qs.length ≤ 100 := by omega
  have m2 : qs.length ≤ 1000 := by omega
  have k1 := Bd.ovR_length rs fr qs
  clear hl hl2 hv hu
  go_enter Try.func9, Try.ntmps9
  go_wp2_with fail
  refine (long_false v rs _ hv_0 l1).mono ?_
  rintro e w1 ⟨rfl, hb1⟩
  have hc0_1 := hb1
  have hu_1 := hu_0.all hb1
  have hv_1 := hv_0.all hb1
  go_wp2_with fail
  refine (long_false u qs _ hu_1 m1).mono ?_
  rintro e w2 ⟨rfl, hb2⟩
  have hc0_2 := below_step hc0_1 hb2
  have hu_2 := hu_1.all hb2
  have hv_2 := hv_1.all hb2
  go_wp2_with fail
  refine (copied_any v rs _ hv_2 l2).mono ?_
  rintro e w3 ⟨one, rfl, ho_3, hb3⟩
  have hc0_3 := below_step hc0_2 hb3
  have hu_3 := hu_2.all hb3
  have hv_3 := hv_2.all hb3
  go_wp2_with fail
  refine (copied_any u qs _ hu_3 m2).mono ?_
  rintro e w4 ⟨two, rfl, ht_4, hb4⟩
  have hc0_4 := below_step hc0_3 hb4
  have ho_4 := ho_3.all hb4
  have hu_4 := hu_3.all hb4
  have hv_4 := hv_3.all hb4
  have hc0_4s := hc0_4.size
  go_wp2_with fail
  refine (num_over_any one two rs qs fr _ ho_4.runs ht_4.runs l2 m2 r1 r2).mono ?_
  rintro e w5 ⟨x, rfl, hx_5, hb5⟩
  have hc0_5 := below_step hc0_4 hb5
  have hc4_5 := hb5
  have ho_5 := ho_4.all hb5
  have ht_5 := ht_4.all hb5
  have hu_5 := hu_4.all hb5
  have hv_5 := hv_4.all hb5
  go_wp2_with fail
  refine (ref_over_any v u rs qs fr _ hv_5 hu_5 l2 m2 r1 r2).mono ?_
  rintro e w6 ⟨y, rfl, hy_6, hb6⟩
  have hc0_6 := below_step hc0_5 hb6
  have hc4_6 := below_step hc4_5 hb6
  have ho_6 := ho_5.all hb6
  have ht_6 := ht_5.all hb6
  have hu_6 := hu_5.all hb6
  have hv_6 := hv_5.all hb6
  have hx_6 := hx_5.all hb6
  go_wp2_with fail
  refine (same_runs_true x y _ _ hx_6.runs hy_6.runs k1).mono ?_
  rintro e w7 ⟨rfl, hb7⟩
  have hc0_7 := below_step hc0_6 hb7
  have hc4_7 := below_step hc4_6 hb7
  have ho_7 := ho_6.all hb7
  have ht_7 := ht_6.all hb7
  have hu_7 := hu_6.all hb7
  have hv_7 := hv_6.all hb7
  have hx_7 := hx_6.all hb7
  have hy_7 := hy_6.all hb7
  go_wp2_with fail
  refine (spoil_any w4.heap.size x _ _ hx_7 k1).mono ?_
  rintro e w8 ⟨rfl, hb8⟩
  have hc4_8 := hc4_7.trans hb8
  have hc0_8 := hc0_7.trans (hb8.mono hc0_4s)
  have ho_8 := ho_4.all hc4_8
  have ht_8 := ht_4.all hc4_8
  have hu_8 := hu_4.all hc4_8
  have hv_8 := hv_4.all hc4_8
  go_wp2_with fail
  refine (same_runs_true one v _ _ ho_8.runs hv_8 l2).mono ?_
  rintro e w9 ⟨rfl, hb9⟩
  have hc0_9 := below_step hc0_8 hb9
  have hc4_9 := below_step hc4_8 hb9
  have ho_9 := ho_8.all hb9
  have ht_9 := ht_8.all hb9
  have hu_9 := hu_8.all hb9
  have hv_9 := hv_8.all hb9
  go_wp2_with fail
  refine (same_runs_true two u _ _ ht_9.runs hu_9 m2).mono ?_
  rintro e w10 ⟨rfl, hb10⟩
  have hc0_10 := below_step hc0_9 hb10
  have hc4_10 := below_step hc4_9 hb10
  have ho_10 := ho_9.all hb10
  have ht_10 := ht_9.all hb10
  have hu_10 := hu_9.all hb10
  have hv_10 := hv_9.all hb10
  go_wp2_with fail
  refine (known_any _).mono ?_
  rintro e w11 ⟨rfl, hb11⟩
  have hc0_11 := below_step hc0_10 hb11
  have hc4_11 := below_step hc4_10 hb11
  have ho_11 := ho_10.all hb11
  have ht_11 := ht_10.all hb11
  have hu_11 := hu_10.all hb11
  have hv_11 := hv_10.all hb11
  go_wp2
  go_ret
  exact ⟨rfl, hc0_11⟩
end Go.Proofs.Ytimpdmpfpbeflaa
