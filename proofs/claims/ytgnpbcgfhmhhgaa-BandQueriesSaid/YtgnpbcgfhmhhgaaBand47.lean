/- BandQueries returns true, whatever the list of runs, the query and the mark. -/
import Derived.Test.YtgnpbcgfhmhhgaaBand46
import Derived.Test.YtgnpbcgfhmhhgaaBand8
namespace Go.Proofs.Ytgnpbcgfhmhhgaa
open Go.RowKit

def QAt (W : World) (B : Nat) (la mo sh fl : Int) : Prop := W.cell? ⟨B, 0, none⟩ = some (.int .i64 la) ∧ W.cell? ⟨B, 1, none⟩ = some (.int .i64 mo) ∧ W.cell? ⟨B, 2, none⟩ = some (.int .i64 sh) ∧ W.cell? ⟨B, 3, none⟩ = some (.int .i64 fl)
def MAt (W : World) (B : Nat) (mt ms mf : Int) : Prop := W.cell? ⟨B, 0, none⟩ = some (.int .i64 mt) ∧ W.cell? ⟨B, 1, none⟩ = some (.int .i64 ms) ∧ W.cell? ⟨B, 2, none⟩ = some (.int .i64 mf)
theorem QAt.below {W W2 : World} {B n : Nat} {la mo sh fl : Int} (h : QAt W B la mo sh fl) (hb : Below n W W2) (hB : B < n) : QAt W2 B la mo sh fl :=
  ⟨(hb.cell (p := ⟨B, 0, none⟩) hB).trans h.1, (hb.cell (p := ⟨B, 1, none⟩) hB).trans h.2.1, (hb.cell (p := ⟨B, 2, none⟩) hB).trans h.2.2.1, (hb.cell (p := ⟨B, 3, none⟩) hB).trans h.2.2.2⟩
theorem MAt.below {W W2 : World} {B n : Nat} {mt ms mf : Int} (h : MAt W B mt ms mf) (hb : Below n W W2) (hB : B < n) : MAt W2 B mt ms mf :=
  ⟨(hb.cell (p := ⟨B, 0, none⟩) hB).trans h.1, (hb.cell (p := ⟨B, 1, none⟩) hB).trans h.2.1, (hb.cell (p := ⟨B, 2, none⟩) hB).trans h.2.2⟩
theorem qm_all {W W2 : World} {B la mo sh fl mt ms mf} (h : QAt W B la mo sh fl ∧ MAt W (B + 1) mt ms mf ∧ B + 1 < W.heap.size) (hb : Below W.heap.size W W2) : QAt W2 B la mo sh fl ∧ MAt W2 (B + 1) mt ms mf ∧ B + 1 < W2.heap.size :=
  ⟨h.1.below hb (by omega), h.2.1.below hb h.2.2, Nat.lt_of_lt_of_le h.2.2 hb.size⟩
theorem keepQ {w W W2 : World} {B : Nat} {la mo sh fl mt ms mf : Int} {l k : Value} {ss : List Bd.S}
    (h : (W.cell? ⟨B, 0, none⟩ = some (.int .i64 la) ∧ W.cell? ⟨B, 1, none⟩ = some (.int .i64 mo) ∧ W.cell? ⟨B, 2, none⟩ = some (.int .i64 sh) ∧ W.cell? ⟨B, 3, none⟩ = some (.int .i64 fl)) ∧
      (W.cell? ⟨B + 1, 0, none⟩ = some (.int .i64 mt) ∧ W.cell? ⟨B + 1, 1, none⟩ = some (.int .i64 ms) ∧ W.cell? ⟨B + 1, 2, none⟩ = some (.int .i64 mf)) ∧ Hid (B + 1 < W.heap.size ∧ Spns W l ss ∧ Spns W k ss ∧ Below w.heap.size w W))
    (hb : Below W.heap.size W W2) :
    (W2.cell? ⟨B, 0, none⟩ = some (.int .i64 la) ∧ W2.cell? ⟨B, 1, none⟩ = some (.int .i64 mo) ∧ W2.cell? ⟨B, 2, none⟩ = some (.int .i64 sh) ∧ W2.cell? ⟨B, 3, none⟩ = some (.int .i64 fl)) ∧
      (W2.cell? ⟨B + 1, 0, none⟩ = some (.int .i64 mt) ∧ W2.cell? ⟨B + 1, 1, none⟩ = some (.int .i64 ms) ∧ W2.cell? ⟨B + 1, 2, none⟩ = some (.int .i64 mf)) ∧ Hid (B + 1 < W2.heap.size ∧ Spns W2 l ss ∧ Spns W2 k ss ∧ Below w.heap.size w W2) := by
  obtain ⟨h1, h2, h3⟩ := h
  obtain ⟨s1, s2, s3, s4⟩ := h3.out
  obtain ⟨a, b, c⟩ := qm_all (B := B) ⟨h1, h2, s1⟩ hb
  exact ⟨a, b, Lib.hid ⟨c, s2.all hb, s3.all hb, below_step s4 hb⟩⟩

set_option maxRecDepth 20000 in
set_option maxHeartbeats 4000000 in
theorem queries_walk (v : Value) (rs : List Bd.R) (la mo sh fl mt ms mf : Int) (w : World) (hv : Runs w v rs) :
    Calls Try.prog 10 #[v, .agg #[.int .i64 la, .int .i64 mo, .int .i64 sh, .int .i64 fl], .agg #[.int .i64 mt, .int .i64 ms, .int .i64 mf]] w fun e w' => e = .returned (.bool true) ∧ Below w.heap.size w w' := by
  have hc0 := ((Below.refl w.heap.size w).alloc (Nat.le_refl _) (.cells #[.int .i64 la, .int .i64 mo, .int .i64 sh, .int .i64 fl] 55)).alloc (by simp) (.cells #[.int .i64 mt, .int .i64 ms, .int .i64 mf] 35)
  by_cases hl : 100 < rs.length
  · have L := Lib.hid (long_true v rs _ (hv.all hc0) hl)
    clear hv hl
    go_enter Try.func10, Try.ntmps10
    go_wp2_with fail
    refine L.out.mono ?_
    rintro e w1 ⟨rfl, hb1⟩
    go_wp2_with fail
    refine (known_any _).mono ?_
    rintro e w2 ⟨rfl, hb2⟩
    go_wp2
    go_ret
    exact ⟨rfl, below_step (below_step hc0 hb1) hb2⟩
  have l1 : rs.length ≤ 100 := by omega
  have l2 : rs.length ≤ 1000 := by omega
  have A0 := Lib.hid (fun W (hW : Below w.heap.size w W) => long_false v rs W (hv.all hW) l1)
  have A1 := Lib.hid (fun W (hW : Below w.heap.size w W) => num_where_any v rs la mo sh fl W (hv.all hW) l2)
  have A2 := Lib.hid (fun W (hW : Below w.heap.size w W) => ref_where_any v rs la mo sh fl W (hv.all hW) l2)
  have A3 := Lib.hid (fun W (hW : Below w.heap.size w W) => num_count_any v rs la mo sh fl W (hv.all hW) l2)
  have A4 := Lib.hid (fun W (hW : Below w.heap.size w W) => ref_count_any v rs la mo sh fl W (hv.all hW) l2)
  have A5 := Lib.hid (fun W (hW : Below w.heap.size w W) => num_volume_any v rs W (hv.all hW) l2)
  have A6 := Lib.hid (fun W (hW : Below w.heap.size w W) => ref_volume_any v rs W (hv.all hW) l2)
  have hsl : (Bd.whR la mo sh fl rs).length ≤ 1000 := by have := Bd.whR_length la mo sh fl rs; omega
  have hn : QAt ((w.alloc (.cells #[.int .i64 la, .int .i64 mo, .int .i64 sh, .int .i64 fl] 55)).alloc (.cells #[.int .i64 mt, .int .i64 ms, .int .i64 mf] 35)) w.heap.size la mo sh fl := by
    have b := (BlockAt.new w #[.int .i64 la, .int .i64 mo, .int .i64 sh, .int .i64 fl] 55).alloc (.cells #[.int .i64 mt, .int .i64 ms, .int .i64 mf] 35)
    exact ⟨(b.cell 0).trans rfl, (b.cell 1).trans rfl, (b.cell 2).trans rfl, (b.cell 3).trans rfl⟩
  have hm : MAt ((w.alloc (.cells #[.int .i64 la, .int .i64 mo, .int .i64 sh, .int .i64 fl] 55)).alloc (.cells #[.int .i64 mt, .int .i64 ms, .int .i64 mf] 35)) (w.heap.size + 1) mt ms mf := by
    have b := BlockAt.new (w.alloc (.cells #[.int .i64 la, .int .i64 mo, .int .i64 sh, .int .i64 fl] 55)) #[.int .i64 mt, .int .i64 ms, .int .i64 mf] 35
    rw [World.size_alloc] at b
    exact ⟨(b.cell 0).trans rfl, (b.cell 1).trans rfl, (b.cell 2).trans rfl⟩
  have HQ0 := Lib.hid (And.intro hn (And.intro hm (show w.heap.size + 1 < ((w.alloc (.cells #[.int .i64 la, .int .i64 mo, .int .i64 sh, .int .i64 fl] 55)).alloc (.cells #[.int .i64 mt, .int .i64 ms, .int .i64 mf] 35)).heap.size by simp)))
  obtain ⟨ao, c, rfl⟩ := hv.form
  clear hl hv hn hm
  generalize Bd.whR la mo sh fl rs = ss at *
  generalize Bd.cnt ss = cn at *
  generalize Bd.volR rs = vl at *
  generalize Bd.valE rs = E at *
  generalize hHol : Bd.holds la mo sh fl ⟨mt, ms, mf⟩ = H
  have hHH : (H != H) = false := by simp
  go_enter Try.func10, Try.ntmps10
  go_wp2_with fail
  refine (A0.out _ hc0).mono ?_
  rintro e w1 ⟨rfl, hb1⟩
  have hc1 := below_step hc0 hb1
  have HQ1 := Lib.hid (qm_all HQ0.out hb1)
  clear HQ0 hc0
  obtain ⟨q0, q1, q2, q3⟩ := HQ1.out.1
  go_wp2_with fail
  refine (A1.out _ hc1).mono ?_
  rintro e w2 ⟨l, rfl, hl, hb2⟩
  have hc2 := below_step hc1 hb2
  have HQ2 := Lib.hid (qm_all HQ1.out hb2)
  clear q0 q1 q2 q3 HQ1 hc1
  have hl2 := hl.spns
  obtain ⟨la0, lc0, rfl, _⟩ := id hl2
  clear hl
  obtain ⟨q0, q1, q2, q3⟩ := HQ2.out.1
  go_wp2_with fail
  refine (A2.out _ hc2).mono ?_
  rintro e w3 ⟨kk, rfl, hk, hb3⟩
  have hc3 := below_step hc2 hb3
  have HQ3 := Lib.hid (qm_all HQ2.out hb3)
  clear q0 q1 q2 q3 HQ2 hc2
  have hk3 := hk.spns
  have hl3 := hl2.all hb3
  obtain ⟨ka, kc, rfl, _⟩ := id hk3
  clear hk hl2
  obtain ⟨q0, q1, q2, q3⟩ := HQ3.out.1
  go_wp2_with fail
  refine (A3.out _ hc3).mono ?_
  rintro e w4 ⟨rfl, hb4⟩
  have hc4 := below_step hc3 hb4
  have HQ4 := Lib.hid (qm_all HQ3.out hb4)
  clear q0 q1 q2 q3 HQ3 hc3
  have hk4 := hk3.all hb4
  have hl4 := hl3.all hb4
  clear hk3 hl3
  obtain ⟨q0, q1, q2, q3⟩ := HQ4.out.1
  go_wp2_with fail
  refine (A4.out _ hc4).mono ?_
  rintro e w5 ⟨rfl, hb5⟩
  have hc5 := below_step hc4 hb5
  have HQ5 := Lib.hid (qm_all HQ4.out hb5)
  clear q0 q1 q2 q3 HQ4 hc4
  have hk5 := hk4.all hb5
  have hl5 := hl4.all hb5
  clear hk4 hl4
  obtain ⟨q0, q1, q2, q3⟩ := HQ5.out.1
  go_wp2_with fail
  refine (A5.out _ hc5).mono ?_
  rintro e w6 ⟨rfl, hb6⟩
  have hc6 := below_step hc5 hb6
  have HQ6 := Lib.hid (qm_all HQ5.out hb6)
  clear q0 q1 q2 q3 HQ5 hc5
  have hk6 := hk5.all hb6
  have hl6 := hl5.all hb6
  clear hk5 hl5
  obtain ⟨q0, q1, q2, q3⟩ := HQ6.out.1
  go_wp2_with fail
  refine (A6.out _ hc6).mono ?_
  rintro e w7 ⟨rfl, hb7⟩
  have hc7 := below_step hc6 hb7
  have HQ7 := Lib.hid (qm_all HQ6.out hb7)
  clear q0 q1 q2 q3 HQ6 hc6
  have hk7 := hk6.all hb7
  have hl7 := hl6.all hb7
  clear hk6 hl6
  obtain ⟨⟨q0, q1, q2, q3⟩, ⟨m0, m1, m2⟩, hsz⟩ := HQ7.out
  have hlen : ((ss.length : Int) == (ss.length : Int)) = true := by simp
  go_wp2_with fail
  refine wp_region_seq [(0, true), (1, true), (3, true), (4, true), (2, false), (5, false), (6, true), (7, true), (8, true), (9, true), (10, true), (11, true), (12, true), (13, true), (14, true), (15, true), (16, true), (17, true), (18, true), (19, true), (20, true), (21, true), (22, true), (23, true), (24, true), (25, true), (26, true), (27, true), (28, true), (29, true), (30, true), (31, true), (32, true), (33, true), (34, true), (35, true), (36, true), (37, true), (38, true)]
    (fun W => (W.cell? ⟨w.heap.size, 0, none⟩ = some (.int .i64 la) ∧ W.cell? ⟨w.heap.size, 1, none⟩ = some (.int .i64 mo) ∧ W.cell? ⟨w.heap.size, 2, none⟩ = some (.int .i64 sh) ∧ W.cell? ⟨w.heap.size, 3, none⟩ = some (.int .i64 fl)) ∧
      (W.cell? ⟨w.heap.size + 1, 0, none⟩ = some (.int .i64 mt) ∧ W.cell? ⟨w.heap.size + 1, 1, none⟩ = some (.int .i64 ms) ∧ W.cell? ⟨w.heap.size + 1, 2, none⟩ = some (.int .i64 mf)) ∧
      Hid (w.heap.size + 1 < W.heap.size ∧ Spns W (.slice la0 ss.length lc0) ss ∧ Spns W (.slice ka ss.length kc) ss ∧ Below w.heap.size w W))
    (by kernel_rfl) (by kernel_rfl) (by kernel_rfl) (by kernel_rfl) (fun d _ _ _ _ h => by cases d <;> exact h)
    (by exact ⟨⟨q0, q1, q2, q3⟩, ⟨m0, m1, m2⟩, Lib.hid ⟨hsz, hl7.all ((Below.refl _ _).drew), hk7.all ((Below.refl _ _).drew), hc7.drew⟩⟩) (fun hS0 => ?_)
  clear q0 q1 q2 q3 m0 m1 m2 hsz hl7 hk7 hc7 HQ7
  repeat (first
    | (refine SeqH.take (v := ?_) rfl (by rfl) ?_ ?_; rotate_left; (· intro w hSw; (try dsimp only at hSw); obtain ⟨⟨q0, q1, q2, q3⟩, ⟨m0, m1, m2⟩, _⟩ := hSw; go_simp; (try with_reducible rfl)); simp only [Act.put, List.setIfInBounds_toArray, List.set_cons_zero, List.set_cons_succ])
    | (refine SeqH.skip rfl (by rfl) ?_; simp only [Act.put, List.setIfInBounds_toArray, List.set_cons_zero, List.set_cons_succ]))
  refine SeqH.step rfl (by rfl) (fun K hK => ?_)
  go_simp
  go_at_call 52
  refine (num_holds_any la mo sh fl ⟨mt, ms, mf⟩ _).mono ?_
  rintro e u1 ⟨rfl, hu1⟩
  rw [hHol]
  try dsimp only
  have hS1 := keepQ hS0 hu1
  refine hK.out _ _ hS1 (fun _ => ?_)
  clear hK K hu1 hS0
  try simp only [Act.put, List.setIfInBounds_toArray, List.set_cons_zero, List.set_cons_succ]
  repeat (first
    | (refine SeqH.take (v := ?_) rfl (by rfl) ?_ ?_; rotate_left; (· intro w hSw; (try dsimp only at hSw); obtain ⟨⟨q0, q1, q2, q3⟩, ⟨m0, m1, m2⟩, _⟩ := hSw; go_simp; (try with_reducible rfl)); simp only [Act.put, List.setIfInBounds_toArray, List.set_cons_zero, List.set_cons_succ])
    | (refine SeqH.skip rfl (by rfl) ?_; simp only [Act.put, List.setIfInBounds_toArray, List.set_cons_zero, List.set_cons_succ]))

  refine SeqH.step rfl (by rfl) (fun K hK => ?_)
  go_simp
  go_at_call 53
  refine (ref_holds_any la mo sh fl ⟨mt, ms, mf⟩ _).mono ?_
  rintro e u2 ⟨rfl, hu2⟩
  rw [hHol]
  try dsimp only
  have hS2 := keepQ hS1 hu2
  refine hK.out _ _ hS2 (fun _ => ?_)
  clear hK K hu2 hS1
  try simp only [Act.put, List.setIfInBounds_toArray, List.set_cons_zero, List.set_cons_succ]
  repeat (first
    | (refine SeqH.take (v := ?_) rfl (by rfl) ?_ ?_; rotate_left; (· intro w hSw; (try dsimp only at hSw); obtain ⟨⟨q0, q1, q2, q3⟩, ⟨m0, m1, m2⟩, _⟩ := hSw; go_simp; (try with_reducible rfl)); simp only [Act.put, List.setIfInBounds_toArray, List.set_cons_zero, List.set_cons_succ])
    | (refine SeqH.skip rfl (by rfl) ?_; simp only [Act.put, List.setIfInBounds_toArray, List.set_cons_zero, List.set_cons_succ]))

  refine SeqH.done ?_
  obtain ⟨_, _, hS⟩ := hS2
  obtain ⟨_, hl7, hk7, hc7⟩ := hS.out
  clear hS
  obtain ⟨la', lc', e1, hlk⟩ := hl7
  obtain ⟨rfl, rfl⟩ : la0 = la' ∧ lc0 = lc' := by simpa using e1
  obtain ⟨ka', kc', e2, hkk⟩ := hk7
  obtain ⟨rfl, rfl⟩ : ka = ka' ∧ kc = kc' := by simpa using e2
  have HL := Lib.hid hlk
  have HK := Lib.hid hkk
  clear hlk hkk e1 e2
  go_wp2
  have hw0 := Below.refl u2.heap.size u2
  go_loopw [19] (fun t wr => ∃ k : Nat, k ≤ ss.length ∧ t = .int .i64 k ∧ Hid (Below u2.heap.size u2 wr)) (fun t _ => ss.length - (intOf t).toNat)
  case atStart => exact ⟨0, Nat.zero_le _, rfl, Lib.hid hw0⟩
  case round =>
    obtain ⟨j, hj, rfl, hg⟩ := hrel
    clear hw0
    by_cases hlt : j < ss.length
    · obtain ⟨b, off, rfl, hb, s0⟩ := HL.out j hlt
      obtain ⟨b2, off2, rfl, hb2, s1⟩ := HK.out j hlt
      obtain ⟨c0, c1⟩ := s0.below hg.out hb
      obtain ⟨d0, d1⟩ := s1.below hg.out hb2
      clear HL HK s0 s1
      generalize ss[j] = x at *
      go_wp2
      go_quiet (fail)
      clear c0 c1 d0 d1
      go_wp2
      go_roundw
      case rel => exact ⟨j + 1, by omega, by go_num, Lib.hid (below_drewN hg.out _)⟩
      case measure => simp [intOf]; omega
    · obtain rfl : j = ss.length := by omega
      clear HL HK
      go_wp2_with fail
      refine (known_any _).mono ?_
      rintro e w9 ⟨rfl, hb9⟩
      go_wp2
      go_ret
      exact ⟨rfl, below_step (below_step hc7 hg.out) hb9⟩
end Go.Proofs.Ytgnpbcgfhmhhgaa
