/- Counts of places that meet a query, of the program and of the reference. -/
import Derived.Test.YtgnpbcgfhmhhgaaBand45
namespace Go.Proofs.Ytgnpbcgfhmhhgaa
open Go.RowKit

namespace Bd
def cnt : List S → Int
  | [] => 0
  | s :: b => s.t - s.f + cnt b
theorem cnt_append (a b : List S) : cnt (a ++ b) = cnt a + cnt b := by
  induction a with
  | nil => simp [cnt]
  | cons r a ih => simp only [List.cons_append, cnt, ih]; omega
theorem cnt_take_succ {b : List S} {k : Nat} (h : k < b.length) : cnt (b.take (k + 1)) = cnt (b.take k) + (b[k].t - b[k].f) := by
  rw [List.take_succ_eq_append_getElem h, cnt_append]; simp [cnt]
def okS (s : S) : Prop := 0 ≤ s.f ∧ s.f ≤ 2000000000 ∧ 0 ≤ s.t ∧ s.t ≤ 2000000000
theorem cnt_bound {b : List S} (h : ∀ s ∈ b, okS s) : ∀ k, k ≤ b.length → -(k * 2000000000) ≤ cnt (b.take k) ∧ cnt (b.take k) ≤ k * 2000000000
  | 0, _ => by simp [cnt]
  | k + 1, hk => by
    have ih := cnt_bound h k (by omega)
    have hm := h b[k] (List.getElem_mem (by omega))
    unfold okS at hm
    rw [cnt_take_succ (by omega)]
    omega
theorem pushS_ok {out : List S} {s : S} (h : ∀ x ∈ out, okS x) (hs : okS s) : ∀ x ∈ pushS out s, okS x := by
  rcases snocS_cases out with rfl | ⟨a, q, rfl⟩
  · intro x hx; rw [pushS_nil] at hx; rw [List.mem_singleton.1 hx]; exact hs
  · have hq := h q (by simp)
    rw [pushS_snoc]
    split
    · intro x hx
      rcases List.mem_append.1 hx with hx | hx
      · exact h x (by simp [hx])
      · rw [List.mem_singleton.1 hx]; exact ⟨hq.1, hq.2.1, hs.2.2.1, hs.2.2.2⟩
    · intro x hx
      rcases List.mem_append.1 hx with hx | hx
      · exact h x hx
      · rw [List.mem_singleton.1 hx]; exact hs
theorem foldS_ok : ∀ (l out : List S), (∀ x ∈ out, okS x) → (∀ x ∈ l, okS x) → ∀ x ∈ l.foldl pushS out, okS x
  | [], out, h, _ => h
  | s :: l, out, h, hl => foldS_ok l (pushS out s) (pushS_ok h (hl s (by simp))) (fun x hx => hl x (by simp [hx]))
theorem spa_ok (la mo sh fl : Int) (rs : List R) : ∀ x ∈ spa la mo sh fl rs, okS x := by
  refine foldS_ok _ _ (fun x hx => by cases hx) ?_
  intro s hs
  obtain ⟨x, _, hx⟩ := List.mem_flatMap.1 hs
  unfold whSp at hx
  split at hx
  · rw [List.mem_singleton.1 hx]; exact x.2
  · cases hx
theorem whR_ok (la mo sh fl : Int) (rs : List R) : ∀ x ∈ whR la mo sh fl rs, okS x := by
  unfold whR; split
  · exact spa_ok _ _ _ _ _
  · intro x hx; cases hx
theorem whR_length (la mo sh fl : Int) (rs : List R) : (whR la mo sh fl rs).length ≤ rs.length := by
  unfold whR; split
  · exact spa_length _ _ _ _ _
  · simp
end Bd

set_option maxRecDepth 20000 in
set_option maxHeartbeats 2000000 in
theorem ref_count_any (v : Value) (rs : List Bd.R) (la mo sh fl : Int) (w : World) (hv : Runs w v rs) (hl : rs.length ≤ 1000) :
    Calls Try.prog 49 #[v, .agg #[.int .i64 la, .int .i64 mo, .int .i64 sh, .int .i64 fl]] w fun e w' => e = .returned (.tuple #[.int .i64 (Bd.cnt (Bd.whR la mo sh fl rs)), .int .i64 (Bd.valE rs)]) ∧ Below w.heap.size w w' := by
  have hb0 := (Below.refl w.heap.size w).alloc (Nat.le_refl _) (.cells #[.int .i64 la, .int .i64 mo, .int .i64 sh, .int .i64 fl] 55)
  have V := Lib.hid (ref_where_any v rs la mo sh fl _ (hv.all hb0) hl)
  have hok := Bd.whR_ok la mo sh fl rs
  have hlen := Bd.whR_length la mo sh fl rs
  obtain ⟨ao, c, rfl⟩ := hv.form
  generalize Bd.valE rs = E at *
  generalize Bd.whR la mo sh fl rs = ss at *
  clear hv
  go_enter Try.func49, Try.ntmps49
  go_wp2_with fail
  refine V.out.mono ?_
  rintro e w1 ⟨u, rfl, hu, hb1⟩
  have hB1 := below_step hb0 hb1
  clear V hb1 hb0
  have HO := Lib.hid (fun k (hk : k < ss.length) => hok ss[k] (List.getElem_mem hk))
  have HB := Lib.hid (Bd.cnt_bound hok)
  obtain ⟨ua, uc, hu', hlk⟩ := hu.spns
  subst hu'
  have HK := Lib.hid hlk
  have hus := w1.heap.size
  clear hlk hok hu
  go_wp2
  have hw0 := Below.refl w1.heap.size w1
  go_loopw [8, 9] (fun s t wr => ∃ k : Nat, k ≤ ss.length ∧ t = .int .i64 k ∧ s = .int .i64 (Bd.cnt (ss.take k)) ∧ Hid (Below w1.heap.size w1 wr)) (fun _ t _ => ss.length - (intOf t).toNat)
  case atStart => exact ⟨0, Nat.zero_le _, rfl, rfl, Lib.hid hw0⟩
  case round =>
    obtain ⟨k, hk, rfl, rfl, hg⟩ := hrel
    clear hw0
    by_cases hlt : k < ss.length
    · obtain ⟨b, off, rfl, hb', hr⟩ := HK.out k hlt
      obtain ⟨c0, c1⟩ := hr.below hg.out hb'
      have hs := Bd.cnt_take_succ hlt
      have b1 := HB.out k (by omega)
      have b2 := HB.out (k + 1) (by omega)
      have hm := HO.out k hlt
      unfold Bd.okS at hm
      rw [hs] at b2
      have HS := Lib.hid hs
      clear hs HB HO
      generalize Bd.cnt (ss.take k) = s at *
      generalize ss[k] = r at *
      have hgs := hg.out.size
      go_wp2
      go_quiet (fail)
      clear c0 c1
      go_wp2
      go_roundw
      case rel => exact ⟨k + 1, by omega, by go_num, by rw [HS.out], Lib.hid (below_drewN hg.out _)⟩
      case measure => simp [intOf]; omega
    · obtain rfl : k = ss.length := by omega
      go_wp2
      go_ret2
      exact ⟨by rw [List.take_length]; rfl, below_step hB1 hg.out⟩

set_option maxRecDepth 20000 in
set_option maxHeartbeats 2000000 in
theorem num_count_any (v : Value) (rs : List Bd.R) (la mo sh fl : Int) (w : World) (hv : Runs w v rs) (hl : rs.length ≤ 1000) :
    Calls Try.prog 48 #[v, .agg #[.int .i64 la, .int .i64 mo, .int .i64 sh, .int .i64 fl]] w fun e w' => e = .returned (.tuple #[.int .i64 (Bd.cnt (Bd.whR la mo sh fl rs)), .int .i64 (Bd.valE rs)]) ∧ Below w.heap.size w w' := by
  have hb0 := (Below.refl w.heap.size w).alloc (Nat.le_refl _) (.cells #[.int .i64 la, .int .i64 mo, .int .i64 sh, .int .i64 fl] 55)
  have V := Lib.hid (validate_any v rs _ (hv.all hb0) hl)
  have P := Lib.hid (fun W (hW : Below w.heap.size w W) h => spans_any v rs la mo sh fl W (hv.all hW) h)
  obtain ⟨ao, c, rfl⟩ := hv.form
  generalize hE : Bd.valE rs = E
  generalize hPL : Bd.cnt (Bd.whR la mo sh fl rs) = ps
  have HE := Lib.hid (And.intro hE hPL)
  have hbQ := BlockAt.new w #[.int .i64 la, .int .i64 mo, .int .i64 sh, .int .i64 fl] 55
  obtain ⟨Wq, hWq⟩ : ∃ Wq, w.alloc (.cells #[.int .i64 la, .int .i64 mo, .int .i64 sh, .int .i64 fl] 55) = Wq := ⟨_, rfl⟩
  rw [hWq] at hb0 V hbQ
  have HW := Lib.hid hWq
  clear hE hPL hv hWq
  go_enter Try.func48, Try.ntmps48
  go_wp2_with fail
  rw [HW.out]
  refine V.out.mono ?_
  rintro e w1 ⟨rfl, hb1⟩
  have hB1 := below_step hb0 hb1
  have bQ := hbQ.below hb1 hbQ.lt
  have hs1 := hB1.size
  clear hb1 hbQ HW hb0
  by_cases hv0 : Bd.valE rs = 0
  · have hE0 : E = 0 := HE.out.1.symm.trans hv0
    have hPS : ps = Bd.cnt (Bd.spa la mo sh fl rs) := by rw [← HE.out.2]; unfold Bd.whR; rw [if_pos hv0]
    subst hE0
    have HPS := Lib.hid hPS
    rw [hv0]
    have J := Lib.hid (P.out _ hB1 (Bd.fine_of_valid hv0))
    have hok := Bd.spa_ok la mo sh fl rs
    have hlen := Bd.spa_length la mo sh fl rs
    have q0 := (bQ.cell 0).trans rfl
    have q1 := (bQ.cell 1).trans rfl
    have q2 := (bQ.cell 2).trans rfl
    have q3 := (bQ.cell 3).trans rfl
    clear V HE hv0 P bQ hPS
    generalize Bd.spa la mo sh fl rs = ss at *
    go_wp2_with fail
    refine J.out.mono ?_
    rintro e w2 ⟨u, rfl, hu, hb2⟩
    have hB2 := below_step hB1 hb2
    clear q0 q1 q2 q3 J hb2
    have HO := Lib.hid (fun k (hk : k < ss.length) => hok ss[k] (List.getElem_mem hk))
    have HB := Lib.hid (Bd.cnt_bound hok)
    obtain ⟨ua, uc, hu', hlk⟩ := hu.spns
    subst hu'
    have HK := Lib.hid hlk
    have hus := w2.heap.size
    clear hlk hok hu
    go_wp2
    have hw0 := Below.refl w2.heap.size w2
    go_loopw [7, 19] (fun s t wr => ∃ k : Nat, k ≤ ss.length ∧ t = .int .i64 k ∧ s = .int .i64 (Bd.cnt (ss.take k)) ∧ Hid (Below w2.heap.size w2 wr)) (fun _ t _ => ss.length - (intOf t).toNat)
    case atStart => exact ⟨0, Nat.zero_le _, rfl, rfl, Lib.hid hw0⟩
    case round =>
      obtain ⟨k, hk, rfl, rfl, hg⟩ := hrel
      clear hw0
      by_cases hlt : k < ss.length
      · obtain ⟨b, off, rfl, hb', hr⟩ := HK.out k hlt
        obtain ⟨c0, c1⟩ := hr.below hg.out hb'
        have hs := Bd.cnt_take_succ hlt
        have b1 := HB.out k (by omega)
        have b2 := HB.out (k + 1) (by omega)
        have hm := HO.out k hlt
        unfold Bd.okS at hm
        rw [hs] at b2
        have HS := Lib.hid hs
        clear hs HB HO
        generalize Bd.cnt (ss.take k) = s at *
        generalize ss[k] = r at *
        have hgs := hg.out.size
        go_wp2
        go_roundw
        case rel => exact ⟨k + 1, by omega, by go_num, by rw [HS.out], Lib.hid (hg.out.alloc hgs _)⟩
        case measure => simp [intOf]; omega
      · obtain rfl : k = ss.length := by omega
        go_wp2
        go_ret2
        exact ⟨by rw [HPS.out, List.take_length]; rfl, below_step hB2 hg.out⟩

  · have hPS : ps = 0 := by rw [← HE.out.2]; unfold Bd.whR; rw [if_neg hv0]; rfl
    subst hPS
    have hEE := HE.out.1
    generalize Bd.valE rs = z at *
    have hz : (z == 0) = false := by simp [hv0]
    have HZ := Lib.hid hEE
    clear hEE HE V hv0 P bQ
    go_wp2
    go_ret2
    exact ⟨by rw [HZ.out]; rfl, hB1⟩
end Go.Proofs.Ytgnpbcgfhmhhgaa
