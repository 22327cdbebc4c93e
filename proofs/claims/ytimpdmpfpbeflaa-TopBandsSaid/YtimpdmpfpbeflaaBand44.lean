/- The spans of the places that meet a query: the reference's. -/
import Derived.Test.YtimpdmpfpbeflaaBand43
namespace Go.Proofs.Ytimpdmpfpbeflaa
open Go.RowKit

theorem cellsS_setT : ∀ (a : List Bd.S) (q : Bd.S) (x : Int), (cellsS (a ++ [q])).set (a.length * 2 + 1) (.int .i64 x) = cellsS (a ++ [⟨q.f, x⟩])
  | [], q, x => rfl
  | r :: a, q, x => by
    have ih := cellsS_setT a q x
    show (spnC r ++ cellsS (a ++ [q])).set ((a.length + 1) * 2 + 1) _ = spnC r ++ cellsS (a ++ [⟨q.f, x⟩])
    rw [← ih, List.set_append_right _ _ (by simp [spnC]; omega)]
    congr 2
    simp [spnC]; omega
theorem OwnS.setT {base : Nat} {w : World} {g cap : Nat} {a : List Bd.S} {q : Bd.S} (h : OwnS base w (.slice (some ⟨g, 0, none⟩) (a.length + 1) cap) (a ++ [q])) (x : Int) :
    OwnS base (w.setCell ⟨g, a.length * 2 + 1, none⟩ (.int .i64 x)) (.slice (some ⟨g, 0, none⟩) (a.length + 1) cap) (a ++ [⟨q.f, x⟩]) := by
  have h1 := (World.ownsRow.stored h.row (a.length * 2 + 1) (.int .i64 x)).1
  rw [cellsS_setT] at h1
  exact OwnS.of_row h1
def Bd.whE (rs : List Bd.R) : Int := Bd.valE rs
def Bd.whR (la mo sh fl : Int) (rs : List Bd.R) : List Bd.S := if Bd.valE rs = 0 then Bd.spa la mo sh fl rs else []
theorem normS_wh {la mo sh fl : Int} {rs : List Bd.R} {k : Nat} {x : Bd.Sp} (hx : (Bd.spk rs k).1 = x) :
    Bd.normS (whS la mo sh fl (Bd.upto rs (k + 1))) = (if Bd.holds la mo sh fl x.m = true then Bd.pushS (Bd.normS (whS la mo sh fl (Bd.upto rs k))) ⟨x.f, x.t⟩ else Bd.normS (whS la mo sh fl (Bd.upto rs k))) := by
  rw [Bd.upto_succ, whS_snoc, hx]
  unfold whSp
  split
  · rw [Bd.normS_snoc]
  · rw [List.append_nil]

theorem keepW {w1 W W2 : World} {Bq b off : Nat} {la mo sh fl : Int} {r : Bd.R} {o : Value} {cs : List Bd.S}
    (h : (W.cell? ⟨Bq, 0, none⟩ = some (.int .i64 la) ∧ W.cell? ⟨Bq, 1, none⟩ = some (.int .i64 mo) ∧ W.cell? ⟨Bq, 2, none⟩ = some (.int .i64 sh) ∧ W.cell? ⟨Bq, 3, none⟩ = some (.int .i64 fl)) ∧ RunAt W b off r ∧ Hid (OwnS w1.heap.size W o cs ∧ Below w1.heap.size w1 W))
    (hb : Below W.heap.size W W2) (h1 : Bq < w1.heap.size) (h2 : b < w1.heap.size) :
    (W2.cell? ⟨Bq, 0, none⟩ = some (.int .i64 la) ∧ W2.cell? ⟨Bq, 1, none⟩ = some (.int .i64 mo) ∧ W2.cell? ⟨Bq, 2, none⟩ = some (.int .i64 sh) ∧ W2.cell? ⟨Bq, 3, none⟩ = some (.int .i64 fl)) ∧ RunAt W2 b off r ∧ Hid (OwnS w1.heap.size W2 o cs ∧ Below w1.heap.size w1 W2) := by
  obtain ⟨⟨a0, a1, a2, a3⟩, hr, hh⟩ := h
  obtain ⟨ho, hw⟩ := hh.out
  have hs := hw.size
  exact ⟨⟨(hb.cell (p := ⟨Bq, 0, none⟩) (by dsimp only; omega)).trans a0, (hb.cell (p := ⟨Bq, 1, none⟩) (by dsimp only; omega)).trans a1, (hb.cell (p := ⟨Bq, 2, none⟩) (by dsimp only; omega)).trans a2, (hb.cell (p := ⟨Bq, 3, none⟩) (by dsimp only; omega)).trans a3⟩,
    hr.below hb (by omega), Lib.hid ⟨ownsRow_all ho hb, below_step hw hb⟩⟩

set_option maxRecDepth 20000 in
set_option maxHeartbeats 4000000 in
theorem ref_where_any (v : Value) (rs : List Bd.R) (la mo sh fl : Int) (w : World) (hv : Runs w v rs) (hl : rs.length ≤ 1000) :
    Calls Try.prog 47 #[v, .agg #[.int .i64 la, .int .i64 mo, .int .i64 sh, .int .i64 fl]] w fun e w' => ∃ u, e = .returned (.tuple #[u, .int .i64 (Bd.valE rs)]) ∧ OwnS w.heap.size w' u (Bd.whR la mo sh fl rs) ∧ Below w.heap.size w w' := by
  obtain ⟨i0, hi, hz0, hz1, hz2⟩ := info_parts infoSpn
  have hb0 := (Below.refl w.heap.size w).alloc (Nat.le_refl _) (.cells #[.int .i64 la, .int .i64 mo, .int .i64 sh, .int .i64 fl] 55)
  have V := Lib.hid (ref_validate_any v rs _ (hv.all hb0) hl)
  have hv0 := hv.all hb0
  obtain ⟨ao, c, rfl, hlk⟩ := hv0.look
  have HK := Lib.hid hlk
  generalize hE : Bd.valE rs = E
  generalize hPL : Bd.whR la mo sh fl rs = ps
  have HE := Lib.hid (And.intro hE hPL)
  have hbQ := BlockAt.new w #[.int .i64 la, .int .i64 mo, .int .i64 sh, .int .i64 fl] 55
  obtain ⟨Wq, hWq⟩ : ∃ Wq, w.alloc (.cells #[.int .i64 la, .int .i64 mo, .int .i64 sh, .int .i64 fl] 55) = Wq := ⟨_, rfl⟩
  rw [hWq] at hb0 V hv0 HK hbQ
  have HW := Lib.hid hWq
  clear hE hPL hv hlk hv0 hWq
  go_enter Try.func47, Try.ntmps47
  go_wp2_with fail
  rw [HW.out]
  refine V.out.mono ?_
  rintro e w1 ⟨rfl, hb1⟩
  have hB1 := below_step hb0 hb1
  have bQ := hbQ.below hb1 hbQ.lt
  have hs1 := hb1.size
  have hsq := hbQ.lt
  by_cases hv0 : Bd.valE rs = 0
  · have hE0 : E = 0 := HE.out.1.symm.trans hv0
    have hPS : ps = Bd.spa la mo sh fl rs := by rw [← HE.out.2]; unfold Bd.whR; rw [if_pos hv0]
    subst hE0
    have HPS := Lib.hid hPS
    rw [hv0]
    have hf := Bd.fine_of_valid hv0
    have HB := Lib.hid (Bd.len_take_le hf.2.1)
    have HX := Lib.hid (fun k (hk : k < rs.length) => Bd.spk_eq hf hk)
    have hmax := hf.2.2
    have hlen := hf.1
    have hb1' := Lib.hid hb1
    clear V HE hf hv0 hPS HW hb1 hbQ
    go_wp2
    have hw0 := Below.refl w1.heap.size w1
    go_loopw [7, 8, 9] (fun o s t wr => ∃ k : Nat, k ≤ rs.length ∧ t = .int .i64 k ∧ s = .int .i64 (Bd.len (rs.take k)) ∧ Hid (OwnS w1.heap.size wr o (Bd.normS (whS la mo sh fl (Bd.upto rs k))) ∧ Below w1.heap.size w1 wr)) (fun _ _ t _ => rs.length - (intOf t).toNat)
    case atStart => exact ⟨0, Nat.zero_le _, rfl, rfl, Lib.hid ⟨OwnS.nil _ _, hw0⟩⟩
    case round =>
      obtain ⟨k, hk, rfl, rfl, hg⟩ := hrel
      clear hw0
      by_cases hlt : k < rs.length
      · obtain ⟨hown, hw⟩ := hg.out
        obtain ⟨b, off, rfl, hb', hr⟩ := HK.out k hlt
        have hr := (hr.below hb1'.out hb').below hw (by omega)
        have hb : b < w1.heap.size := by omega
        have hs := Bd.len_take_succ hlt
        have b1 := HB.out k
        have b2 := HB.out (k + 1)
        rw [hs] at b2
        have hx := HX.out k hlt
        rw [hs] at hx
        have hnx := normS_wh (la := la) (mo := mo) (sh := sh) (fl := fl) hx
        dsimp only at hnx
        have HS := Lib.hid hs
        have hcl := Bd.normS_length (whS la mo sh fl (Bd.upto rs k))
        have hcl2 := whS_le la mo sh fl (Bd.upto rs k)
        rw [Bd.upto_length] at hcl2
        clear hs hg HB HX hx
        generalize Bd.normS (whS la mo sh fl (Bd.upto rs k)) = cs at *
        generalize Bd.len (rs.take k) = s at *
        generalize rs[k] = r at *
        have HNX0 := Lib.hid hnx
        clear hnx
        have bQ' := bQ.below hw (by omega)
        have q0 := (bQ'.cell 0).trans rfl
        have q1 := (bQ'.cell 1).trans rfl
        have q2 := (bQ'.cell 2).trans rfl
        have q3 := (bQ'.cell 3).trans rfl
        have hwsz := hw.size
        clear bQ'
        rcases Bd.snocS_cases cs with he | ⟨a, q, he⟩
        · subst he
          obtain ⟨ga, gc, rfl⟩ := hown.empty
          go_wp2_with fail
          refine wp_region_seq [(0, true), (1, true), (2, true), (3, true), (4, true), (5, true), (6, false)]
            (fun W => (W.cell? ⟨w.heap.size, 0, none⟩ = some (.int .i64 la) ∧ W.cell? ⟨w.heap.size, 1, none⟩ = some (.int .i64 mo) ∧ W.cell? ⟨w.heap.size, 2, none⟩ = some (.int .i64 sh) ∧ W.cell? ⟨w.heap.size, 3, none⟩ = some (.int .i64 fl)) ∧
              RunAt W b (off + k * 4) r ∧ Hid (OwnS w1.heap.size W (.slice ga 0 gc) [] ∧ Below w1.heap.size w1 W))
            (by kernel_rfl) (by kernel_rfl) (by kernel_rfl) (by kernel_rfl) (fun d _ _ _ _ h => by cases d <;> exact h)
            (by exact ⟨⟨q0, q1, q2, q3⟩, hr, Lib.hid ⟨hown, hw.drew⟩⟩) (fun hS => ?_)
          clear q0 q1 q2 q3 hr hown hw
          repeat (first
            | (refine SeqH.take (v := ?_) rfl (by rfl) ?_ ?_; rotate_left; (· intro w hSw; (try dsimp only at hSw); obtain ⟨⟨q0, q1, q2, q3⟩, ⟨c0, c1, c2, c3⟩, _⟩ := hSw; go_simp; (try with_reducible rfl)); simp only [Act.put, List.setIfInBounds_toArray, List.set_cons_zero, List.set_cons_succ]))
          refine SeqH.step rfl (by rfl) (fun K hK => ?_)
          go_simp
          go_at_call 53
          refine (ref_holds_any la mo sh fl r.m _).mono ?_
          rintro e w3 ⟨rfl, hb3⟩
          try dsimp only
          have hS3 := keepW hS hb3 (by omega) hb
          refine hK.out _ _ hS3 (fun _ => ?_)
          clear hK K hb3 hS
          try simp only [Act.put, List.setIfInBounds_toArray, List.set_cons_zero, List.set_cons_succ]
          refine SeqH.done ?_
          obtain ⟨_, ⟨c0, _, _, _⟩, hS3⟩ := hS3
          obtain ⟨hown, hw⟩ := hS3.out
          clear hS3
          have HC0 := Lib.hid ((hw.cell (p := ⟨b, off + k * 4, none⟩) hb).symm.trans c0)
          generalize Bd.holds la mo sh fl r.m = H at *
          cases H
          · have HNX := Lib.hid (HNX0.out.trans (if_neg (by simp)))
            clear HNX0
            go_wp2
            go_roundw
            case rel => exact ⟨k + 1, by omega, by go_num, by rw [HS.out], Lib.hid ⟨by rw [HNX.out]; exact hown, hw⟩⟩
            case measure => simp [intOf]; omega
          · have HNX1 := Lib.hid (HNX0.out.trans (if_pos rfl))
            clear HNX0
            have HNX := Lib.hid (HNX1.out.trans (Bd.pushS_nil _))
            clear HNX1
            go_wp2_with (at_builtin; refine wpList_append_own _ rfl _ _ 56 rfl w1.heap.size 62 i0 (.agg #[.int .i64 0, .int .i64 0]) 2 16 Try.underlying56 hi hz0 hz1 hz2 rfl (by decide) _ _ _ rfl (hown.alloc _) ⟨w3.heap.size, 0, none⟩ 1 1 (spnC ⟨s, s + r.l⟩) rfl rfl (spnC_at w3 ⟨s, s + r.l⟩ _ rfl) (spnC_one _) (by unfold maxLen; simp) (by simp) (by have := hw.size; simp; omega) ?_)
            intro v' w4 hown1 hgrow _
            have hw4 := (hw.alloc hw.size (spnObj ⟨s, s + r.l⟩)).grown hgrow (by have := hw.size; simp; omega) (fun j e => (World.ownsRow.lt hown j e).1)
            have hx4 := OwnS.pushed (a := []) (hown1)
            have c0 := (hw4.cell (p := ⟨b, off + k * 4, none⟩) hb).trans HC0.out
            clear hown1 hgrow hown hw
            go_wp2
            go_roundw
            case rel => exact ⟨k + 1, by omega, by go_num, by rw [HS.out], Lib.hid ⟨by rw [HNX.out]; exact hx4, hw4⟩⟩
            case measure => simp [intOf]; omega

        · subst he
          obtain ⟨g, cp, rfl, hg1, hg2, hg3, hg4, d1⟩ := hown.snoc
          clear hg4 d1
          go_wp2_with fail
          refine wp_region_seq [(0, true), (1, true), (2, true), (3, true), (4, true), (5, true), (6, false)]
            (fun W => (W.cell? ⟨w.heap.size, 0, none⟩ = some (.int .i64 la) ∧ W.cell? ⟨w.heap.size, 1, none⟩ = some (.int .i64 mo) ∧ W.cell? ⟨w.heap.size, 2, none⟩ = some (.int .i64 sh) ∧ W.cell? ⟨w.heap.size, 3, none⟩ = some (.int .i64 fl)) ∧
              RunAt W b (off + k * 4) r ∧ Hid (OwnS w1.heap.size W (.slice (some ⟨g, 0, none⟩) (a.length + 1) cp) (a ++ [q]) ∧ Below w1.heap.size w1 W))
            (by kernel_rfl) (by kernel_rfl) (by kernel_rfl) (by kernel_rfl) (fun d _ _ _ _ h => by cases d <;> exact h)
            (by exact ⟨⟨q0, q1, q2, q3⟩, hr, Lib.hid ⟨hown, hw.drew⟩⟩) (fun hS => ?_)
          clear q0 q1 q2 q3 hr hown hw
          repeat (first
            | (refine SeqH.take (v := ?_) rfl (by rfl) ?_ ?_; rotate_left; (· intro w hSw; (try dsimp only at hSw); obtain ⟨⟨q0, q1, q2, q3⟩, ⟨c0, c1, c2, c3⟩, _⟩ := hSw; go_simp; (try with_reducible rfl)); simp only [Act.put, List.setIfInBounds_toArray, List.set_cons_zero, List.set_cons_succ]))
          refine SeqH.step rfl (by rfl) (fun K hK => ?_)
          go_simp
          go_at_call 53
          refine (ref_holds_any la mo sh fl r.m _).mono ?_
          rintro e w3 ⟨rfl, hb3⟩
          try dsimp only
          have hS3 := keepW hS hb3 (by omega) hb
          refine hK.out _ _ hS3 (fun _ => ?_)
          clear hK K hb3 hS
          try simp only [Act.put, List.setIfInBounds_toArray, List.set_cons_zero, List.set_cons_succ]
          refine SeqH.done ?_
          obtain ⟨_, ⟨c0, _, _, _⟩, hS3⟩ := hS3
          obtain ⟨hown, hw⟩ := hS3.out
          clear hS3
          have HC0 := Lib.hid ((hw.cell (p := ⟨b, off + k * 4, none⟩) hb).symm.trans c0)
          generalize Bd.holds la mo sh fl r.m = H at *
          cases H
          · have HNX := Lib.hid (HNX0.out.trans (if_neg (by simp)))
            clear HNX0
            go_wp2
            go_roundw
            case rel => exact ⟨k + 1, by omega, by go_num, by rw [HS.out], Lib.hid ⟨by rw [HNX.out]; exact hown, hw⟩⟩
            case measure => simp [intOf]; omega
          · have HNX1 := Lib.hid (HNX0.out.trans (if_pos rfl))
            clear HNX0
            simp only [List.length_append, List.length_singleton] at hcl
            obtain ⟨_, _, e0, _, _, _, hfz, d0, d1⟩ := hown.snoc
            obtain ⟨rfl, rfl⟩ : g = _ ∧ cp = _ := by simpa using e0
            have f1 := hfz (a.length * 2 + 1)
            clear e0 hfz d0
            have hlti : (a.length : Int) < (a.length : Int) + 1 := by omega
            by_cases hq : q.t = s
            · have HNX := Lib.hid (HNX1.out.trans ((Bd.pushS_snoc _ _ _).trans (if_pos hq)))
              have hqb : (q.t == s) = true := by simp [hq]
              clear HNX1 hq
              have hs4 := hown.setT (s + r.l)
              have hw4 := hw.setCell (p := ⟨g, a.length * 2 + 1, none⟩) hg1 (.int .i64 (s + r.l))
              have HC4 := (Below.heap_setCell w3 ⟨g, a.length * 2 + 1, none⟩ (.int .i64 (s + r.l)) b (by dsimp only; omega))
              have c4 : (w3.setCell ⟨g, a.length * 2 + 1, none⟩ (.int .i64 (s + r.l))).cell? ⟨b, off + k * 4, none⟩ = some (.int .i64 r.l) := (hw4.cell (p := ⟨b, off + k * 4, none⟩) hb).trans HC0.out
              have HF := Lib.hid (And.intro hs4 hw4)
              clear hs4 hw4 HC4 hown hw
              go_wp2
              go_roundw
              case rel => exact ⟨k + 1, by omega, by go_num, by rw [HS.out], Lib.hid ⟨by rw [HNX.out]; exact HF.out.1, HF.out.2⟩⟩
              case measure => simp [intOf]; omega
            · have HNX := Lib.hid (HNX1.out.trans ((Bd.pushS_snoc _ _ _).trans (if_neg hq)))
              have hqb : (q.t == s) = false := by simp [hq]
              clear HNX1 hq
              have hr := hown.row
              have hown' := hown
              go_wp2_with (at_builtin; refine wpList_append_own _ rfl _ _ 56 rfl w1.heap.size 62 i0 (.agg #[.int .i64 0, .int .i64 0]) 2 16 Try.underlying56 hi hz0 hz1 hz2 rfl (by decide) _ _ _ rfl (hr.alloc _) ⟨w3.heap.size, 0, none⟩ 1 1 (spnC ⟨s, s + r.l⟩) rfl rfl (spnC_at w3 ⟨s, s + r.l⟩ _ rfl) (spnC_one _) (by unfold maxLen; omega) (by omega) (by have := hw.size; simp; omega) ?_)
              intro v' w4 hown1 hgrow _
              have hw4 := (hw.alloc hw.size (spnObj ⟨s, s + r.l⟩)).grown hgrow (by have := hw.size; simp; omega) (fun j e => (World.ownsRow.lt hr j e).1)
              have hx4 := OwnS.pushed (a := a ++ [q]) (by rw [show (a ++ [q]).length = a.length + 1 by simp]; exact hown1)
              have c0 := (hw4.cell (p := ⟨b, off + k * 4, none⟩) hb).trans HC0.out
              clear hown1 hgrow hown hown' hr hw f1 d1
              go_wp2
              go_roundw
              case rel => exact ⟨k + 1, by omega, by go_num, by rw [HS.out], Lib.hid ⟨by rw [HNX.out]; exact hx4, hw4⟩⟩
              case measure => simp [intOf]; omega

      · obtain rfl : k = rs.length := by omega
        go_wp2
        go_ret2
        exact ⟨_, rfl, by rw [HPS.out]; exact hg.out.1.mono (by omega), hB1.trans (hg.out.2.mono (by omega))⟩
  · have hPS : ps = [] := by rw [← HE.out.2]; unfold Bd.whR; rw [if_neg hv0]
    subst hPS
    have hEE := HE.out.1
    generalize Bd.valE rs = z at *
    have hz : (z == 0) = false := by simp [hv0]
    have HZ := Lib.hid hEE
    clear hEE HE V hv0
    go_wp2
    go_ret2
    exact ⟨_, by rw [HZ.out]; rfl, OwnS.nil _ _, hB1⟩
end Go.Proofs.Ytimpdmpfpbeflaa
