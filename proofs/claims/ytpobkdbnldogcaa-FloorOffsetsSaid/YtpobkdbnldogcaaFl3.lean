/- Whether two rectangles have a common cell: of the program; Validate of the program. -/
import Derived.Test.YtpobkdbnldogcaaFl2
namespace Go.Proofs.Ytpobkdbnldogcaa
open Go.RowKit

def RB (B : Nat) (r : Fl.R) (W : World) : Prop :=
  (W.cell? ⟨B, 0, none⟩ = some (.int .i64 r.x) ∧ W.cell? ⟨B, 1, none⟩ = some (.int .i64 r.y) ∧ W.cell? ⟨B, 2, none⟩ = some (.int .i64 r.w) ∧ W.cell? ⟨B, 3, none⟩ = some (.int .i64 r.h)) ∧ B < W.heap.size
theorem RB.below {B N : Nat} {r : Fl.R} {W W2 : World} (h : RB B r W) (hb : Below N W W2) (hN : B < N) : RB B r W2 :=
  ⟨⟨(hb.cell (p := ⟨B, 0, none⟩) hN).trans h.1.1, (hb.cell (p := ⟨B, 1, none⟩) hN).trans h.1.2.1, (hb.cell (p := ⟨B, 2, none⟩) hN).trans h.1.2.2.1, (hb.cell (p := ⟨B, 3, none⟩) hN).trans h.1.2.2.2⟩, Nat.lt_of_lt_of_le h.2 hb.size⟩
theorem RB.of {B : Nat} {r : Fl.R} {W : World} {t : TypeId} (h : BlockAt W B #[.int .i64 r.x, .int .i64 r.y, .int .i64 r.w, .int .i64 r.h] t) : RB B r W := ⟨⟨h.cell 0, h.cell 1, h.cell 2, h.cell 3⟩, h.lt⟩
theorem RB.drew {B : Nat} {r : Fl.R} {W : World} (h : RB B r W) : RB B r W.drew := h
theorem Fl.meets_split (r s : Fl.R) : Fl.meets r s = (Fl.mt r.x (r.x + r.w) s.x (s.x + s.w) && Fl.mt r.y (r.y + r.h) s.y (s.y + s.h)) := rfl
abbrev rectA (r : Fl.R) : Array Value := #[.int .i64 r.x, .int .i64 r.y, .int .i64 r.w, .int .i64 r.h]
set_option maxRecDepth 20000 in
set_option maxHeartbeats 2000000 in
theorem overlap_any (v : Value) (rs : List Fl.R) (w : World) (hv : Rects w v rs) (hl : rs.length ≤ 1000) (ho : ∀ k (hk : k < rs.length), Fl.okR rs[k] = true) :
    Calls Try.prog 59 #[v] w fun e w' => e = .returned (.bool (Fl.ov rs)) ∧ Below w.heap.size w w' := by
  obtain ⟨ao, c, rfl, hlc, hlk⟩ := hv
  have HK := Lib.hid hlk
  have HO := Lib.hid ho
  have hw0 := Below.refl w.heap.size w
  have FC := Lib.hid (fun r h W => columns_any r h W)
  have FR := Lib.hid (fun r h W => rows_any r h W)
  have FM := Lib.hid (fun a b c d W => meet_any a b c d W)
  have HYes := Lib.hid (Fl.ov_iff (rs := rs)).2
  have HNo := Lib.hid (Fl.ov_no (rs := rs))
  generalize Fl.ov rs = E at *
  clear hlk ho
  go_enter Try.func59, Try.ntmps59
  go_wp2
  go_loopw [9] (fun t wr => ∃ k : Nat, k ≤ rs.length ∧ t = .int .i64 k ∧ Hid ((∀ i (hi : i < rs.length), i < k → ∀ j (hj : j < i), Fl.meets rs[i] (rs[j]'(by omega)) = false) ∧ Below w.heap.size w wr)) (fun t _ => rs.length - (intOf t).toNat)
  case atStart => exact ⟨0, Nat.zero_le _, rfl, Lib.hid ⟨fun j _ h => absurd h (Nat.not_lt_zero _), hw0⟩⟩
  case round =>
    obtain ⟨i, hi, rfl, hg⟩ := hrel
    clear hw0
    obtain ⟨wa, hwa⟩ : ∃ W, W = wr := ⟨_, rfl⟩
    rw [← hwa] at hg ⊢
    clear hwa wr
    by_cases hlt : i < rs.length
    · obtain ⟨b, off, rfl, hb, hr⟩ := HK.out i hlt
      obtain ⟨c0, c1, c2, c3⟩ := rect_at (hr.below hg.out.2 hb)
      have HOa := HO.out i hlt
      have HPrev := Lib.hid hg.out.1
      have HG0 := Lib.hid hg.out.2
      have HYi := Lib.hid (fun j (hj : j < i) (h : Fl.meets rs[i] (rs[j]'(by omega)) = true) => HYes.out ⟨i, j, hlt, hj, h⟩)
      have HNi : Hid ((∀ j (hj : j < i), Fl.meets rs[i] (rs[j]'(by omega)) = false) → ∀ i2 (hi : i2 < rs.length), i2 < i + 1 → ∀ j (hj : j < i2), Fl.meets rs[i2] (rs[j]'(by omega)) = false) := Lib.hid fun h i2 hi2 h3 j hj => by
        by_cases e : i2 = i
        · subst e; exact h j hj
        · exact HPrev.out i2 hi2 (by omega) j hj
      have HKj := Lib.hid (fun j (hj : j < i) => HK.out j (by omega))
      have HOj := Lib.hid (fun j (hj : j < i) => HO.out j (by omega))
      have HA0 := Lib.hid (RB.of (BlockAt.new wa (rectA rs[i]) RectT))
      have HB0 := Lib.hid (below_alloc2 hg.out.2 (.cells (rectA rs[i]) RectT))
      have hsz := hg.out.2.size
      clear hr hg HPrev HYes HNo HK HO
      have HX : Hid (∀ j (hj : j < i), Fl.meets rs[i] (rs[j]'(by omega)) = (Fl.mt rs[i].x (rs[i].x + rs[i].w) (rs[j]'(by omega)).x ((rs[j]'(by omega)).x + (rs[j]'(by omega)).w) && Fl.mt rs[i].y (rs[i].y + rs[i].h) (rs[j]'(by omega)).y ((rs[j]'(by omega)).y + (rs[j]'(by omega)).h))) := Lib.hid fun j hj => rfl
      have HCell : Hid (∀ j (hj : j < i), CellsAt (rectC (rs[j]'(by omega))) w b (off + j * 4)) := Lib.hid fun j hj => by
        obtain ⟨b', off', e, _, h⟩ := HKj.out j hj
        simp only [Option.some.injEq, Addr.mk.injEq, and_true] at e
        obtain ⟨rfl, rfl⟩ := e
        exact h
      clear HKj
      have HOa := Lib.hid HOa
      generalize rs[i] = a at *
      have hic : i ≤ c := by omega
      go_wp2
      go_loopw [18] (fun t wr => ∃ j : Nat, j ≤ i ∧ t = .int .i64 j ∧ Hid ((∀ q (hq : q < i), q < j → Fl.meets a (rs[q]'(by omega)) = false) ∧ RB wa.heap.size a wr ∧ Below w.heap.size w wr)) (fun t _ => i - (intOf t).toNat)
      case atStart => exact ⟨0, Nat.zero_le _, rfl, Lib.hid ⟨fun j _ h => absurd h (Nat.not_lt_zero _), HA0.out, HB0.out⟩⟩
      case round =>
        obtain ⟨j, hj, rfl, hg⟩ := hrel
        clear HA0 HB0 c0 c1 c2 c3
        by_cases hjt : j < i
        · obtain ⟨c0, c1, c2, c3⟩ := rect_at ((HCell.out j hjt).below hg.out.2.2 hb)
          have HX1 := Lib.hid (HX.out j hjt)
          have HY1 := Lib.hid (HYi.out j hjt)
          have HI : Hid (Fl.meets a (rs[j]'(by omega)) = false → ∀ q (hq : q < i), q < j + 1 → Fl.meets a (rs[q]'(by omega)) = false) := Lib.hid fun h q hq h2 => by
            by_cases e : q = j
            · subst e; exact h
            · exact hg.out.1 q hq (by omega)
          have HOb := Lib.hid (HOj.out j hjt)
          have hsw := hg.out.2.2.size
          have HG := Lib.hid hg.out.2
          clear hg HYi HX HCell HOj
          generalize (rs[j]'(by omega)) = b2 at *
          generalize hM : Fl.meets a b2 = M at *
          have HS0 := Lib.hid (show RB wa.heap.size a (wr.alloc (.cells (rectA b2) RectT)).drew ∧ RB wr.heap.size b2 (wr.alloc (.cells (rectA b2) RectT)).drew from ⟨(HG.out.1.below (below_alloc2 (Below.refl wr.heap.size wr) (.cells (rectA b2) RectT)) HG.out.1.2).drew, (RB.of (BlockAt.new wr (rectA b2) RectT)).drew⟩)
          have HB1 := Lib.hid (below_drewN (below_alloc2 HG.out.2 (.cells (rectA b2) RectT)) 1)
          have HGA := Lib.hid HG.out.1
          clear hM HG
          have CM1 := Lib.hid (fun W => FM.out a.x (a.x + a.w) b2.x (b2.x + b2.w) W)
          have CM2 := Lib.hid (fun W => FM.out a.y (a.y + a.h) b2.y (b2.y + b2.h) W)
          cases h1 : Fl.mt a.x (a.x + a.w) b2.x (b2.x + b2.w)
          · rw [h1] at CM1 HX1
            have hm : M = false := HX1.out
            have HI := Lib.hid (HI.out hm)
            clear h1 hm HX1 HY1 CM2
            go_upto_region 7 with fail
            refine wp_region_seq [(0, true), (2, true), (1, false), (3, false), (4, false), (5, true), (6, true), (8, true), (7, false), (9, false), (10, false), (11, true)] (fun W => RB wa.heap.size a W ∧ RB wr.heap.size b2 W)
              (by kernel_rfl) (by kernel_rfl) (by kernel_rfl) (by kernel_rfl) (fun d _ _ _ _ h => by cases d <;> exact h) HS0.out (fun _ => ?_)
            repeat (first | (refine SeqH.take (v := ?_) rfl (by rfl) ?_ ?_; rotate_left; (· intro w hSw; (try dsimp only at hSw); obtain ⟨⟨⟨a0, a1, a2, a3⟩, _⟩, ⟨⟨b0, b1, b2, b3⟩, _⟩⟩ := hSw; go_simp; (try with_reducible rfl)); simp only [Act.put, List.setIfInBounds_toArray, List.set_cons_zero, List.set_cons_succ]) | (refine SeqH.skip rfl (by rfl) ?_; simp only [Act.put, List.setIfInBounds_toArray, List.set_cons_zero, List.set_cons_succ]))
            refine SeqH.step rfl (by rfl) (fun K hK => ?_)
            go_simp
            go_at_call 110
            refine (FC.out _ HOa.out _).mono ?_
            rintro e w3 ⟨rfl, hb3⟩
            try dsimp only
            refine hK.out _ _ ⟨HS0.out.1.below hb3 HS0.out.1.2, HS0.out.2.below hb3 HS0.out.2.2⟩ (fun _ => ?_)
            have HS1 := Lib.hid (And.intro (HS0.out.1.below hb3 HS0.out.1.2) (HS0.out.2.below hb3 HS0.out.2.2))
            have HB2 := Lib.hid (below_step HB1.out hb3)
            clear hK K hb3 HS0 HB1
            try simp only [Act.put, List.setIfInBounds_toArray, List.set_cons_zero, List.set_cons_succ]
            repeat (first | (refine SeqH.take (v := ?_) rfl (by rfl) ?_ ?_; rotate_left; (· intro w hSw; (try dsimp only at hSw); obtain ⟨⟨⟨a0, a1, a2, a3⟩, _⟩, ⟨⟨b0, b1, b2, b3⟩, _⟩⟩ := hSw; go_simp; (try with_reducible rfl)); simp only [Act.put, List.setIfInBounds_toArray, List.set_cons_zero, List.set_cons_succ]) | (refine SeqH.skip rfl (by rfl) ?_; simp only [Act.put, List.setIfInBounds_toArray, List.set_cons_zero, List.set_cons_succ]))
            refine SeqH.step rfl (by rfl) (fun K hK => ?_)
            go_simp
            go_at_call 110
            refine (FC.out _ HOb.out _).mono ?_
            rintro e w4 ⟨rfl, hb3⟩
            try dsimp only
            refine hK.out _ _ ⟨HS1.out.1.below hb3 HS1.out.1.2, HS1.out.2.below hb3 HS1.out.2.2⟩ (fun _ => ?_)
            have HS2 := Lib.hid (And.intro (HS1.out.1.below hb3 HS1.out.1.2) (HS1.out.2.below hb3 HS1.out.2.2))
            have HB3 := Lib.hid (below_step HB2.out hb3)
            clear hK K hb3 HS1 HB2
            try simp only [Act.put, List.setIfInBounds_toArray, List.set_cons_zero, List.set_cons_succ]
            repeat (first | (refine SeqH.take (v := ?_) rfl (by rfl) ?_ ?_; rotate_left; (· intro w hSw; (try dsimp only at hSw); obtain ⟨⟨⟨a0, a1, a2, a3⟩, _⟩, ⟨⟨b0, b1, b2, b3⟩, _⟩⟩ := hSw; go_simp; (try with_reducible rfl)); simp only [Act.put, List.setIfInBounds_toArray, List.set_cons_zero, List.set_cons_succ]) | (refine SeqH.skip rfl (by rfl) ?_; simp only [Act.put, List.setIfInBounds_toArray, List.set_cons_zero, List.set_cons_succ]))
            refine SeqH.step rfl (by rfl) (fun K hK => ?_)
            go_simp
            go_at_call 113
            refine (CM1.out _).mono ?_
            rintro e w5 ⟨rfl, hb3⟩
            try dsimp only
            refine hK.out _ _ ⟨HS2.out.1.below hb3 HS2.out.1.2, HS2.out.2.below hb3 HS2.out.2.2⟩ (fun _ => ?_)
            have HS3 := Lib.hid (And.intro (HS2.out.1.below hb3 HS2.out.1.2) (HS2.out.2.below hb3 HS2.out.2.2))
            have HB4 := Lib.hid (below_step HB3.out hb3)
            clear hK K hb3 HS2 HB3
            try simp only [Act.put, List.setIfInBounds_toArray, List.set_cons_zero, List.set_cons_succ]
            repeat (first | (refine SeqH.take (v := ?_) rfl (by rfl) ?_ ?_; rotate_left; (· intro w hSw; (try dsimp only at hSw); obtain ⟨⟨⟨a0, a1, a2, a3⟩, _⟩, ⟨⟨b0, b1, b2, b3⟩, _⟩⟩ := hSw; go_simp; (try with_reducible rfl)); simp only [Act.put, List.setIfInBounds_toArray, List.set_cons_zero, List.set_cons_succ]) | (refine SeqH.skip rfl (by rfl) ?_; simp only [Act.put, List.setIfInBounds_toArray, List.set_cons_zero, List.set_cons_succ]))
            all_goals try (refine SeqH.pass rfl (by rfl) HS3.out ?_; simp only [Act.put, List.setIfInBounds_toArray, List.set_cons_zero, List.set_cons_succ])
            repeat (first | (refine SeqH.take (v := ?_) rfl (by rfl) ?_ ?_; rotate_left; (· intro w hSw; (try dsimp only at hSw); obtain ⟨⟨⟨a0, a1, a2, a3⟩, _⟩, ⟨⟨b0, b1, b2, b3⟩, _⟩⟩ := hSw; go_simp; (try with_reducible rfl)); simp only [Act.put, List.setIfInBounds_toArray, List.set_cons_zero, List.set_cons_succ]) | (refine SeqH.skip rfl (by rfl) ?_; simp only [Act.put, List.setIfInBounds_toArray, List.set_cons_zero, List.set_cons_succ]))
            all_goals try (refine SeqH.pass rfl (by rfl) HS3.out ?_; simp only [Act.put, List.setIfInBounds_toArray, List.set_cons_zero, List.set_cons_succ])
            repeat (first | (refine SeqH.take (v := ?_) rfl (by rfl) ?_ ?_; rotate_left; (· intro w hSw; (try dsimp only at hSw); obtain ⟨⟨⟨a0, a1, a2, a3⟩, _⟩, ⟨⟨b0, b1, b2, b3⟩, _⟩⟩ := hSw; go_simp; (try with_reducible rfl)); simp only [Act.put, List.setIfInBounds_toArray, List.set_cons_zero, List.set_cons_succ]) | (refine SeqH.skip rfl (by rfl) ?_; simp only [Act.put, List.setIfInBounds_toArray, List.set_cons_zero, List.set_cons_succ]))
            all_goals try (refine SeqH.pass rfl (by rfl) HS3.out ?_; simp only [Act.put, List.setIfInBounds_toArray, List.set_cons_zero, List.set_cons_succ])
            repeat (first | (refine SeqH.take (v := ?_) rfl (by rfl) ?_ ?_; rotate_left; (· intro w hSw; (try dsimp only at hSw); obtain ⟨⟨⟨a0, a1, a2, a3⟩, _⟩, ⟨⟨b0, b1, b2, b3⟩, _⟩⟩ := hSw; go_simp; (try with_reducible rfl)); simp only [Act.put, List.setIfInBounds_toArray, List.set_cons_zero, List.set_cons_succ]) | (refine SeqH.skip rfl (by rfl) ?_; simp only [Act.put, List.setIfInBounds_toArray, List.set_cons_zero, List.set_cons_succ]))
            refine SeqH.done ?_
            have HGA2 := Lib.hid HS3.out.1
            have HGB2 := Lib.hid HB4.out
            clear HS3 HB4 HGA
            go_wp2
            go_roundw
            case rel => exact ⟨j + 1, by omega, by go_num, Lib.hid ⟨HI.out, HGA2.out, HGB2.out⟩⟩
            case measure => simp [intOf]; omega
          · rw [h1] at CM1 HX1
            cases h2 : Fl.mt a.y (a.y + a.h) b2.y (b2.y + b2.h)
            · rw [h2] at CM2 HX1
              have hm : M = false := HX1.out
              have HI := Lib.hid (HI.out hm)
              clear h1 h2 hm HX1 HY1
              go_upto_region 7 with fail
              refine wp_region_seq [(0, true), (2, true), (1, false), (3, false), (4, false), (5, true), (6, true), (8, true), (7, false), (9, false), (10, false), (11, true)] (fun W => RB wa.heap.size a W ∧ RB wr.heap.size b2 W)
                (by kernel_rfl) (by kernel_rfl) (by kernel_rfl) (by kernel_rfl) (fun d _ _ _ _ h => by cases d <;> exact h) HS0.out (fun _ => ?_)
              repeat (first | (refine SeqH.take (v := ?_) rfl (by rfl) ?_ ?_; rotate_left; (· intro w hSw; (try dsimp only at hSw); obtain ⟨⟨⟨a0, a1, a2, a3⟩, _⟩, ⟨⟨b0, b1, b2, b3⟩, _⟩⟩ := hSw; go_simp; (try with_reducible rfl)); simp only [Act.put, List.setIfInBounds_toArray, List.set_cons_zero, List.set_cons_succ]) | (refine SeqH.skip rfl (by rfl) ?_; simp only [Act.put, List.setIfInBounds_toArray, List.set_cons_zero, List.set_cons_succ]))
              refine SeqH.step rfl (by rfl) (fun K hK => ?_)
              go_simp
              go_at_call 110
              refine (FC.out _ HOa.out _).mono ?_
              rintro e w3 ⟨rfl, hb3⟩
              try dsimp only
              refine hK.out _ _ ⟨HS0.out.1.below hb3 HS0.out.1.2, HS0.out.2.below hb3 HS0.out.2.2⟩ (fun _ => ?_)
              have HS1 := Lib.hid (And.intro (HS0.out.1.below hb3 HS0.out.1.2) (HS0.out.2.below hb3 HS0.out.2.2))
              have HB2 := Lib.hid (below_step HB1.out hb3)
              clear hK K hb3 HS0 HB1
              try simp only [Act.put, List.setIfInBounds_toArray, List.set_cons_zero, List.set_cons_succ]
              repeat (first | (refine SeqH.take (v := ?_) rfl (by rfl) ?_ ?_; rotate_left; (· intro w hSw; (try dsimp only at hSw); obtain ⟨⟨⟨a0, a1, a2, a3⟩, _⟩, ⟨⟨b0, b1, b2, b3⟩, _⟩⟩ := hSw; go_simp; (try with_reducible rfl)); simp only [Act.put, List.setIfInBounds_toArray, List.set_cons_zero, List.set_cons_succ]) | (refine SeqH.skip rfl (by rfl) ?_; simp only [Act.put, List.setIfInBounds_toArray, List.set_cons_zero, List.set_cons_succ]))
              refine SeqH.step rfl (by rfl) (fun K hK => ?_)
              go_simp
              go_at_call 110
              refine (FC.out _ HOb.out _).mono ?_
              rintro e w4 ⟨rfl, hb3⟩
              try dsimp only
              refine hK.out _ _ ⟨HS1.out.1.below hb3 HS1.out.1.2, HS1.out.2.below hb3 HS1.out.2.2⟩ (fun _ => ?_)
              have HS2 := Lib.hid (And.intro (HS1.out.1.below hb3 HS1.out.1.2) (HS1.out.2.below hb3 HS1.out.2.2))
              have HB3 := Lib.hid (below_step HB2.out hb3)
              clear hK K hb3 HS1 HB2
              try simp only [Act.put, List.setIfInBounds_toArray, List.set_cons_zero, List.set_cons_succ]
              repeat (first | (refine SeqH.take (v := ?_) rfl (by rfl) ?_ ?_; rotate_left; (· intro w hSw; (try dsimp only at hSw); obtain ⟨⟨⟨a0, a1, a2, a3⟩, _⟩, ⟨⟨b0, b1, b2, b3⟩, _⟩⟩ := hSw; go_simp; (try with_reducible rfl)); simp only [Act.put, List.setIfInBounds_toArray, List.set_cons_zero, List.set_cons_succ]) | (refine SeqH.skip rfl (by rfl) ?_; simp only [Act.put, List.setIfInBounds_toArray, List.set_cons_zero, List.set_cons_succ]))
              refine SeqH.step rfl (by rfl) (fun K hK => ?_)
              go_simp
              go_at_call 113
              refine (CM1.out _).mono ?_
              rintro e w5 ⟨rfl, hb3⟩
              try dsimp only
              refine hK.out _ _ ⟨HS2.out.1.below hb3 HS2.out.1.2, HS2.out.2.below hb3 HS2.out.2.2⟩ (fun _ => ?_)
              have HS3 := Lib.hid (And.intro (HS2.out.1.below hb3 HS2.out.1.2) (HS2.out.2.below hb3 HS2.out.2.2))
              have HB4 := Lib.hid (below_step HB3.out hb3)
              clear hK K hb3 HS2 HB3
              try simp only [Act.put, List.setIfInBounds_toArray, List.set_cons_zero, List.set_cons_succ]
              repeat (first | (refine SeqH.take (v := ?_) rfl (by rfl) ?_ ?_; rotate_left; (· intro w hSw; (try dsimp only at hSw); obtain ⟨⟨⟨a0, a1, a2, a3⟩, _⟩, ⟨⟨b0, b1, b2, b3⟩, _⟩⟩ := hSw; go_simp; (try with_reducible rfl)); simp only [Act.put, List.setIfInBounds_toArray, List.set_cons_zero, List.set_cons_succ]) | (refine SeqH.skip rfl (by rfl) ?_; simp only [Act.put, List.setIfInBounds_toArray, List.set_cons_zero, List.set_cons_succ]))
              refine SeqH.step rfl (by rfl) (fun K hK => ?_)
              go_simp
              go_at_call 111
              refine (FR.out _ HOa.out _).mono ?_
              rintro e w6 ⟨rfl, hb3⟩
              try dsimp only
              refine hK.out _ _ ⟨HS3.out.1.below hb3 HS3.out.1.2, HS3.out.2.below hb3 HS3.out.2.2⟩ (fun _ => ?_)
              have HS4 := Lib.hid (And.intro (HS3.out.1.below hb3 HS3.out.1.2) (HS3.out.2.below hb3 HS3.out.2.2))
              have HB5 := Lib.hid (below_step HB4.out hb3)
              clear hK K hb3 HS3 HB4
              try simp only [Act.put, List.setIfInBounds_toArray, List.set_cons_zero, List.set_cons_succ]
              repeat (first | (refine SeqH.take (v := ?_) rfl (by rfl) ?_ ?_; rotate_left; (· intro w hSw; (try dsimp only at hSw); obtain ⟨⟨⟨a0, a1, a2, a3⟩, _⟩, ⟨⟨b0, b1, b2, b3⟩, _⟩⟩ := hSw; go_simp; (try with_reducible rfl)); simp only [Act.put, List.setIfInBounds_toArray, List.set_cons_zero, List.set_cons_succ]) | (refine SeqH.skip rfl (by rfl) ?_; simp only [Act.put, List.setIfInBounds_toArray, List.set_cons_zero, List.set_cons_succ]))
              refine SeqH.step rfl (by rfl) (fun K hK => ?_)
              go_simp
              go_at_call 111
              refine (FR.out _ HOb.out _).mono ?_
              rintro e w7 ⟨rfl, hb3⟩
              try dsimp only
              refine hK.out _ _ ⟨HS4.out.1.below hb3 HS4.out.1.2, HS4.out.2.below hb3 HS4.out.2.2⟩ (fun _ => ?_)
              have HS5 := Lib.hid (And.intro (HS4.out.1.below hb3 HS4.out.1.2) (HS4.out.2.below hb3 HS4.out.2.2))
              have HB6 := Lib.hid (below_step HB5.out hb3)
              clear hK K hb3 HS4 HB5
              try simp only [Act.put, List.setIfInBounds_toArray, List.set_cons_zero, List.set_cons_succ]
              repeat (first | (refine SeqH.take (v := ?_) rfl (by rfl) ?_ ?_; rotate_left; (· intro w hSw; (try dsimp only at hSw); obtain ⟨⟨⟨a0, a1, a2, a3⟩, _⟩, ⟨⟨b0, b1, b2, b3⟩, _⟩⟩ := hSw; go_simp; (try with_reducible rfl)); simp only [Act.put, List.setIfInBounds_toArray, List.set_cons_zero, List.set_cons_succ]) | (refine SeqH.skip rfl (by rfl) ?_; simp only [Act.put, List.setIfInBounds_toArray, List.set_cons_zero, List.set_cons_succ]))
              refine SeqH.step rfl (by rfl) (fun K hK => ?_)
              go_simp
              go_at_call 113
              refine (CM2.out _).mono ?_
              rintro e w8 ⟨rfl, hb3⟩
              try dsimp only
              refine hK.out _ _ ⟨HS5.out.1.below hb3 HS5.out.1.2, HS5.out.2.below hb3 HS5.out.2.2⟩ (fun _ => ?_)
              have HS6 := Lib.hid (And.intro (HS5.out.1.below hb3 HS5.out.1.2) (HS5.out.2.below hb3 HS5.out.2.2))
              have HB7 := Lib.hid (below_step HB6.out hb3)
              clear hK K hb3 HS5 HB6
              try simp only [Act.put, List.setIfInBounds_toArray, List.set_cons_zero, List.set_cons_succ]
              repeat (first | (refine SeqH.take (v := ?_) rfl (by rfl) ?_ ?_; rotate_left; (· intro w hSw; (try dsimp only at hSw); obtain ⟨⟨⟨a0, a1, a2, a3⟩, _⟩, ⟨⟨b0, b1, b2, b3⟩, _⟩⟩ := hSw; go_simp; (try with_reducible rfl)); simp only [Act.put, List.setIfInBounds_toArray, List.set_cons_zero, List.set_cons_succ]) | (refine SeqH.skip rfl (by rfl) ?_; simp only [Act.put, List.setIfInBounds_toArray, List.set_cons_zero, List.set_cons_succ]))
              refine SeqH.done ?_
              have HGA2 := Lib.hid HS6.out.1
              have HGB2 := Lib.hid HB7.out
              clear HS6 HB7 HGA
              go_wp2
              go_roundw
              case rel => exact ⟨j + 1, by omega, by go_num, Lib.hid ⟨HI.out, HGA2.out, HGB2.out⟩⟩
              case measure => simp [intOf]; omega
            · rw [h2] at CM2 HX1
              have hm : M = true := HX1.out
              have HE := Lib.hid (HY1.out hm)
              clear h1 h2 hm HX1 HY1 HI
              go_upto_region 7 with fail
              refine wp_region_seq [(0, true), (2, true), (1, false), (3, false), (4, false), (5, true), (6, true), (8, true), (7, false), (9, false), (10, false), (11, true)] (fun W => RB wa.heap.size a W ∧ RB wr.heap.size b2 W)
                (by kernel_rfl) (by kernel_rfl) (by kernel_rfl) (by kernel_rfl) (fun d _ _ _ _ h => by cases d <;> exact h) HS0.out (fun _ => ?_)
              repeat (first | (refine SeqH.take (v := ?_) rfl (by rfl) ?_ ?_; rotate_left; (· intro w hSw; (try dsimp only at hSw); obtain ⟨⟨⟨a0, a1, a2, a3⟩, _⟩, ⟨⟨b0, b1, b2, b3⟩, _⟩⟩ := hSw; go_simp; (try with_reducible rfl)); simp only [Act.put, List.setIfInBounds_toArray, List.set_cons_zero, List.set_cons_succ]) | (refine SeqH.skip rfl (by rfl) ?_; simp only [Act.put, List.setIfInBounds_toArray, List.set_cons_zero, List.set_cons_succ]))
              refine SeqH.step rfl (by rfl) (fun K hK => ?_)
              go_simp
              go_at_call 110
              refine (FC.out _ HOa.out _).mono ?_
              rintro e w3 ⟨rfl, hb3⟩
              try dsimp only
              refine hK.out _ _ ⟨HS0.out.1.below hb3 HS0.out.1.2, HS0.out.2.below hb3 HS0.out.2.2⟩ (fun _ => ?_)
              have HS1 := Lib.hid (And.intro (HS0.out.1.below hb3 HS0.out.1.2) (HS0.out.2.below hb3 HS0.out.2.2))
              have HB2 := Lib.hid (below_step HB1.out hb3)
              clear hK K hb3 HS0 HB1
              try simp only [Act.put, List.setIfInBounds_toArray, List.set_cons_zero, List.set_cons_succ]
              repeat (first | (refine SeqH.take (v := ?_) rfl (by rfl) ?_ ?_; rotate_left; (· intro w hSw; (try dsimp only at hSw); obtain ⟨⟨⟨a0, a1, a2, a3⟩, _⟩, ⟨⟨b0, b1, b2, b3⟩, _⟩⟩ := hSw; go_simp; (try with_reducible rfl)); simp only [Act.put, List.setIfInBounds_toArray, List.set_cons_zero, List.set_cons_succ]) | (refine SeqH.skip rfl (by rfl) ?_; simp only [Act.put, List.setIfInBounds_toArray, List.set_cons_zero, List.set_cons_succ]))
              refine SeqH.step rfl (by rfl) (fun K hK => ?_)
              go_simp
              go_at_call 110
              refine (FC.out _ HOb.out _).mono ?_
              rintro e w4 ⟨rfl, hb3⟩
              try dsimp only
              refine hK.out _ _ ⟨HS1.out.1.below hb3 HS1.out.1.2, HS1.out.2.below hb3 HS1.out.2.2⟩ (fun _ => ?_)
              have HS2 := Lib.hid (And.intro (HS1.out.1.below hb3 HS1.out.1.2) (HS1.out.2.below hb3 HS1.out.2.2))
              have HB3 := Lib.hid (below_step HB2.out hb3)
              clear hK K hb3 HS1 HB2
              try simp only [Act.put, List.setIfInBounds_toArray, List.set_cons_zero, List.set_cons_succ]
              repeat (first | (refine SeqH.take (v := ?_) rfl (by rfl) ?_ ?_; rotate_left; (· intro w hSw; (try dsimp only at hSw); obtain ⟨⟨⟨a0, a1, a2, a3⟩, _⟩, ⟨⟨b0, b1, b2, b3⟩, _⟩⟩ := hSw; go_simp; (try with_reducible rfl)); simp only [Act.put, List.setIfInBounds_toArray, List.set_cons_zero, List.set_cons_succ]) | (refine SeqH.skip rfl (by rfl) ?_; simp only [Act.put, List.setIfInBounds_toArray, List.set_cons_zero, List.set_cons_succ]))
              refine SeqH.step rfl (by rfl) (fun K hK => ?_)
              go_simp
              go_at_call 113
              refine (CM1.out _).mono ?_
              rintro e w5 ⟨rfl, hb3⟩
              try dsimp only
              refine hK.out _ _ ⟨HS2.out.1.below hb3 HS2.out.1.2, HS2.out.2.below hb3 HS2.out.2.2⟩ (fun _ => ?_)
              have HS3 := Lib.hid (And.intro (HS2.out.1.below hb3 HS2.out.1.2) (HS2.out.2.below hb3 HS2.out.2.2))
              have HB4 := Lib.hid (below_step HB3.out hb3)
              clear hK K hb3 HS2 HB3
              try simp only [Act.put, List.setIfInBounds_toArray, List.set_cons_zero, List.set_cons_succ]
              repeat (first | (refine SeqH.take (v := ?_) rfl (by rfl) ?_ ?_; rotate_left; (· intro w hSw; (try dsimp only at hSw); obtain ⟨⟨⟨a0, a1, a2, a3⟩, _⟩, ⟨⟨b0, b1, b2, b3⟩, _⟩⟩ := hSw; go_simp; (try with_reducible rfl)); simp only [Act.put, List.setIfInBounds_toArray, List.set_cons_zero, List.set_cons_succ]) | (refine SeqH.skip rfl (by rfl) ?_; simp only [Act.put, List.setIfInBounds_toArray, List.set_cons_zero, List.set_cons_succ]))
              refine SeqH.step rfl (by rfl) (fun K hK => ?_)
              go_simp
              go_at_call 111
              refine (FR.out _ HOa.out _).mono ?_
              rintro e w6 ⟨rfl, hb3⟩
              try dsimp only
              refine hK.out _ _ ⟨HS3.out.1.below hb3 HS3.out.1.2, HS3.out.2.below hb3 HS3.out.2.2⟩ (fun _ => ?_)
              have HS4 := Lib.hid (And.intro (HS3.out.1.below hb3 HS3.out.1.2) (HS3.out.2.below hb3 HS3.out.2.2))
              have HB5 := Lib.hid (below_step HB4.out hb3)
              clear hK K hb3 HS3 HB4
              try simp only [Act.put, List.setIfInBounds_toArray, List.set_cons_zero, List.set_cons_succ]
              repeat (first | (refine SeqH.take (v := ?_) rfl (by rfl) ?_ ?_; rotate_left; (· intro w hSw; (try dsimp only at hSw); obtain ⟨⟨⟨a0, a1, a2, a3⟩, _⟩, ⟨⟨b0, b1, b2, b3⟩, _⟩⟩ := hSw; go_simp; (try with_reducible rfl)); simp only [Act.put, List.setIfInBounds_toArray, List.set_cons_zero, List.set_cons_succ]) | (refine SeqH.skip rfl (by rfl) ?_; simp only [Act.put, List.setIfInBounds_toArray, List.set_cons_zero, List.set_cons_succ]))
              refine SeqH.step rfl (by rfl) (fun K hK => ?_)
              go_simp
              go_at_call 111
              refine (FR.out _ HOb.out _).mono ?_
              rintro e w7 ⟨rfl, hb3⟩
              try dsimp only
              refine hK.out _ _ ⟨HS4.out.1.below hb3 HS4.out.1.2, HS4.out.2.below hb3 HS4.out.2.2⟩ (fun _ => ?_)
              have HS5 := Lib.hid (And.intro (HS4.out.1.below hb3 HS4.out.1.2) (HS4.out.2.below hb3 HS4.out.2.2))
              have HB6 := Lib.hid (below_step HB5.out hb3)
              clear hK K hb3 HS4 HB5
              try simp only [Act.put, List.setIfInBounds_toArray, List.set_cons_zero, List.set_cons_succ]
              repeat (first | (refine SeqH.take (v := ?_) rfl (by rfl) ?_ ?_; rotate_left; (· intro w hSw; (try dsimp only at hSw); obtain ⟨⟨⟨a0, a1, a2, a3⟩, _⟩, ⟨⟨b0, b1, b2, b3⟩, _⟩⟩ := hSw; go_simp; (try with_reducible rfl)); simp only [Act.put, List.setIfInBounds_toArray, List.set_cons_zero, List.set_cons_succ]) | (refine SeqH.skip rfl (by rfl) ?_; simp only [Act.put, List.setIfInBounds_toArray, List.set_cons_zero, List.set_cons_succ]))
              refine SeqH.step rfl (by rfl) (fun K hK => ?_)
              go_simp
              go_at_call 113
              refine (CM2.out _).mono ?_
              rintro e w8 ⟨rfl, hb3⟩
              try dsimp only
              refine hK.out _ _ ⟨HS5.out.1.below hb3 HS5.out.1.2, HS5.out.2.below hb3 HS5.out.2.2⟩ (fun _ => ?_)
              have HS6 := Lib.hid (And.intro (HS5.out.1.below hb3 HS5.out.1.2) (HS5.out.2.below hb3 HS5.out.2.2))
              have HB7 := Lib.hid (below_step HB6.out hb3)
              clear hK K hb3 HS5 HB6
              try simp only [Act.put, List.setIfInBounds_toArray, List.set_cons_zero, List.set_cons_succ]
              repeat (first | (refine SeqH.take (v := ?_) rfl (by rfl) ?_ ?_; rotate_left; (· intro w hSw; (try dsimp only at hSw); obtain ⟨⟨⟨a0, a1, a2, a3⟩, _⟩, ⟨⟨b0, b1, b2, b3⟩, _⟩⟩ := hSw; go_simp; (try with_reducible rfl)); simp only [Act.put, List.setIfInBounds_toArray, List.set_cons_zero, List.set_cons_succ]) | (refine SeqH.skip rfl (by rfl) ?_; simp only [Act.put, List.setIfInBounds_toArray, List.set_cons_zero, List.set_cons_succ]))
              refine SeqH.done ?_
              have HGB2 := Lib.hid HB7.out
              clear HS6 HB7 HGA
              go_wp2
              go_ret
              exact ⟨by rw [HE.out]; rfl, HGB2.out⟩
        · obtain rfl : j = i := by omega
          have HI := Lib.hid (HNi.out fun q hq => hg.out.1 q hq hq)
          have HG := Lib.hid hg.out.2.2
          clear hg HNi
          go_wp2
          go_roundw
          case rel => exact ⟨j + 1, by omega, by go_num, Lib.hid ⟨HI.out, HG.out⟩⟩
          case measure => simp [intOf]; omega
    · obtain rfl : i = rs.length := by omega
      have HE := Lib.hid (HNo.out fun i hi j hj => hg.out.1 i hi hi j hj)
      have HG := Lib.hid hg.out.2
      clear hg
      go_wp2
      go_ret
      exact ⟨by rw [HE.out]; rfl, HG.out⟩
end Go.Proofs.Ytpobkdbnldogcaa
