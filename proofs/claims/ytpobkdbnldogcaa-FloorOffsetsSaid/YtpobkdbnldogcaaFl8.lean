/- A strip: of the program. -/
import Derived.Test.YtpobkdbnldogcaaFl7
namespace Go.Proofs.Ytpobkdbnldogcaa
open Go.RowKit

/-- A strip lies in a block. -/
def SB (B : Nat) (s : Fl.S) (W : World) : Prop :=
  (W.cell? ⟨B, 0, none⟩ = some (.int .i64 s.x) ∧ W.cell? ⟨B, 1, none⟩ = some (.int .i64 s.f) ∧ W.cell? ⟨B, 2, none⟩ = some (.int .i64 s.t)) ∧ B < W.heap.size
theorem SB.below {B N : Nat} {s : Fl.S} {W W2 : World} (h : SB B s W) (hb : Below N W W2) (hN : B < N) : SB B s W2 :=
  ⟨⟨(hb.cell (p := ⟨B, 0, none⟩) hN).trans h.1.1, (hb.cell (p := ⟨B, 1, none⟩) hN).trans h.1.2.1, (hb.cell (p := ⟨B, 2, none⟩) hN).trans h.1.2.2⟩, Nat.lt_of_lt_of_le h.2 hb.size⟩
theorem SB.of {B : Nat} {s : Fl.S} {W : World} {t : TypeId} (h : BlockAt W B #[.int .i64 s.x, .int .i64 s.f, .int .i64 s.t] t) : SB B s W := ⟨⟨h.cell 0, h.cell 1, h.cell 2⟩, h.lt⟩
abbrev stripA (x f t : Int) : Array Value := #[.int .i64 x, .int .i64 f, .int .i64 t]
theorem below_set {w wr : World} {B j : Nat} (h : Below w.heap.size w wr) (hB : w.heap.size ≤ B) (v : Value) : Below w.heap.size w (wr.setCell ⟨B, j, none⟩ v) := h.setCell hB v
/-- What lies in memory while a strip is measured. -/
def StS (w : World) (x f t : Int) (wr : World) : Prop :=
  BlockAt wr (w.heap.size + 1) (stripA 0 0 0) StripT ∧ BlockAt wr (w.heap.size + 1 + 1) (stripA x f t) StripT ∧ Below w.heap.size w wr
theorem StS.below {w wr w2 : World} {x f t : Int} (h : StS w x f t wr) (hb : Below wr.heap.size wr w2) : StS w x f t w2 :=
  ⟨h.1.below hb h.1.lt, h.2.1.below hb h.2.1.lt, below_step h.2.2 hb⟩
theorem StS.set {w wr : World} {x f t : Int} (h : StS w x f t wr) (a b : Int) : StS w x a b ((wr.setCell ⟨w.heap.size + 1 + 1, 1, none⟩ (.int .i64 a)).setCell ⟨w.heap.size + 1 + 1, 2, none⟩ (.int .i64 b)).drew :=
  ⟨(h.1.other (show w.heap.size + 1 ≠ w.heap.size + 1 + 1 by omega) _).other (show w.heap.size + 1 ≠ w.heap.size + 1 + 1 by omega) _, (h.2.1.set 1 _).set 2 _, below_drewN (below_set (below_set h.2.2 (by omega) _) (by omega) _) 1⟩
theorem StS.set2 {w wr : World} {x f t : Int} (h : StS w x f t wr) (a b : Int) : StS w x a b ((wr.setCell ⟨w.heap.size + 1 + 1, 2, none⟩ (.int .i64 b)).setCell ⟨w.heap.size + 1 + 1, 1, none⟩ (.int .i64 a)).drew :=
  ⟨(h.1.other (show w.heap.size + 1 ≠ w.heap.size + 1 + 1 by omega) _).other (show w.heap.size + 1 ≠ w.heap.size + 1 + 1 by omega) _, (h.2.1.set 2 _).set 1 _, below_drewN (below_set (below_set h.2.2 (by omega) _) (by omega) _) 1⟩
def Fl.stripB (rs : List Fl.R) (x w : Int) : Bool := decide (Fl.sF rs x w rs.length < Fl.sT rs x w rs.length)
set_option maxRecDepth 20000 in
set_option maxHeartbeats 4000000 in
theorem strip_any (rv dv : Value) (rs : List Fl.R) (x n : Int) (w : World) (hv : Rects w rv rs) (hl : rs.length ≤ 1000) (ho : ∀ k (hk : k < rs.length), Fl.okR rs[k] = true) (hx0 : -20 ≤ x) (hx1 : x ≤ 60) (hn0 : 1 ≤ n) (hn1 : n ≤ 20) :
    Calls Try.prog 114 #[roomV rv dv, .int .i64 n, .int .i64 x] w fun e w' => e = .returned (.tuple #[stripV ⟨x, Fl.sF rs x n rs.length, Fl.sT rs x n rs.length⟩, .bool (Fl.stripB rs x n)]) ∧ Below w.heap.size w w' := by
  obtain ⟨ao, c, rfl, _, hlk⟩ := hv
  have HK := Lib.hid hlk
  have HO := Lib.hid ho
  have HBD := Lib.hid (fun (k : Nat) (hk : k ≤ rs.length) => Fl.s_bd ho x n hk)
  have HY := Lib.hid (fun (k : Nat) (hk : k < rs.length) h => Fl.s_yes (x := x) (w := n) hk h)
  have HN := Lib.hid (fun (k : Nat) (hk : k < rs.length) h => Fl.s_no (x := x) (w := n) hk h)
  have H0 : Hid (Fl.sF rs x n 0 = 60 ∧ Fl.sT rs x n 0 = 0) := Lib.hid ⟨rfl, rfl⟩
  have FA := Lib.hid (fun f t W => across_any x f t n W (IntWalk.i64_in _ ⟨by omega, by omega⟩))
  have FC := Lib.hid (fun r h W => columns_any r h W)
  have FM := Lib.hid (fun a b c d W => meet_any a b c d W)
  have HW := Lib.hid (show StS w x 60 0 (((w.alloc (.cells #[.slice ao rs.length c, dv] RoomT)).alloc (.cells (stripA 0 0 0) StripT)).alloc (.cells (stripA x 60 0) StripT)) from
    ⟨by have := (BlockAt.new (w.alloc (.cells #[.slice ao rs.length c, dv] RoomT)) (stripA 0 0 0) StripT).alloc (.cells (stripA x 60 0) StripT); simpa using this,
     by have := BlockAt.new ((w.alloc (.cells #[.slice ao rs.length c, dv] RoomT)).alloc (.cells (stripA 0 0 0) StripT)) (stripA x 60 0) StripT; simpa using this,
     below_alloc2 (below_alloc2 (below_alloc2 (Below.refl w.heap.size w) _) _) _⟩)
  have HBB : Hid (Fl.stripB rs x n = decide (Fl.sF rs x n rs.length < Fl.sT rs x n rs.length)) := Lib.hid rfl
  obtain ⟨F0, hF⟩ : ∃ F, F = Fl.sF rs x n rs.length := ⟨_, rfl⟩
  obtain ⟨U0, hU⟩ : ∃ U, U = Fl.sT rs x n rs.length := ⟨_, rfl⟩
  rw [← hF, ← hU] at HBB ⊢
  have HFU := Lib.hid (And.intro hF hU)
  clear hF hU
  generalize Fl.stripB rs x n = BB at *
  clear hlk ho
  go_enter Try.func114, Try.ntmps114
  go_wp2
  go_loopw [16] (fun t wr => ∃ k : Nat, k ≤ rs.length ∧ t = .int .i64 k ∧ Hid (StS w x (Fl.sF rs x n k) (Fl.sT rs x n k) wr)) (fun t _ => rs.length - (intOf t).toNat)
  case atStart => exact ⟨0, Nat.zero_le _, rfl, Lib.hid (by rw [H0.out.1, H0.out.2]; exact HW.out)⟩
  case round =>
    obtain ⟨k, hk, rfl, hg⟩ := hrel
    clear HW H0
    by_cases hlt : k < rs.length
    · obtain ⟨b, off, rfl, hb, hr⟩ := HK.out k hlt
      obtain ⟨c0, c1, c2, c3⟩ := rect_at (hr.below hg.out.2.2 hb)
      have hbd := HBD.out k hk
      obtain ⟨⟨ax0, ax1⟩, ⟨ay0, ay1⟩, ⟨aw0, aw1⟩, ⟨ah0, ah1⟩⟩ := okR_sum (HO.out k hlt)
      have HOa := Lib.hid (HO.out k hlt)
      have HYk := Lib.hid (HY.out k hlt)
      have HNk := Lib.hid (HN.out k hlt)
      have HS1 := Lib.hid (hg.out.below (below_alloc2 (Below.refl wr.heap.size wr) (.cells (rectA rs[k]) RectT)))
      have HSx := Lib.hid (show SB (w.heap.size + 1 + 1) ⟨x, Fl.sF rs x n k, Fl.sT rs x n k⟩ (wr.alloc (.cells (rectA rs[k]) RectT)).drew ∧ RB wr.heap.size rs[k] (wr.alloc (.cells (rectA rs[k]) RectT)).drew from
        ⟨SB.of (hg.out.2.1.alloc (.cells (rectA rs[k]) RectT)).drew, RB.of (BlockAt.new wr (rectA rs[k]) RectT).drew⟩)
      have hsz := hg.out.2.1.lt
      clear hr hg HO HBD HY HN
      clear HFU HBB
      generalize Fl.sF rs x n k = F at *
      generalize Fl.sT rs x n k = U at *
      generalize rs[k] = a at *
      have CM := Lib.hid (fun W => FM.out x (x + n) a.x (a.x + a.w) W)
      cases h1 : Fl.mt x (x + n) a.x (a.x + a.w)
      · obtain ⟨e1, e2⟩ := HNk.out h1
        have HE := Lib.hid (And.intro e1 e2)
        rw [h1] at CM
        clear h1 e1 e2 HYk HNk
        go_upto_region 5 with fail
        refine wp_region_seq [(0, true), (1, true), (3, true), (2, false), (4, false), (5, false)] (fun W => SB (w.heap.size + 1 + 1) ⟨x, F, U⟩ W ∧ RB wr.heap.size a W)
          (by kernel_rfl) (by kernel_rfl) (by kernel_rfl) (by kernel_rfl) (fun d _ _ _ _ h => by cases d <;> exact h) HSx.out (fun _ => ?_)
        repeat (first | (refine SeqH.take (v := ?_) rfl (by rfl) ?_ ?_; rotate_left; (· intro w hSw; (try dsimp only at hSw); obtain ⟨⟨⟨s0, s1, s2⟩, _⟩, ⟨⟨a0, a1, a2, a3⟩, _⟩⟩ := hSw; go_simp; (try with_reducible rfl)); simp only [Act.put, List.setIfInBounds_toArray, List.set_cons_zero, List.set_cons_succ]) | (refine SeqH.skip rfl (by rfl) ?_; simp only [Act.put, List.setIfInBounds_toArray, List.set_cons_zero, List.set_cons_succ]))
        have HS2 := Lib.hid (HS1.out.below (below_drewN (Below.refl _ _) 1))
        refine SeqH.step rfl (by rfl) (fun K hK => ?_)
        go_simp
        go_at_call 101
        refine (FA.out F U _).mono ?_
        rintro e w3 ⟨rfl, hb3⟩
        try dsimp only
        refine hK.out _ _ ⟨HSx.out.1.below hb3 HSx.out.1.2, HSx.out.2.below hb3 HSx.out.2.2⟩ (fun _ => ?_)
        have HSy := Lib.hid (And.intro (HSx.out.1.below hb3 HSx.out.1.2) (HSx.out.2.below hb3 HSx.out.2.2))
        have HS3 := Lib.hid (HS2.out.below hb3)
        clear hK K hb3 HSx HS2
        try simp only [Act.put, List.setIfInBounds_toArray, List.set_cons_zero, List.set_cons_succ]
        repeat (first | (refine SeqH.take (v := ?_) rfl (by rfl) ?_ ?_; rotate_left; (· intro w hSw; (try dsimp only at hSw); obtain ⟨⟨⟨s0, s1, s2⟩, _⟩, ⟨⟨a0, a1, a2, a3⟩, _⟩⟩ := hSw; go_simp; (try with_reducible rfl)); simp only [Act.put, List.setIfInBounds_toArray, List.set_cons_zero, List.set_cons_succ]) | (refine SeqH.skip rfl (by rfl) ?_; simp only [Act.put, List.setIfInBounds_toArray, List.set_cons_zero, List.set_cons_succ]))
        refine SeqH.step rfl (by rfl) (fun K hK => ?_)
        go_simp
        go_at_call 110
        refine (FC.out _ HOa.out _).mono ?_
        rintro e w4 ⟨rfl, hb3⟩
        try dsimp only
        refine hK.out _ _ ⟨HSy.out.1.below hb3 HSy.out.1.2, HSy.out.2.below hb3 HSy.out.2.2⟩ (fun _ => ?_)
        have HSz := Lib.hid (And.intro (HSy.out.1.below hb3 HSy.out.1.2) (HSy.out.2.below hb3 HSy.out.2.2))
        have HS4 := Lib.hid (HS3.out.below hb3)
        clear hK K hb3 HSy HS3
        try simp only [Act.put, List.setIfInBounds_toArray, List.set_cons_zero, List.set_cons_succ]
        repeat (first | (refine SeqH.take (v := ?_) rfl (by rfl) ?_ ?_; rotate_left; (· intro w hSw; (try dsimp only at hSw); obtain ⟨⟨⟨s0, s1, s2⟩, _⟩, ⟨⟨a0, a1, a2, a3⟩, _⟩⟩ := hSw; go_simp; (try with_reducible rfl)); simp only [Act.put, List.setIfInBounds_toArray, List.set_cons_zero, List.set_cons_succ]) | (refine SeqH.skip rfl (by rfl) ?_; simp only [Act.put, List.setIfInBounds_toArray, List.set_cons_zero, List.set_cons_succ]))
        refine SeqH.step rfl (by rfl) (fun K hK => ?_)
        go_simp
        go_at_call 113
        refine (CM.out _).mono ?_
        rintro e w5 ⟨rfl, hb3⟩
        try dsimp only
        refine hK.out _ _ ⟨HSz.out.1.below hb3 HSz.out.1.2, HSz.out.2.below hb3 HSz.out.2.2⟩ (fun _ => ?_)
        have HSu := Lib.hid (And.intro (HSz.out.1.below hb3 HSz.out.1.2) (HSz.out.2.below hb3 HSz.out.2.2))
        have HS5 := Lib.hid (HS4.out.below hb3)
        clear hK K hb3 HSz HS4
        try simp only [Act.put, List.setIfInBounds_toArray, List.set_cons_zero, List.set_cons_succ]
        repeat (first | (refine SeqH.take (v := ?_) rfl (by rfl) ?_ ?_; rotate_left; (· intro w hSw; (try dsimp only at hSw); obtain ⟨⟨⟨s0, s1, s2⟩, _⟩, ⟨⟨a0, a1, a2, a3⟩, _⟩⟩ := hSw; go_simp; (try with_reducible rfl)); simp only [Act.put, List.setIfInBounds_toArray, List.set_cons_zero, List.set_cons_succ]) | (refine SeqH.skip rfl (by rfl) ?_; simp only [Act.put, List.setIfInBounds_toArray, List.set_cons_zero, List.set_cons_succ]))
        refine SeqH.done ?_
        go_wp2
        go_roundw
        case rel => exact ⟨k + 1, by omega, by go_num, Lib.hid (by rw [HE.out.1, HE.out.2]; exact HS5.out)⟩
        case measure => simp [intOf]; omega
      · obtain ⟨e1, e2⟩ := HYk.out h1
        have HE := Lib.hid (And.intro e1 e2)
        rw [h1] at CM
        clear h1 e1 e2 HYk HNk
        go_upto_region 5 with fail
        refine wp_region_seq [(0, true), (1, true), (3, true), (2, false), (4, false), (5, false)] (fun W => SB (w.heap.size + 1 + 1) ⟨x, F, U⟩ W ∧ RB wr.heap.size a W)
          (by kernel_rfl) (by kernel_rfl) (by kernel_rfl) (by kernel_rfl) (fun d _ _ _ _ h => by cases d <;> exact h) HSx.out (fun _ => ?_)
        repeat (first | (refine SeqH.take (v := ?_) rfl (by rfl) ?_ ?_; rotate_left; (· intro w hSw; (try dsimp only at hSw); obtain ⟨⟨⟨s0, s1, s2⟩, _⟩, ⟨⟨a0, a1, a2, a3⟩, _⟩⟩ := hSw; go_simp; (try with_reducible rfl)); simp only [Act.put, List.setIfInBounds_toArray, List.set_cons_zero, List.set_cons_succ]) | (refine SeqH.skip rfl (by rfl) ?_; simp only [Act.put, List.setIfInBounds_toArray, List.set_cons_zero, List.set_cons_succ]))
        have HS2 := Lib.hid (HS1.out.below (below_drewN (Below.refl _ _) 1))
        refine SeqH.step rfl (by rfl) (fun K hK => ?_)
        go_simp
        go_at_call 101
        refine (FA.out F U _).mono ?_
        rintro e w3 ⟨rfl, hb3⟩
        try dsimp only
        refine hK.out _ _ ⟨HSx.out.1.below hb3 HSx.out.1.2, HSx.out.2.below hb3 HSx.out.2.2⟩ (fun _ => ?_)
        have HSy := Lib.hid (And.intro (HSx.out.1.below hb3 HSx.out.1.2) (HSx.out.2.below hb3 HSx.out.2.2))
        have HS3 := Lib.hid (HS2.out.below hb3)
        clear hK K hb3 HSx HS2
        try simp only [Act.put, List.setIfInBounds_toArray, List.set_cons_zero, List.set_cons_succ]
        repeat (first | (refine SeqH.take (v := ?_) rfl (by rfl) ?_ ?_; rotate_left; (· intro w hSw; (try dsimp only at hSw); obtain ⟨⟨⟨s0, s1, s2⟩, _⟩, ⟨⟨a0, a1, a2, a3⟩, _⟩⟩ := hSw; go_simp; (try with_reducible rfl)); simp only [Act.put, List.setIfInBounds_toArray, List.set_cons_zero, List.set_cons_succ]) | (refine SeqH.skip rfl (by rfl) ?_; simp only [Act.put, List.setIfInBounds_toArray, List.set_cons_zero, List.set_cons_succ]))
        refine SeqH.step rfl (by rfl) (fun K hK => ?_)
        go_simp
        go_at_call 110
        refine (FC.out _ HOa.out _).mono ?_
        rintro e w4 ⟨rfl, hb3⟩
        try dsimp only
        refine hK.out _ _ ⟨HSy.out.1.below hb3 HSy.out.1.2, HSy.out.2.below hb3 HSy.out.2.2⟩ (fun _ => ?_)
        have HSz := Lib.hid (And.intro (HSy.out.1.below hb3 HSy.out.1.2) (HSy.out.2.below hb3 HSy.out.2.2))
        have HS4 := Lib.hid (HS3.out.below hb3)
        clear hK K hb3 HSy HS3
        try simp only [Act.put, List.setIfInBounds_toArray, List.set_cons_zero, List.set_cons_succ]
        repeat (first | (refine SeqH.take (v := ?_) rfl (by rfl) ?_ ?_; rotate_left; (· intro w hSw; (try dsimp only at hSw); obtain ⟨⟨⟨s0, s1, s2⟩, _⟩, ⟨⟨a0, a1, a2, a3⟩, _⟩⟩ := hSw; go_simp; (try with_reducible rfl)); simp only [Act.put, List.setIfInBounds_toArray, List.set_cons_zero, List.set_cons_succ]) | (refine SeqH.skip rfl (by rfl) ?_; simp only [Act.put, List.setIfInBounds_toArray, List.set_cons_zero, List.set_cons_succ]))
        refine SeqH.step rfl (by rfl) (fun K hK => ?_)
        go_simp
        go_at_call 113
        refine (CM.out _).mono ?_
        rintro e w5 ⟨rfl, hb3⟩
        try dsimp only
        refine hK.out _ _ ⟨HSz.out.1.below hb3 HSz.out.1.2, HSz.out.2.below hb3 HSz.out.2.2⟩ (fun _ => ?_)
        have HSu := Lib.hid (And.intro (HSz.out.1.below hb3 HSz.out.1.2) (HSz.out.2.below hb3 HSz.out.2.2))
        have HS5 := Lib.hid (HS4.out.below hb3)
        clear hK K hb3 HSz HS4
        try simp only [Act.put, List.setIfInBounds_toArray, List.set_cons_zero, List.set_cons_succ]
        repeat (first | (refine SeqH.take (v := ?_) rfl (by rfl) ?_ ?_; rotate_left; (· intro w hSw; (try dsimp only at hSw); obtain ⟨⟨⟨s0, s1, s2⟩, _⟩, ⟨⟨a0, a1, a2, a3⟩, _⟩⟩ := hSw; go_simp; (try with_reducible rfl)); simp only [Act.put, List.setIfInBounds_toArray, List.set_cons_zero, List.set_cons_succ]) | (refine SeqH.skip rfl (by rfl) ?_; simp only [Act.put, List.setIfInBounds_toArray, List.set_cons_zero, List.set_cons_succ]))
        refine SeqH.done ?_
        have hlw := HS5.out.2.1.lt
        obtain ⟨⟨⟨s0, s1, s2⟩, _⟩, ⟨⟨a0, a1, a2, a3⟩, _⟩⟩ := HSu.out
        have f8 := fun j => HS5.out.2.1.frozen j
        clear HSu
        by_cases q1 : a.y < F
        · by_cases q2 : U < a.y + a.h
          · have hm1 : min F a.y = a.y := by omega
            have hm2 : max U (a.y + a.h) = a.y + a.h := by omega
            have HE2 := Lib.hid (And.intro (HE.out.1.trans hm1) (HE.out.2.trans hm2))
            have HS6 := Lib.hid (HS5.out.set a.y (a.y + a.h))
            clear hm1 hm2 HE HS5
            go_upto_region 6 with fail
            go_region
            all_goals
              go_wp2
              go_roundw
              case rel => exact ⟨k + 1, by omega, by go_num, Lib.hid (by rw [HE2.out.1, HE2.out.2]; exact HS6.out)⟩
              case measure => simp [intOf]; omega
          · have hm1 : min F a.y = a.y := by omega
            have hm2 : max U (a.y + a.h) = U := by omega
            have HE2 := Lib.hid (And.intro (HE.out.1.trans hm1) (HE.out.2.trans hm2))
            have HS6 := Lib.hid (HS5.out.set a.y U)
            clear hm1 hm2 HE HS5
            go_upto_region 6 with fail
            go_region
            all_goals
              go_wp2
              go_roundw
              case rel => exact ⟨k + 1, by omega, by go_num, Lib.hid (by rw [HE2.out.1, HE2.out.2]; exact HS6.out)⟩
              case measure => simp [intOf]; omega
        · by_cases q2 : U < a.y + a.h
          · have hm1 : min F a.y = F := by omega
            have hm2 : max U (a.y + a.h) = a.y + a.h := by omega
            have HE2 := Lib.hid (And.intro (HE.out.1.trans hm1) (HE.out.2.trans hm2))
            have HS6 := Lib.hid (HS5.out.set F (a.y + a.h))
            clear hm1 hm2 HE HS5
            go_upto_region 6 with fail
            go_region
            all_goals
              go_wp2
              go_roundw
              case rel => exact ⟨k + 1, by omega, by go_num, Lib.hid (by rw [HE2.out.1, HE2.out.2]; exact HS6.out)⟩
              case measure => simp [intOf]; omega
          · have hm1 : min F a.y = F := by omega
            have hm2 : max U (a.y + a.h) = U := by omega
            have HE2 := Lib.hid (And.intro (HE.out.1.trans hm1) (HE.out.2.trans hm2))
            have HS6 := Lib.hid (HS5.out.set F U)
            clear hm1 hm2 HE HS5
            go_upto_region 6 with fail
            go_region
            all_goals
              go_wp2
              go_roundw
              case rel => exact ⟨k + 1, by omega, by go_num, Lib.hid (by rw [HE2.out.1, HE2.out.2]; exact HS6.out)⟩
              case measure => simp [intOf]; omega
    · obtain rfl : k = rs.length := by omega
      have hg := hg.out
      rw [← HFU.out.1, ← HFU.out.2] at hg
      have hlw := hg.2.1.lt
      have hlw1 := hg.1.lt
      obtain ⟨⟨s0, s1, s2⟩, _⟩ := SB.of (s := ⟨x, F0, U0⟩) hg.2.1
      have f6 := fun j => hg.1.frozen j
      have z0 : World.cell? _ _ = some (.int .i64 0) := hg.1.cell 0
      have z1 : World.cell? _ _ = some (.int .i64 0) := hg.1.cell 1
      have z2 : World.cell? _ _ = some (.int .i64 0) := hg.1.cell 2
      have HB3 := Lib.hid (below_drewN (below_set (below_set (below_set hg.2.2 (show w.heap.size ≤ w.heap.size + 1 by omega) (j := 0) (.int .i64 x)) (show w.heap.size ≤ w.heap.size + 1 by omega) (j := 1) (.int .i64 F0)) (show w.heap.size ≤ w.heap.size + 1 by omega) (j := 2) (.int .i64 U0)) 1)
      have HR := Lib.hid (((hg.1.set 0 (.int .i64 x)).set 1 (.int .i64 F0)).set 2 (.int .i64 U0)).drew
      clear hg HK HY HN HBD HO FA FC FM HFU
      go_wp2_with fail
      go_region
      all_goals
        have bR : BlockAt (((wr.setCell ⟨w.heap.size + 1, 0, none⟩ (.int .i64 x)).setCell ⟨w.heap.size + 1, 1, none⟩ (.int .i64 F0)).setCell ⟨w.heap.size + 1, 2, none⟩ (.int .i64 U0)).drew (w.heap.size + 1) (stripA x F0 U0) StripT := HR.out
        have r0 : World.cell? _ _ = some (.int .i64 x) := bR.cell 0
        have r1 : World.cell? _ _ = some (.int .i64 F0) := bR.cell 1
        have r2 : World.cell? _ _ = some (.int .i64 U0) := bR.cell 2
        have hlr := bR.lt
        clear bR
        go_wp2
        try simp only [Exit.inBlock, Exit.then]
        refine bodyPost_ret (v := .tuple #[stripV ⟨x, F0, U0⟩, .bool (decide (F0 < U0))]) (by simp [results, Try.results114, go_sem, r0, r1, r2]) rfl ⟨by rw [HBB.out], HB3.out⟩
end Go.Proofs.Ytpobkdbnldogcaa
