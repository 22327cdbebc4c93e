/- TopTime returns true, whatever the calendar, the times and the weights. -/
import Derived.Test.YtmmmlcnclehilaaDoorTimeM
import Derived.Test.YtmmmlcnclehilaaDoorCalendarsWalk
import Derived.Test.YtmmmlcnclehilaaDoorShare5
import Derived.Deep.CutRange
namespace Go.Proofs.YtmmmlcnclehilaaDoor
open Go.RowKit Go.Sort

/-- What the law holds: the calendar and the times in their blocks, and all that was there. -/
def Tm (w W : World) (s e : Int) (vr vh : Value) (f b t m k : Int) : Prop :=
  (W.cell? ⟨w.heap.size, 0, none⟩ = some (.int .i64 s) ∧ W.cell? ⟨w.heap.size, 1, none⟩ = some (.int .i64 e) ∧ W.cell? ⟨w.heap.size, 2, none⟩ = some vr ∧ W.cell? ⟨w.heap.size, 3, none⟩ = some vh) ∧
  (W.cell? ⟨w.heap.size + 1, 0, none⟩ = some (.int .i64 f) ∧ W.cell? ⟨w.heap.size + 1, 1, none⟩ = some (.int .i64 b) ∧ W.cell? ⟨w.heap.size + 1, 2, none⟩ = some (.int .i64 t) ∧ W.cell? ⟨w.heap.size + 1, 3, none⟩ = some (.int .i64 m) ∧ W.cell? ⟨w.heap.size + 1, 4, none⟩ = some (.int .i64 k)) ∧
  w.heap.size + 1 < W.heap.size ∧ Below w.heap.size w W
theorem Tm.step {w W W2 : World} {s e : Int} {vr vh : Value} {f b t m k : Int} (h : Tm w W s e vr vh f b t m k) (hb : Below W.heap.size W W2) : Tm w W2 s e vr vh f b t m k := by
  obtain ⟨⟨a0, a1, a2, a3⟩, ⟨c0, c1, c2, c3, c4⟩, hz, hw⟩ := h
  have q : ∀ B i, B < W.heap.size → W2.cell? ⟨B, i, none⟩ = W.cell? ⟨B, i, none⟩ := fun B i hB => hb.cell (p := ⟨B, i, none⟩) hB
  exact ⟨⟨(q _ _ (by omega)).trans a0, (q _ _ (by omega)).trans a1, (q _ _ (by omega)).trans a2, (q _ _ (by omega)).trans a3⟩,
    ⟨(q _ _ hz).trans c0, (q _ _ hz).trans c1, (q _ _ hz).trans c2, (q _ _ hz).trans c3, (q _ _ hz).trans c4⟩, Nat.lt_of_lt_of_le hz hb.size, hw.trans (hb.mono hw.size)⟩
theorem Tm.fresh (w : World) (s e : Int) (vr vh : Value) (f b t m k : Int) (t1 t2 : TypeId) : Tm w ((w.alloc (.cells #[.int .i64 s, .int .i64 e, vr, vh] t1)).alloc (.cells #[.int .i64 f, .int .i64 b, .int .i64 t, .int .i64 m, .int .i64 k] t2)) s e vr vh f b t m k := by
  have hb := (CalAt.fresh w s e vr vh t1).all ((Below.refl _ (w.alloc (.cells #[.int .i64 s, .int .i64 e, vr, vh] t1))).alloc (Nat.le_refl _) (.cells #[.int .i64 f, .int .i64 b, .int .i64 t, .int .i64 m, .int .i64 k] t2))
  obtain ⟨a0, a1, a2, a3, _⟩ := hb
  have hz : (w.alloc (.cells #[.int .i64 s, .int .i64 e, vr, vh] t1)).heap.size = w.heap.size + 1 := by simp
  refine ⟨⟨a0, a1, a2, a3⟩, ⟨?_, ?_, ?_, ?_, ?_⟩, by simp, ((Below.refl _ w).alloc (Nat.le_refl _) _).alloc (by simp) _⟩ <;> (rw [← hz]; simp)

theorem Tm.drew {w W : World} {s e : Int} {vr vh : Value} {f b t m k : Int} (h : Tm w W s e vr vh f b t m k) : Tm w W.drew s e vr vh f b t m k :=
  ⟨h.1, h.2.1, h.2.2.1, h.2.2.2.drew⟩

set_option maxRecDepth 100000 in
set_option maxHeartbeats 4000000 in
theorem time_walk (s e f b t m k : Int) (vr vh vw : Value) (rs hs ws : List Int) (w : World) (hr : Ints w vr rs) (hh : Ints w vh hs) (hv : Ints w vw ws)
    (s1 : -9223372036854775808 ≤ s) (s2 : s ≤ 9223372036854775807) (e1 : -9223372036854775808 ≤ e) (e2 : e ≤ 9223372036854775807)
    (f1 : -9223372036854775808 ≤ f) (f2 : f ≤ 9223372036854775807) (b1 : -9223372036854775808 ≤ b) (b2 : b ≤ 9223372036854775807) (t1 : -9223372036854775808 ≤ t) (t2 : t ≤ 9223372036854775807)
    (m1 : -9223372036854775808 ≤ m) (m2 : m ≤ 9223372036854775807) (k1 : -9223372036854775808 ≤ k) (k2 : k ≤ 9223372036854775807) :
    Calls Tryd.prog 7 #[cal s e vr vh, .agg #[.int .i64 f, .int .i64 b, .int .i64 t, .int .i64 m, .int .i64 k], vw] w fun z w' => z = .returned (.bool true) ∧ Below w.heap.size w w' := by
  have HV := Lib.hid hv
  obtain ⟨ar, cr, rfl⟩ := hr.form
  obtain ⟨ah, ch, rfl⟩ := hh.form
  obtain ⟨aw, cw, rfl⟩ := hv.form
  have HT0 := Lib.hid (Tm.fresh w s e (.slice ar rs.length cr) (.slice ah hs.length ch) f b t m k 40 42)
  clear hv
  by_cases hm : 100 < rs.length ∨ 200 < hs.length
  · clear hr hh HV
    go_enter Tryd.func7, Tryd.ntmps7
    go_wp2_with fail
    refine (money270 _).mono ?_
    rintro z w1 ⟨rfl, hb1⟩
    have hT := Lib.hid (HT0.out.step hb1)
    have ⟨⟨q0, q1, q2, q3⟩, _⟩ := hT.out
    clear hb1 HT0
    go_wp2_with fail
    refine (many_yes _ _ _ _ _ _ _ _ _ hm).mono ?_
    rintro z w2 ⟨rfl, hb2⟩
    have hU := Lib.hid (hT.out.step hb2)
    clear q0 q1 q2 q3 hT hb2
    go_wp2
    go_ret
    exact ⟨rfl, hU.out.2.2.2⟩
  have lr : rs.length ≤ 1000 := by omega
  have lh : hs.length ≤ 1000 := by omega
  have C := Lib.hid (fun (x y : Int) W (hW : Below w.heap.size w W) (x1 : -9223372036854775808 ≤ x) (x2 : x ≤ 9223372036854775807) (y1 : -9223372036854775808 ≤ y) (y2 : y ≤ 9223372036854775807) => numWorking_any s e x y _ _ rs hs W (hr.all hW) (hh.all hW) lr lh s1 s2 e1 e2 x1 x2 y1 y2)
  have D := Lib.hid (fun (x y : Int) W (hW : Below w.heap.size w W) (x1 : -9223372036854775808 ≤ x) (x2 : x ≤ 9223372036854775807) (y1 : -9223372036854775808 ≤ y) (y2 : y ≤ 9223372036854775807) => numAfter_any s e x y _ _ rs hs W (hr.all hW) (hh.all hW) lr lh s1 s2 e1 e2 x1 x2 y1 y2)
  have V := Lib.hid (fun W (hW : Below w.heap.size w W) => validate_any s e _ _ rs hs W (hr.all hW) (hh.all hW) lr lh s1 s2 e1 e2)
  clear hr hh s1 s2 e1 e2
  by_cases hl : 100 < ws.length
  · have hl' : (100 : Int) < (ws.length : Int) := by omega
    clear HV C D V hl
    go_enter Tryd.func7, Tryd.ntmps7
    go_wp2_with fail
    refine (money270 _).mono ?_
    rintro z w1 ⟨rfl, hb1⟩
    have hT := Lib.hid (HT0.out.step hb1)
    have ⟨⟨q0, q1, q2, q3⟩, _⟩ := hT.out
    clear hb1 HT0
    go_wp2_with fail
    refine (many_no _ _ _ _ _ _ _ _ _ hm).mono ?_
    rintro z w2 ⟨rfl, hb2⟩
    have hU := Lib.hid (hT.out.step hb2)
    clear q0 q1 q2 q3 hT hb2
    go_wp2
    go_ret
    exact ⟨rfl, hU.out.2.2.2⟩
  have hl' : ¬ (100 : Int) < (ws.length : Int) := by omega
  have hlw : ws.length ≤ 1000 := by omega
  clear hl
  by_cases hv0 : Cal.valE s e rs hs = 0
  case neg =>
    have hne : (Cal.valE s e rs hs != 0) = true := bne_iff_ne.2 hv0
    clear HV C D hv0
    generalize Cal.valE s e rs hs = z0 at *
    go_enter Tryd.func7, Tryd.ntmps7
    go_wp2_with fail
    refine (money270 _).mono ?_
    rintro z w1 ⟨rfl, hb1⟩
    have hT := Lib.hid (HT0.out.step hb1)
    have ⟨⟨q0, q1, q2, q3⟩, _⟩ := hT.out
    clear hb1 HT0
    go_wp2_with fail
    refine (many_no _ _ _ _ _ _ _ _ _ hm).mono ?_
    rintro z w2 ⟨rfl, hb2⟩
    have hU := Lib.hid (hT.out.step hb2)
    clear q0 q1 q2 q3 hT hb2
    have ⟨⟨q0, q1, q2, q3⟩, _⟩ := hU.out
    go_wp2_with fail
    refine (V.out _ hU.out.2.2.2).mono ?_
    rintro z w3 ⟨rfl, hb3⟩
    have hX := Lib.hid (hU.out.step hb3)
    clear q0 q1 q2 q3 hU hb3
    go_wp2
    go_ret
    exact ⟨rfl, hX.out.2.2.2⟩
  have H0 := Lib.hid hv0
  rw [hv0] at V
  clear hv0
  go_enter Tryd.func7, Tryd.ntmps7
  go_wp2_with fail
  refine (money270 _).mono ?_
  rintro z w1 ⟨rfl, hb1⟩
  have hT := Lib.hid (HT0.out.step hb1)
  have ⟨⟨q0, q1, q2, q3⟩, _⟩ := hT.out
  clear hb1 HT0
  go_wp2_with fail
  refine (many_no _ _ _ _ _ _ _ _ _ hm).mono ?_
  rintro z w2 ⟨rfl, hb2⟩
  have hU := Lib.hid (hT.out.step hb2)
  clear q0 q1 q2 q3 hT hb2
  have ⟨⟨q0, q1, q2, q3⟩, _⟩ := hU.out
  go_wp2_with fail
  refine (V.out _ hU.out.2.2.2).mono ?_
  rintro z w3 ⟨rfl, hb3⟩
  have hT := Lib.hid (hU.out.step hb3)
  clear q0 q1 q2 q3 hU hb3 V
  have ⟨⟨q0, q1, q2, q3⟩, ⟨g0, g1, g2, g3, g4⟩, _⟩ := hT.out
  go_wp2_with fail
  refine (C.out f b _ hT.out.2.2.2 f1 f2 b1 b2).mono ?_
  rintro z w4 ⟨rfl, hb4⟩
  have hU := Lib.hid (hT.out.step hb4)
  clear q0 q1 q2 q3 g0 g1 g2 g3 g4 hT hb4
  have ⟨⟨q0, q1, q2, q3⟩, ⟨g0, g1, g2, g3, g4⟩, _⟩ := hU.out
  go_wp2_with fail
  refine (C.out b t _ hU.out.2.2.2 b1 b2 t1 t2).mono ?_
  rintro z w5 ⟨rfl, hb5⟩
  have hT := Lib.hid (hU.out.step hb5)
  clear q0 q1 q2 q3 g0 g1 g2 g3 g4 hU hb5
  have ⟨⟨q0, q1, q2, q3⟩, ⟨g0, g1, g2, g3, g4⟩, _⟩ := hT.out
  go_wp2_with fail
  refine (C.out f t _ hT.out.2.2.2 f1 f2 t1 t2).mono ?_
  rintro z w6 ⟨rfl, hb6⟩
  have hU := Lib.hid (hT.out.step hb6)
  clear q0 q1 q2 q3 g0 g1 g2 g3 g4 hT hb6
  have HAB := Lib.hid (fun h1 h2 => Cal.w_add (x := f) (b := b) (y := t) H0.out h1 h2)
  generalize Cal.wV s e rs hs f b = va at HAB ⊢
  generalize Cal.wE s e rs hs f b = ea at HAB ⊢
  generalize Cal.wV s e rs hs b t = vb at HAB ⊢
  generalize Cal.wE s e rs hs b t = eb at HAB ⊢
  generalize Cal.wV s e rs hs f t = vc at HAB ⊢
  generalize Cal.wE s e rs hs f t = ec at HAB ⊢
  go_upto_region 9 with fail
  go_cut [93] from 78 to 93 (fun u X => u = .bool false ∧ Hid (X = w6))
  case first =>
    by_cases hA : ea = 0
    · subst hA
      by_cases hB : eb = 0
      · subst hB
        obtain ⟨rfl, rfl, a3, a4, a5, a6⟩ := HAB.out rfl rfl
        clear HAB
        go_wp2
        go_meet
        exact ⟨rfl, Lib.hid rfl⟩
      · have hB' : (eb == 0) = false := beq_eq_false_iff_ne.2 hB
        clear HAB hB
        go_wp2
        go_meet
        exact ⟨rfl, Lib.hid rfl⟩
    · have hA' : (ea == 0) = false := beq_eq_false_iff_ne.2 hA
      clear HAB hA
      go_wp2
      go_meet
      exact ⟨rfl, Lib.hid rfl⟩
  case rest =>
    obtain ⟨rfl, hwx⟩ := hcut
    have hwx := hwx.out
    subst hwx
    clear HAB
    have ⟨⟨q0, q1, q2, q3⟩, ⟨g0, g1, g2, g3, g4⟩, _⟩ := hU.out
    by_cases hAf : Cal.afE s e rs hs f m = 0
    case neg =>
      have hne : (Cal.afE s e rs hs f m != 0) = true := bne_iff_ne.2 hAf
      clear hAf
      go_wp2_with fail
      refine (D.out f m _ hU.out.2.2.2 f1 f2 m1 m2).mono ?_
      rintro z w7 ⟨rfl, hb7⟩
      have hT := Lib.hid (hU.out.step hb7)
      clear q0 q1 q2 q3 g0 g1 g2 g3 g4 hU hb7 D
      generalize Cal.afE s e rs hs f m = z7 at *
      go_wp2
      go_ret
      exact ⟨rfl, hT.out.2.2.2⟩
    obtain ⟨x1, x2, x3, x4, x5⟩ := Cal.af_time H0.out hAf
    obtain ⟨y1, y2, y3⟩ := Cal.af_dom H0.out hAf
    have D1 := Lib.hid (fun W (hW : Below w.heap.size w W) => D.out f m W hW f1 f2 m1 m2)
    rw [hAf] at D1
    have C1 := Lib.hid (fun W (hW : Below w.heap.size w W) => C.out f (Cal.afV s e rs hs f m) W hW f1 f2 (by omega) (by omega))
    rw [(Cal.w_ok H0.out ⟨y1, x1, x2⟩).1, (Cal.w_ok H0.out ⟨y1, x1, x2⟩).2, x4] at C1
    have C2 := Lib.hid (fun (hm : 1 ≤ m) W (hW : Below w.heap.size w W) => show Calls Tryd.prog 21 #[cal s e (.slice ar rs.length cr) (.slice ah hs.length ch), .int .i64 f, .int .i64 (Cal.afV s e rs hs f m - 1)] W fun z w' => z = .returned (.tuple #[.int .i64 (m - 1), .int .i64 0]) ∧ Below W.heap.size W w' from by
      have h := C.out f (Cal.afV s e rs hs f m - 1) W hW f1 f2 (by omega) (by omega)
      rwa [(Cal.w_ok H0.out ⟨y1, (x5 hm).1, by omega⟩).1, (Cal.w_ok H0.out ⟨y1, (x5 hm).1, by omega⟩).2, (x5 hm).2] at h)
    have D2 := Lib.hid (fun (h1 : 0 ≤ k) W (hW : Below w.heap.size w W) => show Calls Tryd.prog 22 #[cal s e (.slice ar rs.length cr) (.slice ah hs.length ch), .int .i64 (Cal.afV s e rs hs f m), .int .i64 k] W fun z w' => z = .returned (.tuple #[.int .i64 (Cal.afV s e rs hs f (m + k)), .int .i64 (Cal.afE s e rs hs f (m + k))]) ∧ Below W.heap.size W w' from by
      have h := D.out (Cal.afV s e rs hs f m) k W hW (by omega) (by omega) k1 k2
      rwa [(Cal.af_more H0.out hAf h1).1, (Cal.af_more H0.out hAf h1).2] at h)
    have D3 := Lib.hid (fun (S p : Int) (hS : Cal.afE s e rs hs f S = 0) (h1 : 0 ≤ p) (h2 : p ≤ 9223372036854775807) (hSp : Cal.afE s e rs hs f (S + p) = 0) W (hW : Below w.heap.size w W) => show Calls Tryd.prog 22 #[cal s e (.slice ar rs.length cr) (.slice ah hs.length ch), .int .i64 (Cal.afV s e rs hs f S), .int .i64 p] W fun z w' => z = .returned (.tuple #[.int .i64 (Cal.afV s e rs hs f (S + p)), .int .i64 0]) ∧ Below W.heap.size W w' from by
      have hx := Cal.af_time H0.out hS
      have h := D.out (Cal.afV s e rs hs f S) p W hW (by omega) (by omega) (by omega) h2
      rwa [(Cal.af_more H0.out hS h1).1, (Cal.af_more H0.out hS h1).2, hSp] at h)
    have HA := Lib.hid hAf
    have HT := Lib.hid (And.intro x1 (And.intro x2 (And.intro x5 x4)))
    clear C hAf x5 x4
    generalize hTT : Cal.afV s e rs hs f m = T at *
    have HTT := Lib.hid hTT
    clear hTT
    go_wp2_with fail
    refine (D1.out _ hU.out.2.2.2).mono ?_
    rintro z w7 ⟨rfl, hb7⟩
    have hT := Lib.hid (hU.out.step hb7)
    clear q0 q1 q2 q3 g0 g1 g2 g3 g4 hU hb7 D1
    have ⟨⟨q0, q1, q2, q3⟩, ⟨g0, g1, g2, g3, g4⟩, _⟩ := hT.out
    go_wp2_with fail
    refine (C1.out _ hT.out.2.2.2).mono ?_
    rintro z w8 ⟨rfl, hb8⟩
    have hU := Lib.hid (hT.out.step hb8)
    clear q0 q1 q2 q3 g0 g1 g2 g3 g4 hT hb8 C1
    have ⟨⟨q0, q1, q2, q3⟩, ⟨g0, g1, g2, g3, g4⟩, _⟩ := hU.out
    go_upto_if 129 with fail
    go_cut [17, 18] from 129 to 147 (fun _ _ X => Hid (Tm w X s e (.slice ar rs.length cr) (.slice ah hs.length ch) f b t m k))
    case first =>
      by_cases hm0 : 0 < m
      · go_wp2_with fail
        refine (C2.out (by omega) _ hU.out.2.2.2).mono ?_
        rintro z w9 ⟨rfl, hb9⟩
        have hT := Lib.hid (hU.out.step hb9)
        clear q0 q1 q2 q3 g0 g1 g2 g3 g4 hU hb9 C2 HT
        have ⟨⟨q0, q1, q2, q3⟩, ⟨g0, g1, g2, g3, g4⟩, _⟩ := hT.out
        go_wp2
        go_meet
        exact hT
      · go_wp2
        go_meet
        exact hU
    case rest =>
      clear q0 q1 q2 q3 g0 g1 g2 g3 g4 hU C2
      have hU := hcut
      clear hcut
      have ⟨⟨q0, q1, q2, q3⟩, ⟨g0, g1, g2, g3, g4⟩, _⟩ := hU.out
      have HK := Lib.hid (show (decide (0 ≤ k) && decide (k ≤ 2880000)) = true → 0 ≤ k ∧ k ≤ 2880000 from by simp)
      go_upto_region 21 with fail
      go_cut [155] from 148 to 155 (fun u X => u = .bool (decide (0 ≤ k) && decide (k ≤ 2880000)) ∧ Hid (Tm w X s e (.slice ar rs.length cr) (.slice ah hs.length ch) f b t m k))
      case first =>
        by_cases h1 : 0 ≤ k
        · have hd1 : decide (0 ≤ k) = true := decide_eq_true h1
          by_cases h2 : k ≤ 2880000
          · have hd2 : decide (k ≤ 2880000) = true := decide_eq_true h2
            go_wp2
            go_meet
            exact ⟨by simp [*], hU⟩
          · have hd2 : decide (k ≤ 2880000) = false := decide_eq_false h2
            go_wp2
            go_meet
            exact ⟨by simp [*], hU⟩
        · have hd1 : decide (0 ≤ k) = false := decide_eq_false h1
          go_wp2
          go_meet
          exact ⟨by simp [*], hU⟩
      case rest =>
      obtain ⟨rfl, hX⟩ := hcut
      clear q0 q1 q2 q3 g0 g1 g2 g3 g4 hU
      have hU := hX
      clear hX
      have ⟨⟨q0, q1, q2, q3⟩, ⟨g0, g1, g2, g3, g4⟩, _⟩ := hU.out
      generalize (decide (0 ≤ k) && decide (k ≤ 2880000)) = KB at *
      have HM := Lib.hid (And.intro (Cal.af_time H0.out HA.out).2.2.1 y3)
      go_upto_if 155 with fail
      go_cut [19, 20, 21, 22] from 156 to 188 (fun _ _ _ _ X => Hid (Tm w X s e (.slice ar rs.length cr) (.slice ah hs.length ch) f b t m k))
      case first =>
        cases KB with
        | false =>
          go_wp2
          go_meet
          exact hU
        | true =>
          obtain ⟨h1, h2⟩ := HK.out rfl
          obtain ⟨h3, h4⟩ := HM.out
          go_wp2_with fail
          refine (D2.out h1 _ hU.out.2.2.2).mono ?_
          rintro z w9 ⟨rfl, hb9⟩
          have hT := Lib.hid (hU.out.step hb9)
          clear q0 q1 q2 q3 g0 g1 g2 g3 g4 hU hb9 D2
          have ⟨⟨q0, q1, q2, q3⟩, ⟨g0, g1, g2, g3, g4⟩, _⟩ := hT.out
          go_wp2_with fail
          refine (D.out f (m + k) _ hT.out.2.2.2 f1 f2 (by omega) (by omega)).mono ?_
          rintro z w10 ⟨rfl, hb10⟩
          have hU := Lib.hid (hT.out.step hb10)
          clear q0 q1 q2 q3 g0 g1 g2 g3 g4 hT hb10 D
          have ⟨⟨q0, q1, q2, q3⟩, ⟨g0, g1, g2, g3, g4⟩, _⟩ := hU.out
          generalize Cal.afV s e rs hs f (m + k) = vx at *
          generalize Cal.afE s e rs hs f (m + k) = ex at *
          by_cases hk0 : 0 < k
          · have hd : decide (0 < k) = true := decide_eq_true hk0
            go_wp2
            go_meet
            exact hU
          · have hd : decide (0 < k) = false := decide_eq_false hk0
            go_wp2
            go_meet
            exact hU
      case rest =>
      clear q0 q1 q2 q3 g0 g1 g2 g3 g4 hU D2 HK
      have hU := hcut
      clear hcut
      have ⟨⟨q0, q1, q2, q3⟩, ⟨g0, g1, g2, g3, g4⟩, _⟩ := hU.out
      cases hok : shareOk m ws with
      | false =>
        have P := Lib.hid (fun W (hW : Below w.heap.size w W) => share_bad m (.slice aw ws.length cw) ws W (HV.out.all hW) hlw hok)
        clear hok HV D D3
        go_wp2_with fail
        refine (P.out _ hU.out.2.2.2).mono ?_
        rintro z w11 ⟨rfl, hb11⟩
        have hT := Lib.hid (hU.out.step hb11)
        clear q0 q1 q2 q3 g0 g1 g2 g3 g4 hU hb11 P
        go_wp2
        go_ret
        exact ⟨rfl, hT.out.2.2.2⟩
      | true =>
        unfold shareOk at hok
        simp only [Bool.and_eq_true, decide_eq_true_eq] at hok
        obtain ⟨⟨hs1, h0⟩, h1⟩ := hok
        have P := Lib.hid (fun W (hW : Below w.heap.size w W) => share_good m (.slice aw ws.length cw) ws W (HV.out.all hW) hlw hs1 h0 h1)
        have hf := Sh.fits_of hs1 h0
        have hnn : ∀ i, i < ws.length → 0 ≤ Lr.partF m ws i ∧ Lr.partF m ws i ≤ 1152921504606846977 := fun i hi => by
          obtain ⟨_, _, _, _, r0, r1, _, _⟩ := Lr.round_ok hs1 h0 h1 hi
          unfold Lr.partF
          split <;> omega
        have HS := Lib.hid (Lr.part_sum hf)
        have HL := Lib.hid (fun j (hj : j ≤ ws.length) => Lr.sumN_le (f := Lr.partF m ws) (fun i hi => (hnn i hi).1) j hj)
        have HN := Lib.hid hnn
        clear hf hnn hs1 h0 h1 HV D
        generalize Lr.partF m ws = p at *
        go_wp2_with fail
        refine (P.out _ hU.out.2.2.2).mono ?_
        rintro z w11 ⟨⟨rfl, hblk⟩, hb11⟩
        have hT := Lib.hid (And.intro (hU.out.step hb11) hblk)
        clear q0 q1 q2 q3 g0 g1 g2 g3 g4 hb11 P hblk hU
        generalize wc.heap.size = BB at hT ⊢
        have ⟨⟨q0, q1, q2, q3⟩, ⟨g0, g1, g2, g3, g4⟩, _⟩ := hT.out.1
        have HZ := Lib.hid (Cal.af_zero (rs := rs) (hs := hs) H0.out y1 y2).1
        go_wp2
        clear q0 q1 q2 q3 g0 g1 g2 g3 g4
        go_loopw [24, 25] (fun a i wr => ∃ j : Nat, j ≤ ws.length ∧ i = .int .i64 ((j : Int) - 1) ∧ a = .int .i64 (Cal.afV s e rs hs f (m - Lr.sumN p j)) ∧ Hid (Tm w wr s e (.slice ar rs.length cr) (.slice ah hs.length ch) f b t m k ∧ BlockAt wr BB (fnC ws.length p) 3)) (fun _ i _ => (intOf i + 1).toNat)
        case atStart => exact ⟨ws.length, Nat.le_refl _, rfl, by rw [HS.out, Int.sub_self, HZ.out], hT⟩
        case round =>
          obtain ⟨j, hj, rfl, rfl, hg⟩ := hrel
          clear hT
          by_cases hj0 : j = 0
          · subst hj0
            have hS0 : m - Lr.sumN p 0 = m := by show m - 0 = m; omega
            rw [hS0, HTT.out]
            clear hS0
            have hw := hg.out.1.2.2.2
            clear hg HL HN HS
            go_wp2
            go_ret
            exact ⟨rfl, hw⟩
          · obtain ⟨q, rfl⟩ : ∃ q, j = q + 1 := ⟨j - 1, by omega⟩
            have hq : q < ws.length := by omega
            have l1 := HL.out (q + 1) hj
            have l2 := HL.out q (by omega)
            have hpq := HN.out q hq
            have hsum : Lr.sumN p (q + 1) = Lr.sumN p q + p q := rfl
            have hSS : m - Lr.sumN p (q + 1) + p q = m - Lr.sumN p q := by omega
            rw [HS.out] at l1 l2
            have A1 : Cal.afE s e rs hs f (m - Lr.sumN p (q + 1)) = 0 := Cal.af_mono H0.out HA.out (by omega) (by omega)
            have A2 : Cal.afE s e rs hs f (m - Lr.sumN p (q + 1) + p q) = 0 := Cal.af_mono H0.out HA.out (by omega) (by omega)
            have DD := Lib.hid (D3.out (m - Lr.sumN p (q + 1)) (p q) A1 hpq.1 (by omega) A2)
            rw [hSS] at DD
            have hcast : (((q + 1 : Nat) : Int) - 1) = (q : Int) := by omega
            rw [hcast]
            have hpc := (hg.out.2.cell q).trans (fnC_at hq)
            have ⟨⟨q0, q1, q2, q3⟩, ⟨g0, g1, g2, g3, g4⟩, hz, hw⟩ := hg.out.1
            have HQ := Lib.hid hq
            clear A1 A2 hSS hsum hcast l1 l2 HL HN HS hj0
            generalize m - Lr.sumN p (q + 1) = S1 at *
            generalize hS2 : m - Lr.sumN p q = S2 at *
            have HS2 := Lib.hid hS2
            clear hS2
            generalize p q = pq at *
            generalize Cal.afV s e rs hs f S1 = at1 at *
            go_upto_region 33 with fail
            refine wp_region_seq [(0, true), (1, true), (2, true), (3, true), (4, true), (5, true), (6, false), (7, true), (8, true), (9, true), (10, true), (11, true)]
              (fun W => ((W.cell? ⟨w.heap.size, 0, none⟩ = some (.int .i64 s) ∧ W.cell? ⟨w.heap.size, 1, none⟩ = some (.int .i64 e) ∧ W.cell? ⟨w.heap.size, 2, none⟩ = some (.slice ar rs.length cr) ∧ W.cell? ⟨w.heap.size, 3, none⟩ = some (.slice ah hs.length ch)) ∧ W.cell? ⟨BB, q, none⟩ = some (.int .i64 pq)) ∧
                Hid (Tm w W s e (.slice ar rs.length cr) (.slice ah hs.length ch) f b t m k ∧ BlockAt W BB (fnC ws.length p) 3))
              (by kernel_rfl) (by kernel_rfl) (by kernel_rfl) (by kernel_rfl) (fun d _ _ _ _ h => by cases d <;> exact h)
              (by exact ⟨⟨⟨q0, q1, q2, q3⟩, hpc⟩, Lib.hid ⟨hg.out.1.drew, hg.out.2.drew⟩⟩) (fun hS => ?_)
            clear q0 q1 q2 q3 g0 g1 g2 g3 g4 hpc hg hz hw
            repeat (first
              | (refine SeqH.take (v := ?_) rfl (by rfl) ?_ ?_; rotate_left; (· intro w hSw; (try dsimp only at hSw); obtain ⟨⟨⟨c0, c1, c2, c3⟩, c4⟩, _⟩ := hSw; go_simp; (try with_reducible rfl)); simp only [Act.put, List.setIfInBounds_toArray, List.set_cons_zero, List.set_cons_succ]))
            refine SeqH.step rfl (by rfl) (fun K hK => ?_)
            go_simp
            go_at_call 22
            refine (DD.out _ hS.2.out.1.2.2.2).mono ?_
            rintro z w12 ⟨rfl, hb12⟩
            try dsimp only
            have hT := hS.2.out.1.step hb12
            have hBk := hS.2.out.2.below hb12 hS.2.out.2.lt
            have hS3 : ((w12.cell? ⟨w.heap.size, 0, none⟩ = some (.int .i64 s) ∧ w12.cell? ⟨w.heap.size, 1, none⟩ = some (.int .i64 e) ∧ w12.cell? ⟨w.heap.size, 2, none⟩ = some (.slice ar rs.length cr) ∧ w12.cell? ⟨w.heap.size, 3, none⟩ = some (.slice ah hs.length ch)) ∧ w12.cell? ⟨BB, q, none⟩ = some (.int .i64 pq)) ∧
                Hid (Tm w w12 s e (.slice ar rs.length cr) (.slice ah hs.length ch) f b t m k ∧ BlockAt w12 BB (fnC ws.length p) 3) :=
              ⟨⟨hT.1, (hb12.cell (p := ⟨BB, q, none⟩) hS.2.out.2.lt).trans hS.1.2⟩, Lib.hid ⟨hT, hBk⟩⟩
            refine hK.out _ _ hS3 (fun _ => ?_)
            clear hK K hb12 hS hT hBk
            try simp only [Act.put, List.setIfInBounds_toArray, List.set_cons_zero, List.set_cons_succ]
            repeat (first
              | (refine SeqH.take (v := ?_) rfl (by rfl) ?_ ?_; rotate_left; (· intro w hSw; (try dsimp only at hSw); obtain ⟨⟨⟨c0, c1, c2, c3⟩, c4⟩, _⟩ := hSw; go_simp; (try with_reducible rfl)); simp only [Act.put, List.setIfInBounds_toArray, List.set_cons_zero, List.set_cons_succ]))
            refine SeqH.done ?_
            have hg := hS3.2
            clear hS3 DD
            go_wp2
            go_roundw
            case rel => exact ⟨q, by omega, rfl, by rw [HS2.out], hg⟩
            case measure => simp [intOf]
end Go.Proofs.YtmmmlcnclehilaaDoor
