/- TopBands returns true, whatever the two lists of runs and the change. -/
import Derived.Test.YtimpdmpfpbeflaaBand62
import Derived.Laws.AppendOwnNone
import Derived.Deep.CutRange
namespace Go.Proofs.Ytimpdmpfpbeflaa
open Go.RowKit

theorem cellsM_length : ∀ ms : List Bd.M, (cellsM ms).length = ms.length * 3
  | [] => rfl
  | m :: r => by simp [cellsM, mkC, cellsM_length r]; omega
theorem cellsM_one : ∀ ms : List Bd.M, ∀ u ∈ cellsM ms, u.oneCell' = true
  | [], u, h => by simp [cellsM] at h
  | m :: r, u, h => by
    rcases List.mem_append.1 h with h | h
    · exact mkC_one m u h
    · exact cellsM_one r u h
theorem OwnM.joined {base : Nat} {w : World} {v : Value} {a b : List Bd.M} (h : w.ownsRow base 35 3 v (a.length + b.length) (cellsM a ++ cellsM b)) : OwnM base w v (a ++ b) := by
  unfold OwnM
  rw [cellsM_append, List.length_append]
  exact h
/-- Marks are appended to a list that the call has made. -/
theorem wpList_append_marks {ops : Array Oper} {rest : List Oper} {o : Oper} {a : Act} {Q : Exit → Act → World → Prop} {w : World} (hw : Region.wanted o (yielded ops a.tmps) = true) (s x : Operand)
    (ho : o.op = .call { callee := .builtin .append, args := #[s, x], argTypes := #[69, 69] }) (base base2 : Nat) (v u : Value) (xs ys : List Bd.M) (hs : a.eval s = v) (hown : OwnM base w v xs) (hx : a.eval x = u) (hu : OwnM base2 w u ys)
    (hb : base ≤ w.heap.size) (hl : xs.length + ys.length ≤ 100000)
    (h : ∀ v' w', OwnM base w' v' (xs ++ ys) → Below base w w' → wpList Try.prog ops Q rest (a.put o.dst v') w') : wpList Try.prog ops Q (o :: rest) a w := by
  obtain ⟨i0, hi, hz0, hz1, hz2⟩ := info_parts infoMark
  unfold wpList
  rw [if_pos hw]
  refine .inl ?_
  rcases hu.form with ⟨rfl, rfl⟩ | ⟨g, cap, rfl, _, hg, hc, _, _⟩
  · have hrun := run_append_owned_none (P := Try.prog) (w := w) base 69 o.type 35 i0 3 Try.underlying69 hi v xs.length (cellsM xs) hown
    unfold Oper.wp
    simp [execOp, ho, resolve, invoke, builtin, hs, hx, hrun, Result.andThen]
    have := h v w (by rw [List.append_nil]; exact hown) (Below.refl _ _)
    exact this
  · refine wp_append_own w s x 69 ho base 35 i0 (.agg #[.int .i64 0, .int .i64 0, .int .i64 0]) 3 24 Try.underlying69 hi hz0 hz1 hz2 rfl (by decide) v xs.length (cellsM xs) hs hown ⟨g, 0, none⟩ ys.length cap (cellsM ys) hx (cellsM_length ys) (fun j z hj => ?_) (cellsM_one ys) (by unfold maxLen; omega) (by omega) hb (fun v' w' h1 h2 _ => h v' w' (OwnM.joined h1) ((Below.refl base w).grown h2 hb (fun j e => (World.ownsRow.lt hown j e).1)))
    have hj2 : j < ys.length * 3 := by
      rw [← cellsM_length ys]
      exact (List.getElem?_eq_some_iff.1 hj).1
    have := World.ownsRow.cellAt (show w.ownsRow base2 35 3 _ ys.length (cellsM ys) from hu) j hj2
    rw [hj] at this
    cases j <;> simpa [Addr.add] using this
/-- A part of a list of marks. -/
theorem mks_slice {base : Nat} {w : World} {g cap a b : Nat} {ms : List Bd.M} (h : OwnM base w (.slice (some ⟨g, 0, none⟩) ms.length cap) ms) (h1 : a ≤ b) (h2 : b ≤ ms.length) : Mks w (.slice (some ⟨g, a * 3, none⟩) (b - a) (cap - a)) ((ms.take b).drop a) := by
  refine ⟨_, _, by rw [show ((ms.take b).drop a).length = b - a by rw [List.length_drop, List.length_take]; omega], fun k hk => ?_⟩
  rw [List.length_drop, List.length_take] at hk
  rcases h.form with ⟨hf, _⟩ | ⟨g', cap', hf, _, hg, _, _, hk2⟩
  · cases hf
  · simp only [Value.slice.injEq, Option.some.injEq, Addr.mk.injEq, and_true, true_and] at hf
    obtain ⟨rfl, rfl⟩ := hf
    have := hk2 (a + k) (by omega)
    refine ⟨g, a * 3, rfl, hg, ?_⟩
    rw [show a * 3 + k * 3 = (a + k) * 3 by omega]
    simpa using this
theorem mks_none (w : World) (a : Option Addr) (c : Nat) : Mks w (.slice a 0 c) [] := ⟨a, c, rfl, fun k hk => by simp at hk⟩
theorem cellsM_setRk : ∀ (ms : List Bd.M) (k : Nat) (x : Bd.M), k < ms.length → (((cellsM ms).set (k * 3) (.int .i64 x.t)).set (k * 3 + 1) (.int .i64 x.s)).set (k * 3 + 2) (.int .i64 x.f) = cellsM (ms.set k x)
  | [], k, x, h => by simp at h
  | m :: b, 0, x, _ => rfl
  | m :: b, k + 1, x, h => by
    have ih := cellsM_setRk b k x (by simpa using h)
    have e : ∀ (l : List Value) (j : Nat) (u : Value), (mkC m ++ l).set ((k + 1) * 3 + j) u = mkC m ++ l.set (k * 3 + j) u := by
      intro l j u
      rw [List.set_append_right _ _ (by simp [mkC]; omega)]
      congr 2
      simp [mkC]; omega
    have e0 := fun l u => e l 0 u
    simp only [Nat.add_zero] at e0
    show (((mkC m ++ cellsM b).set ((k + 1) * 3) _).set ((k + 1) * 3 + 1) _).set ((k + 1) * 3 + 2) _ = mkC m ++ cellsM (b.set k x)
    rw [e0, e, e, ih]
theorem OwnM.setRk {base : Nat} {w : World} {g n cap : Nat} {ms : List Bd.M} (h : OwnM base w (.slice (some ⟨g, 0, none⟩) n cap) ms) (hn : ms.length = n) (k : Nat) (x : Bd.M) (hk : k < n) :
    OwnM base (((w.setCell ⟨g, k * 3, none⟩ (.int .i64 x.t)).setCell ⟨g, k * 3 + 1, none⟩ (.int .i64 x.s)).setCell ⟨g, k * 3 + 2, none⟩ (.int .i64 x.f)) (.slice (some ⟨g, 0, none⟩) n cap) (ms.set k x) := by
  subst hn
  have h1 := (World.ownsRow.stored h (k * 3) (.int .i64 x.t)).1
  have h2 := (World.ownsRow.stored h1 (k * 3 + 1) (.int .i64 x.s)).1
  have h3 := (World.ownsRow.stored h2 (k * 3 + 2) (.int .i64 x.f)).1
  rw [cellsM_setRk ms k x hk] at h3
  unfold OwnM
  rw [List.length_set]
  exact h3
/-- The marks while those of a patch are written over them. -/
def ovK (ms ps : List Bd.M) (f k : Nat) : List Bd.M := ms.take f ++ (ps.take k ++ ms.drop (f + k))
theorem ovK_zero (ms ps : List Bd.M) (f : Nat) : ovK ms ps f 0 = ms := by unfold ovK; simp
theorem ovK_len {ms ps : List Bd.M} {f k : Nat} (h : f + k ≤ ms.length) (hk : k ≤ ps.length) : (ovK ms ps f k).length = ms.length := by
  unfold ovK
  simp only [List.length_append, List.length_take, List.length_drop]
  omega
theorem ovK_set {ms ps : List Bd.M} {f k : Nat} (hk : k < ps.length) (h : f + k < ms.length) : (ovK ms ps f k).set (f + k) ps[k] = ovK ms ps f (k + 1) := by
  unfold ovK
  have e1 : (ms.take f).length = f := by rw [List.length_take]; omega
  have e2 : (ps.take k).length = k := by rw [List.length_take]; omega
  rw [List.set_append_right _ _ (by omega), List.set_append_right _ _ (by omega), e1, e2, show f + k - f - k = 0 by omega]
  rw [List.drop_eq_getElem_cons h, List.set_cons_zero, List.take_succ_eq_append_getElem hk, show f + (k + 1) = f + k + 1 by omega]
  simp only [List.append_assoc, List.singleton_append]
/-- The run at which the law looks. -/
def rsA : List Bd.R := [⟨7, ⟨1, 0, 0⟩⟩]
theorem runsA {W : World} {B : Nat} (h : BlockAt W B #[.int .i64 7, .int .i64 1, .int .i64 0, .int .i64 0] 68) : Runs W (.slice (some ⟨B, 0, none⟩) 1 1) rsA := by
  refine .inr ⟨B, 0, 1, rfl, by decide, h.lt, fun k hk => ?_⟩
  obtain rfl : k = 0 := by have : k < 1 := hk; omega
  exact ⟨h.cell 0, h.cell 1, h.cell 2, h.cell 3⟩

set_option maxRecDepth 20000 in
set_option maxHeartbeats 4000000 in
theorem topBands_walk (v u : Value) (rs qs : List Bd.R) (fr tt fl th : Int) (w : World) (hv : Runs w v rs) (hu : Runs w u qs) (r1 : -9223372036854775808 ≤ fr) (r2 : fr ≤ 9223372036854775807) :
    Calls Try.prog 15 #[v, u, .agg #[.int .i64 fr, .int .i64 tt, .int .i64 fl, .int .i64 th]] w fun e w' => e = .returned (.bool true) ∧ Below w.heap.size w w' := by
  have hw0 := below_alloc2 (below_alloc2 (Below.refl w.heap.size w) (.cells #[.int .i64 fr, .int .i64 tt, .int .i64 fl, .int .i64 th] 49)) (.cells #[.int .i64 7, .int .i64 1, .int .i64 0, .int .i64 0] 68)
  have bC := (BlockAt.new w #[.int .i64 fr, .int .i64 tt, .int .i64 fl, .int .i64 th] 49).alloc (.cells #[.int .i64 7, .int .i64 1, .int .i64 0, .int .i64 0] 68)
  have CA := Lib.hid (num_length_any _ rsA _ (runsA (BlockAt.new (w.alloc (.cells #[.int .i64 fr, .int .i64 tt, .int .i64 fl, .int .i64 th] 49)) #[.int .i64 7, .int .i64 1, .int .i64 0, .int .i64 0] 68)) (by decide))
  rw [show Bd.lenR rsA = 7 by decide +kernel, show Bd.valE rsA = 0 by decide +kernel] at CA
  simp only [World.size_alloc] at CA
  have H0 := Lib.hid (And.intro hw0 bC)
  have HV := Lib.hid (And.intro hv hu)
  clear hw0 bC
  by_cases hl : 100 < rs.length
  · have L := Lib.hid (fun W (hW : Below w.heap.size w W) => long_true v rs W (hv.all hW) hl)
    clear hv hu hl
    go_enter Try.func15, Try.ntmps15
    go_wp2_with fail
    refine CA.out.mono ?_
    rintro e w1 ⟨rfl, hb1⟩
    have HW1 := Lib.hid (H0.out.1.trans (hb1.mono (by omega)))
    go_wp2_with fail
    refine (L.out _ HW1.out).mono ?_
    rintro e w2 ⟨rfl, hb2⟩
    have h2 := below_step HW1.out hb2
    go_wp2
    go_ret
    exact ⟨rfl, h2⟩
  · have L := Lib.hid (fun W (hW : Below w.heap.size w W) => long_false v rs W (HV.out.1.all hW) (by omega))
    by_cases hl2 : 100 < qs.length
    · have L2 := Lib.hid (fun W (hW : Below w.heap.size w W) => long_true u qs W (HV.out.2.all hW) hl2)
      clear hv hu hl hl2
      go_enter Try.func15, Try.ntmps15
      go_wp2_with fail
      refine CA.out.mono ?_
      rintro e w1 ⟨rfl, hb1⟩
      have HW1 := Lib.hid (H0.out.1.trans (hb1.mono (by omega)))
      go_wp2_with fail
      refine (L.out _ HW1.out).mono ?_
      rintro e w2 ⟨rfl, hb2⟩
      have HW2 := Lib.hid (below_step HW1.out hb2)
      go_wp2_with fail
      refine (L2.out _ HW2.out).mono ?_
      rintro e w3 ⟨rfl, hb3⟩
      have h3 := below_step HW2.out hb3
      go_wp2
      go_ret
      exact ⟨rfl, h3⟩
    · have L2 := Lib.hid (fun W (hW : Below w.heap.size w W) => long_false u qs W (HV.out.2.all hW) (by omega))
      have l1 : rs.length ≤ 1000 := by omega
      have l2 : qs.length ≤ 1000 := by omega
      have hl500 : rs.length ≤ 500 ∧ qs.length ≤ 500 := by omega
      have LN1 := Lib.hid (fun W (hW : Below w.heap.size w W) => num_length_any v rs W (HV.out.1.all hW) l1)
      have LN2 := Lib.hid (fun W (hW : Below w.heap.size w W) => num_length_any u qs W (HV.out.2.all hW) l2)
      obtain ⟨va, vc, hvf⟩ := hv.form
      obtain ⟨ua, uc, huf⟩ := hu.form
      clear hv hu hl hl2
      subst hvf huf
      go_enter Try.func15, Try.ntmps15
      go_wp2_with fail
      refine CA.out.mono ?_
      rintro e w1 ⟨rfl, hb1⟩
      have HW1 := Lib.hid (And.intro (H0.out.1.trans (hb1.mono (by omega))) (H0.out.2.below hb1 (by omega)))
      clear hb1 CA H0
      go_wp2_with fail
      refine (L.out _ HW1.out.1).mono ?_
      rintro e w2 ⟨rfl, hb2⟩
      have HW2 := Lib.hid (below_step HW1.out.1 hb2)
      have HC2 := Lib.hid (HW1.out.2.below hb2 HW1.out.2.lt)
      clear hb2 L HW1
      go_wp2_with fail
      refine (L2.out _ HW2.out).mono ?_
      rintro e w3 ⟨rfl, hb3⟩
      have HW3 := Lib.hid (below_step HW2.out hb3)
      have HC3 := Lib.hid (HC2.out.below hb3 HC2.out.lt)
      clear hb3 L2 HW2 HC2
      go_wp2_with fail
      refine (LN1.out _ HW3.out).mono ?_
      rintro e w4 ⟨rfl, hb4⟩
      have HW4 := Lib.hid (below_step HW3.out hb4)
      have HC4 := Lib.hid (HC3.out.below hb4 HC3.out.lt)
      clear hb4 LN1 HW3 HC3
      go_wp2_with fail
      refine (LN2.out _ HW4.out).mono ?_
      rintro e w5 ⟨rfl, hb5⟩
      have HW5 := Lib.hid (below_step HW4.out hb5)
      have HC5 := Lib.hid (HC4.out.below hb5 HC4.out.lt)
      clear hb5 LN2 HW4 HC4
      generalize hn : Bd.lenR rs = n at *
      generalize hk : Bd.lenR qs = kk at *
      generalize hz1 : Bd.valE rs = z1 at *
      generalize hz2 : Bd.valE qs = z2 at *
      by_cases e1 : z1 = 0
      · by_cases e2 : z2 = 0
        · subst e1 e2
          by_cases e3 : 600 < n
          · have hd : decide (600 < n) = true := decide_eq_true e3
            go_wp2; go_ret; exact ⟨rfl, HW5.out⟩
          · have hd : decide (600 < n) = false := decide_eq_false e3
            by_cases e4 : 600 < kk
            · have hd2 : decide (600 < kk) = true := decide_eq_true e4
              go_wp2; go_ret; exact ⟨rfl, HW5.out⟩
            · have hd2 : decide (600 < kk) = false := decide_eq_false e4
              have hp1 := Bd.valE_pos hz1
              have hp2 := Bd.valE_pos hz2
              have hle1 := Bd.len_exp hp1
              have hle2 := Bd.len_exp hp2
              rw [Bd.lenR_zero hz1, hle1] at hn
              rw [Bd.lenR_zero hz2, hle2] at hk
              have HZ := Lib.hid (And.intro hz1 hz2)
              have M1 := Lib.hid (fun W (hW : Below w.heap.size w W) => top_marks_any _ rs W (HV.out.1.all hW) l1 hz1)
              have M2 := Lib.hid (fun W (hW : Below w.heap.size w W) => top_marks_any _ qs W (HV.out.2.all hW) l2 hz2)
              have hok := Bd.exp_okM hz1
              have HIS := Lib.hid (fun a b (h : Bd.sliE rs a b = 0) => Bd.is_sli h)
              have HIJ := Lib.hid (fun (h : Bd.joinE rs qs = 0) => Bd.is_join h)
              have HIR := Lib.hid (Bd.is_rev hz1)
              have HIO := Lib.hid (fun (h : Bd.ovE rs fr qs = 0) => Bd.is_ov h)
              have HAG := Lib.hid (Bd.agr_rev hz1)
              have HVO := Lib.hid (show Bd.volR rs = Bd.sumT (Bd.exp rs) by unfold Bd.volR; rw [if_pos hz1, Bd.vol_sumT hp1])
              clear hz1 hz2 hp1 hp2 hle1 hle2
              generalize Bd.exp rs = ms at *
              generalize Bd.exp qs = ps at *
              subst hn hk
              have hms : ms.length ≤ 600 := by omega
              have hps : ps.length ≤ 600 := by omega
              have HOK := Lib.hid hok
              clear hok e3 e4
              go_wp2_with fail
              refine (M1.out _ HW5.out).mono ?_
              rintro e w6 ⟨m, rfl, hm, hb6⟩
              have HW6 := Lib.hid (below_step HW5.out hb6)
              have HC6 := Lib.hid (HC5.out.below hb6 HC5.out.lt)
              have HM6 := Lib.hid (hm.lower HW5.out.size)
              clear hm hb6 HW5 HC5 M1
              go_wp2_with fail
              refine (M2.out _ HW6.out).mono ?_
              rintro e w7 ⟨p, rfl, hp, hb7⟩
              have HW7 := Lib.hid (below_step HW6.out hb7)
              have HC7 := Lib.hid (HC6.out.below hb7 HC6.out.lt)
              have HP7 := Lib.hid (hp.lower HW6.out.size)
              have HM7 := Lib.hid (HM6.out.all hb7)
              clear hp hb7 HW6 HC6 HM6 M2 hd hd2
              have c0 := HC7.out.cell 0
              have c1 := HC7.out.cell 1
              go_wp2_with fail
              refine (num_slice_any _ rs fr tt w7 (HV.out.1.all HW7.out) l1).mono ?_
              rintro e w8 ⟨x, rfl, hx, hb8⟩
              have HX8 := Lib.hid hx
              have HW8 := Lib.hid (below_step HW7.out hb8)
              have HC8 := Lib.hid (HC7.out.below hb8 HC7.out.lt)
              have HP8 := Lib.hid (HP7.out.all hb8)
              have HM8 := Lib.hid (HM7.out.all hb8)
              clear hx hb8 HW7 HC7 HM7 HP7 c0 c1
              go_upto_region 15 with fail
              generalize Value.agg #[.int .i64 fr, .int .i64 tt, .int .i64 fl, .int .i64 th] = v2
              generalize Value.int .i64 fr = vf
              generalize Value.int .i64 tt = vt
              generalize h9 : Value.int .i64 ((ms.length : Nat) : Int) = v9
              have H9 := Lib.hid h9
              clear h9
              generalize hE : Bd.sliE rs fr tt = E at *
              have HEz := Lib.hid hE
              clear hE
              go_cut [116] from 116 to 116 (fun s X => s = .bool false ∧ Hid (Below w8.heap.size w8 X))
              case first =>
                by_cases hE : E = 0
                · subst hE
                  have hs := HEz.out
                  clear HEz
                  obtain ⟨⟨i1, i2, i3⟩, j1, j2, j3⟩ := HIS.out fr tt hs
                  have hxl : (Bd.sliR rs fr tt).length ≤ 1000 := Nat.le_trans (Bd.sliR_length rs fr tt) l1
                  have c0 := HC8.out.cell 0
                  have c1 := HC8.out.cell 1
                  obtain ⟨a, rfl⟩ : ∃ a : Nat, fr = (a : Int) := ⟨fr.toNat, by omega⟩
                  obtain ⟨b, rfl⟩ : ∃ b : Nat, tt = (b : Int) := ⟨tt.toNat, by omega⟩
                  simp only [Int.toNat_natCast] at i3
                  have ja : a ≤ b := by omega
                  have jb : b ≤ ms.length := by omega
                  have SM := Lib.hid (fun y W hW hy => same_marks_any x y (Bd.sliR rs a b) ((ms.take b).drop a) W (HX8.out.runs.all hW) hy hxl i1 i2 i3)
                  clear i1 i2 i3 HIS hs
                  rcases HM8.out.form with ⟨rfl, h0⟩ | ⟨g, cap, rfl, _, hg, hc, _, _⟩
                  · have a0 : a = 0 := by rw [h0] at jb; simp at jb; omega
                    have b0 : b = 0 := by rw [h0] at jb; simp at jb; omega
                    subst a0 b0
                    clear h0
                    go_wp2_with fail
                    refine (SM.out _ w8 (Below.refl _ _) (by simpa using mks_none w8 none 0)).mono ?_
                    rintro e w9 ⟨rfl, hb9⟩
                    have HB := Lib.hid hb9
                    clear hb9 SM
                    go_wp2
                    go_meet
                    exact ⟨rfl, HB⟩
                  · by_cases hcf : cap = a
                    · subst hcf
                      have HMK := Lib.hid (show Mks w8 (.slice (some ⟨g, 0, none⟩) (b - cap) 0) ((ms.take b).drop cap) by
                        have e1 : b - cap = 0 := by omega
                        have e2 : (ms.take b).drop cap = [] := by apply List.drop_of_length_le; rw [List.length_take]; omega
                        rw [e1, e2]; exact mks_none _ _ _)
                      go_wp2_with fail
                      refine (SM.out _ w8 (Below.refl _ _) HMK.out).mono ?_
                      rintro e w9 ⟨rfl, hb9⟩
                      have HB := Lib.hid hb9
                      clear hb9 SM
                      go_wp2
                      go_meet
                      exact ⟨rfl, HB⟩
                    · have HMK := Lib.hid (mks_slice HM8.out ja jb)
                      go_wp2_with fail
                      refine (SM.out _ w8 (Below.refl _ _) HMK.out).mono ?_
                      rintro e w9 ⟨rfl, hb9⟩
                      have HB := Lib.hid hb9
                      clear hb9 SM
                      go_wp2
                      go_meet
                      exact ⟨rfl, HB⟩
                · have hd : (E == 0) = false := by simpa using hE
                  go_wp2
                  go_meet
                  exact ⟨rfl, Lib.hid (Below.refl _ _)⟩
              case rest =>
                obtain ⟨rfl, hcut⟩ := hcut
                have HW9 := Lib.hid (below_step HW8.out hcut.out)
                have HC9 := Lib.hid (HC8.out.below hcut.out HC8.out.lt)
                have HP9 := Lib.hid (HP8.out.all hcut.out)
                have HM9 := Lib.hid (HM8.out.all hcut.out)
                have h9 := H9.out
                subst h9
                clear hcut HW8 HC8 HP8 HM8 HX8 HIS H9
                go_wp2_with fail
                refine (num_join_any _ _ rs qs wc (HV.out.1.all HW9.out) (HV.out.2.all HW9.out) hl500.1 hl500.2).mono ?_
                rintro e w10 ⟨y, rfl, hy, hb10⟩
                have HY10 := Lib.hid hy
                have HW10 := Lib.hid (below_step HW9.out hb10)
                have HC10 := Lib.hid (HC9.out.below hb10 HC9.out.lt)
                have HP10 := Lib.hid (HP9.out.all hb10)
                have HM10 := Lib.hid (HM9.out.all hb10)
                clear hy hb10 HW9 HC9 HP9 HM9
                go_upto_region 18 with fail
                generalize hE2 : Bd.joinE rs qs = E2 at *
                have HEz2 := Lib.hid hE2
                clear hE2
                go_cut [134] from 134 to 134 (fun s X => s = .bool false ∧ Hid (Below w10.heap.size w10 X))
                case first =>
                  by_cases hj : E2 = 0
                  · subst hj
                    obtain ⟨i1, i2, i3⟩ := HIJ.out rfl
                    have hjl : (Bd.joinR rs qs).length ≤ 1000 := by have := (Bd.valE_zero i1).1; omega
                    have SM := Lib.hid (fun z W (hW : Below w10.heap.size w10 W) hz => same_marks_any y z (Bd.joinR rs qs) (ms ++ ps) W (HY10.out.runs.all hW) hz hjl i1 i2 i3)
                    have hown : OwnM w10.heap.size (w10.alloc (.cells #[] 35)) (.slice (some ⟨w10.heap.size, 0, none⟩) 0 0) [] := World.ownsRow_made (base := w10.heap.size) (e := 35) (size := 3) w10 #[] 0 (Nat.le_refl _) (by unfold maxLen; omega) rfl
                    have hba := below_alloc2 (Below.refl w10.heap.size w10) (.cells #[] 35)
                    have HO := Lib.hid (And.intro hown hba)
                    clear hown hba
                    clear i1 i2 i3 HIJ
                    go_wp2_with (at_builtin; refine wpList_append_marks (by rfl) _ _ rfl w10.heap.size _ _ _ [] ms rfl HO.out.1 rfl (HM10.out.alloc _) HO.out.2.size (by simp; omega) ?_)
                    intro v1 w11 hv1 hb11
                    have HO1 := Lib.hid (And.intro (show OwnM w10.heap.size w11 v1 ms from hv1) (HO.out.2.trans hb11))
                    have HPx := Lib.hid ((HP10.out.alloc (.cells #[] 35)))
                    clear hv1 hb11
                    go_wp2_with (at_builtin; refine wpList_append_marks (by rfl) _ _ rfl w10.heap.size _ _ _ ms ps rfl HO1.out.1 rfl (HP10.out.all HO1.out.2) HO1.out.2.size (by omega) ?_)
                    intro v2' w12 hv2 hb12
                    have HO2 := Lib.hid (And.intro hv2 (HO1.out.2.trans hb12))
                    clear hv2 hb12 HO1 HO HPx
                    go_wp2_with fail
                    refine (SM.out v2' w12 HO2.out.2 HO2.out.1.mks).mono ?_
                    rintro e w13 ⟨rfl, hb13⟩
                    have HB := Lib.hid (below_step HO2.out.2 hb13)
                    clear hb13 SM HO2
                    go_wp2
                    go_meet
                    exact ⟨rfl, HB⟩
                  · have hd : (E2 == 0) = false := by simpa using hj
                    go_wp2
                    go_meet
                    exact ⟨rfl, Lib.hid (Below.refl _ _)⟩
                case rest =>
                  obtain ⟨rfl, hcut⟩ := hcut
                  have HWa := Lib.hid (below_step HW10.out hcut.out)
                  have HCa := Lib.hid (HC10.out.below hcut.out HC10.out.lt)
                  have HPa := Lib.hid (HP10.out.all hcut.out)
                  have HMa := Lib.hid (HM10.out.all hcut.out)
                  clear hcut HW10 HC10 HP10 HM10 HY10 HIJ
                  have hrl : (Bd.revR rs).length ≤ 1000 := by have := (Bd.valE_zero HIR.out.1).1; omega
                  have hrv := num_reverse_any _ rs wc (HV.out.1.all HWa.out) l1
                  rw [HZ.out.1] at hrv
                  have RV := Lib.hid hrv
                  clear hrv
                  go_wp2_with fail
                  refine RV.out.mono ?_
                  rintro e w20 ⟨y, rfl, hy, hb20⟩
                  have HY := Lib.hid hy
                  have HWb := Lib.hid (below_step HWa.out hb20)
                  have HCb := Lib.hid (HCa.out.below hb20 HCa.out.lt)
                  have HPb := Lib.hid (HPa.out.all hb20)
                  have HMb := Lib.hid (HMa.out.all hb20)
                  clear hy hb20 HWa HCa HPa HMa RV
                  obtain ⟨ma, mc, rfl, hmk⟩ := HMb.out.mks
                  have HMK := Lib.hid hmk
                  clear hmk
                  have hi0x := info_parts infoMark
                  obtain ⟨i0, hi, hz0, hz1, hz2⟩ := hi0x
                  go_wp2
                  go_loopw [22, 23, 24] (fun s vv t wr => ∃ (k : Nat) (V : Int), k ≤ ms.length ∧ vv = .int .i64 V ∧ t = .int .i64 k ∧ Hid (V = Bd.sumT (ms.take k) ∧ OwnM w20.heap.size wr s (ms.reverse.take k) ∧ Below w20.heap.size w20 wr)) (fun _ _ t _ => ms.length - (intOf t).toNat)
                  case atStart => exact ⟨0, 0, Nat.zero_le _, rfl, rfl, Lib.hid ⟨rfl, OwnM.nil _ _, Below.refl _ _⟩⟩
                  case round =>
                    obtain ⟨k, V, hk, rfl, rfl, hg⟩ := hrel
                    by_cases hlt : k < ms.length
                    · obtain ⟨j, hj⟩ : ∃ j : Nat, j = ms.length - 1 - k := ⟨_, rfl⟩
                      have hjl : j < ms.length := by omega
                      obtain ⟨gb, go, rfl, hgb, hmj⟩ := HMK.out j hjl
                      obtain ⟨gb2, go2, he, _, hmk⟩ := HMK.out k hlt
                      simp only [Option.some.injEq, Addr.mk.injEq, and_true] at he
                      obtain ⟨rfl, rfl⟩ := he
                      have hbd := Bd.sumT_bd HOK.out k (by omega)
                      have hokk := HOK.out ms[k] (List.getElem_mem hlt)
                      simp only [Bd.okM, Bool.and_eq_true, decide_eq_true_eq] at hokk
                      have hVb : 0 ≤ V ∧ V ≤ 600000 := by rw [hg.out.1]; omega
                      have HVN := Lib.hid (show V + ms[k].t = Bd.sumT (ms.take (k + 1)) by rw [Bd.sumT_take hlt, hg.out.1])
                      have HRN := Lib.hid (show ms.reverse.take (k + 1) = ms.reverse.take k ++ [ms[j]] by
                        rw [List.take_succ_eq_append_getElem (by simpa using hlt), List.getElem_reverse]; simp only [hj])
                      have hrl2 : (ms.reverse.take k).length ≤ 600 := by rw [List.length_take, List.length_reverse]; omega
                      have hb3 := hg.out.2.2
                      obtain ⟨d0, d1, d2⟩ := hmj.below hb3 hgb
                      have hown := hg.out.2.1.alloc (.cells #[.int .i64 ms[j].t, .int .i64 ms[j].s, .int .i64 ms[j].f] 35)
                      have hba := below_alloc2 hb3 (.cells #[.int .i64 ms[j].t, .int .i64 ms[j].s, .int .i64 ms[j].f] 35)
                      have htk : 1 ≤ ms[k].t ∧ ms[k].t ≤ 1000 := by omega
                      have HKT := Lib.hid (And.intro hmk.1 (And.intro hgb hgb))
                      generalize ms[j] = mj at *
                      generalize ms[k].t = tk at *
                      generalize ms.reverse.take k = rq at *
                      have hca := mkC_at wr mj 35
                      have hj2 : (ms.length : Int) - 1 - (k : Int) = (j : Int) := by omega
                      have hw1 := IntWalk.i64_in ((ms.length : Int) - 1) (by omega)
                      have hw2 := IntWalk.i64_in (j : Int) (by omega)
                      have hw3 := IntWalk.i64_in (V + tk) (by omega)
                      have hjI : (j : Int) < (ms.length : Int) := by omega
                      have HJ := Lib.hid hj
                      clear hj hbd hokk hg hmj hmk
                      go_wp2_with (at_builtin; refine wpList_append_own _ rfl _ _ 69 rfl w20.heap.size 35 i0 (.agg #[.int .i64 0, .int .i64 0, .int .i64 0]) 3 24 Try.underlying69 hi hz0 hz1 hz2 rfl (by decide) _ _ _ rfl hown ⟨wr.heap.size, 0, none⟩ 1 1 (mkC mj) rfl rfl hca (mkC_one _) (by unfold maxLen; omega) (by omega) hba.size ?_; intro v' w21 hown3 hgrow _; have hw4 := hba.grown hgrow hba.size (fun j e => (World.ownsRow.lt hown j e).1); have HN := Lib.hid (And.intro (OwnM.pushed hown3) hw4); clear hown3 hgrow hown hba hca hb3 d0 d1 d2 hj2 hjI hw4; have d0 := (HN.out.2.cell (p := ⟨gb, go + k * 3, none⟩) HKT.out.2.1).trans HKT.out.1)
                      go_roundw
                      case rel => exact ⟨k + 1, V + tk, by omega, rfl, by go_num, Lib.hid ⟨HVN.out, by rw [HRN.out]; exact HN.out.1, HN.out.2⟩⟩
                      case measure => simp [intOf]; omega
                    · obtain rfl : k = ms.length := by omega
                      have hV := hg.out.1
                      rw [List.take_length] at hV
                      have hT := hg.out.2.1
                      rw [List.take_of_length_le (by simp)] at hT
                      have HT := Lib.hid hT
                      have HV2 := Lib.hid hV
                      have hb3 := hg.out.2.2
                      have HWc := Lib.hid (below_step HWb.out hb3)
                      have HCc := Lib.hid (HCb.out.below hb3 HCb.out.lt)
                      have HPc := Lib.hid (HPb.out.all hb3)
                      have HMc := Lib.hid (HMb.out.all hb3)
                      have HYc := Lib.hid (HY.out.all hb3)
                      have SM := Lib.hid (same_marks_any y u22 (Bd.revR rs) ms.reverse wr (HYc.out.runs) hT.mks hrl HIR.out.1 HIR.out.2.1 HIR.out.2.2)
                      clear hg hV hT hb3 HWb HCb HPb HMb HY HMK
                      go_wp2_with fail
                      refine SM.out.mono ?_
                      rintro e w22 ⟨rfl, hb⟩
                      have HWd := Lib.hid (below_step HWc.out hb)
                      have HCd := Lib.hid (HCc.out.below hb HCc.out.lt)
                      have HPd := Lib.hid (HPc.out.all hb)
                      have HMd := Lib.hid (HMc.out.all hb)
                      have HYd := Lib.hid (HYc.out.all hb)
                      have HTd := Lib.hid (HT.out.all hb)
                      clear hb HWc HCc HPc HMc HYc HT SM
                      have VO := Lib.hid (num_volume_any _ rs w22 (HV.out.1.all HWd.out) l1)
                      rw [HVO.out, HZ.out.1, ← HV2.out] at VO
                      have q0 : (V != V) = false := by simp
                      go_wp2_with fail
                      refine VO.out.mono ?_
                      rintro e w23 ⟨rfl, hb⟩
                      have HWe := Lib.hid (below_step HWd.out hb)
                      have HCe := Lib.hid (HCd.out.below hb HCd.out.lt)
                      have HPe := Lib.hid (HPd.out.all hb)
                      have HMe := Lib.hid (HMd.out.all hb)
                      have HYe := Lib.hid (HYd.out.all hb)
                      have HTe := Lib.hid (HTd.out.all hb)
                      clear hb HWd HCd HPd HMd HYd HTd VO
                      have c0 := HCe.out.cell 0
                      go_wp2_with fail
                      refine (num_over_any _ _ rs qs fr w23 (HV.out.1.all HWe.out) (HV.out.2.all HWe.out) l1 l2 r1 r2).mono ?_
                      rintro e w24 ⟨z, rfl, hz, hb⟩
                      have HZZ := Lib.hid hz
                      have HWf := Lib.hid (below_step HWe.out hb)
                      have HCf := Lib.hid (HCe.out.below hb HCe.out.lt)
                      have HPf := Lib.hid (HPe.out.all hb)
                      have HMf := Lib.hid (HMe.out.all hb)
                      have HYf := Lib.hid (HYe.out.all hb)
                      have HTf := Lib.hid (HTe.out.all hb)
                      clear hb hz HWe HCe HPe HMe HYe HTe c0 q0
                      go_upto_if 191 with fail
                      generalize Value.int .i64 fr = vf2
                      generalize hE3 : Bd.ovE rs fr qs = E3 at *
                      have HEz3 := Lib.hid hE3
                      clear hE3
                      go_cut [] from 191 to 191 (fun X => Hid (Below w24.heap.size w24 X))
                      case first =>
                        by_cases hov : E3 = 0
                        · subst hov
                          obtain ⟨⟨i1, i2, i3⟩, ⟨f1, f2⟩, _, _⟩ := HIO.out rfl
                          obtain ⟨fd1, fd2, fd3⟩ := Bd.ov_found HEz3.out
                          have hzl : (Bd.ovR rs fr qs).length ≤ 1000 := by have := (Bd.valE_zero i1).1; omega
                          have FD := Lib.hid (fun W (hW : Below w24.heap.size w24 W) => num_find_any z _ (Bd.ovR rs fr qs) qs W (HZZ.out.runs.all hW) (HV.out.2.all (below_step HWf.out hW)) hzl l2)
                          rw [fd1, fd2] at FD
                          have SM := Lib.hid (fun y W (hW : Below w24.heap.size w24 W) hy => same_marks_any z y (Bd.ovR rs fr qs) (Bd.ovM ms ps fr.toNat) W (HZZ.out.runs.all hW) hy hzl i1 i2 i3)
                          have c0 := HCf.out.cell 0
                          generalize Bd.finV (Bd.ovR rs fr qs) qs = at' at *
                          clear i1 i2 i3 fd1 fd2 HIO HEz3
                          obtain ⟨f, rfl⟩ : ∃ f : Nat, fr = (f : Int) := ⟨fr.toNat, by omega⟩
                          simp only [Int.toNat_natCast] at SM
                          have hfl : f + ps.length ≤ ms.length := by omega
                          have hdat : decide ((f : Int) < at') = false := decide_eq_false (by omega)
                          obtain ⟨pa, pc, rfl, hpk⟩ := HPf.out.mks
                          have HPK := Lib.hid hpk
                          have hown : OwnM w24.heap.size (w24.alloc (.cells #[] 35)) (.slice (some ⟨w24.heap.size, 0, none⟩) 0 0) [] := World.ownsRow_made (base := w24.heap.size) (e := 35) (size := 3) w24 #[] 0 (Nat.le_refl _) (by unfold maxLen; omega) rfl
                          have hba := below_alloc2 (Below.refl w24.heap.size w24) (.cells #[] 35)
                          have HO := Lib.hid (And.intro hown hba)
                          clear hown hba hpk
                          go_wp2_with (at_builtin; refine wpList_append_marks (by rfl) _ _ rfl w24.heap.size _ _ _ [] ms rfl HO.out.1 rfl (HMf.out.alloc _) HO.out.2.size (by simp; omega) ?_)
                          intro v1 w31 hv1 hb31
                          have HOV := Lib.hid (And.intro (show OwnM w24.heap.size w31 v1 (ovK ms ps f 0) by rw [ovK_zero]; exact hv1) (HO.out.2.trans hb31))
                          clear hv1 hb31 HO
                          go_wp2
                          go_loopw [30] (fun t wr => ∃ k : Nat, k ≤ ps.length ∧ t = .int .i64 k ∧ Hid (OwnM w24.heap.size wr v1 (ovK ms ps f k) ∧ Below w24.heap.size w24 wr)) (fun t _ => ps.length - (intOf t).toNat)
                          case atStart => exact ⟨0, Nat.zero_le _, rfl, HOV⟩
                          case round =>
                            obtain ⟨k, hk, rfl, hg⟩ := hrel
                            clear HOV
                            by_cases hlt : k < ps.length
                            · have hlk := ovK_len (ms := ms) (ps := ps) (f := f) (k := k) (by omega) hk
                              rcases hg.out.1.form with ⟨_, h0⟩ | ⟨g, cap, hvf, hgb, hgl, hcap, hfz, hck⟩
                              · exfalso
                                have h1 : (ovK ms ps f k).length = 0 := by rw [h0]; rfl
                                omega
                              · rw [hlk] at hvf hcap
                                subst hvf
                                obtain ⟨pb, poff, rfl, hpb, hmk⟩ := HPK.out k hlt
                                obtain ⟨d0, d1, d2⟩ := hmk.below hg.out.2 hpb
                                obtain ⟨q, hq⟩ : ∃ q : Nat, q = f + k := ⟨_, rfl⟩
                                have hq2 : (f : Int) + (k : Int) = (q : Int) := by omega
                                have hw := IntWalk.i64_in (q : Int) (by omega)
                                have hqN : q < ms.length := by omega
                                have hqI : (q : Int) < (ms.length : Int) := by omega
                                have hkI : (k : Int) < (ps.length : Int) := by omega
                                obtain ⟨mo, y0, y1, y2⟩ : ∃ mo : Bd.M, MkAt wr g (q * 3) mo := ⟨_, hck q (by omega)⟩
                                have HSET := Lib.hid (ovK_set (ms := ms) (ps := ps) (f := f) (k := k) hlt (by omega))
                                rw [← hq] at HSET
                                have cF := (hg.out.2.cell (p := ⟨w.heap.size, 0, none⟩) HCf.out.lt).trans c0
                                have z0 := hfz (q * 3)
                                have z1 := hfz (q * 3 + 1)
                                have z2 := hfz (q * 3 + 2)
                                have HG := Lib.hid (And.intro hg.out (And.intro hgb hlk))
                                have HQ := Lib.hid hq
                                generalize ps[k] = mp at *
                                clear hmk hg hq hpb hfz hlk hck
                                go_wp2
                                go_region
                                have hst := HG.out.1.1.setRk HG.out.2.2 q mp hqN
                                have hwn := ((HG.out.1.2.setCell (p := ⟨g, q * 3, none⟩) HG.out.2.1 (.int .i64 mp.t)).setCell (p := ⟨g, q * 3 + 1, none⟩) HG.out.2.1 (.int .i64 mp.s)).setCell (p := ⟨g, q * 3 + 2, none⟩) HG.out.2.1 (.int .i64 mp.f)
                                have HNN := Lib.hid (And.intro hst hwn)
                                clear hst hwn
                                go_wp2
                                go_roundw
                                case rel => exact ⟨k + 1, by omega, by go_num, Lib.hid ⟨by rw [← HSET.out]; exact HNN.out.1, HNN.out.2.drew⟩⟩
                                case measure => simp [intOf]; omega
                            · obtain rfl : k = ps.length := by omega
                              have hov2 : ovK ms ps f ps.length = Bd.ovM ms ps f := by unfold ovK Bd.ovM; rw [List.take_length]
                              have HFO := Lib.hid (show OwnM w24.heap.size wr v1 (Bd.ovM ms ps f) by rw [← hov2]; exact hg.out.1)
                              have HFB := Lib.hid hg.out.2
                              clear hg hov2 HPK
                              go_wp2_with fail
                              refine (FD.out _ HFB.out).mono ?_
                              rintro e w41 ⟨rfl, hb⟩
                              have HFO := Lib.hid (HFO.out.all hb)
                              have HFB := Lib.hid (HFB.out.trans (hb.mono HFB.out.size))
                              clear hb FD
                              go_wp2_with fail
                              refine (SM.out v1 _ HFB.out HFO.out.mks).mono ?_
                              rintro e w42 ⟨rfl, hb⟩
                              have HFB := Lib.hid (HFB.out.trans (hb.mono HFB.out.size))
                              have cF := (HFB.out.cell (p := ⟨w.heap.size, 0, none⟩) HCf.out.lt).trans c0
                              clear hb SM HFO c0
                              go_wp2
                              go_meet
                              exact HFB
                        · have hd : (E3 == 0) = false := by simpa using hov
                          go_wp2
                          go_meet
                          exact Lib.hid (Below.refl _ _)
                      case rest =>
                        have HWg := Lib.hid (below_step HWf.out hcut.out)
                        have HMg := Lib.hid (HMf.out.all hcut.out)
                        have HYg := Lib.hid (HYf.out.all hcut.out)
                        have HTg := Lib.hid (HTf.out.all hcut.out)
                        obtain ⟨a, a1, a2, a3, a4, a5⟩ := HAG.out
                        have AG := num_agree_any _ y rs (Bd.revR rs) wc (HV.out.1.all HWg.out) (HYg.out.runs) l1 hrl
                        rw [a1, a2] at AG
                        have AG := Lib.hid AG
                        have hT' : ∃ ta tc, u22 = .slice ta ms.length tc ∧ ∀ k (hk : k < ms.length), ∃ b off, ta = some ⟨b, off, none⟩ ∧ b < wc.heap.size ∧ MkAt wc b (off + k * 3) (ms.reverse[k]'(by simpa using hk)) := by
                          obtain ⟨ta, tc, h1, h2⟩ := HTg.out.mks
                          exact ⟨ta, tc, by rw [h1, List.length_reverse], fun k hk => h2 k (by simpa using hk)⟩
                        obtain ⟨ta, tc, rfl, htk⟩ := hT'
                        have hM' : ∀ k (hk : k < ms.length), ∃ b off, ma = some ⟨b, off, none⟩ ∧ b < wc.heap.size ∧ MkAt wc b (off + k * 3) ms[k] := by
                          obtain ⟨ta, tc, h1, h2⟩ := HMg.out.mks
                          simp only [Value.slice.injEq, true_and] at h1
                          obtain ⟨rfl, rfl⟩ := h1
                          exact h2
                        have HTK := Lib.hid htk
                        have HMK := Lib.hid hM'
                        have HA4 := Lib.hid (And.intro a4 a5)
                        obtain ⟨ya, yc, rfl⟩ := HYg.out.runs.form
                        clear a1 a2 a4 a5 htk hM' hcut HTf HYf HMf HWf HCf HPf HAG HIO HZZ HTg HMg
                        go_wp2_with fail
                        refine AG.out.mono ?_
                        rintro e w30 ⟨rfl, hb⟩
                        have HWh := Lib.hid (below_step HWg.out hb)
                        have HB30 := Lib.hid hb
                        clear hb AG HYg
                        go_wp2
                        go_loopw [35] (fun t wr => ∃ k : Nat, k ≤ a ∧ t = .int .i64 k ∧ Hid (Below w30.heap.size w30 wr)) (fun t _ => a - (intOf t).toNat)
                        case atStart => exact ⟨0, Nat.zero_le _, rfl, Lib.hid (Below.refl _ _)⟩
                        case round =>
                          obtain ⟨k, hk, rfl, hg⟩ := hrel
                          by_cases hlt : k < a
                          · have hkm : k < ms.length := by omega
                            obtain ⟨b1, o1, rfl, hb1, hm1⟩ := HMK.out k hkm
                            obtain ⟨b2, o2, rfl, hb2, hm2⟩ := HTK.out k hkm
                            have hbb := HB30.out.trans (hg.out.mono HB30.out.size)
                            obtain ⟨c0, c1, c2⟩ := hm1.below hbb hb1
                            obtain ⟨d0, d1, d2⟩ := hm2.below hbb hb2
                            have he : ms.reverse[k]'(by simpa using hkm) = ms[k] := by
                              have := HA4.out.1 k hlt
                              rw [List.getElem?_eq_getElem hkm, List.getElem?_eq_getElem (by simpa using hkm)] at this
                              exact (Option.some.inj this).symm
                            rw [he] at d0 d1 d2
                            generalize ms[k] = m at *
                            have q1 : (m.t != m.t) = false := by simp
                            have q2 : (m.s != m.s) = false := by simp
                            have q3 : (m.f != m.f) = false := by simp
                            have q4 : (m.t == m.t) = true := by simp
                            have q5 : (m.s == m.s) = true := by simp
                            have q6 : (m.f == m.f) = true := by simp
                            have hkI : (k : Int) < (ms.length : Int) := by omega
                            clear hm1 hm2 hb1 hb2 he hbb
                            go_wp2
                            go_quiet (fail)
                            go_wp2
                            go_roundw
                            case rel => exact ⟨k + 1, by omega, by go_num, Lib.hid (below_drewN hg.out _)⟩
                            case measure => simp [intOf]; omega
                          · obtain rfl : k = a := by omega
                            have HF := Lib.hid (below_step HWh.out hg.out)
                            have hbb := HB30.out.trans (hg.out.mono HB30.out.size)
                            by_cases hal : k = ms.length
                            · have hq : ((k : Int) == (ms.length : Int)) = true := by simp; omega
                              clear hg hal hbb
                              go_wp2
                              go_quiet (fail)
                              go_wp2
                              go_ret
                              exact ⟨rfl, below_drewN HF.out _⟩
                            · have hq : ((k : Int) == (ms.length : Int)) = false := by simp; omega
                              have hkm : k < ms.length := by omega
                              have hkI : (k : Int) < (ms.length : Int) := by omega
                              obtain ⟨b1, o1, rfl, hb1, hm1⟩ := HMK.out k hkm
                              obtain ⟨b2, o2, rfl, hb2, hm2⟩ := HTK.out k hkm
                              obtain ⟨c0, c1, c2⟩ := hm1.below hbb hb1
                              obtain ⟨d0, d1, d2⟩ := hm2.below hbb hb2
                              have hne : ms[k] ≠ ms.reverse[k]'(by simpa using hkm) := fun he => HA4.out.2 hkm (by rw [List.getElem?_eq_getElem hkm, List.getElem?_eq_getElem (by simpa using hkm), he])
                              generalize ms[k] = m at *
                              generalize ms.reverse[k]'(by simpa using hkm) = n at *
                              rcases m_ne hne with e1 | ⟨e1, e2⟩ | ⟨e1, e2, e3⟩
                              all_goals
                                clear hg hal hbb hne hm1 hm2
                                go_wp2
                                go_quiet (fail)
                                go_wp2
                                go_ret
                                exact ⟨rfl, below_drewN HF.out _⟩
        · have hne : (z2 != 0) = true := by simpa using e2
          subst e1
          go_wp2; go_ret; exact ⟨rfl, HW5.out⟩
      · have hne : (z1 != 0) = true := by simpa using e1
        go_wp2; go_ret; exact ⟨rfl, HW5.out⟩
end Go.Proofs.Ytimpdmpfpbeflaa
