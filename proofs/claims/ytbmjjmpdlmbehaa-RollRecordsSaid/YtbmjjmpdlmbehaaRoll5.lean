/- Whether an article can be cut at a place: of the reference, place by place. -/
import Derived.Test.YtbmjjmpdlmbehaaRoll4
import Derived.Deep.QuietTactic
import Derived.BigQuiet
import Derived.Deep.Cut
namespace Go.Proofs.Ytbmjjmpdlmbehaa
open Go.RowKit

theorem Ro.fitX_in {ms : List Bd.M} {al : List Ro.A} {k : Nat} (hk : k < al.length) (f : Int) : Ro.fitX ms al ⟨f, k⟩ = Ro.fit ms al[k] f := by
  unfold Ro.fitX
  rw [decide_eq_true (show (0 : Int) ≤ k by omega), decide_eq_true (show (k : Int) < al.length by omega)]
  simp [hk]
theorem Ro.fitX_out {ms : List Bd.M} {al : List Ro.A} {x : Ro.X} (h : x.a < 0 ∨ al.length ≤ x.a) : Ro.fitX ms al x = false := by
  unfold Ro.fitX
  rcases h with h | h
  · rw [decide_eq_false (by omega : ¬ 0 ≤ x.a)]; rfl
  · rw [decide_eq_false (by omega : ¬ x.a < al.length)]; simp
theorem Ro.fit_out {ms : List Bd.M} {a : Ro.A} {f : Int} (h : f < 0 ∨ (ms.length : Int) - a.l < f) : Ro.fit ms a f = false := by
  apply Bool.eq_false_iff.2
  intro hc
  have := Ro.fit_iff.1 hc
  omega
theorem Ro.fit_miss {ms : List Bd.M} {a : Ro.A} {f : Nat} {j : Nat} (hj : (j : Int) < a.l) (hm : f + j < ms.length) (h : Bd.holds a.la a.mo a.sh a.fl ms[f + j] = false) : Ro.fit ms a f = false := by
  apply Bool.eq_false_iff.2
  intro hc
  have := (Ro.fit_iff.1 hc).2.2 j hj
  rw [Int.toNat_natCast] at this
  unfold Ro.hd Ro.mk at this
  rw [List.getD_eq_getElem?_getD, List.getElem?_eq_getElem hm, Option.getD_some, h] at this
  cases this
theorem Ro.fit_all {ms : List Bd.M} {a : Ro.A} {f : Nat} (hl : (f : Int) + a.l ≤ ms.length) (h : ∀ j : Nat, (j : Int) < a.l → ∀ hm : f + j < ms.length, Bd.holds a.la a.mo a.sh a.fl ms[f + j] = true) : Ro.fit ms a f = true := by
  refine Ro.fit_iff.2 ⟨by omega, hl, fun j hj => ?_⟩
  have hm : f + j < ms.length := by omega
  rw [Int.toNat_natCast]
  unfold Ro.hd Ro.mk
  rw [List.getD_eq_getElem?_getD, List.getElem?_eq_getElem hm, Option.getD_some]
  exact h j hj hm
abbrev PcT : TypeId := 31
def FitS (bx : Nat) (x : Ro.X) (b off : Nat) (a : Ro.A) (mb mo : Nat) (m : Bd.M) (W : World) : Prop := (BlockAt W bx #[.int .i64 x.f, .int .i64 x.a] PcT ∧ ArtAt W b off a ∧ MkAt W mb mo m) ∧ b < W.heap.size ∧ mb < W.heap.size
theorem FitS.below {bx : Nat} {x : Ro.X} {b off : Nat} {a : Ro.A} {mb mo : Nat} {m : Bd.M} {W W2 : World} (h : FitS bx x b off a mb mo m W) (hb : Below W.heap.size W W2) : FitS bx x b off a mb mo m W2 :=
  ⟨⟨h.1.1.below hb h.1.1.lt, h.1.2.1.below hb h.2.1, h.1.2.2.below hb h.2.2⟩, Nat.lt_of_lt_of_le h.2.1 hb.size, Nat.lt_of_lt_of_le h.2.2 hb.size⟩
theorem BlockAt.drew {W : World} {B : Nat} {cs : Array Value} {t : TypeId} (h : BlockAt W B cs t) : BlockAt W.drew B cs t := h

set_option maxRecDepth 20000 in
set_option maxHeartbeats 4000000 in
theorem refFits_any (mv av : Value) (ms : List Bd.M) (al : List Ro.A) (x : Ro.X) (w : World) (hm : Mks w mv ms) (ha : Arts w av al) (hok : Ro.okAs al) (hml : ms.length ≤ 300) (hal : al.length ≤ 5) :
    Calls Try.prog 35 #[mv, av, pcV x] w fun e w' => e = .returned (.bool (Ro.fitX ms al x)) ∧ Below w.heap.size w w' := by
  obtain ⟨va, vc, rfl, hmk⟩ := hm
  obtain ⟨ua, uc, rfl, hak⟩ := ha
  obtain ⟨f, n⟩ := x
  have b0 := BlockAt.new w #[.int .i64 f, .int .i64 n] PcT
  have hw := below_alloc2 (Below.refl w.heap.size w) (.cells #[.int .i64 f, .int .i64 n] PcT)
  have HB := Lib.hid (And.intro b0 hw)
  have HM := Lib.hid hmk
  have HA := Lib.hid hak
  clear hmk hak b0 hw
  try dsimp only
  by_cases h1 : n < 0
  case pos =>
    have HE := Lib.hid (Ro.fitX_out (ms := ms) (al := al) (x := ⟨f, n⟩) (.inl h1))
    have hd1 : decide (n < 0) = true := decide_eq_true h1
    generalize Ro.fitX ms al ⟨f, n⟩ = r at *
    clear h1 hok
    go_enter Try.func35, Try.ntmps35
    go_wp2_with fail
    refine wp_region_seq [(0, true), (1, true), (2, true), (3, true), (4, true), (5, true), (6, true), (7, true), (8, true), (9, true), (10, true), (11, true), (12, true), (13, true), (14, true), (15, true), (16, true), (17, true), (18, true), (19, true), (20, true), (21, true), (22, true), (23, true), (24, true), (25, true), (26, true), (27, true), (28, true)] (fun W => W.cell? ⟨w.heap.size, 0, none⟩ = some (.int .i64 f) ∧ W.cell? ⟨w.heap.size, 1, none⟩ = some (.int .i64 n))
      (by kernel_rfl) (by kernel_rfl) (by kernel_rfl) (by kernel_rfl) (fun d _ _ _ _ h => by cases d <;> exact h) (⟨HB.out.1.cell 0, HB.out.1.cell 1⟩) (fun _ => ?_)
    repeat (first
      | (refine SeqH.take (v := ?_) rfl (by rfl) ?_ ?_; rotate_left; (· intro w hSw; (try dsimp only at hSw); obtain ⟨q0, q1⟩ := hSw; go_simp; (try with_reducible rfl)); simp only [Act.put, List.setIfInBounds_toArray, List.set_cons_zero, List.set_cons_succ])
      | (refine SeqH.skip rfl (by rfl) ?_; simp only [Act.put, List.setIfInBounds_toArray, List.set_cons_zero, List.set_cons_succ]))
    refine SeqH.done ?_
    go_wp2
    go_ret
    exact ⟨by rw [HE.out]; rfl, below_drewN HB.out.2 1⟩
  have hd1 : decide (n < 0) = false := decide_eq_false h1
  by_cases h2 : (al.length : Int) ≤ n
  case pos =>
    have HE := Lib.hid (Ro.fitX_out (ms := ms) (al := al) (x := ⟨f, n⟩) (.inr h2))
    have hd2 : decide ((al.length : Int) ≤ n) = true := decide_eq_true h2
    generalize Ro.fitX ms al ⟨f, n⟩ = r at *
    clear h1 h2 hok
    go_enter Try.func35, Try.ntmps35
    go_wp2_with fail
    refine wp_region_seq [(0, true), (1, true), (2, true), (3, true), (4, true), (5, true), (6, true), (7, true), (8, true), (9, true), (10, true), (11, true), (12, true), (13, true), (14, true), (15, true), (16, true), (17, true), (18, true), (19, true), (20, true), (21, true), (22, true), (23, true), (24, true), (25, true), (26, true), (27, true), (28, true)] (fun W => W.cell? ⟨w.heap.size, 0, none⟩ = some (.int .i64 f) ∧ W.cell? ⟨w.heap.size, 1, none⟩ = some (.int .i64 n))
      (by kernel_rfl) (by kernel_rfl) (by kernel_rfl) (by kernel_rfl) (fun d _ _ _ _ h => by cases d <;> exact h) (⟨HB.out.1.cell 0, HB.out.1.cell 1⟩) (fun _ => ?_)
    repeat (first
      | (refine SeqH.take (v := ?_) rfl (by rfl) ?_ ?_; rotate_left; (· intro w hSw; (try dsimp only at hSw); obtain ⟨q0, q1⟩ := hSw; go_simp; (try with_reducible rfl)); simp only [Act.put, List.setIfInBounds_toArray, List.set_cons_zero, List.set_cons_succ])
      | (refine SeqH.skip rfl (by rfl) ?_; simp only [Act.put, List.setIfInBounds_toArray, List.set_cons_zero, List.set_cons_succ]))
    refine SeqH.done ?_
    go_wp2
    go_ret
    exact ⟨by rw [HE.out]; rfl, below_drewN HB.out.2 1⟩
  obtain ⟨k, rfl⟩ : ∃ k : Nat, n = k := ⟨n.toNat, by omega⟩
  have hk : k < al.length := by omega
  have hd2 : decide ((al.length : Int) ≤ (k : Int)) = false := decide_eq_false h2
  have hd2' : decide (al.length ≤ k) = false := decide_eq_false (by omega)
  obtain ⟨b, off, rfl, hb, hr⟩ := HA.out k hk
  have hla := Ro.okA_iff.1 (hok _ (List.getElem_mem hk))
  rw [Ro.fitX_in hk]
  have HR := Lib.hid hr
  clear HA hr hok h1 h2
  generalize al[k] = a at *
  have HA := Lib.hid (HR.out.below HB.out.2 hb)
  have hla1 := hla.1.1
  have hla2 := hla.1.2
  clear hla
  by_cases h3 : f < 0
  case pos =>
    have HE := Lib.hid (Ro.fit_out (ms := ms) (a := a) (.inl h3))
    have hd3 : decide (f < 0) = true := decide_eq_true h3
    generalize Ro.fit ms a f = r at *
    clear h3
    go_enter Try.func35, Try.ntmps35
    go_wp2_with fail
    refine wp_region_seq [(0, true), (1, true), (2, true), (3, true), (4, true), (5, true), (6, true), (7, true), (8, true), (9, true), (10, true), (11, true), (12, true), (13, true), (14, true), (15, true), (16, true), (17, true), (18, true), (19, true), (20, true), (21, true), (22, true), (23, true), (24, true), (25, true), (26, true), (27, true), (28, true)] (fun W => (W.cell? ⟨w.heap.size, 0, none⟩ = some (.int .i64 f) ∧ W.cell? ⟨w.heap.size, 1, none⟩ = some (.int .i64 k)) ∧ ArtAt W b (off + k * 6) a)
      (by kernel_rfl) (by kernel_rfl) (by kernel_rfl) (by kernel_rfl) (fun d _ _ _ _ h => by cases d <;> exact h) (⟨⟨HB.out.1.cell 0, HB.out.1.cell 1⟩, HA.out⟩) (fun _ => ?_)
    repeat (first
      | (refine SeqH.take (v := ?_) rfl (by rfl) ?_ ?_; rotate_left; (· intro w hSw; (try dsimp only at hSw); obtain ⟨⟨q0, q1⟩, c0, c1, c2, c3, c4, c5⟩ := hSw; go_simp; (try with_reducible rfl)); simp only [Act.put, List.setIfInBounds_toArray, List.set_cons_zero, List.set_cons_succ])
      | (refine SeqH.skip rfl (by rfl) ?_; simp only [Act.put, List.setIfInBounds_toArray, List.set_cons_zero, List.set_cons_succ]))
    refine SeqH.done ?_
    go_wp2
    go_ret
    exact ⟨by rw [HE.out]; rfl, below_drewN HB.out.2 1⟩
  have hd3 : decide (f < 0) = false := decide_eq_false h3
  have hwr : IntKind.i64.wrap ((ms.length : Int) - a.l) = (ms.length : Int) - a.l := IntWalk.i64_in _ ⟨by omega, by omega⟩
  by_cases h4 : (ms.length : Int) - a.l < f
  case pos =>
    have HE := Lib.hid (Ro.fit_out (ms := ms) (a := a) (.inr h4))
    have hd4 : decide ((ms.length : Int) - a.l < f) = true := decide_eq_true h4
    generalize Ro.fit ms a f = r at *
    clear h3 h4
    go_enter Try.func35, Try.ntmps35
    go_wp2_with fail
    refine wp_region_seq [(0, true), (1, true), (2, true), (3, true), (4, true), (5, true), (6, true), (7, true), (8, true), (9, true), (10, true), (11, true), (12, true), (13, true), (14, true), (15, true), (16, true), (17, true), (18, true), (19, true), (20, true), (21, true), (22, true), (23, true), (24, true), (25, true), (26, true), (27, true), (28, true)] (fun W => (W.cell? ⟨w.heap.size, 0, none⟩ = some (.int .i64 f) ∧ W.cell? ⟨w.heap.size, 1, none⟩ = some (.int .i64 k)) ∧ ArtAt W b (off + k * 6) a)
      (by kernel_rfl) (by kernel_rfl) (by kernel_rfl) (by kernel_rfl) (fun d _ _ _ _ h => by cases d <;> exact h) (⟨⟨HB.out.1.cell 0, HB.out.1.cell 1⟩, HA.out⟩) (fun _ => ?_)
    repeat (first
      | (refine SeqH.take (v := ?_) rfl (by rfl) ?_ ?_; rotate_left; (· intro w hSw; (try dsimp only at hSw); obtain ⟨⟨q0, q1⟩, c0, c1, c2, c3, c4, c5⟩ := hSw; go_simp; (try with_reducible rfl)); simp only [Act.put, List.setIfInBounds_toArray, List.set_cons_zero, List.set_cons_succ])
      | (refine SeqH.skip rfl (by rfl) ?_; simp only [Act.put, List.setIfInBounds_toArray, List.set_cons_zero, List.set_cons_succ]))
    refine SeqH.done ?_
    go_wp2
    go_ret
    exact ⟨by rw [HE.out]; rfl, below_drewN HB.out.2 1⟩
  have hd4 : decide ((ms.length : Int) - a.l < f) = false := decide_eq_false h4
  obtain ⟨g, rfl⟩ : ∃ g : Nat, f = g := ⟨f.toNat, by omega⟩
  have HMISS := Lib.hid (fun j hj hm h => Ro.fit_miss (ms := ms) (a := a) (f := g) (j := j) hj hm h)
  have HALL := Lib.hid (fun h => Ro.fit_all (ms := ms) (a := a) (f := g) (by omega) h)
  have hgl : (g : Int) + a.l ≤ ms.length := by omega
  generalize Ro.fit ms a g = r at *
  clear h3 h4
  go_enter Try.func35, Try.ntmps35
  go_wp2_with fail
  refine wp_region_seq [(0, true), (1, true), (2, true), (3, true), (4, true), (5, true), (6, true), (7, true), (8, true), (9, true), (10, true), (11, true), (12, true), (13, true), (14, true), (15, true), (16, true), (17, true), (18, true), (19, true), (20, true), (21, true), (22, true), (23, true), (24, true), (25, true), (26, true), (27, true), (28, true)] (fun W => (W.cell? ⟨w.heap.size, 0, none⟩ = some (.int .i64 g) ∧ W.cell? ⟨w.heap.size, 1, none⟩ = some (.int .i64 k)) ∧ ArtAt W b (off + k * 6) a)
    (by kernel_rfl) (by kernel_rfl) (by kernel_rfl) (by kernel_rfl) (fun d _ _ _ _ h => by cases d <;> exact h) (⟨⟨HB.out.1.cell 0, HB.out.1.cell 1⟩, HA.out⟩) (fun _ => ?_)
  repeat (first
    | (refine SeqH.take (v := ?_) rfl (by rfl) ?_ ?_; rotate_left; (· intro w hSw; (try dsimp only at hSw); obtain ⟨⟨q0, q1⟩, c0, c1, c2, c3, c4, c5⟩ := hSw; go_simp; (try with_reducible rfl)); simp only [Act.put, List.setIfInBounds_toArray, List.set_cons_zero, List.set_cons_succ])
    | (refine SeqH.skip rfl (by rfl) ?_; simp only [Act.put, List.setIfInBounds_toArray, List.set_cons_zero, List.set_cons_succ]))
  refine SeqH.done ?_
  go_wp2
  clear hd1 hd2 hd2' hd3 hd4 hwr
  go_loopw [7] (fun t wr => ∃ j : Nat, (j : Int) ≤ a.l ∧ t = .int .i64 j ∧ Hid ((∀ i : Nat, i < j → ∀ hm : g + i < ms.length, Bd.holds a.la a.mo a.sh a.fl ms[g + i] = true) ∧ BlockAt wr w.heap.size #[.int .i64 g, .int .i64 k] PcT ∧ Below w.heap.size w wr)) (fun t _ => (a.l - intOf t).toNat)
  case atStart => exact ⟨0, by omega, rfl, Lib.hid ⟨fun i h => absurd h (Nat.not_lt_zero _), HB.out.1, below_drewN HB.out.2 1⟩⟩
  case round =>
    obtain ⟨j, hj, rfl, hg⟩ := hrel
    clear HB HA
    obtain ⟨c0, _, _, _, _, _⟩ := HR.out.below hg.out.2.2 hb
    have q0 : World.cell? _ _ = some (.int .i64 (g : Int)) := hg.out.2.1.cell 0
    have q1 : World.cell? _ _ = some (.int .i64 (k : Int)) := hg.out.2.1.cell 1
    by_cases hjl : (j : Int) < a.l
    · have hjd : decide ((j : Int) < a.l) = true := decide_eq_true hjl
      obtain ⟨p, hp⟩ : ∃ p, p = g + j := ⟨_, rfl⟩
      have hm : p < ms.length := by omega
      obtain ⟨mb, mo, rfl, hmb, hmr⟩ := HM.out p hm
      have HI : Hid (Bd.holds a.la a.mo a.sh a.fl ms[p] = true → ∀ i : Nat, i < j + 1 → ∀ hm : g + i < ms.length, Bd.holds a.la a.mo a.sh a.fl ms[g + i] = true) := Lib.hid fun h i hi hm => by
        by_cases e : i = j
        · subst e; subst hp; exact h
        · exact hg.out.1 i (by omega) hm
      have HMJ : Hid (Bd.holds a.la a.mo a.sh a.fl ms[p] = false → r = false) := Lib.hid (by subst hp; exact HMISS.out j hjl hm)
      have HG := Lib.hid hg.out.2
      have HS0 : Hid (FitS w.heap.size ⟨g, k⟩ b (off + k * 6) a mb (mo + p * 3) ms[p] wr.drew) := Lib.hid ⟨⟨hg.out.2.1, HR.out.below (below_drewN hg.out.2.2 1) hb, hmr.below (below_drewN hg.out.2.2 1) hmb⟩, Nat.lt_of_lt_of_le hb hg.out.2.2.size, Nat.lt_of_lt_of_le hmb hg.out.2.2.size⟩
      have HC := Lib.hid (fun W => ref_holds_any a.la a.mo a.sh a.fl ms[p] W)
      have hws : IntKind.i64.wrap ((g : Int) + (j : Int)) = (p : Int) := by rw [IntWalk.i64_in _ ⟨by omega, by omega⟩]; omega
      clear hg hmr hp
      generalize Bd.holds a.la a.mo a.sh a.fl ms[p] = hh at *
      generalize ms[p] = m at *
      go_upto_region 6 with fail
      clear c0 q0 q1
      refine wp_region_seq [(0, true), (1, true), (2, true), (3, true), (4, true), (5, true), (6, true), (7, true), (8, true), (9, true), (10, true), (11, true), (12, true), (13, false), (14, true)] (fun W => FitS w.heap.size ⟨g, k⟩ b (off + k * 6) a mb (mo + p * 3) m W)
        (by kernel_rfl) (by kernel_rfl) (by kernel_rfl) (by kernel_rfl) (fun d _ _ _ _ h => by cases d <;> exact h) HS0.out (fun _ => ?_)
      repeat (first
        | (refine SeqH.take (v := ?_) rfl (by rfl) ?_ ?_; rotate_left; (· intro w hSw; (try dsimp only at hSw); obtain ⟨⟨hbx, ⟨c0, c1, c2, c3, c4, c5⟩, d0, d1, d2⟩, _, _⟩ := hSw; have q0 := (hbx.cell 0).trans rfl; have q1 := (hbx.cell 1).trans rfl; go_simp; (try with_reducible rfl)); simp only [Act.put, List.setIfInBounds_toArray, List.set_cons_zero, List.set_cons_succ]))
      refine SeqH.step rfl (by rfl) (fun K hK => ?_)
      go_simp
      go_at_call 60
      refine (HC.out _).mono ?_
      rintro e w3 ⟨rfl, hb3⟩
      try dsimp only
      refine hK.out _ _ (HS0.out.below hb3) (fun _ => ?_)
      clear hK K
      have HG3 := Lib.hid (And.intro (HG.out.1.drew.below hb3 HG.out.1.drew.lt) (below_step (below_drewN HG.out.2 1) hb3))
      clear hb3 HS0 HG
      try simp only [Act.put, List.setIfInBounds_toArray, List.set_cons_zero, List.set_cons_succ]
      repeat (first
        | (refine SeqH.take (v := ?_) rfl (by rfl) ?_ ?_; rotate_left; (· intro w _; go_simp; (try with_reducible rfl)); simp only [Act.put, List.setIfInBounds_toArray, List.set_cons_zero, List.set_cons_succ]))
      refine SeqH.done ?_
      cases hh
      · have HE := Lib.hid (HMJ.out rfl)
        clear HMJ HI
        go_wp2
        go_ret
        exact ⟨by rw [HE.out]; rfl, HG3.out.2⟩
      · have HI2 := Lib.hid (HI.out rfl)
        clear HMJ HI
        go_wp2
        go_roundw
        case rel => exact ⟨j + 1, by omega, by go_num, Lib.hid ⟨HI2.out, HG3.out⟩⟩
        case measure => simp [intOf]; omega
    · have hjd : decide ((j : Int) < a.l) = false := decide_eq_false hjl
      have HE := Lib.hid (HALL.out fun i hi hm => hg.out.1 i (by omega) hm)
      have HW := Lib.hid hg.out.2.2
      clear hg
      go_wp2
      go_ret
      exact ⟨by rw [HE.out]; rfl, HW.out⟩
end Go.Proofs.Ytbmjjmpdlmbehaa
