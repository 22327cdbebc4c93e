/- The reference's division of a total that can be divided. -/
import Derived.Test.YtmmmlcnclehilaaDoorRShare1
import Derived.Test.YtmmmlcnclehilaaDoorShareQ
namespace Go.Proofs.YtmmmlcnclehilaaDoor
open Go.RowKit Go.Sort
namespace Lr
/-- The parts, and what is left of each, once t units more have been given. -/
def pT (T : Int) (ws : List Int) (t : Nat) (i : Nat) : Int := if got (rF T ws) ws.length t i then qF T ws i + 1 else qF T ws i
def rT (T : Int) (ws : List Int) (t : Nat) (i : Nat) : Int := if got (rF T ws) ws.length t i then -1 else rF T ws i
theorem got_zero (r : Nat → Int) (n i : Nat) : ¬ got r n 0 i := by unfold got; simp
theorem pT_zero (T : Int) (ws : List Int) (i : Nat) : qF T ws i = pT T ws 0 i := by unfold pT; rw [if_neg (got_zero _ _ _)]
theorem rT_zero (T : Int) (ws : List Int) (i : Nat) : rF T ws i = rT T ws 0 i := by unfold rT; rw [if_neg (got_zero _ _ _)]
theorem step_eq {T : Int} {ws : List Int} (hf : fits T ws) {t b : Nat} (ht : t < ws.length) (hb : b < ws.length) (h1 : ∀ i, i < ws.length → rT T ws t i ≤ rT T ws t b) (h2 : ∀ i, i < b → rT T ws t i < rT T ws t b) :
    pT T ws t b = qF T ws b ∧ ∀ i, upd (pT T ws t) b (pT T ws t b + 1) i = pT T ws (t + 1) i ∧ upd (rT T ws t) b (-1) i = rT T ws (t + 1) i := by
  have e := found_next (r := rF T ws) (fun i => (rF_bd hf i).1) ht hb (R := rT T ws t) (fun i _ => rfl) h1 h2
  obtain ⟨_, c2, _⟩ := next_bef (r := rF T ws) ht
  rw [← e] at c2
  refine ⟨by unfold pT; rw [if_neg c2], fun i => ?_⟩
  unfold upd
  by_cases hi : i = b
  · subst hi
    have hg : got (rF T ws) ws.length (t + 1) i := (got_succ ht).2 (.inr e)
    unfold pT rT
    rw [if_pos rfl, if_pos rfl, if_neg c2, if_pos hg, if_pos hg]
    exact ⟨rfl, rfl⟩
  · have hg : got (rF T ws) ws.length (t + 1) i ↔ got (rF T ws) ws.length t i := by
      rw [got_succ ht, ← e]
      exact ⟨fun h => h.elim id fun h => absurd h hi, .inl⟩
    unfold pT rT
    rw [if_neg hi, if_neg hi]
    simp only [hg, and_self]
end Lr

/-- Two rows in two blocks. -/
def Sep (v u : Value) : Prop := ∀ k, v.ownBlock = some k → u.ownBlock ≠ some k
theorem Sep.nil : Sep (.slice none 0 0) (.slice none 0 0) := fun k h => by simp [Value.ownBlock] at h
theorem Sep.left {v u : Value} (h : Sep v u) : v.ownBlock = none ∨ v.ownBlock ≠ u.ownBlock := by
  cases hv : v.ownBlock with
  | none => exact .inl rfl
  | some k => exact .inr fun e => h k hv e.symm
theorem Sep.right {v u : Value} (h : Sep v u) : u.ownBlock = none ∨ u.ownBlock ≠ v.ownBlock := by
  cases hu : u.ownBlock with
  | none => exact .inl rfl
  | some k => exact .inr fun e => h k e.symm hu
theorem Sep.first {v v' u : Value} {N base E size n : Nat} {w : World} {xs : List Value} (h : Sep v u) (hu : w.ownsRow base E size u n xs) (hN : w.heap.size ≤ N) (e : v'.ownBlock = v.ownBlock ∨ v'.ownBlock = some N) : Sep v' u := by
  intro k hk
  rcases e with e | e
  · exact h k (e ▸ hk)
  · intro hc
    have := (World.ownsRow.lt hu k hc).2
    rw [e] at hk
    simp only [Option.some.injEq] at hk
    omega
theorem Sep.second {v u u' : Value} {N base E size n : Nat} {w : World} {xs : List Value} (h : Sep v u) (hv : w.ownsRow base E size v n xs) (hN : w.heap.size ≤ N) (e : u'.ownBlock = u.ownBlock ∨ u'.ownBlock = some N) : Sep v u' := by
  intro k hk hc
  rcases e with e | e
  · exact h k hk (e ▸ hc)
  · have := (World.ownsRow.lt hv k hk).2
    rw [e] at hc
    simp only [Option.some.injEq] at hc
    omega

set_option maxRecDepth 20000 in
set_option maxHeartbeats 2000000 in
theorem refShare_good (T : Int) (v : Value) (ws : List Int) (w : World) (hv : Ints w v ws) (hlen : ws.length ≤ 1000) (hs : Sh.sumB ws = true) (h0 : 0 ≤ T) (h1 : T ≤ 1099511627776) :
    Calls Tryd.prog 10 #[.int .i64 T, v] w fun e w' => ∃ u, e = .returned (.tuple #[u, .int .i64 0]) ∧ OwnF w.heap.size w' u ws.length (Lr.partF T ws) ∧ Below w.heap.size w w' := by
  obtain ⟨u1, u2, u3, u4, u5⟩ := Sh.usable hs
  have hf := Sh.fits_of hs h0
  have hL := Lr.left_ok hf
  obtain ⟨b, off, cap, rfl, hbl, hc⟩ : ∃ b off cap, v = .slice (some ⟨b, off, none⟩) ws.length cap ∧ b < w.heap.size ∧ ∀ k, k < ws.length → w.cell? ⟨b, off + k, none⟩ = some (.int .i64 (ws.getD k 0)) := by
    rcases hv with ⟨a, c, rfl, rfl⟩ | ⟨b, off, cap, rfl, _, hb, hc⟩
    · simp at u2
    · exact ⟨b, off, cap, rfl, hb, hc⟩
  have hg0 : Sh.goB 0 ws = true ∧ Sh.goV 0 ws = Lr.tot ws := by
    unfold Sh.sumB at hs
    unfold Sh.sumV at u3
    rw [if_neg (by omega)] at hs u3
    exact ⟨hs, u3⟩
  have HG0 := Lib.hid hg0
  have HC := Lib.hid hc
  have HR := Lib.hid (fun k (hk : k < ws.length) => Lr.round_ok hs h0 h1 hk)
  have HF := Lib.hid hf
  have HL := Lib.hid hL
  have H5 := Lib.hid u5
  obtain ⟨i0, hi, hz0, hz1, hz2⟩ := info_parts infoInt
  have htot : Lr.tot ws ≤ 16777216 := by
    rw [Sh.tot_sum]
    have : ∀ l : List Int, (∀ x ∈ l, 0 ≤ x ∧ x ≤ 1048576) → l.sum ≤ 1048576 * (l.length : Int) := by
      intro l
      induction l with
      | nil => intro _; simp
      | cons x l ih => intro h; have h1 := h x (by simp); have h2 := ih fun y hy => h y (by simp [hy]); rw [List.sum_cons, List.length_cons]; push_cast; omega
    have h2 := this ws fun x hx => by
      obtain ⟨k, hk, rfl⟩ := List.getElem_of_mem hx
      have := u5 k hk
      unfold Lr.wt at this
      rwa [getD_at hk] at this
    omega
  have hq1 : 1 ≤ ws.length := u2
  clear hg0 hc hf hL hv hs u3 u5
  go_enter Tryd.func10, Tryd.ntmps10
  go_wp2_with fail
  refine (within_t _ _ _ _ h0 h1).mono ?_
  rintro e w' ⟨rfl, rfl⟩
  go_wp2_with fail
  refine (within_t _ _ _ _ (by omega) (by omega)).mono ?_
  rintro e w' ⟨rfl, rfl⟩
  go_wp2
  go_loop [6, 7] (fun s t => ∃ (k : Nat) (A : Int), k ≤ ws.length ∧ t = .int .i64 k ∧ s = .int .i64 A ∧ 0 ≤ A ∧ A ≤ 1048576 * (k : Int) ∧ Hid (Sh.goB A (ws.drop k) = true ∧ Sh.goV A (ws.drop k) = Lr.tot ws)) (fun _ t => ws.length - (intOf t).toNat)
  case atStart => exact ⟨0, 0, Nat.zero_le _, rfl, rfl, by omega, by omega, HG0⟩
  case round =>
    obtain ⟨k, A, hk, rfl, rfl, hA, hA2, hg⟩ := hrel
    clear HG0
    by_cases hlt : k < ws.length
    · have hck := HC.out k hlt
      obtain ⟨b1, b2⟩ := H5.out k hlt
      unfold Lr.wt at b1 b2
      rw [getD_at hlt] at hck b1 b2
      have hr := Lib.hid (Sh.go_good (acc := A) hlt (by omega))
      clear HC HR HF HL H5
      generalize ws[k] = x at *
      go_wp2_with fail
      refine (within_t _ _ _ _ b1 b2).mono ?_
      rintro e w' ⟨rfl, rfl⟩
      go_wp2
      go_round
      case rel => exact ⟨k + 1, A + x, by omega, by go_num, by go_num, by omega, by push_cast; omega, Lib.hid ⟨by rw [← hr.out.2]; exact hg.out.1, by rw [← hr.out.1]; exact hg.out.2⟩⟩
      case measure => simp [intOf]; omega
    · obtain rfl : k = ws.length := by omega
      have hAt : A = Lr.tot ws := by rw [← hg.out.2, (Sh.go_end (acc := A) (xs := ws)).1]
      subst hAt
      clear hg
      have hne : (Lr.tot ws == 0) = false := beq_eq_false_iff_ne.2 (by omega)
      go_wp2
      go_loopw [8, 9, 10, 11] (fun p q l t wr => ∃ k : Nat, k ≤ ws.length ∧ t = .int .i64 k ∧ l = .int .i64 (T - Lr.sumN (Lr.qF T ws) k) ∧ Hid (OwnF w.heap.size wr p k (Lr.qF T ws) ∧ OwnF w.heap.size wr q k (Lr.rF T ws) ∧ Sep p q ∧ Below w.heap.size w wr)) (fun _ _ _ t _ => ws.length - (intOf t).toNat)
      case atStart => exact ⟨0, Nat.zero_le _, rfl, by show _ = Value.int .i64 (T - 0); rw [Int.sub_zero], Lib.hid ⟨OwnF.nil _ _ _, OwnF.nil _ _ _, Sep.nil, Below.refl _ _⟩⟩
      case round =>
        obtain ⟨k, hk, rfl, rfl, hg⟩ := hrel
        by_cases hlt : k < ws.length
        · obtain ⟨hp, hq, hsep, hw⟩ := hg.out
          have hck : World.cell? _ ⟨b, off + k, none⟩ = some (.int .i64 (Lr.wt ws k)) := (hw.cell (p := ⟨b, off + k, none⟩) hbl).trans (HC.out k hlt)
          obtain ⟨r0, r1, r2, r3, r4, r5, r6, r7⟩ := HR.out k hlt
          have s2 := Lr.sumN_le (f := Lr.qF T ws) (fun i hi => (HR.out i hi).2.2.2.2.1) (k + 1) (by omega)
          have s0 := Lr.sumN_le (f := Lr.qF T ws) (n := ws.length) (fun i hi => (HR.out i hi).2.2.2.2.1) k (by omega)
          have s3 := HL.out.1
          have hsum : Lr.sumN (Lr.qF T ws) (k + 1) = Lr.sumN (Lr.qF T ws) k + Lr.qF T ws k := rfl
          have s4 : 0 ≤ Lr.sumN (Lr.qF T ws) k ∧ Lr.sumN (Lr.qF T ws) k + Lr.qF T ws k ≤ T := by omega
          have HQ : Hid (Lr.qF T ws k = T * Lr.wt ws k / Lr.tot ws) := Lib.hid rfl
          have HM : Hid (Lr.rF T ws k = T * Lr.wt ws k % Lr.tot ws) := Lib.hid rfl
          have HSM := Lib.hid hsum
          have HWS := Lib.hid hw.size
          obtain ⟨s5, s6⟩ := s4
          clear s2 s0 s3 hsum r2 r3 r6 r7 hg
          generalize hX : Lr.wt ws k = x at *
          have HX : Hid (ws.getD k 0 = x) := Lib.hid hX
          clear hX
          generalize hQ : Lr.qF T ws k = qk at *
          generalize hM : Lr.rF T ws k = rk at *
          have HQ2 := Lib.hid hQ
          have HM2 := Lib.hid hM
          clear hQ hM
          generalize Lr.tot ws = S at *
          go_wp2_with (at_builtin; refine wpList_append_own_at _ rfl _ _ 22 rfl w.heap.size 3 i0 (.int .i64 0) 1 8 Tryd.underlying22 hi hz0 hz1 hz2 rfl (by decide) _ _ _ rfl (hp.alloc _) ⟨_, 0, none⟩ 1 1 (intL (T * x / S)) rfl rfl (intL_at _ _ _) (intL_one _) (by unfold maxLen; omega) (by omega) (by have := hw.size; simp; omega) ?_)
          intro v' w1 hown1 hgrow _ hblk1
          have hp1 := OwnF.pushed hown1 (HQ2.out.trans HQ.out)
          have hw1 := (hw.alloc hw.size (.cells #[.int .i64 (T * x / S)] 3)).grown hgrow (by have := hw.size; simp; omega) (fun j e => (World.ownsRow.lt hp j e).1)
          have hq1 : OwnF w.heap.size w1 _ k (Lr.rF T ws) := (World.ownsRow.alloc hq _).kept hgrow hsep.right
          have hsep1 := hsep.first hq (by simp) hblk1
          clear hp hq hw hgrow hown1 hblk1 hsep hck
          obtain ⟨g, cp, rfl, hg1, hg2⟩ := hp1.form (by omega)
          have hck : World.cell? _ ⟨b, off + k, none⟩ = some (.int .i64 x) := (hw1.cell (p := ⟨b, off + k, none⟩) hbl).trans ((HC.out k hlt).trans (by rw [HX.out]))
          go_wp2_with (at_builtin; refine wpList_append_own_at _ rfl _ _ 22 rfl w.heap.size 3 i0 (.int .i64 0) 1 8 Tryd.underlying22 hi hz0 hz1 hz2 rfl (by decide) _ _ _ rfl (hq1.alloc _) ⟨_, 0, none⟩ 1 1 (intL (T * x % S)) rfl rfl (intL_at _ _ _) (intL_one _) (by unfold maxLen; omega) (by omega) (by have := hw1.size; simp; omega) ?_)
          intro u' w2 hown2 hgrow _ hblk2
          have hq2 := OwnF.pushed hown2 (HM2.out.trans HM.out)
          have hw2 := (hw1.alloc hw1.size (.cells #[.int .i64 (T * x % S)] 3)).grown hgrow (by have := hw1.size; simp; omega) (fun j e => (World.ownsRow.lt hq1 j e).1)
          have hp2 : OwnF w.heap.size w2 _ (k + 1) (Lr.qF T ws) := (World.ownsRow.alloc hp1 _).kept hgrow hsep1.left
          have hsep2 := hsep1.second hp1 (by simp) hblk2
          have hpc := hp2.cell (k := k) (by omega)
          rw [HQ2.out] at hpc
          have HN := Lib.hid (And.intro hp2 (And.intro hq2 (And.intro hsep2 hw2)))
          clear hp1 hq1 hw1 hgrow hown2 hblk2 hsep1 hck hp2 hq2 hw2 hsep2
          go_wp2
          go_roundw
          case rel => exact ⟨k + 1, by omega, by go_num, by rw [HSM.out, ← Int.sub_sub], HN⟩
          case measure => simp [intOf]; omega
        · obtain rfl : k = ws.length := by omega
          obtain ⟨hp, hq, hsep, hw⟩ := hg.out
          obtain ⟨g1, c1, rfl, _, _⟩ := hp.form u2
          obtain ⟨g2, c2, rfl, _, _⟩ := hq.form u2
          have hne12 : g1 ≠ g2 := fun e => hsep g1 rfl (by rw [e]; rfl)
          rw [← HL.out.1]
          have HL2 := Lib.hid HL.out.2
          have HLL : Hid (Lr.partF T ws = Lr.pT T ws (Lr.leftN T ws)) := Lib.hid rfl
          have HP := Lib.hid (And.intro (hp.congr fun i _ => Lr.pT_zero T ws i) (And.intro (hq.congr fun i _ => Lr.rT_zero T ws i) hw))
          clear hp hq hsep hw hg HL
          generalize Lr.leftN T ws = L at *
          go_wp2
          go_loopw [10] (fun l wr => ∃ t : Nat, t ≤ L ∧ l = .int .i64 ((L : Int) - t) ∧ Hid (OwnF w.heap.size wr (.slice (some ⟨g1, 0, none⟩) ws.length c1) ws.length (Lr.pT T ws t) ∧ OwnF w.heap.size wr (.slice (some ⟨g2, 0, none⟩) ws.length c2) ws.length (Lr.rT T ws t) ∧ Below w.heap.size w wr)) (fun l _ => (intOf l).toNat)
          case atStart => exact ⟨0, Nat.zero_le _, by show _ = Value.int .i64 ((L : Int) - 0); rw [Int.sub_zero], HP⟩
          case round =>
            obtain ⟨t, ht, rfl, hg⟩ := hrel
            clear HP
            have hLn : L ≤ ws.length := HL2.out
            by_cases htl : t < L
            · have htn : t < ws.length := by have := HL2.out; omega
              have hd : decide (0 < (L : Int) - t) = true := decide_eq_true (by omega)
              go_wp2
              go_loopw [12, 13] (fun bb kk wx => ∃ (b k : Nat), b < k ∧ k ≤ ws.length ∧ bb = .int .i64 b ∧ kk = .int .i64 k ∧ Hid ((OwnF w.heap.size wx (.slice (some ⟨g1, 0, none⟩) ws.length c1) ws.length (Lr.pT T ws t) ∧ OwnF w.heap.size wx (.slice (some ⟨g2, 0, none⟩) ws.length c2) ws.length (Lr.rT T ws t) ∧ Below w.heap.size w wx) ∧ (∀ j, j < k → Lr.rT T ws t j ≤ Lr.rT T ws t b) ∧ (∀ j, j < b → Lr.rT T ws t j < Lr.rT T ws t b))) (fun _ kk _ => ws.length - (intOf kk).toNat)
              case atStart => exact ⟨0, 1, by omega, hq1, rfl, rfl, Lib.hid (show _ ∧ (∀ j, j < 1 → Lr.rT T ws t j ≤ Lr.rT T ws t 0) ∧ (∀ j, j < 0 → Lr.rT T ws t j < Lr.rT T ws t 0) from ⟨hg.out, fun j hj => Int.le_of_eq (by rw [show j = 0 by omega]), fun j hj => absurd hj (by omega)⟩)⟩
              case round =>
                obtain ⟨b0, k, hbk, hk, rfl, rfl, hgg⟩ := hrel
                clear hg
                by_cases hkl : k < ws.length
                · obtain ⟨⟨hp, hq, hw⟩, ha, hs⟩ := hgg.out
                  have d1 := hq.cell hkl
                  have d2 := hq.cell (k := b0) (by omega)
                  have hbl2 : b0 < ws.length := by omega
                  have HA := Lib.hid ha
                  have HS := Lib.hid hs
                  have HP := Lib.hid (And.intro hp (And.intro hq hw))
                  clear ha hs hp hq hw hgg
                  by_cases hcmp : Lr.rT T ws t b0 < Lr.rT T ws t k
                  · have HCMP := Lib.hid hcmp
                    generalize hx : Lr.rT T ws t k = x at d1 hcmp
                    generalize hy : Lr.rT T ws t b0 = y at d2 hcmp
                    have HX := Lib.hid hx
                    have HY := Lib.hid hy
                    clear hx hy
                    go_wp2_with fail
                    go_region
                    go_wp2
                    go_roundw
                    case rel => exact ⟨k, k + 1, by omega, by omega, rfl, by go_num, Lib.hid ⟨⟨HP.out.1.drew, HP.out.2.1.drew, HP.out.2.2.drew⟩, fun j hj => by
                        by_cases e : j = k
                        · rw [e]; exact Int.le_refl _
                        · have := HA.out j (by omega); have := HCMP.out; omega, fun j hj => by
                        have := HA.out j hj; have := HCMP.out; omega⟩⟩
                    case measure => simp [intOf]; omega
                  · have HCMP := Lib.hid hcmp
                    generalize hx : Lr.rT T ws t k = x at d1 hcmp
                    generalize hy : Lr.rT T ws t b0 = y at d2 hcmp
                    have HX := Lib.hid hx
                    have HY := Lib.hid hy
                    clear hx hy
                    go_wp2_with fail
                    go_region
                    go_wp2
                    go_roundw
                    case rel => exact ⟨b0, k + 1, by omega, by omega, rfl, by go_num, Lib.hid ⟨⟨HP.out.1.drew, HP.out.2.1.drew, HP.out.2.2.drew⟩, fun j hj => by
                        by_cases e : j = k
                        · rw [e]; have := HCMP.out; omega
                        · exact HA.out j (by omega), HS.out⟩⟩
                    case measure => simp [intOf]; omega
                · obtain rfl : k = ws.length := by omega
                  obtain ⟨⟨hp, hq, hw⟩, ha, hs⟩ := hgg.out
                  obtain ⟨e1, e2⟩ := Lr.step_eq HF.out htn hbk ha hs
                  have d1 := hp.cell hbk
                  rw [e1] at d1
                  have f1 := hp.free b0
                  obtain ⟨hp2, hgr1⟩ := hp.store b0 (Lr.qF T ws b0 + 1)
                  have hq2 := hq.kept hgr1 (.inr (by simp [Value.ownBlock]; exact fun e => hne12 e.symm))
                  have f2 := hq2.free b0
                  have d2 := hq2.cell hbk
                  generalize Lr.rT T ws t b0 = rb at d2
                  obtain ⟨hq3, hgr2⟩ := hq2.store b0 (-1)
                  have hp3 := hp2.kept hgr2 (.inr (by simp [Value.ownBlock]; exact hne12))
                  have hw2 := (hw.grown hgr1 (by have := hw.size; omega) (fun j e => by simp at e; subst e; exact (World.ownsRow.lt hp g1 rfl).1)).grown hgr2 (by have := hw.size; simp; omega) (fun j e => by simp at e; subst e; exact (World.ownsRow.lt hq2 g2 rfl).1)
                  rw [e1] at e2
                  have HN := Lib.hid (And.intro (hp3.congr fun i _ => (e2 i).1) (And.intro (hq3.congr fun i _ => (e2 i).2) hw2))
                  have hqb := (HR.out b0 hbk).2.2.2.2
                  have q1 := hqb.1
                  have q2 := hqb.2.1
                  clear hp hq hw ha hs hgg e1 e2 hp2 hgr1 hq2 hq3 hgr2 hp3 hw2 hqb
                  generalize Lr.qF T ws b0 = qb at *
                  go_wp2
                  go_roundw
                  case rel => exact ⟨t + 1, by omega, by go_num, HN⟩
                  case measure => simp [intOf]; omega
            · obtain rfl : t = L := by omega
              have hd : decide (0 < (t : Int) - t) = false := decide_eq_false (by omega)
              obtain ⟨hp, hq, hw⟩ := hg.out
              rw [← HLL.out] at hp
              have HH := Lib.hid (And.intro hp hw)
              clear hp hq hw hg HLL
              go_wp2
              go_ret2
              exact ⟨_, rfl, HH.out.1, HH.out.2⟩
end Go.Proofs.YtmmmlcnclehilaaDoor
