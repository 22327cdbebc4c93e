/- Goods put into a list: of the reference. -/
import Derived.Test.YtabfcnfddemblaaLfMg
import Derived.Test.YtabfcnfddemblaaLf33a
namespace Go.Proofs.Ytabfcnfddemblaa.Lo
open Go.RowKit

theorem ints_nil (W : World) (a : Option Addr) (c : Nat) : Ints W (.slice a 0 c) [] := ⟨a, c, rfl, Nat.zero_le _, fun k hk => absurd hk (Nat.not_lt_zero _)⟩
theorem ins_split {n : Int} : ∀ {l : List Int} {k : Nat}, k ≤ l.length → (∀ j (hj : j < l.length), j < k → l[j] < n) → (∀ hk : k < l.length, ¬ l[k] < n) → Lf.insS n l = l.take k ++ n :: l.drop k
  | [], 0, _, _, _ => rfl
  | x :: r, 0, _, _, h => by
    have := h (by simp)
    unfold Lf.insS
    rw [if_neg (by simpa using this)]; rfl
  | x :: r, k + 1, hk, h1, h2 => by
    have h0 : x < n := h1 0 (by simp) (by omega)
    unfold Lf.insS
    rw [if_pos h0, ins_split (k := k) (by simpa using hk) (fun j hj hjk => h1 (j + 1) (by simpa using hj) (by omega)) (fun hk2 => h2 (by simpa using hk2))]
    rfl
theorem append_ints {base : Nat} {W : World} {v : Value} {a : Option Addr} {n c : Nat} {xs ys : List Int} (hown : OwnI base W v xs) (hg : Ints W (.slice a n c) ys) (hb : base ≤ W.heap.size) (hx : xs.length ≤ 1000) (hy : ys.length ≤ 1000) :
    ∃ v' W', (Builtin.append_ #[24, 24] 24 #[v, .slice a n c]).run Try.prog W = .ok v' W' ∧ Hid (OwnI base W' v' (xs ++ ys) ∧ W.grownBy W' v.ownBlock) := by
  obtain ⟨i0, hi0, hz0, hz1, hz2⟩ := info_parts infoInt
  have hn : n = ys.length := by
    obtain ⟨_, _, e, _⟩ := hg
    injection e
  subst hn
  by_cases hne : ys = []
  · subst hne
    rw [List.append_nil]
    cases a with
    | none => exact ⟨v, W, append_none_capI (P := Try.prog) (w := W) base 24 24 3 i0 1 Try.underlying24 hi0 v xs.length c (xs.flatMap intL) hown, Lib.hid ⟨hown, rfl, rfl, rfl, Nat.le_refl _, fun _ _ _ => rfl⟩⟩
    | some ad =>
      obtain ⟨v', W', h1, h2, h3, _⟩ := run_append_own (P := Try.prog) (w := W) base 24 24 3 i0 _ 1 8 Try.underlying24 hi0 hz0 hz1 hz2 rfl (by decide) v xs.length (xs.flatMap intL) hown ad 0 c [] rfl (by intro j u h; simp at h) (by intro u h; simp at h) (by unfold maxLen; omega) (by omega) hb
      exact ⟨v', W', h1, Lib.hid ⟨(by simpa using h2 : W'.ownsRow base 3 1 v' xs.length (xs.flatMap intL)), h3⟩⟩
  · obtain ⟨_, b, off, rfl, hca⟩ := ints_flat hg (List.length_pos_iff.2 hne)
    obtain ⟨v', W', h1, h2, h3, _⟩ := run_append_own (P := Try.prog) (w := W) base 24 24 3 i0 _ 1 8 Try.underlying24 hi0 hz0 hz1 hz2 rfl (by decide) v xs.length (xs.flatMap intL) hown ⟨b, off, none⟩ ys.length c (ys.flatMap intL) (flat_len intL_len ys) hca (fun u h => by
      obtain ⟨x, _, hu⟩ := List.mem_flatMap.1 h
      exact intL_one x u hu) (by unfold maxLen; omega) (by omega) hb
    refine ⟨v', W', h1, Lib.hid ⟨?_, h3⟩⟩
    unfold OwnI OwnG
    rw [List.flatMap_append, List.length_append]
    exact h2
theorem wpList_app {P : Program} {ops : Array Oper} {rest : List Oper} {o : Oper} {a : Act} {w : World} {Q : Exit → Act → World → Prop} {v z : Value} {R : Value → World → Prop} (t : TypeId) (hgd : o.guard = none) (s x : Operand)
    (ho : o.op = .call { callee := .builtin .append, args := #[s, x], argTypes := #[t, t] }) (hs : a.eval s = v) (hx : a.eval x = z)
    (hr : ∃ v' W', (Builtin.append_ #[t, t] o.type #[v, z]).run P w = .ok v' W' ∧ R v' W') (h : ∀ v' W', R v' W' → wpList P ops Q rest (a.put o.dst v') W') : wpList P ops Q (o :: rest) a w := by
  obtain ⟨v', W', hr, hR⟩ := hr
  refine wpList_plain hgd fun K hK => ?_
  unfold Oper.wp execOp
  simp only [ho, resolve, invoke, builtin, Sem.run_bind, Sem.run_pure, Result.andThen_ok, List.map_toArray, List.map_cons, List.map_nil, hs, hx, hr]
  exact hK _ _ (h v' W' hR)
theorem drop_ints {W : World} {b o : Nat} {vc k : Nat} {l : List Int} (h : Ints W (.slice (some ⟨b, o, none⟩) l.length vc) l) (hk : k ≤ l.length) : Ints W (.slice (some ⟨b, o + k, none⟩) (l.length - k) (vc - k)) (l.drop k) := by
  obtain ⟨a2, c2, e, hc, hr⟩ := h
  injection e with e1 e2 e3
  subst e1 e3
  refine ⟨_, vc - k, by rw [List.length_drop], by rw [List.length_drop]; omega, fun j hj => ?_⟩
  rw [List.length_drop] at hj
  obtain ⟨b2, o2, e4, hb, hcell⟩ := hr (k + j) (by omega)
  injection e4 with e4
  injection e4 with e5 e6
  subst e5 e6
  refine ⟨b, o + k, rfl, hb, ?_⟩
  rw [List.getElem_drop]
  have e9 : o + k + j * 1 = o + (k + j) * 1 := by omega
  rw [e9]; exact hcell
set_option maxRecDepth 20000 in
set_option maxHeartbeats 4000000 in
theorem rput_any (v : Value) (l : List Int) (n : Int) (w : World) (hI : Ints w v l) (hl : l.length ≤ 100) :
    Calls Try.prog 100 #[v, .int .i64 n] w fun e w' => ∃ a c, e = .returned (.slice a (l.length + 1) c) ∧ OwnI w.heap.size w' (.slice a (l.length + 1) c) (Lf.insS n l) ∧ Below w.heap.size w w' := by
  obtain ⟨i0, hi0, hz0, hz1, hz2⟩ := info_parts infoInt
  obtain ⟨va, vc, rfl⟩ := hI.form
  have hvl : l.length ≤ vc := by
    obtain ⟨_, _, e, h, _⟩ := id hI
    injection e with _ _ e
    rw [e]; exact h
  have HI := Lib.hid (fun W (hW : Below w.heap.size w W) => hI.all hW)
  have HA := Lib.hid (Ints.at hI)
  clear hI
  go_enter Try.func100, Try.ntmps100
  go_wp2
  go_loopw [5, 6] (fun s t wr => ∃ (k : Nat) (a : Option Addr) (c : Nat), k ≤ l.length ∧ s = .slice a k c ∧ t = .int .i64 k ∧ Hid (∀ j (hj : j < l.length), j < k → l[j] < n) ∧ Hid (OwnI w.heap.size wr (.slice a k c) (l.take k) ∧ Below w.heap.size w wr)) (fun _ t _ => l.length - (intOf t).toNat)
  case atStart => exact ⟨0, none, 0, Nat.zero_le _, rfl, rfl, Lib.hid (fun j hj h => absurd h (Nat.not_lt_zero _)), Lib.hid ⟨OwnG.nil _ _, Below.refl _ _⟩⟩
  case round =>
    obtain ⟨k, a, c, hk, rfl, rfl, HI0, HG⟩ := hrel
    by_cases hlt : k < l.length
    · obtain ⟨vb, vo, rfl, hvb, hcv⟩ := HA.out k hlt
      have y0 := (HG.out.2.cell (p := ⟨vb, vo + k, none⟩) hvb).trans hcv
      rw [show l.getD k 0 = l[k] by simp [hlt]] at y0
      clear hcv
      have hkd : decide (k < l.length) = true := decide_eq_true hlt
      by_cases hln : l[k] < n
      · have d1 : decide (l[k] < n) = true := decide_eq_true hln
        have HTK : Hid (l.take (k + 1) = l.take k ++ [l[k]]) := Lib.hid (List.take_succ_eq_append_getElem hlt)
        have HI1 : Hid (∀ j (hj : j < l.length), j < k + 1 → l[j] < n) := Lib.hid fun j hj hjk => by
          by_cases e : j = k
          · subst e; exact hln
          · exact HI0.out j hj (by omega)
        have hown := HG.out.1
        have hsz := HG.out.2.size
        have hca := cells_new (cs := intL l[k]) wr 3
        generalize l[k] = x at *
        go_wp2_with (at_builtin; refine wpList_append_own _ rfl _ _ 24 rfl w.heap.size 3 i0 _ 1 8 Try.underlying24 hi0 hz0 hz1 hz2 rfl (by decide) _ _ _ rfl (hown.alloc _) _ 1 1 (intL x) rfl rfl ?c1 (intL_one _) ?c3 ?c4 ?c5 ?_)
        case c1 => first | exact hca | exact fun j u h => h
        case c3 => (try rw [List.length_take]); unfold maxLen; omega
        case c4 => (try rw [List.length_take]); omega
        case c5 => first | omega | (simp; omega)
        intro v' w9 hr9 hg9 _
        have hw9 := (below_alloc2 HG.out.2 (.cells (intL x).toArray 3)).grown hg9 (by simp; omega) (fun j e => (World.ownsRow.lt hown j e).1)
        have hp9 : OwnI w.heap.size w9 v' (l.take k ++ [x]) := OwnG.pushed (by rw [List.length_take, Nat.min_eq_left hk]; exact hr9)
        rw [← HTK.out] at hp9
        obtain ⟨a9, c9, e9⟩ := hp9.form
        rw [show (l.take (k + 1)).length = k + 1 by rw [List.length_take]; omega] at e9
        subst e9
        have H9 := Lib.hid (And.intro hp9 hw9)
        clear hown hsz hca hr9 hg9 hp9 hw9 HG y0 HTK
        go_wp2
        go_roundw
        case rel => exact ⟨k + 1, a9, c9, by omega, rfl, by go_num, HI1, H9⟩
        case measure => simp [intOf]; omega
      · have d1 : decide (l[k] < n) = false := decide_eq_false hln
        have HSP := Lib.hid (ins_split hk HI0.out (fun _ => hln))
        generalize l[k] = x at *
        have hown := HG.out.1
        have hsz := HG.out.2.size
        have hca := cells_new (cs := intL n) wr 3
        go_wp2_with (at_builtin; refine wpList_append_own _ rfl _ _ 24 rfl w.heap.size 3 i0 _ 1 8 Try.underlying24 hi0 hz0 hz1 hz2 rfl (by decide) _ _ _ rfl (hown.alloc _) _ 1 1 (intL n) rfl rfl ?c1 (intL_one _) ?c3 ?c4 ?c5 ?_)
        case c1 => first | exact hca | exact fun j u h => h
        case c3 => (try rw [List.length_take]); unfold maxLen; omega
        case c4 => (try rw [List.length_take]); omega
        case c5 => first | omega | (simp; omega)
        intro v' w9 hr9 hg9 _
        have hw9 := (below_alloc2 HG.out.2 (.cells (intL n).toArray 3)).grown hg9 (by simp; omega) (fun j e => (World.ownsRow.lt hown j e).1)
        have hp9 : OwnI w.heap.size w9 v' (l.take k ++ [n]) := OwnG.pushed (by first | exact hr9 | (rw [List.length_take, Nat.min_eq_left (by omega)]; exact hr9))
        obtain ⟨a9, c9, e9⟩ := hp9.form
        rw [show (l.take k ++ [n]).length = k + 1 by rw [List.length_append]; simp <;> omega] at e9
        subst e9
        have H9 := Lib.hid (And.intro hp9 hw9)
        have HIV := Lib.hid (HI.out w9 H9.out.2)
        have hXL : (l.take k ++ [n]).length ≤ 1000 := by rw [List.length_append]; simp; omega
        have HAS : Hid (l.take k ++ n :: l.drop k = Lf.insS n l) := Lib.hid (HSP.out.symm)
        clear hown hsz hca hr9 hg9 hp9 hw9 HG HI HSP HI0 HA
        have hkv : ¬ vc = k := by omega
        have hYL : (l.drop k).length ≤ 1000 := by rw [List.length_drop]; omega
        go_wp2_with (at_builtin; refine wpList_app _ rfl _ _ rfl rfl rfl (append_ints H9.out.1 (drop_ints HIV.out hk) H9.out.2.size hXL hYL) ?_)
        intro v2 W2 hR2
        obtain ⟨hO2, hG2⟩ := hR2.out
        have hb2 := H9.out.2.grown hG2 H9.out.2.size (fun j e => (World.ownsRow.lt H9.out.1 j e).1)
        rw [HAS.out] at hO2
        obtain ⟨a2, c2, e2⟩ := hO2.form
        rw [Lf.insS_len] at e2
        subst e2
        have HF := Lib.hid (And.intro hO2 hb2)
        clear hO2 hG2 hb2 hR2
        go_wp2
        go_ret
        exact ⟨a2, c2, rfl, HF.out⟩
    · obtain rfl : k = l.length := by omega
      have HSP := Lib.hid (ins_split hk HI0.out (fun h => absurd h hlt))
      have HG2 := Lib.hid (show OwnI w.heap.size wr (.slice a l.length c) l ∧ Below w.heap.size w wr from by have := HG.out; rw [List.take_length] at this; exact this)
      clear HG
      have HG := Lib.hid HG2.out
      clear HG2
      have hown := HG.out.1
      have hsz := HG.out.2.size
      have hca := cells_new (cs := intL n) wr 3
      go_wp2_with (at_builtin; refine wpList_append_own _ rfl _ _ 24 rfl w.heap.size 3 i0 _ 1 8 Try.underlying24 hi0 hz0 hz1 hz2 rfl (by decide) _ _ _ rfl (hown.alloc _) _ 1 1 (intL n) rfl rfl ?c1 (intL_one _) ?c3 ?c4 ?c5 ?_)
      case c1 => first | exact hca | exact fun j u h => h
      case c3 => (try rw [List.length_take]); unfold maxLen; omega
      case c4 => (try rw [List.length_take]); omega
      case c5 => first | omega | (simp; omega)
      intro v' w9 hr9 hg9 _
      have hw9 := (below_alloc2 HG.out.2 (.cells (intL n).toArray 3)).grown hg9 (by simp; omega) (fun j e => (World.ownsRow.lt hown j e).1)
      have hp9 : OwnI w.heap.size w9 v' (l ++ [n]) := OwnG.pushed (by first | exact hr9 | (rw [List.length_take, Nat.min_eq_left (by omega)]; exact hr9))
      obtain ⟨a9, c9, e9⟩ := hp9.form
      rw [show (l ++ [n]).length = l.length + 1 by rw [List.length_append]; simp <;> omega] at e9
      subst e9
      have H9 := Lib.hid (And.intro hp9 hw9)
      have HIV := Lib.hid (HI.out w9 H9.out.2)
      have hXL : (l ++ [n]).length ≤ 1000 := by rw [List.length_append]; simp; omega
      have HAS : Hid (l ++ [n] = Lf.insS n l) := Lib.hid (by rw [HSP.out, List.take_length, List.drop_length])
      clear hown hsz hca hr9 hg9 hp9 hw9 HG HI HSP HI0 HA
      rcases va with _ | ⟨vb, vo, vi⟩
      · go_wp2_with (at_builtin; refine wpList_app _ rfl _ _ rfl rfl rfl (append_ints (ys := []) H9.out.1 (ints_nil _ _ _) H9.out.2.size hXL (by simp)) ?_)
        intro v2 W2 hR2
        obtain ⟨hO2, hG2⟩ := hR2.out
        try rw [List.append_nil] at hO2
        have hb2 := H9.out.2.grown hG2 H9.out.2.size (fun j e => (World.ownsRow.lt H9.out.1 j e).1)
        rw [HAS.out] at hO2
        obtain ⟨a2, c2, e2⟩ := hO2.form
        rw [Lf.insS_len] at e2
        subst e2
        have HF := Lib.hid (And.intro hO2 hb2)
        clear hO2 hG2 hb2 hR2
        go_wp2
        go_ret
        exact ⟨a2, c2, rfl, HF.out⟩
      · by_cases hq : vc = l.length
        · go_wp2_with (at_builtin; refine wpList_app _ rfl _ _ rfl rfl rfl (append_ints (ys := []) H9.out.1 (ints_nil _ _ _) H9.out.2.size hXL (by simp)) ?_)
          intro v2 W2 hR2
          obtain ⟨hO2, hG2⟩ := hR2.out
          try rw [List.append_nil] at hO2
          have hb2 := H9.out.2.grown hG2 H9.out.2.size (fun j e => (World.ownsRow.lt H9.out.1 j e).1)
          rw [HAS.out] at hO2
          obtain ⟨a2, c2, e2⟩ := hO2.form
          rw [Lf.insS_len] at e2
          subst e2
          have HF := Lib.hid (And.intro hO2 hb2)
          clear hO2 hG2 hb2 hR2
          go_wp2
          go_ret
          exact ⟨a2, c2, rfl, HF.out⟩
        · go_wp2_with (at_builtin; refine wpList_app _ rfl _ _ rfl rfl rfl (append_ints (ys := []) H9.out.1 (ints_nil _ _ _) H9.out.2.size hXL (by simp)) ?_)
          intro v2 W2 hR2
          obtain ⟨hO2, hG2⟩ := hR2.out
          try rw [List.append_nil] at hO2
          have hb2 := H9.out.2.grown hG2 H9.out.2.size (fun j e => (World.ownsRow.lt H9.out.1 j e).1)
          rw [HAS.out] at hO2
          obtain ⟨a2, c2, e2⟩ := hO2.form
          rw [Lf.insS_len] at e2
          subst e2
          have HF := Lib.hid (And.intro hO2 hb2)
          clear hO2 hG2 hb2 hR2
          go_wp2
          go_ret
          exact ⟨a2, c2, rfl, HF.out⟩
end Go.Proofs.Ytabfcnfddemblaa.Lo
