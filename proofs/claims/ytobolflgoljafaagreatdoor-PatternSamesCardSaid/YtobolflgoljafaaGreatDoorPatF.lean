/- The reference's Home. The reference's Equal and Copy. -/
import Derived.Test.YtobolflgoljafaaGreatDoorPatE
import Derived.Maps.AppendAt
import Derived.Laws.OwnMore
namespace Go.Proofs.YtobolflgoljafaaGreatDoor
open Go.RowKit

theorem home_hit {l : Pt.Lat} (h : l.ok) {x y u v : Int} (h1 : 0 ≤ u) (h2 : u < l.a) (h3 : 0 ≤ v) (h4 : v < l.c) : hasB l (x - u) (y - v) = true ↔ u = Pt.hx l x y ∧ v = Pt.hy l y := by
  rw [hasB_iff h]
  constructor
  · intro hi
    obtain ⟨e1, e2⟩ := Pt.home_eq h hi
    obtain ⟨e3, e4⟩ := Pt.home_self h1 h2 h3 h4
    exact ⟨by rw [e1, e3], by rw [e2, e4]⟩
  · rintro ⟨rfl, rfl⟩
    exact Pt.home_in l x y

end Go.Proofs.YtobolflgoljafaaGreatDoor
namespace Go.Proofs.YtobolflgoljafaaGreatDoor
open Go.RowKit

def eqP (A B C : Int) (xs : List Int) (A' B' C' : Int) (ys : List Int) : Bool := decide (A = A' ∧ B = B' ∧ C = C' ∧ xs = ys)
theorem eqP_no {A B C A' B' C' : Int} {xs ys : List Int} (h : ¬ (A = A' ∧ B = B' ∧ C = C' ∧ xs = ys)) : eqP A B C xs A' B' C' ys = false := decide_eq_false h
theorem eqP_same (A B C : Int) (xs : List Int) : eqP A B C xs A B C xs = true := decide_eq_true ⟨rfl, rfl, rfl, rfl⟩
theorem list_same {xs ys : List Int} (hl : xs.length = ys.length) (h : ∀ j, j < xs.length → xs.getD j 0 = ys.getD j 0) : xs = ys := by
  refine List.ext_getElem hl fun j h1 h2 => ?_
  have := h j h1
  simpa [h1, h2] using this

set_option maxRecDepth 20000 in
set_option maxHeartbeats 1000000 in
theorem refEqual_any (A B C A' B' C' : Int) (u v : Value) (xs ys : List Int) (w : World) (hu : Ints w u xs) (hv : Ints w v ys) (hl : xs.length ≤ 1000000000) (_hl2 : ys.length ≤ 1000000000) :
    Calls Tryz.prog 17 #[.agg #[.int .i64 A, .int .i64 B, .int .i64 C, u], .agg #[.int .i64 A', .int .i64 B', .int .i64 C', v]] w fun e w' => e = .returned (.bool (eqP A B C xs A' B' C' ys)) ∧ Below w.heap.size w w' := by
  obtain ⟨a, c, rfl, hk⟩ := hu.look'
  obtain ⟨a2, c2, rfl, hk2⟩ := hv.look'
  have HK := Lib.hid hk
  have HK2 := Lib.hid hk2
  have b0 := (BlockAt.new w #[.int .i64 A, .int .i64 B, .int .i64 C, .slice a xs.length c] 24).alloc (.cells #[.int .i64 A', .int .i64 B', .int .i64 C', .slice a2 ys.length c2] 24)
  have b1 := BlockAt.new (w.alloc (.cells #[.int .i64 A, .int .i64 B, .int .i64 C, .slice a xs.length c] 24)) #[.int .i64 A', .int .i64 B', .int .i64 C', .slice a2 ys.length c2] 24
  simp only [World.size_alloc] at b1
  have hw := below_alloc (below_alloc (Below.refl w.heap.size w) (.cells #[.int .i64 A, .int .i64 B, .int .i64 C, .slice a xs.length c] 24)) (.cells #[.int .i64 A', .int .i64 B', .int .i64 C', .slice a2 ys.length c2] 24)
  have HB := Lib.hid (And.intro b0 (And.intro b1 hw))
  clear b0 b1 hw hu hv hk hk2
  by_cases hA : A = A'
  case neg =>
    have HE := Lib.hid (eqP_no (B := B) (C := C) (B' := B') (C' := C') (xs := xs) (ys := ys) (fun h => hA h.1))
    have q : (A == A') = false := beq_eq_false_iff_ne.2 hA
    have q2 : (A != A') = true := by rw [bne, q]; rfl
    generalize eqP A B C xs A' B' C' ys = r at *
    clear hA
    go_enter Tryz.func17, Tryz.ntmps17
    go_wp2
    go_ret
    exact ⟨by rw [HE.out]; rfl, HB.out.2.2⟩
  subst hA
  have q : (A == A) = true := beq_self_eq_true _
  have q2 : (A != A) = false := by rw [bne, q]; rfl
  by_cases hB : B = B'
  case neg =>
    have HE := Lib.hid (eqP_no (A := A) (C := C) (A' := A) (C' := C') (xs := xs) (ys := ys) (fun h => hB h.2.1))
    have q : (B == B') = false := beq_eq_false_iff_ne.2 hB
    have q2 : (B != B') = true := by rw [bne, q]; rfl
    generalize eqP A B C xs A B' C' ys = r at *
    clear hB
    go_enter Tryz.func17, Tryz.ntmps17
    go_wp2
    go_ret
    exact ⟨by rw [HE.out]; rfl, HB.out.2.2⟩
  subst hB
  have q3 : (B == B) = true := beq_self_eq_true _
  have q4 : (B != B) = false := by rw [bne, q3]; rfl
  by_cases hC : C = C'
  case neg =>
    have HE := Lib.hid (eqP_no (A := A) (B := B) (A' := A) (B' := B) (xs := xs) (ys := ys) (fun h => hC h.2.2.1))
    have q : (C == C') = false := beq_eq_false_iff_ne.2 hC
    have q2 : (C != C') = true := by rw [bne, q]; rfl
    generalize eqP A B C xs A B C' ys = r at *
    clear hC
    go_enter Tryz.func17, Tryz.ntmps17
    go_wp2
    go_ret
    exact ⟨by rw [HE.out]; rfl, HB.out.2.2⟩
  subst hC
  have q5 : (C == C) = true := beq_self_eq_true _
  have q6 : (C != C) = false := by rw [bne, q5]; rfl
  by_cases hL : xs.length = ys.length
  case neg =>
    have HE := Lib.hid (eqP_no (A := A) (B := B) (C := C) (A' := A) (B' := B) (C' := C) (xs := xs) (ys := ys) (fun h => hL (by rw [h.2.2.2])))
    have q7 : ((xs.length : Int) == (ys.length : Int)) = false := beq_eq_false_iff_ne.2 (by omega)
    have q8 : ((xs.length : Int) != (ys.length : Int)) = true := by rw [bne, q7]; rfl
    generalize eqP A B C xs A B C ys = r at *
    clear hL
    go_enter Tryz.func17, Tryz.ntmps17
    go_wp2
    go_ret
    exact ⟨by rw [HE.out]; rfl, HB.out.2.2⟩
  have HL := Lib.hid hL
  have HLS := Lib.hid (fun h => list_same hL h)
  have q7 : ((xs.length : Int) == (ys.length : Int)) = true := beq_iff_eq.2 (by omega)
  have q8 : ((xs.length : Int) != (ys.length : Int)) = false := by rw [bne, q7]; rfl
  have HY : Hid (xs = ys → eqP A B C xs A B C ys = true) := Lib.hid fun h => decide_eq_true ⟨rfl, rfl, rfl, h⟩
  have HN : Hid (∀ j, j < xs.length → xs.getD j 0 ≠ ys.getD j 0 → eqP A B C xs A B C ys = false) := Lib.hid fun j hj hne => eqP_no fun h => hne (by rw [h.2.2.2])
  generalize eqP A B C xs A B C ys = r at *
  clear hL
  go_enter Tryz.func17, Tryz.ntmps17
  go_wp2
  clear q q2 q3 q4 q5 q6 q7 q8
  go_loopw [5] (fun t wr => ∃ k : Nat, k ≤ xs.length ∧ t = .int .i64 k ∧ Hid ((∀ j, j < k → xs.getD j 0 = ys.getD j 0) ∧ BlockAt wr w.heap.size #[.int .i64 A, .int .i64 B, .int .i64 C, .slice a xs.length c] 24 ∧ BlockAt wr (w.heap.size + 1) #[.int .i64 A, .int .i64 B, .int .i64 C, .slice a2 ys.length c2] 24 ∧ Below w.heap.size w wr)) (fun t _ => xs.length - (intOf t).toNat)
  case atStart => exact ⟨0, Nat.zero_le _, rfl, Lib.hid ⟨fun j h => absurd h (Nat.not_lt_zero _), HB.out⟩⟩
  case round =>
    obtain ⟨k, hk, rfl, hg⟩ := hrel
    clear HB
    have c3 : World.cell? _ _ = some (.slice a xs.length c) := hg.out.2.1.cell 3
    have d3 : World.cell? _ _ = some (.slice a2 ys.length c2) := hg.out.2.2.1.cell 3
    by_cases hlt : k < xs.length
    · have hlt2 : k < ys.length := by rw [← HL.out]; exact hlt
      obtain ⟨b, off, rfl, hb, hx⟩ := HK.out k hlt
      obtain ⟨b2, off2, rfl, hb2, hx2⟩ := HK2.out k hlt2
      have c0 := (hg.out.2.2.2.cell (p := ⟨b, off + k, none⟩) hb).trans hx
      have c1 := (hg.out.2.2.2.cell (p := ⟨b2, off2 + k, none⟩) hb2).trans hx2
      have HNK := Lib.hid (HN.out k hlt)
      have HO := Lib.hid hg.out.1
      clear hx hx2
      generalize hz1 : xs.getD k 0 = z1 at *
      generalize hz2 : ys.getD k 0 = z2 at *
      have HG := Lib.hid hg.out.2
      have HZ1 := Lib.hid hz1
      have HZ2 := Lib.hid hz2
      clear hg hz1 hz2
      by_cases he : z1 = z2
      · subst he
        have hne : (z1 != z1) = false := by simp
        clear HNK
        go_wp2_with fail
        go_quiet (fail)
        go_wp2
        go_roundw
        case rel =>
          refine ⟨k + 1, by omega, by go_num, Lib.hid ⟨fun j hj => ?_, ?_, ?_, ?_⟩⟩
          · by_cases e : j = k
            · subst e; rw [HZ1.out, HZ2.out]
            · exact HO.out j (by omega)
          · exact HG.out.1
          · exact HG.out.2.1
          · exact below_drewN HG.out.2.2 _
        case measure => simp [intOf]; omega
      · have hne : (z1 == z2) = false := beq_eq_false_iff_ne.2 he
        have hne2 : (z1 != z2) = true := by rw [bne, hne]; rfl
        have HE := Lib.hid (HNK.out he)
        clear he HNK
        go_wp2_with fail
        go_quiet (fail)
        go_wp2
        go_ret
        exact ⟨by rw [HE.out]; rfl, below_drewN HG.out.2.2 _⟩
    · obtain rfl : k = xs.length := by omega
      have HE := Lib.hid (HY.out (HLS.out hg.out.1))
      have HG := Lib.hid hg.out.2.2.2
      clear hg
      go_wp2
      go_ret
      exact ⟨by rw [HE.out]; rfl, HG.out⟩
/-- A slice without memory has no room. -/
def nilOk (v : Value) : Prop := ∀ n c, v = .slice none n c → c = 0
theorem ints_news {W : World} {b off : Nat} {xs : List Int} (h : ∀ k, k < xs.length → W.cell? ⟨b, off + k, none⟩ = some (.int .i64 (xs.getD k 0))) : ∀ (j : Nat) (u : Value), (cellsL xs)[j]? = some u → W.cell? ((⟨b, off, none⟩ : Addr).add j) = some u := by
  intro j u hj
  have hlen : (cellsL xs).length = xs.length := by
    have : ∀ ys : List Int, (cellsL ys).length = ys.length := fun ys => by
      induction ys with
      | nil => rfl
      | cons y ys ih => simp [cellsL, intL, ih]
    exact this xs
  have hjl : j < xs.length := by
    rw [← hlen]
    exact (List.getElem?_eq_some_iff.1 hj).1
  rw [cellsL_get xs j hjl] at hj
  have e : (⟨b, off, none⟩ : Addr).add j = ⟨b, off + j, none⟩ := by
    unfold Addr.add
    split
    · rename_i e; subst e; rfl
    · rfl
  rw [e, h j hjl, ← hj, getD_at hjl]
theorem cellsL_len : ∀ ys : List Int, (cellsL ys).length = ys.length := fun ys => by
  induction ys with
  | nil => rfl
  | cons y ys ih => simp [cellsL, intL, ih]
theorem cellsL_one (ys : List Int) : ∀ u ∈ cellsL ys, u.oneCell' = true := by
  induction ys with
  | nil => intro u h; simp [cellsL] at h
  | cons y ys ih =>
    intro u h
    rcases List.mem_append.1 (show u ∈ intL y ++ cellsL ys from h) with h | h
    · exact intL_one y u h
    · exact ih u h
/-- An append beside other operations of its region. -/
theorem oper_append {P : Program} {o : Oper} {a : Act} {w w' : World} {K : Act → World → Prop} {Q : Exit → Act → World → Prop} {s x : Operand} {t : TypeId} {v z v' : Value}
    (ho : o.op = .call { callee := .builtin .append, args := #[s, x], argTypes := #[t, t] }) (hs : a.eval s = v) (hx : a.eval x = z)
    (hr : (Builtin.append_ #[t, t] o.type #[v, z]).run P w = .ok v' w') (h : K (a.put o.dst v') w') : Oper.wp P o a w K Q := by
  unfold Oper.wp execOp
  simp only [ho, resolve, invoke, builtin, Sem.run_bind, Sem.run_pure, Result.andThen_ok, List.map_toArray, List.map_cons, List.map_nil, hs, hx, hr]
  exact h
theorem OwnI.form {base : Nat} {w : World} {v : Value} {ks : List Int} (h : OwnI base w v ks) : ∃ a c, v = .slice a ks.length c := by
  rcases h with ⟨_, ⟨h1, h2⟩ | ⟨g, cap, cur, h1, _⟩⟩
  · exact ⟨none, 0, by rw [h1]; congr 1; exact h2.symm⟩
  · exact ⟨_, _, h1⟩

theorem OwnI.setOld {base : Nat} {w : World} {v : Value} {ks : List Int} (h : OwnI base w v ks) {a : Addr} (ha : a.block < base) (u : Value) : OwnI base (w.setCell a u) v ks := RowKit.ownsRow_setCell_below h ha u
/-- A list is appended to an empty row, in any later world. -/
theorem clone_ints {w : World} {a : Option Addr} {c : Nat} {cs : List Int} (hv : Ints w (.slice a cs.length c) cs) (hn : nilOk (.slice a cs.length c)) (hl : cs.length ≤ 1000000) : ∀ W : World, Below w.heap.size w W → ∃ (v' : Value) (W' : World), (Builtin.append_ #[22, 22] 22 #[.slice (some ⟨W.heap.size, 0, none⟩) 0 0, .slice a cs.length c]).run Tryz.prog (W.alloc (.cells #[] 3)) = .ok v' W' ∧ OwnI W.heap.size W' v' cs ∧ Below W.heap.size W W' := by
  intro W hW
  obtain ⟨i0, hi, hz0, hz1, hz2⟩ := info_parts infoInt
  have hown := World.ownsRow_made (base := W.heap.size) (e := 3) (size := 1) W #[] 0 (Nat.le_refl _) (by unfold maxLen; omega) rfl
  have hw1 := (Below.refl W.heap.size W).alloc (Nat.le_refl _) (.cells #[] 3)
  rcases hv.all hW with ⟨a', c', e, rfl⟩ | ⟨b, off, cap, e, hc, hb, h4⟩
  · simp only [Value.slice.injEq] at e
    obtain ⟨rfl, _, rfl⟩ := e
    cases a with
    | none =>
      obtain rfl := hn _ _ rfl
      have hrun := run_append_owned_none (P := Tryz.prog) (w := W.alloc (.cells #[] 3)) W.heap.size 22 22 3 i0 1 Tryz.underlying22 hi _ 0 [] hown
      exact ⟨_, _, hrun, hown, hw1⟩
    | some ad =>
      obtain ⟨v', W', h1, h2, h3, _⟩ := run_append_own (P := Tryz.prog) (w := W.alloc (.cells #[] 3)) W.heap.size 22 22 3 i0 (.int .i64 0) 1 8 Tryz.underlying22 hi hz0 hz1 hz2 rfl (by decide) _ 0 [] hown ad 0 c [] rfl (by intro j u h; simp at h) (by intro u h; simp at h) (by unfold maxLen; omega) (by omega) (by simp)
      have h2' : OwnI W.heap.size W' v' [] := by unfold OwnI; simpa [cellsL] using h2
      exact ⟨v', W', h1, h2', hw1.grown h3 (by simp) (fun j e => (World.ownsRow.lt hown j e).1)⟩
  · simp only [Value.slice.injEq] at e
    obtain ⟨rfl, _, rfl⟩ := e
    have hca := ints_news (W := W.alloc (.cells #[] 3)) (b := b) (off := off) (xs := cs) (fun k hk => (hw1.cell (p := ⟨b, off + k, none⟩) hb).trans (h4 k hk))
    obtain ⟨v', W', h1, h2, h3, _⟩ := run_append_own (P := Tryz.prog) (w := W.alloc (.cells #[] 3)) W.heap.size 22 22 3 i0 (.int .i64 0) 1 8 Tryz.underlying22 hi hz0 hz1 hz2 rfl (by decide) _ 0 [] hown ⟨b, off, none⟩ cs.length c (cellsL cs) (by rw [cellsL_len]; omega) hca (cellsL_one cs) (by unfold maxLen; omega) (by omega) (by simp)
    have h2' : OwnI W.heap.size W' v' cs := by unfold OwnI; simpa using h2
    exact ⟨v', W', h1, h2', hw1.grown h3 (by simp) (fun j e => (World.ownsRow.lt hown j e).1)⟩

set_option maxRecDepth 20000 in
set_option maxHeartbeats 1000000 in
theorem refCopy_any (A B C : Int) (v : Value) (cs : List Int) (w : World) (hv : Ints w v cs) (hn : nilOk v) (hl : cs.length ≤ 1000000) :
    Calls Tryz.prog 18 #[.agg #[.int .i64 A, .int .i64 B, .int .i64 C, v]] w fun e w' => ∃ u, e = .returned (.agg #[.int .i64 A, .int .i64 B, .int .i64 C, u]) ∧ OwnI w.heap.size w' u cs ∧ Below w.heap.size w w' := by
  obtain ⟨a, c, rfl, _⟩ := hv.look'
  have bX := (BlockAt.new w #[.int .i64 A, .int .i64 B, .int .i64 C, .slice a cs.length c] 24).alloc (.cells #[.int .i64 0, .int .i64 0, .int .i64 0, .slice none 0 0] 24)
  have bR := BlockAt.new (w.alloc (.cells #[.int .i64 A, .int .i64 B, .int .i64 C, .slice a cs.length c] 24)) #[.int .i64 0, .int .i64 0, .int .i64 0, .slice none 0 0] 24
  have hw0 := below_alloc (below_alloc (Below.refl w.heap.size w) (.cells #[.int .i64 A, .int .i64 B, .int .i64 C, .slice a cs.length c] 24)) (.cells #[.int .i64 0, .int .i64 0, .int .i64 0, .slice none 0 0] 24)
  simp only [World.size_alloc] at bR
  have AP := Lib.hid (clone_ints hv hn hl)
  have HB := Lib.hid (And.intro bX (And.intro bR hw0))
  have hS0 := BlockAt.pat (l := ⟨A, B, C⟩) bX.drew
  clear bX bR hw0 hv hn
  go_enter Tryz.func18, Tryz.ntmps18
  go_wp2_with fail
  refine wp_region_seq [(0, true), (1, true), (2, true), (3, true), (4, true), (5, true), (7, true), (8, true), (6, false), (9, false), (10, true), (11, false)] (fun W => PatAt W w.heap.size ⟨A, B, C⟩ (.slice a cs.length c))
    (by kernel_rfl) (by kernel_rfl) (by kernel_rfl) (by kernel_rfl) (fun d _ _ _ _ h => by cases d <;> exact h) hS0 (fun hS => ?_)
  clear hS0
  obtain ⟨X0, hX0⟩ : ∃ X, ((w.alloc (.cells #[.int .i64 A, .int .i64 B, .int .i64 C, .slice a cs.length c] 24)).alloc (.cells #[.int .i64 0, .int .i64 0, .int .i64 0, .slice none 0 0] 24)).drew = X := ⟨_, rfl⟩
  have HX : Hid (BlockAt X0 w.heap.size #[.int .i64 A, .int .i64 B, .int .i64 C, .slice a cs.length c] 24 ∧ BlockAt X0 (w.heap.size + 1) #[.int .i64 0, .int .i64 0, .int .i64 0, .slice none 0 0] 24 ∧ Below w.heap.size w X0 ∧ X0.heap.size = w.heap.size + 1 + 1) := Lib.hid (by rw [← hX0]; exact ⟨HB.out.1.drew, HB.out.2.1.drew, HB.out.2.2.drew, by simp [World.drew]⟩)
  rw [hX0] at hS ⊢
  repeat (refine SeqH.take (v := ?_) rfl (by rfl) ?_ ?_; rotate_left; (· intro w hSw; (try dsimp only at hSw); obtain ⟨q0, q1, q2, q3, _⟩ := hSw; go_simp; (try with_reducible rfl)); simp only [Act.put, List.setIfInBounds_toArray, List.set_cons_zero, List.set_cons_succ])
  refine SeqH.step rfl (by rfl) (fun K hK => ?_)
  go_simp
  obtain ⟨v', X1, hrun, hrr, hb1⟩ := AP.out X0 HX.out.2.2.1
  obtain ⟨va, vc, rfl⟩ := hrr.form
  have HP := Lib.hid hb1
  have HRR := Lib.hid hrr
  clear hX0 HB AP hb1 hrr
  have hS1 : PatAt (X0.alloc (.cells #[] 3)) w.heap.size ⟨A, B, C⟩ (.slice a cs.length c) := BlockAt.pat (l := ⟨A, B, C⟩) (HX.out.1.alloc _)
  try dsimp only
  refine hK.out _ _ hS1 (fun _ => ?_)
  clear hK K hS hS1
  try simp only [Act.put, List.setIfInBounds_toArray, List.set_cons_zero, List.set_cons_succ]
  refine SeqH.step rfl (by rfl) (fun K hK => ?_)
  refine oper_append rfl rfl rfl hrun ?_
  have bR1 := HX.out.2.1.below HP.out HX.out.2.1.lt
  have bX1 := HX.out.1.below HP.out HX.out.1.lt
  have hS2 : PatAt X1 w.heap.size ⟨A, B, C⟩ (.slice a cs.length c) := BlockAt.pat (l := ⟨A, B, C⟩) bX1
  have HN := Lib.hid (And.intro bR1 (And.intro bX1 (below_step HX.out.2.2.1 HP.out)))
  clear bR1 bX1
  try dsimp only
  refine hK.out _ _ hS2 (fun _ => ?_)
  clear hK K hS2 hrun
  try simp only [Act.put, List.setIfInBounds_toArray, List.set_cons_zero, List.set_cons_succ]
  repeat (refine SeqH.take (v := ?_) rfl (by rfl) ?_ ?_; rotate_left; (· intro w hSw; (try dsimp only at hSw); go_simp; (try with_reducible rfl)); simp only [Act.put, List.setIfInBounds_toArray, List.set_cons_zero, List.set_cons_succ])
  have d0 := HN.out.1.cell 0
  have d1 := HN.out.1.cell 1
  have d2 := HN.out.1.cell 2
  have d3 := HN.out.1.cell 3
  have e0 := HN.out.1.frozen 0
  have e1 := HN.out.1.frozen 1
  have e2 := HN.out.1.frozen 2
  have e3 := HN.out.1.frozen 3
  have hsz := HN.out.1.lt
  refine SeqH.step rfl (by rfl) (fun K hK => ?_)
  go_simp
  have hS3 : PatAt ((((X1.setCell ⟨w.heap.size + 1, 0, none⟩ (.int .i64 A)).setCell ⟨w.heap.size + 1, 1, none⟩ (.int .i64 B)).setCell ⟨w.heap.size + 1, 2, none⟩ (.int .i64 C)).setCell ⟨w.heap.size + 1, 3, none⟩ (.slice va cs.length vc)) w.heap.size ⟨A, B, C⟩ (.slice a cs.length c) := ((((BlockAt.pat (l := ⟨A, B, C⟩) HN.out.2.1).other (by omega) _).other (by omega) _).other (by omega) _).other (by omega) _
  try dsimp only
  refine hK.out _ _ hS3 (fun _ => ?_)
  clear hK K hS3
  try simp only [Act.put, List.setIfInBounds_toArray, List.set_cons_zero, List.set_cons_succ]
  refine SeqH.done ?_
  go_wp2
  refine bodyPost_ret (v := .agg #[.int .i64 A, .int .i64 B, .int .i64 C, .slice va cs.length vc]) (by simp [results, Tryz.results18, go_sem, d0, d1, d2, d3]) rfl ⟨_, rfl, ?_, ?_⟩
  · have h4 := HX.out.2.2.2
    exact OwnI.mono (OwnI.setOld (OwnI.setOld (OwnI.setOld (OwnI.setOld HRR.out (by simp; omega) _) (by simp; omega) _) (by simp; omega) _) (by simp; omega) _) (by omega)
  · exact (((HN.out.2.2.setCell (by simp) _).setCell (by simp) _).setCell (by simp) _).setCell (by simp) _
end Go.Proofs.YtobolflgoljafaaGreatDoor
