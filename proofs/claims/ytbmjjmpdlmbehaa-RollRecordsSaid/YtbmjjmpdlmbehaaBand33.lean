/- The iterator over a list that the call itself has made; lists of ints. -/
import Derived.Test.YtbmjjmpdlmbehaaBand21
import Derived.Test.YtbmjjmpdlmbehaaBand32
namespace Go.Proofs.Ytbmjjmpdlmbehaa
open Go.RowKit Go.Shelf

attribute [local go_sem] Oper.semAt_some

/-- A block lies on as it lay. -/
def KpB (b0 : Nat) (cs : Array Value) (t0 : TypeId) (A B : World) : Prop := BlockAt A b0 cs t0 → BlockAt B b0 cs t0
theorem kpB_t {b0 : Nat} {cs : Array Value} {t0 : TypeId} {A B C : World} (h : KpB b0 cs t0 A B) (k : KpB b0 cs t0 B C) : KpB b0 cs t0 A C := fun x => k (h x)
theorem kpB_b {b0 : Nat} {cs : Array Value} {t0 : TypeId} {w : World} (W : World) (l : Nat) (o o' : Obj) (_ : w.heap.size ≤ l) (h : W.heap[l]? = some o) (ho : o.isCells = false) (_ : o.isWalk = false) : KpB b0 cs t0 W (W.putObj l o') := by
  intro x
  refine x.kept (grownBy_putObj' W l o') ?_
  intro e
  obtain rfl : b0 = l := by simpa using e
  rw [show W.heap[b0]? = _ from x] at h; cases h; cases ho
set_option maxRecDepth 100000 in
set_option maxHeartbeats 4000000 in
theorem marks2_any (F : Fence) (n : Nat) (hF : F.fn 83) (hro : F.round = none) (hn : 1 ≤ n) (l Bs b0 : Nat) (cs : Array Value) (t0 : TypeId) (sv : Value) (rs : List Bd.R) (hf : Bd.fine rs) (J Jx : List Bd.SpB → World → Prop)
    (W : World) (hb0 : BlockAt W b0 cs t0) (hJa : AbidesFrom W.heap.size J)
    (hY : ∀ pre x W, J pre W → pre.length < rs.length → YieldAt F (n - 1) Try.prog l (encs x) W fun e W' =>
      (e = .returned (.bool true) ∧ J (pre ++ [x]) W' ∧ KpB b0 cs t0 W W') ∨ (e = .returned (.bool false) ∧ Jx (pre ++ [x]) W'))
    (hBs : W.cell? ⟨Bs, 0, none⟩ = some sv) (hsv : ∃ ao c, sv = .slice ao rs.length c ∧ ∀ k (hk : k < rs.length), ∃ off, ao = some ⟨b0, off, none⟩ ∧ ∀ W, BlockAt W b0 cs t0 → RunAt W b0 (off + k * 4) rs[k]) (h0 : J [] W) :
    CallsIn F n Try.prog 83 #[.func (.yield l) #[] #[], .pointer (some ⟨Bs, 0, none⟩)] W fun e W' => (∃ v, e = .returned v) ∧
      ((∃ ys, ys = Bd.upto rs rs.length ∧ J ys W') ∨ (∃ pre, (∃ k, k ≤ rs.length ∧ pre = Bd.upto rs k) ∧ Jx pre W')) := by
  obtain ⟨ao, c, rfl, hcell⟩ := hsv
  have HC := Lib.hid hcell
  clear hcell
  have HB := Lib.hid (Bd.len_take_le hf.2.1)
  have hmax := hf.2.2
  have hlen := hf.1
  have HF := Lib.hid (fun k (hk : k < rs.length) => Bd.spk_eq hf hk)
  clear hf
  refine callsIn_of_wp Try.func83 rfl hF ?_ hro
  simp only [Try.ntmps83, List.size_toArray, List.length_cons, List.length_nil, Nat.reduceAdd, Nat.reduceSub, Array.replicate_succ, Array.replicate_zero, List.push_toArray, List.append_toArray, List.nil_append, List.cons_append]
  gi_wp2
  gi_loopw [3, 9] (fun s t wr => ∃ k : Nat, k ≤ rs.length ∧ t = .int .i64 k ∧ s = .int .i64 (Bd.len (rs.take k)) ∧ Hid (J (Bd.upto rs k) wr ∧ BlockAt wr b0 cs t0)) (fun _ t _ => rs.length - (intOf t).toNat)
  case atStart => exact ⟨0, Nat.zero_le _, rfl, rfl, Lib.hid ⟨h0, hb0⟩⟩
  case round =>
    obtain ⟨k, hk, rfl, rfl, hg⟩ := hrel
    by_cases hlt : k < rs.length
    · obtain ⟨hJs, hnx⟩ := hg.out
      obtain ⟨off, rfl, hr⟩ := HC.out k hlt
      obtain ⟨c0, c1, c2, c3⟩ := hr wr hnx
      have hJ2 : J (Bd.upto rs k) (wr.alloc (.cells #[.int .i64 rs[k].l, .int .i64 rs[k].m.t, .int .i64 rs[k].m.s, .int .i64 rs[k].m.f] 52)) := hJa _ _ _ none hJs (World.grownBy_alloc _ _ none) (fun r e => by cases e)
      have hnx2 := hnx.alloc (.cells #[.int .i64 rs[k].l, .int .i64 rs[k].m.t, .int .i64 rs[k].m.s, .int .i64 rs[k].m.f] 52)
      obtain ⟨fn, tmps, assign, body, hy, hR⟩ := hY _ (Bd.spk rs k) _ hJ2 (by rw [Bd.upto_length]; exact hlt)
      have hs := Bd.len_take_succ hlt
      have b1 := HB.out k
      have b2 := HB.out (k + 1)
      have e1 := congrArg Bd.Sp.f (HF.out k hlt)
      have e2 := congrArg Bd.Sp.t (HF.out k hlt)
      have e3 := congrArg Bd.Sp.m (HF.out k hlt)
      dsimp only [encs] at e1 e2 e3 hy
      rw [e1, e2, e3, hs] at hy
      rw [hs] at b2
      have HS := Lib.hid hs
      have HR := Lib.hid hR
      have HN := Lib.hid hnx2
      clear hs e1 e2 e3 hR hg hJ2 hnx2 hJs hr hnx hb0
      generalize Bd.len (rs.take k) = s at *
      generalize rs[k] = r at *
      gi_wp2
      refine HR.out.mono ?_
      rintro e W3 (⟨rfl, hJ3, hk3⟩ | ⟨rfl, hJx3⟩)
      · gi_wp2
        go_roundw
        case rel => exact ⟨k + 1, by omega, by go_num, by rw [HS.out], Lib.hid ⟨by rw [Bd.upto_succ]; exact hJ3, hk3 HN.out⟩⟩
        case measure => simp [intOf]; omega
      · gi_wp2
        refine bodyPost_ret (results_none rfl _ _ _) rfl ?_
        exact ⟨⟨_, rfl⟩, .inr ⟨_, ⟨k + 1, by omega, (Bd.upto_succ _ _).symm⟩, hJx3⟩⟩
    · obtain rfl : k = rs.length := by omega
      gi_wp2
      go_end0
      exact ⟨⟨_, rfl⟩, .inl ⟨_, rfl, hg.out.1⟩⟩


/-- The iterator's contract, for a list in a block that the loop leaves alone. -/
theorem marks_stays (F : Fence) (n : Nat) (hF : F.fn 83) (hro : F.round = none) (hn : 1 ≤ n) (Bs b0 : Nat) (cs : Array Value) (t0 : TypeId) (sv : Value) (rs : List Bd.R) (hf : Bd.fine rs) (w : World) (hBs : Bs < w.heap.size) (hb0 : BlockAt w b0 cs t0)
    (hc : w.cell? ⟨Bs, 0, none⟩ = some sv) (hsv : ∃ ao c, sv = .slice ao rs.length c ∧ ∀ k (hk : k < rs.length), ∃ off, ao = some ⟨b0, off, none⟩ ∧ ∀ W, BlockAt W b0 cs t0 → RunAt W b0 (off + k * 4) rs[k]) :
    SeqStopsK F n Try.prog 83 #[.pointer (some ⟨Bs, 0, none⟩)] encs (KpB b0 cs t0) (fun ys => ys = Bd.upto rs rs.length) (fun pre => ∃ k, k ≤ rs.length ∧ pre = Bd.upto rs k) rs.length w := fun l J Jx W hW hJ _ hY h0 =>
  marks2_any F n hF hro hn l Bs b0 cs t0 sv rs hf J Jx W (hb0.below hW hb0.lt) hJ hY ((hW.cell (p := ⟨Bs, 0, none⟩) hBs).trans hc) hsv h0
/-- An own list lies in one block, if it is not empty. -/
theorem Own.block {base : Nat} {w : World} {v : Value} {rs : List Bd.R} (h : Own base w v rs) (B : Nat) (u : Value) (t : TypeId) (hB : base ≤ B) (hB2 : Boxed w B t u) :
    ∃ b0 cs t0, base ≤ b0 ∧ BlockAt w b0 cs t0 ∧ ((t0 = 52) ∨ t0 = t) ∧ ∃ ao c, v = .slice ao rs.length c ∧ ∀ k (hk : k < rs.length), ∃ off, ao = some ⟨b0, off, none⟩ ∧ ∀ W, BlockAt W b0 cs t0 → RunAt W b0 (off + k * 4) rs[k] := by
  rcases h.form with ⟨rfl, rfl⟩ | ⟨g, cap, rfl, _, _, _, _, hr⟩
  · exact ⟨B, _, t, hB, hB2, .inr rfl, none, 0, rfl, fun k hk => by simp at hk⟩
  · obtain ⟨_, ⟨h1, h2⟩ | ⟨g', cap', cur, h1, h2, h3, _⟩⟩ := id h
    · cases h1
    · obtain ⟨rfl, rfl⟩ : g = g' ∧ cap = cap' := by simpa using h1
      refine ⟨g, cur, 52, h2, h3, .inl rfl, _, cap, rfl, fun k hk => ⟨0, rfl, fun W hW => ?_⟩⟩
      have h4 := hr k hk
      rw [getD_run hk] at h4
      have e : ∀ i, W.cell? ⟨g, i, none⟩ = w.cell? ⟨g, i, none⟩ := fun i => (hW.cell i).trans (BlockAt.cell h3 i).symm
      rw [Nat.zero_add]
      exact ⟨(e _).trans h4.1, (e _).trans h4.2.1, (e _).trans h4.2.2.1, (e _).trans h4.2.2.2⟩

def intC (x : Int) : List Value := [.int .i64 x]
def cellsI : List Int → List Value
  | [] => []
  | x :: b => intC x ++ cellsI b
theorem cellsI_append (a b : List Int) : cellsI (a ++ b) = cellsI a ++ cellsI b := by
  induction a with
  | nil => rfl
  | cons r a ih => simp [cellsI, ih, List.append_assoc]
theorem cellsI_get : ∀ (a : List Int) (k : Nat) (hk : k < a.length), (cellsI a)[k]? = some (.int .i64 a[k])
  | x :: a, 0, _ => rfl
  | x :: a, k + 1, hk => by
    have := cellsI_get a k (by simpa using hk)
    simpa [cellsI, intC] using this
def OwnI (base : Nat) (w : World) (v : Value) (ks : List Int) : Prop := w.ownsRow base 3 1 v ks.length (cellsI ks)
theorem OwnI.nil (base : Nat) (w : World) : OwnI base w (.slice none 0 0) [] := World.ownsRow_nil _ _ _ _
theorem OwnI.pushed {base : Nat} {w : World} {v : Value} {a : List Int} {x : Int} (h : w.ownsRow base 3 1 v (a.length + 1) (cellsI a ++ intC x)) : OwnI base w v (a ++ [x]) := by
  unfold OwnI
  rw [cellsI_append, show cellsI [x] = intC x by simp [cellsI], show (a ++ [x]).length = a.length + 1 by simp]
  exact h
/-- A list of ints that can be read. -/
def Ints (w : World) (v : Value) (ks : List Int) : Prop := ∃ a c, v = .slice a ks.length c ∧ ∀ k (hk : k < ks.length), ∃ b off, a = some ⟨b, off, none⟩ ∧ b < w.heap.size ∧ w.cell? ⟨b, off + k, none⟩ = some (.int .i64 ks[k])
theorem Ints.all {w w2 : World} {v : Value} {ks : List Int} (h : Ints w v ks) (hb : Below w.heap.size w w2) : Ints w2 v ks := by
  obtain ⟨a, c, h1, h2⟩ := h
  exact ⟨a, c, h1, fun k hk => by obtain ⟨b, off, e1, e2, e3⟩ := h2 k hk; exact ⟨b, off, e1, Nat.lt_of_lt_of_le e2 hb.size, (hb.cell (p := ⟨b, off + k, none⟩) e2).trans e3⟩⟩
theorem OwnI.ints {base : Nat} {w : World} {v : Value} {ks : List Int} (h : OwnI base w v ks) : Ints w v ks := by
  obtain ⟨h0, ⟨h1, h2⟩ | ⟨g, cap, cur, h1, h2, h3, h4⟩⟩ := id h
  · exact ⟨none, 0, by rw [h1, h2], fun k hk => by omega⟩
  · subst h1
    refine ⟨_, cap, rfl, fun k hk => ⟨g, 0, rfl, (Array.getElem?_eq_some_iff.1 h3).1, ?_⟩⟩
    rw [Nat.zero_add]
    exact (World.ownsRow.cellAt h k (by omega)).trans (cellsI_get ks k hk)
theorem infoInt : (Try.prog.info? 3).map (fun i => (i.zero, i.size, i.bytes)) = some (some (.int .i64 0), 1, 8) := by kernel_rfl
theorem intC_at (w : World) (x : Int) (t : TypeId) : ∀ (j : Nat) (u : Value), (intC x)[j]? = some u → (w.alloc (.cells #[.int .i64 x] t)).cell? ((⟨w.heap.size, 0, none⟩ : Addr).add j) = some u := by
  intro j u h
  match j, h with
  | 0, h => simp [intC] at h; subst h; simp [Addr.add]
  | j + 1, h => simp [intC] at h
theorem intC_one (x : Int) : ∀ u ∈ intC x, u.oneCell' = true := by
  intro u h
  simp [intC] at h; subst h; rfl
end Go.Proofs.Ytbmjjmpdlmbehaa
