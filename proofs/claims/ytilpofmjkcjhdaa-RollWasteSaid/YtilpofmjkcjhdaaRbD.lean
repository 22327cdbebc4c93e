/- At: the mark at a place, of the program and of the reference. The reference's mark at a place. The reference's At. The iterator over a list that the call itself has made; lists of ints. Lists of spans: plain, and in memory. Spans joined by the program's generic function with a function value. Whether a mark meets a query, of the program and of the reference. -/
import Derived.Test.YtilpofmjkcjhdaaRbC
import Derived.Test.YtilpofmjkcjhdaaRbB
namespace Go.Proofs.Ytilpofmjkcjhdaa
open Go.RowKit Go.Shelf

attribute [local go_sem] Oper.semAt_some

namespace Bd
def atE (rs : List R) (p : Int) : Int := if valE rs = 0 then (if 0 ≤ p ∧ p < len rs then 0 else 5) else valE rs
def atM (rs : List R) (p : Int) : M := if valE rs = 0 ∧ 0 ≤ p ∧ p < len rs then (exp rs)[p.toNat]?.getD ⟨0, 0, 0⟩ else ⟨0, 0, 0⟩
theorem exp_at {rs : List R} (h : pos rs) {k : Nat} (hk : k < rs.length) {p : Int} (h1 : len (rs.take k) ≤ p) (h2 : p < len (rs.take k) + rs[k].l) : (exp rs)[p.toNat]? = some rs[k].m := by
  have hl := exp_take_len h k
  have e : exp rs = exp (rs.take k) ++ (List.replicate rs[k].l.toNat rs[k].m ++ exp (rs.drop (k + 1))) := by
    have e1 := exp_append (rs.take k) (rs.drop k)
    rw [List.take_append_drop, drop_run hk] at e1
    exact e1
  rw [e, List.getElem?_append_right (by omega), List.getElem?_append_left (by simp; omega), List.getElem?_replicate, if_pos (by omega)]
theorem span_of {rs : List R} (h : pos rs) {p : Int} (h1 : 0 ≤ p) : ∀ n, n ≤ rs.length → p < len (rs.take n) → ∃ k, k < n ∧ len (rs.take k) ≤ p ∧ p < len (rs.take (k + 1))
  | 0, _, h2 => by simp [len] at h2; omega
  | n + 1, hn, h2 => by
    by_cases h3 : p < len (rs.take n)
    · obtain ⟨k, k1, k2, k3⟩ := span_of h h1 n (by omega) h3
      exact ⟨k, by omega, k2, k3⟩
    · exact ⟨n, by omega, by omega, h2⟩
theorem at_ok {rs : List R} {p : Int} (hv : valE rs = 0) {k : Nat} (hk : k < rs.length) (h1 : len (rs.take k) ≤ p) (h2 : p < len (rs.take k) + rs[k].l) : atE rs p = 0 ∧ atM rs p = rs[k].m := by
  have hf := fine_of_valid hv
  have hp := hf.2.1
  have a := len_take_le hp k
  have b := len_take_le hp (k + 1)
  rw [len_take_succ hk] at b
  unfold atE atM
  rw [if_pos hv, if_pos ⟨by omega, by omega⟩, if_pos ⟨hv, by omega, by omega⟩, exp_at hp hk h1 h2]
  exact ⟨rfl, rfl⟩
theorem at_none {rs : List R} {p : Int} (hv : valE rs = 0) (h : ∀ k, k < rs.length → ¬ (len (rs.take k) ≤ p ∧ p < len (rs.take (k + 1)))) : atE rs p = 5 ∧ atM rs p = ⟨0, 0, 0⟩ := by
  have hp := (fine_of_valid hv).2.1
  have hn : ¬ (0 ≤ p ∧ p < len rs) := by
    rintro ⟨h1, h2⟩
    obtain ⟨k, k1, k2, k3⟩ := span_of hp h1 rs.length (Nat.le_refl _) (by rw [List.take_length]; exact h2)
    exact h k k1 ⟨k2, k3⟩
  unfold atE atM
  rw [if_pos hv, if_neg hn, if_neg (fun e => hn e.2)]
  exact ⟨rfl, rfl⟩
theorem at_inv {rs : List R} {p : Int} (hv : valE rs ≠ 0) : atE rs p = valE rs ∧ atM rs p = ⟨0, 0, 0⟩ := by
  unfold atE atM; rw [if_neg hv, if_neg (fun e => hv e.1)]; exact ⟨rfl, rfl⟩
end Bd

/-- No span among these holds the place. -/
def noSp (p : Int) (pre : List Bd.SpB) : Prop := ∀ x ∈ pre, ¬ (x.1.f ≤ p ∧ p < x.1.t)
theorem noSp_nil (p : Int) : noSp p [] := fun _ h => by cases h
theorem noSp_snoc {p : Int} {pre : List Bd.SpB} {x : Bd.SpB} (h : noSp p pre) (h2 : ¬ (x.1.f ≤ p ∧ p < x.1.t)) : noSp p (pre ++ [x]) := by
  intro y hy
  rcases List.mem_append.1 hy with h3 | h3
  · exact h y h3
  · rw [List.mem_singleton.1 h3]; exact h2
/-- One of these spans holds the place, and its mark lies in a block. -/
def HitAt (p : Int) (B : Nat) (pre : List Bd.SpB) (W : World) : Prop := ∃ x ∈ pre, (x.1.f ≤ p ∧ p < x.1.t) ∧ BlockAt W B #[.int .i64 x.1.m.t, .int .i64 x.1.m.s, .int .i64 x.1.m.f] 71
theorem hit_own (p : Int) (B : Nat) : Go.Own (fun (pre : List Bd.SpB) W => HitAt p B pre W) := by
  rintro s X Y row ⟨x, h2, h3, h4⟩ hg hr
  exact ⟨x, h2, h3, block_own _ (fun (_ : Unit) => #[Value.int .i64 x.1.m.t, .int .i64 x.1.m.s, .int .i64 x.1.m.f]) 71 () X Y row h4 hg hr⟩
theorem BlockAt.frozen {W : World} {B : Nat} {cs : Array Value} {t : TypeId} (h : BlockAt W B cs t) (i : Nat) : W.frozen? ⟨B, i, none⟩ = false := by simp [World.frozen?, show W.heap[B]? = _ from h]
theorem BlockAt.set {W : World} {B : Nat} {cs : Array Value} {t : TypeId} (h : BlockAt W B cs t) (i : Nat) (v : Value) : BlockAt (W.setCell ⟨B, i, none⟩ v) B (cs.setIfInBounds i v) t := by
  obtain ⟨hlt, hk⟩ := Array.getElem?_eq_some_iff.1 h
  show (W.heap.modify B _)[B]? = _
  rw [Array.getElem?_eq_getElem (by rw [Array.size_modify]; exact hlt), Array.getElem_modify_self, hk]
  rfl
theorem BlockAt.other {W : World} {B B' i : Nat} {cs : Array Value} {t : TypeId} (h : BlockAt W B cs t) (hne : B ≠ B') (u : Value) : BlockAt (W.setCell ⟨B', i, none⟩ u) B cs t := by
  unfold BlockAt
  rw [Below.heap_setCell _ _ _ _ hne]; exact h
theorem BlockAt.below {W W2 : World} {B N : Nat} {cs : Array Value} {t : TypeId} (h : BlockAt W B cs t) (hb : Below N W W2) (hN : B < N) : BlockAt W2 B cs t := (hb.block B hN).trans h
theorem BlockAt.set3 {W : World} {B : Nat} {a b c : Value} {t : TypeId} (h : BlockAt W B #[a, b, c] t) (x y z : Value) : BlockAt (((W.setCell ⟨B, 0, none⟩ x).setCell ⟨B, 1, none⟩ y).setCell ⟨B, 2, none⟩ z) B #[x, y, z] t :=
  ((h.set 0 x).set 1 y).set 2 z
theorem Boxed.blockAt {W : World} {B : Nat} {v : Value} {t : TypeId} (h : Boxed W B t v) : BlockAt W B #[v] t := h

end Go.Proofs.Ytilpofmjkcjhdaa
namespace Go.Proofs.Ytilpofmjkcjhdaa
open Go.RowKit

end Go.Proofs.Ytilpofmjkcjhdaa
namespace Go.Proofs.Ytilpofmjkcjhdaa
open Go.RowKit

theorem Bd.at_none_of {rs : List Bd.R} {p : Int} (h : Bd.valE rs = 0) (hp : p < 0 ∨ Bd.len rs ≤ p) : Bd.atE rs p = 5 ∧ Bd.atM rs p = ⟨0, 0, 0⟩ := by
  have hn : ¬ (0 ≤ p ∧ p < Bd.len rs) := by omega
  unfold Bd.atE Bd.atM
  rw [if_pos h, if_neg hn, if_neg (fun e => hn e.2)]
  exact ⟨rfl, rfl⟩
theorem Bd.at_in {rs : List Bd.R} {p : Int} (h : Bd.valE rs = 0) (h1 : 0 ≤ p) (h2 : p < Bd.len rs) : Bd.atE rs p = 0 := by
  unfold Bd.atE
  rw [if_pos h, if_pos ⟨h1, h2⟩]

end Go.Proofs.Ytilpofmjkcjhdaa
namespace Go.Proofs.Ytilpofmjkcjhdaa
open Go.RowKit Go.Shelf

attribute [local go_sem] Oper.semAt_some

/-- A block lies on as it lay. -/
def KpB (b0 : Nat) (cs : Array Value) (t0 : TypeId) (A B : World) : Prop := BlockAt A b0 cs t0 → BlockAt B b0 cs t0
theorem kpB_t {b0 : Nat} {cs : Array Value} {t0 : TypeId} {A B C : World} (h : KpB b0 cs t0 A B) (k : KpB b0 cs t0 B C) : KpB b0 cs t0 A C := fun x => k (h x)
theorem kpB_b {b0 : Nat} {cs : Array Value} {t0 : TypeId} {w : World} (W : World) (l : Nat) (o o' : Obj) (_ : w.heap.size ≤ l) (h : W.heap[l]? = some o) (ho : o.isCells = false) (_ : o.isWalk = false) : KpB b0 cs t0 W (W.putObj l o') := by
  intro x
  refine x.kept (grownBy_putObj' W l o') ?_
  intro e
  obtain rfl : b0 = l := by simpa using e
  rw [show W.heap[b0]? = _ from x] at h; cases h; cases ho
set_option maxRecDepth 100000 in
set_option maxHeartbeats 4000000 in
theorem marks2_any (F : Fence) (n : Nat) (hF : F.fn 102) (hro : F.round = none) (hn : 1 ≤ n) (l Bs b0 : Nat) (cs : Array Value) (t0 : TypeId) (sv : Value) (rs : List Bd.R) (hf : Bd.fine rs) (J Jx : List Bd.SpB → World → Prop)
    (W : World) (hb0 : BlockAt W b0 cs t0) (hJa : AbidesFrom W.heap.size J)
    (hY : ∀ pre x W, J pre W → pre.length < rs.length → YieldAt F (n - 1) Try.prog l (encs x) W fun e W' =>
      (e = .returned (.bool true) ∧ J (pre ++ [x]) W' ∧ KpB b0 cs t0 W W') ∨ (e = .returned (.bool false) ∧ Jx (pre ++ [x]) W'))
    (hBs : W.cell? ⟨Bs, 0, none⟩ = some sv) (hsv : ∃ ao c, sv = .slice ao rs.length c ∧ ∀ k (hk : k < rs.length), ∃ off, ao = some ⟨b0, off, none⟩ ∧ ∀ W, BlockAt W b0 cs t0 → RunAt W b0 (off + k * 4) rs[k]) (h0 : J [] W) :
    CallsIn F n Try.prog 102 #[.func (.yield l) #[] #[], .pointer (some ⟨Bs, 0, none⟩)] W fun e W' => (∃ v, e = .returned v) ∧
      ((∃ ys, ys = Bd.upto rs rs.length ∧ J ys W') ∨ (∃ pre, (∃ k, k ≤ rs.length ∧ pre = Bd.upto rs k) ∧ Jx pre W')) := by
  obtain ⟨ao, c, rfl, hcell⟩ := hsv
  have HC := Lib.hid hcell
  clear hcell
  have HB := Lib.hid (Bd.len_take_le hf.2.1)
  have hmax := hf.2.2
  have hlen := hf.1
  have HF := Lib.hid (fun k (hk : k < rs.length) => Bd.spk_eq hf hk)
  clear hf
  refine callsIn_of_wp Try.func102 rfl hF ?_ hro
  simp only [Try.ntmps102, List.size_toArray, List.length_cons, List.length_nil, Nat.reduceAdd, Nat.reduceSub, Array.replicate_succ, Array.replicate_zero, List.push_toArray, List.append_toArray, List.nil_append, List.cons_append]
  gi_wp2
  gi_loopw [3, 9] (fun s t wr => ∃ k : Nat, k ≤ rs.length ∧ t = .int .i64 k ∧ s = .int .i64 (Bd.len (rs.take k)) ∧ Hid (J (Bd.upto rs k) wr ∧ BlockAt wr b0 cs t0)) (fun _ t _ => rs.length - (intOf t).toNat)
  case atStart => exact ⟨0, Nat.zero_le _, rfl, rfl, Lib.hid ⟨h0, hb0⟩⟩
  case round =>
    obtain ⟨k, hk, rfl, rfl, hg⟩ := hrel
    by_cases hlt : k < rs.length
    · obtain ⟨hJs, hnx⟩ := hg.out
      obtain ⟨off, rfl, hr⟩ := HC.out k hlt
      obtain ⟨c0, c1, c2, c3⟩ := hr wr hnx
      have hJ2 : J (Bd.upto rs k) (wr.alloc (.cells #[.int .i64 rs[k].l, .int .i64 rs[k].m.t, .int .i64 rs[k].m.s, .int .i64 rs[k].m.f] 73)) := hJa _ _ _ none hJs (World.grownBy_alloc _ _ none) (fun r e => by cases e)
      have hnx2 := hnx.alloc (.cells #[.int .i64 rs[k].l, .int .i64 rs[k].m.t, .int .i64 rs[k].m.s, .int .i64 rs[k].m.f] 73)
      obtain ⟨fn, tmps, assign, body, hy, hR⟩ := hY _ (Bd.spk rs k) _ hJ2 (by rw [Bd.upto_length]; exact hlt)
      have hs := Bd.len_take_succ hlt
      have b1 := HB.out k
      have b2 := HB.out (k + 1)
      have e1 := congrArg Bd.Sp.f (HF.out k hlt)
      have e2 := congrArg Bd.Sp.t (HF.out k hlt)
      have e3 := congrArg Bd.Sp.m (HF.out k hlt)
      dsimp only [encs] at e1 e2 e3 hy
      rw [e1, e2, e3, hs] at hy
      rw [hs] at b2
      have HS := Lib.hid hs
      have HR := Lib.hid hR
      have HN := Lib.hid hnx2
      clear hs e1 e2 e3 hR hg hJ2 hnx2 hJs hr hnx hb0
      generalize Bd.len (rs.take k) = s at *
      generalize rs[k] = r at *
      gi_wp2
      refine HR.out.mono ?_
      rintro e W3 (⟨rfl, hJ3, hk3⟩ | ⟨rfl, hJx3⟩)
      · gi_wp2
        go_roundw
        case rel => exact ⟨k + 1, by omega, by go_num, by rw [HS.out], Lib.hid ⟨by rw [Bd.upto_succ]; exact hJ3, hk3 HN.out⟩⟩
        case measure => simp [intOf]; omega
      · gi_wp2
        refine bodyPost_ret (results_none rfl _ _ _) rfl ?_
        exact ⟨⟨_, rfl⟩, .inr ⟨_, ⟨k + 1, by omega, (Bd.upto_succ _ _).symm⟩, hJx3⟩⟩
    · obtain rfl : k = rs.length := by omega
      gi_wp2
      go_end0
      exact ⟨⟨_, rfl⟩, .inl ⟨_, rfl, hg.out.1⟩⟩


/-- The iterator's contract, for a list in a block that the loop leaves alone. -/
theorem marks_stays (F : Fence) (n : Nat) (hF : F.fn 102) (hro : F.round = none) (hn : 1 ≤ n) (Bs b0 : Nat) (cs : Array Value) (t0 : TypeId) (sv : Value) (rs : List Bd.R) (hf : Bd.fine rs) (w : World) (hBs : Bs < w.heap.size) (hb0 : BlockAt w b0 cs t0)
    (hc : w.cell? ⟨Bs, 0, none⟩ = some sv) (hsv : ∃ ao c, sv = .slice ao rs.length c ∧ ∀ k (hk : k < rs.length), ∃ off, ao = some ⟨b0, off, none⟩ ∧ ∀ W, BlockAt W b0 cs t0 → RunAt W b0 (off + k * 4) rs[k]) :
    SeqStopsK F n Try.prog 102 #[.pointer (some ⟨Bs, 0, none⟩)] encs (KpB b0 cs t0) (fun ys => ys = Bd.upto rs rs.length) (fun pre => ∃ k, k ≤ rs.length ∧ pre = Bd.upto rs k) rs.length w := fun l J Jx W hW hJ _ hY h0 =>
  marks2_any F n hF hro hn l Bs b0 cs t0 sv rs hf J Jx W (hb0.below hW hb0.lt) hJ hY ((hW.cell (p := ⟨Bs, 0, none⟩) hBs).trans hc) hsv h0
/-- An own list lies in one block, if it is not empty. -/
theorem Own.block {base : Nat} {w : World} {v : Value} {rs : List Bd.R} (h : Own base w v rs) (B : Nat) (u : Value) (t : TypeId) (hB : base ≤ B) (hB2 : Boxed w B t u) :
    ∃ b0 cs t0, base ≤ b0 ∧ BlockAt w b0 cs t0 ∧ ((t0 = 73) ∨ t0 = t) ∧ ∃ ao c, v = .slice ao rs.length c ∧ ∀ k (hk : k < rs.length), ∃ off, ao = some ⟨b0, off, none⟩ ∧ ∀ W, BlockAt W b0 cs t0 → RunAt W b0 (off + k * 4) rs[k] := by
  rcases h.form with ⟨rfl, rfl⟩ | ⟨g, cap, rfl, _, _, _, _, hr⟩
  · exact ⟨B, _, t, hB, hB2, .inr rfl, none, 0, rfl, fun k hk => by simp at hk⟩
  · obtain ⟨_, ⟨h1, h2⟩ | ⟨g', cap', cur, h1, h2, h3, _⟩⟩ := id h
    · cases h1
    · obtain ⟨rfl, rfl⟩ : g = g' ∧ cap = cap' := by simpa using h1
      refine ⟨g, cur, 73, h2, h3, .inl rfl, _, cap, rfl, fun k hk => ⟨0, rfl, fun W hW => ?_⟩⟩
      have h4 := hr k hk
      rw [getD_run hk] at h4
      have e : ∀ i, W.cell? ⟨g, i, none⟩ = w.cell? ⟨g, i, none⟩ := fun i => (hW.cell i).trans (BlockAt.cell h3 i).symm
      rw [Nat.zero_add]
      exact ⟨(e _).trans h4.1, (e _).trans h4.2.1, (e _).trans h4.2.2.1, (e _).trans h4.2.2.2⟩

def intC (x : Int) : List Value := [.int .i64 x]
def cellsI : List Int → List Value
  | [] => []
  | x :: b => intC x ++ cellsI b
theorem cellsI_append (a b : List Int) : cellsI (a ++ b) = cellsI a ++ cellsI b := by
  induction a with
  | nil => rfl
  | cons r a ih => simp [cellsI, ih, List.append_assoc]
theorem cellsI_get : ∀ (a : List Int) (k : Nat) (hk : k < a.length), (cellsI a)[k]? = some (.int .i64 a[k])
  | x :: a, 0, _ => rfl
  | x :: a, k + 1, hk => by
    have := cellsI_get a k (by simpa using hk)
    simpa [cellsI, intC] using this
def OwnI (base : Nat) (w : World) (v : Value) (ks : List Int) : Prop := w.ownsRow base 3 1 v ks.length (cellsI ks)
theorem OwnI.nil (base : Nat) (w : World) : OwnI base w (.slice none 0 0) [] := World.ownsRow_nil _ _ _ _
theorem OwnI.pushed {base : Nat} {w : World} {v : Value} {a : List Int} {x : Int} (h : w.ownsRow base 3 1 v (a.length + 1) (cellsI a ++ intC x)) : OwnI base w v (a ++ [x]) := by
  unfold OwnI
  rw [cellsI_append, show cellsI [x] = intC x by simp [cellsI], show (a ++ [x]).length = a.length + 1 by simp]
  exact h
/-- A list of ints that can be read. -/
def Ints (w : World) (v : Value) (ks : List Int) : Prop := ∃ a c, v = .slice a ks.length c ∧ ∀ k (hk : k < ks.length), ∃ b off, a = some ⟨b, off, none⟩ ∧ b < w.heap.size ∧ w.cell? ⟨b, off + k, none⟩ = some (.int .i64 ks[k])
theorem Ints.all {w w2 : World} {v : Value} {ks : List Int} (h : Ints w v ks) (hb : Below w.heap.size w w2) : Ints w2 v ks := by
  obtain ⟨a, c, h1, h2⟩ := h
  exact ⟨a, c, h1, fun k hk => by obtain ⟨b, off, e1, e2, e3⟩ := h2 k hk; exact ⟨b, off, e1, Nat.lt_of_lt_of_le e2 hb.size, (hb.cell (p := ⟨b, off + k, none⟩) e2).trans e3⟩⟩
theorem OwnI.ints {base : Nat} {w : World} {v : Value} {ks : List Int} (h : OwnI base w v ks) : Ints w v ks := by
  obtain ⟨h0, ⟨h1, h2⟩ | ⟨g, cap, cur, h1, h2, h3, h4⟩⟩ := id h
  · exact ⟨none, 0, by rw [h1, h2], fun k hk => by omega⟩
  · subst h1
    refine ⟨_, cap, rfl, fun k hk => ⟨g, 0, rfl, (Array.getElem?_eq_some_iff.1 h3).1, ?_⟩⟩
    rw [Nat.zero_add]
    exact (World.ownsRow.cellAt h k (by omega)).trans (cellsI_get ks k hk)
theorem infoInt : (Try.prog.info? 3).map (fun i => (i.zero, i.size, i.bytes)) = some (some (.int .i64 0), 1, 8) := by kernel_rfl
theorem intC_at (w : World) (x : Int) (t : TypeId) : ∀ (j : Nat) (u : Value), (intC x)[j]? = some u → (w.alloc (.cells #[.int .i64 x] t)).cell? ((⟨w.heap.size, 0, none⟩ : Addr).add j) = some u := by
  intro j u h
  match j, h with
  | 0, h => simp [intC] at h; subst h; simp [Addr.add]
  | j + 1, h => simp [intC] at h
theorem intC_one (x : Int) : ∀ u ∈ intC x, u.oneCell' = true := by
  intro u h
  simp [intC] at h; subst h; rfl
end Go.Proofs.Ytilpofmjkcjhdaa
namespace Go.Proofs.Ytilpofmjkcjhdaa
open Go.RowKit

namespace Bd
structure S where
  f : Int
  t : Int
instance : Inhabited S := ⟨⟨0, 0⟩⟩
theorem S.ext' {a b : S} (h1 : a.f = b.f) (h2 : a.t = b.t) : a = b := by cases a; cases b; simp_all
/-- A span behind others: joined to the last one if it begins where that one ends. -/
def pushS (out : List S) (s : S) : List S :=
  match out.getLast? with
  | some q => if q.t = s.f then out.dropLast ++ [⟨q.f, s.t⟩] else out ++ [s]
  | none => [s]
def normS (l : List S) : List S := l.foldl pushS []
theorem pushS_nil (s : S) : pushS [] s = [s] := rfl
theorem pushS_snoc (a : List S) (q s : S) : pushS (a ++ [q]) s = if q.t = s.f then a ++ [⟨q.f, s.t⟩] else a ++ [q] ++ [s] := by simp [pushS]
theorem normS_snoc (l : List S) (s : S) : normS (l ++ [s]) = pushS (normS l) s := by simp [normS]
theorem normS_take_succ {l : List S} {k : Nat} (h : k < l.length) : normS (l.take (k + 1)) = pushS (normS (l.take k)) l[k] := by
  rw [List.take_succ_eq_append_getElem h, normS_snoc]
theorem snocS_cases (l : List S) : l = [] ∨ ∃ a q, l = a ++ [q] := by
  rcases List.eq_nil_or_concat l with h | ⟨a, q, h⟩
  · exact .inl h
  · exact .inr ⟨a, q, by simpa using h⟩
theorem pushS_length (out : List S) (s : S) : (pushS out s).length ≤ out.length + 1 := by
  rcases snocS_cases out with rfl | ⟨a, q, rfl⟩
  · simp [pushS]
  · rw [pushS_snoc]; split <;> simp
theorem foldS_length : ∀ (l out : List S), (l.foldl pushS out).length ≤ out.length + l.length
  | [], out => by simp
  | s :: l, out => by have h1 := foldS_length l (pushS out s); have h2 := pushS_length out s; rw [List.foldl_cons]; simp only [List.length_cons]; omega
theorem normS_length (l : List S) : (normS l).length ≤ l.length := by have := foldS_length l []; simpa [normS] using this
theorem normS_bound {l : List S} {k : Nat} (h : k ≤ l.length) : (normS (l.take k)).length ≤ l.length := by
  have := normS_length (l.take k)
  have : (l.take k).length ≤ l.length := by simp; omega
  omega
end Bd

abbrev spnV (s : Bd.S) : Value := .agg #[.int .i64 s.f, .int .i64 s.t]
def spnC (s : Bd.S) : List Value := [.int .i64 s.f, .int .i64 s.t]
def cellsS : List Bd.S → List Value
  | [] => []
  | s :: b => spnC s ++ cellsS b
theorem cellsS_append (a b : List Bd.S) : cellsS (a ++ b) = cellsS a ++ cellsS b := by
  induction a with
  | nil => rfl
  | cons r a ih => simp [cellsS, ih, List.append_assoc]
def SpnAt (w : World) (b off : Nat) (s : Bd.S) : Prop := w.cell? ⟨b, off, none⟩ = some (.int .i64 s.f) ∧ w.cell? ⟨b, off + 1, none⟩ = some (.int .i64 s.t)
theorem SpnAt.below {w w2 : World} {b off : Nat} {s : Bd.S} {B : Nat} (h : SpnAt w b off s) (hb : Below B w w2) (hB : b < B) : SpnAt w2 b off s :=
  ⟨(hb.cell (p := ⟨b, off, none⟩) hB).trans h.1, (hb.cell (p := ⟨b, off + 1, none⟩) hB).trans h.2⟩
/-- A list of spans that can be read. -/
def Spns (w : World) (v : Value) (ss : List Bd.S) : Prop := ∃ a c, v = .slice a ss.length c ∧ ∀ k (hk : k < ss.length), ∃ b off, a = some ⟨b, off, none⟩ ∧ b < w.heap.size ∧ SpnAt w b (off + k * 2) ss[k]
theorem Spns.all {w w2 : World} {v : Value} {ss : List Bd.S} (h : Spns w v ss) (hb : Below w.heap.size w w2) : Spns w2 v ss := by
  obtain ⟨a, c, h1, h2⟩ := h
  exact ⟨a, c, h1, fun k hk => by obtain ⟨b, off, e1, e2, e3⟩ := h2 k hk; exact ⟨b, off, e1, Nat.lt_of_lt_of_le e2 hb.size, e3.below hb e2⟩⟩
def OwnS (base : Nat) (w : World) (v : Value) (ss : List Bd.S) : Prop := w.ownsRow base 57 2 v ss.length (cellsS ss)
theorem OwnS.nil (base : Nat) (w : World) : OwnS base w (.slice none 0 0) [] := World.ownsRow_nil _ _ _ _
theorem OwnS.alloc {base : Nat} {w : World} {v : Value} {ss : List Bd.S} (h : OwnS base w v ss) (o : Obj) : OwnS base (w.alloc o) v ss := World.ownsRow.alloc h o
theorem OwnS.drewN {base : Nat} {w : World} {v : Value} {ss : List Bd.S} (h : OwnS base w v ss) (n : Nat) : OwnS base (w.drewN n) v ss := h
theorem OwnS.mono {base B : Nat} {w : World} {v : Value} {ss : List Bd.S} (h : OwnS base w v ss) (hB : B ≤ base) : OwnS B w v ss := by
  obtain ⟨h0, h⟩ := h
  rcases h with h | ⟨g, cap, cur, h1, h2, h3⟩
  · exact ⟨h0, .inl h⟩
  · exact ⟨h0, .inr ⟨g, cap, cur, h1, Nat.le_trans hB h2, h3⟩⟩
theorem cellsS_at : ∀ (ss : List Bd.S) (k : Nat) (hk : k < ss.length), (cellsS ss)[k * 2]? = some (.int .i64 ss[k].f) ∧ (cellsS ss)[k * 2 + 1]? = some (.int .i64 ss[k].t)
  | s :: b, 0, _ => by simp [cellsS, spnC]
  | s :: b, k + 1, h => by
    have ih := cellsS_at b k (by simpa using h)
    have e : ∀ j, (cellsS (s :: b))[(k + 1) * 2 + j]? = (cellsS b)[k * 2 + j]? := by
      intro j
      show (spnC s ++ cellsS b)[(k + 1) * 2 + j]? = _
      rw [List.getElem?_append_right (by simp [spnC]; omega)]
      congr 1; simp [spnC]; omega
    have e0 := e 0
    simp only [Nat.add_zero] at e0
    rw [e0, e 1]
    simpa using ih
theorem OwnS.form {base : Nat} {w : World} {v : Value} {ss : List Bd.S} (h : OwnS base w v ss) :
    (v = .slice none 0 0 ∧ ss = []) ∨ ∃ g cap, v = .slice (some ⟨g, 0, none⟩) ss.length cap ∧ base ≤ g ∧ g < w.heap.size ∧ ss.length ≤ cap ∧ (∀ j, w.frozen? ⟨g, j, none⟩ = false) ∧ ∀ k (hk : k < ss.length), SpnAt w g (k * 2) ss[k] := by
  have h' := h
  obtain ⟨h0, ⟨h1, h2⟩ | ⟨g, cap, cur, h1, h2, h3, h4, h5⟩⟩ := h'
  · exact .inl ⟨h1, List.length_eq_zero_iff.1 h2⟩
  · subst h1
    refine .inr ⟨g, cap, rfl, h2, (Array.getElem?_eq_some_iff.1 h3).1, h4, fun j => World.ownsRow.frozenAt h j, fun k hk => ?_⟩
    obtain ⟨c0, c1⟩ := cellsS_at ss k hk
    exact ⟨(World.ownsRow.cellAt h (k * 2) (by omega)).trans c0, (World.ownsRow.cellAt h (k * 2 + 1) (by omega)).trans c1⟩
theorem OwnS.spns {base : Nat} {w : World} {v : Value} {ss : List Bd.S} (h : OwnS base w v ss) : Spns w v ss := by
  rcases h.form with ⟨rfl, rfl⟩ | ⟨g, cap, rfl, _, h2, _, _, h4⟩
  · exact ⟨none, 0, rfl, fun k hk => by simp at hk⟩
  · exact ⟨_, cap, rfl, fun k hk => ⟨g, 0, rfl, h2, by rw [Nat.zero_add]; exact h4 k hk⟩⟩
theorem OwnS.empty {base : Nat} {w : World} {v : Value} (h : OwnS base w v []) : ∃ a c, v = .slice a 0 c := by
  rcases h.form with ⟨rfl, _⟩ | ⟨g, cap, rfl, _⟩
  · exact ⟨_, _, rfl⟩
  · exact ⟨_, _, rfl⟩
theorem OwnS.pushed {base : Nat} {w : World} {v : Value} {a : List Bd.S} {s : Bd.S} (h : w.ownsRow base 57 2 v (a.length + 1) (cellsS a ++ spnC s)) : OwnS base w v (a ++ [s]) := by
  unfold OwnS
  rw [cellsS_append, show cellsS [s] = spnC s by simp [cellsS], show (a ++ [s]).length = a.length + 1 by simp]
  exact h
theorem OwnS.snoc {base : Nat} {w : World} {v : Value} {a : List Bd.S} {q : Bd.S} (h : OwnS base w v (a ++ [q])) :
    ∃ g cap, v = .slice (some ⟨g, 0, none⟩) (a.length + 1) cap ∧ base ≤ g ∧ g < w.heap.size ∧ a.length + 1 ≤ cap ∧ (∀ j, w.frozen? ⟨g, j, none⟩ = false) ∧ SpnAt w g (a.length * 2) q := by
  rcases h.form with ⟨_, h⟩ | ⟨g, cap, h1, h2, h3, h4, h5, h6⟩
  · simp at h
  · have h7 := h6 a.length (by simp)
    rw [show (a ++ [q])[a.length]'(by simp) = q by simp] at h7
    simp only [List.length_append, List.length_singleton] at h1 h4
    exact ⟨g, cap, h1, h2, h3, h4, h5, h7⟩
theorem OwnS.allB {base B : Nat} {w w2 : World} {g n cap : Nat} {ss : List Bd.S} (h : OwnS base w (.slice (some ⟨g, 0, none⟩) n cap) ss) (hb : Below B w w2) (hg : g < B) : OwnS base w2 (.slice (some ⟨g, 0, none⟩) n cap) ss := by
  obtain ⟨h0, ⟨h1, _⟩ | ⟨g', cap', cur, h1, h2, h3, h4⟩⟩ := h
  · simp at h1
  · obtain ⟨rfl, _, rfl⟩ : g = g' ∧ n = ss.length ∧ cap = cap' := by simpa using h1
    exact ⟨h0, .inr ⟨g, cap, cur, h1, h2, by rw [hb.block g hg]; exact h3, h4⟩⟩
theorem cellsS_setS : ∀ (a : List Bd.S) (q x : Bd.S), ((cellsS (a ++ [q])).set (a.length * 2) (.int .i64 x.f)).set (a.length * 2 + 1) (.int .i64 x.t) = cellsS (a ++ [x])
  | [], q, x => rfl
  | r :: a, q, x => by
    have ih := cellsS_setS a q x
    have e : ∀ (l : List Value) (j : Nat) (u : Value), (spnC r ++ l).set ((a.length + 1) * 2 + j) u = spnC r ++ l.set (a.length * 2 + j) u := by
      intro l j u
      rw [List.set_append_right _ _ (by simp [spnC]; omega)]
      congr 2
      simp [spnC]; omega
    have e0 := fun l u => e l 0 u
    simp only [Nat.add_zero] at e0
    show ((spnC r ++ cellsS (a ++ [q])).set ((a.length + 1) * 2) _).set ((a.length + 1) * 2 + 1) _ = spnC r ++ cellsS (a ++ [x])
    rw [e0, e, ih]
theorem OwnS.row {base : Nat} {w : World} {g cap : Nat} {a : List Bd.S} {q : Bd.S} (h : OwnS base w (.slice (some ⟨g, 0, none⟩) (a.length + 1) cap) (a ++ [q])) :
    w.ownsRow base 57 2 (.slice (some ⟨g, 0, none⟩) (a.length + 1) cap) (a.length + 1) (cellsS (a ++ [q])) := by
  have hl : (a ++ [q]).length = a.length + 1 := by simp
  unfold OwnS at h; rw [hl] at h; exact h
theorem OwnS.of_row {base : Nat} {w : World} {v : Value} {a : List Bd.S} {q : Bd.S} (h : w.ownsRow base 57 2 v (a.length + 1) (cellsS (a ++ [q]))) : OwnS base w v (a ++ [q]) := by
  have hl : (a ++ [q]).length = a.length + 1 := by simp
  unfold OwnS; rw [hl]; exact h
theorem OwnS.setS {base : Nat} {w : World} {g cap : Nat} {a : List Bd.S} {q : Bd.S} (h : OwnS base w (.slice (some ⟨g, 0, none⟩) (a.length + 1) cap) (a ++ [q])) (x : Bd.S) :
    OwnS base ((w.setCell ⟨g, a.length * 2, none⟩ (.int .i64 x.f)).setCell ⟨g, a.length * 2 + 1, none⟩ (.int .i64 x.t)) (.slice (some ⟨g, 0, none⟩) (a.length + 1) cap) (a ++ [x]) := by
  have h1 := (World.ownsRow.stored (World.ownsRow.stored h.row (a.length * 2) (.int .i64 x.f)).1 (a.length * 2 + 1) (.int .i64 x.t)).1
  rw [cellsS_setS] at h1
  exact OwnS.of_row h1
theorem spnC_at (w : World) (s : Bd.S) (t : TypeId) {B : Nat} (hB : B = w.heap.size) : ∀ (j : Nat) (u : Value), (spnC s)[j]? = some u → (w.alloc (.cells #[.int .i64 s.f, .int .i64 s.t] t)).cell? ((⟨B, 0, none⟩ : Addr).add j) = some u := by
  subst hB
  intro j u h
  match j, h with
  | 0, h => simp [spnC] at h; subst h; simp [Addr.add]
  | 1, h => simp [spnC] at h; subst h; simp [Addr.add]
  | j + 2, h => simp [spnC] at h
theorem spnC_one (s : Bd.S) : ∀ u ∈ spnC s, u.oneCell' = true := by
  intro u h
  simp [spnC] at h; rcases h with rfl | rfl <;> rfl
abbrev spnObj (s : Bd.S) : Obj := .cells #[.int .i64 s.f, .int .i64 s.t] 57
theorem infoSpn : (Try.prog.info? 57).map (fun i => (i.zero, i.size, i.bytes)) = some (some (.agg #[.int .i64 0, .int .i64 0]), 2, 16) := by kernel_rfl

set_option maxRecDepth 20000 in
set_option maxHeartbeats 2000000 in
theorem join_spans_any (q r : Bd.S) (w : World) :
    Calls Try.prog 105 #[spnV q, spnV r] w fun e w' => e = .returned (.tuple #[spnV ⟨q.f, r.t⟩, .bool (decide (q.t = r.f))]) ∧ Below w.heap.size w w' := by
  by_cases hm : q.t = r.f
  · have e1 : (q.t == r.f) = true := by simp [hm]
    have hd : decide (q.t = r.f) = true := by simp [hm]
    have HD := Lib.hid hd
    clear hm hd
    go_enter Try.func105, Try.ntmps105
    go_wp2
    go_region
    go_wp2
    exact bodyPost_ret (v := .tuple #[.agg #[.int .i64 q.f, .int .i64 r.t], .bool true]) (by simp [results, Try.results105, go_sem]) rfl ⟨by rw [HD.out], by repeat' (first | exact Below.refl _ _ | apply Below.drew | refine Below.setCell ?_ (by simp) _ | refine Below.alloc ?_ (by simp <;> omega) _)⟩
  · have e1 : (q.t == r.f) = false := by simp [hm]
    have hd : decide (q.t = r.f) = false := by simp [hm]
    have HD := Lib.hid hd
    clear hm hd
    go_enter Try.func105, Try.ntmps105
    go_wp2
    go_region
    go_wp2
    exact bodyPost_ret (v := .tuple #[.agg #[.int .i64 q.f, .int .i64 r.t], .bool false]) (by simp [results, Try.results105, go_sem]) rfl ⟨by rw [HD.out], by repeat' (first | exact Below.refl _ _ | apply Below.drew | refine Below.setCell ?_ (by simp) _ | refine Below.alloc ?_ (by simp <;> omega) _)⟩
end Go.Proofs.Ytilpofmjkcjhdaa
namespace Go.Proofs.Ytilpofmjkcjhdaa
open Go.RowKit

/-- What a region keeps while it calls: the list, its last span, the next span, and that nothing old has turned. -/
theorem keepS {w0 W W2 : World} {base g B7 m cap B : Nat} {a : List Bd.S} {q r : Bd.S}
    (h : OwnS base W (.slice (some ⟨g, 0, none⟩) m cap) (a ++ [q]) ∧ Below base w0 W ∧ W.cell? ⟨g, a.length * 2, none⟩ = some (.int .i64 q.f) ∧ W.cell? ⟨g, a.length * 2 + 1, none⟩ = some (.int .i64 q.t) ∧
      W.cell? ⟨B7, 0, none⟩ = some (.int .i64 r.f) ∧ W.cell? ⟨B7, 1, none⟩ = some (.int .i64 r.t) ∧ B7 < W.heap.size ∧ g < W.heap.size ∧ base ≤ W.heap.size) (hb : Below B W W2) (hB : B7 < B ∧ g < B ∧ base ≤ B) :
    OwnS base W2 (.slice (some ⟨g, 0, none⟩) m cap) (a ++ [q]) ∧ Below base w0 W2 ∧ W2.cell? ⟨g, a.length * 2, none⟩ = some (.int .i64 q.f) ∧ W2.cell? ⟨g, a.length * 2 + 1, none⟩ = some (.int .i64 q.t) ∧
      W2.cell? ⟨B7, 0, none⟩ = some (.int .i64 r.f) ∧ W2.cell? ⟨B7, 1, none⟩ = some (.int .i64 r.t) ∧ B7 < W2.heap.size ∧ g < W2.heap.size ∧ base ≤ W2.heap.size := by
  obtain ⟨h1, h2, h3, h4, h7, h8, s1, s2, s3⟩ := h
  have hs := hb.size
  obtain ⟨b1, b2, b3⟩ := hB
  exact ⟨h1.allB hb b2, h2.trans (hb.mono b3), (hb.cell (p := ⟨g, _, none⟩) b2).trans h3, (hb.cell (p := ⟨g, _, none⟩) b2).trans h4,
    (hb.cell (p := ⟨B7, _, none⟩) b1).trans h7, (hb.cell (p := ⟨B7, _, none⟩) b1).trans h8, by omega, by omega, by omega⟩

set_option maxRecDepth 20000 in
set_option maxHeartbeats 2000000 in
theorem joined_spans_any (v : Value) (rs : List Bd.S) (w : World) (hv : Spns w v rs) (hlen : rs.length ≤ 1000) :
    Calls Try.prog 104 #[v, .func (.func 105) #[] #[]] w fun e w' => ∃ u, e = .returned u ∧ OwnS w.heap.size w' u (Bd.normS rs) ∧ Below w.heap.size w w' := by
  obtain ⟨ao, c, rfl, hlk⟩ := hv
  obtain ⟨i0, hi, hz0, hz1, hz2⟩ := info_parts infoSpn
  have HK := Lib.hid hlk
  clear hlk
  go_enter Try.func104, Try.ntmps104
  go_wp2
  have hw0 := Below.refl w.heap.size w
  go_loopw [5, 13] (fun s t wr => ∃ k : Nat, k ≤ rs.length ∧ t = .int .i64 k ∧ OwnS w.heap.size wr s (Bd.normS (rs.take k)) ∧ Below w.heap.size w wr) (fun _ t _ => rs.length - (intOf t).toNat)
  case atStart => exact ⟨0, Nat.zero_le _, rfl, OwnS.nil _ _, hw0⟩
  case round =>
    obtain ⟨k, hk, rfl, hown, hw⟩ := hrel
    clear hw0
    by_cases hlt : k < rs.length
    · obtain ⟨b, off, rfl, hb, hck⟩ := HK.out k hlt
      obtain ⟨c0, c1⟩ := hck.below hw hb
      clear hck HK
      have hns := Bd.normS_take_succ hlt
      have hbd := Bd.normS_bound hk
      rcases Bd.snocS_cases (Bd.normS (rs.take k)) with he | ⟨a, q, he⟩
      · rw [he] at hown hns
        rw [Bd.pushS_nil] at hns
        have HN := Lib.hid hns
        clear hns he hbd
        generalize rs[k] = r at *
        obtain ⟨ga, gc, rfl⟩ := hown.empty
        go_wp2_with (at_builtin; refine wpList_append_own _ rfl _ _ 53 rfl w.heap.size 57 i0 (.agg #[.int .i64 0, .int .i64 0]) 2 16 Try.underlying53 hi hz0 hz1 hz2 rfl (by decide) _ _ _ rfl ((hown.alloc _).alloc _) ⟨wr.heap.size + 1, 0, none⟩ 1 1 (spnC r) rfl rfl ?c1 (spnC_one r) ?c3 ?c4 ?c5 ?_)
        case c1 => exact spnC_at (wr.alloc (spnObj r)) r _ (by simp)
        case c3 => unfold maxLen; simp
        case c4 => simp
        case c5 => have := hw.size; simp; omega
        intro v' w1 hown1 hgrow _
        have hw1 := ((hw.alloc hw.size (spnObj r)).alloc (by have := hw.size; simp; omega) (spnObj r)).grown hgrow (by have := hw.size; simp; omega) (fun j e => (World.ownsRow.lt hown j e).1)
        have hown2 := OwnS.pushed (a := []) hown1
        clear hown1 hgrow hown hw c0 c1
        go_wp2
        go_roundw
        case rel => exact ⟨k + 1, by omega, by go_num, by rw [HN.out]; exact hown2, hw1⟩
        case measure => simp [intOf]; omega
      · rw [he] at hown hns hbd
        simp only [List.length_append, List.length_singleton] at hbd
        rw [Bd.pushS_snoc] at hns
        obtain ⟨g, cp, rfl, hg1, hg2, hg3, hg4, d0, d1⟩ := hown.snoc
        have HN := Lib.hid hns
        clear hns he
        generalize rs[k] = r at *
        go_wp2_with fail
        have HB := Lib.hid hw.size
        refine wp_region_seq2 (.take 0 (.take 1 (.take 2 (.take 3 (.take 4 (.take 5 (.two 6 (.take 7 (.take 8 (.take 9 (.one 10 (.one 11 (.take 12 .done)))))) 10 (.one 6 (.take 7 (.take 8 (.take 9 (.one 11 (.take 12 .done)))))))))))))
          (fun W => OwnS w.heap.size W (.slice (some ⟨g, 0, none⟩) (a.length + 1) cp) (a ++ [q]) ∧ Below w.heap.size w W ∧ W.cell? ⟨g, a.length * 2, none⟩ = some (.int .i64 q.f) ∧ W.cell? ⟨g, a.length * 2 + 1, none⟩ = some (.int .i64 q.t) ∧
            W.cell? ⟨wr.heap.size, 0, none⟩ = some (.int .i64 r.f) ∧ W.cell? ⟨wr.heap.size, 1, none⟩ = some (.int .i64 r.t) ∧ wr.heap.size < W.heap.size ∧ g < W.heap.size ∧ w.heap.size ≤ W.heap.size)
          (by kernel_rfl) (by kernel_rfl) (by kernel_rfl) (by kernel_rfl) (fun d _ _ _ _ h => by cases d <;> exact h)
          (by exact keepS ⟨hown.alloc (spnObj r), hw.alloc hw.size (spnObj r), (World.cell?_alloc_past _ _ _ hg2).trans d0, (World.cell?_alloc_past _ _ _ hg2).trans d1, by simp, by simp, by simp, by simp; omega, by have := hw.size; simp; omega⟩ (B := wr.heap.size + 1) ((Below.refl _ _).drew) ⟨by omega, by omega, by have := hw.size; omega⟩) (fun hS => ?_)
        clear hown hw c0 c1 d0 d1
        have hlti : (a.length : Int) < (a.length : Int) + 1 := by omega
        repeat (first
          | (refine SeqO.ld (v := ?_) rfl (by rfl) ?_ ?_; rotate_left; (· intro w hSw; (try dsimp only at hSw); go_simp; (try with_reducible rfl)); simp only [Act.put, List.setIfInBounds_toArray, List.set_cons_zero, List.set_cons_succ]))
        refine ⟨wpOp_stepS rfl (by rfl) (fun K hK => ?_), wpOp_stepS rfl (by rfl) (fun K hK => ?_)⟩
        · go_simp
          go_at_call 105
          refine (join_spans_any q r _).mono ?_
          rintro e w1 ⟨rfl, hb1⟩
          try dsimp only
          refine hK.out _ _ (keepS hS hb1 (by (try dsimp only at hS); omega)) (fun hS1 => ?_)
          clear hK K hb1 hS
          try simp only [Act.put, List.setIfInBounds_toArray, List.set_cons_zero, List.set_cons_succ]
          repeat (refine SeqO.ld (v := ?_) rfl (by rfl) ?_ ?_; rotate_left; (· intro w hSw; (try dsimp only at hSw); go_simp; (try with_reducible rfl)); (try simp only [Act.put, List.setIfInBounds_toArray, List.set_cons_zero, List.set_cons_succ]))
          refine SeqO.step rfl (by rfl) (fun K hK => ?_)
          go_simp
          dsimp only [spnV]
          refine hK.out _ _ (keepS hS1 ((Below.refl _ _).alloc (Nat.le_refl _) _) (by omega)) (fun hSn => ?_)
          clear hK K hSn
          try simp only [Act.put, List.setIfInBounds_toArray, List.set_cons_zero, List.set_cons_succ]
          refine SeqO.step rfl (by rfl) (fun K hK => ?_)
          go_simp
          refine hK.out _ _ (keepS hS1 ((Below.refl _ _).alloc (Nat.le_refl _) _) (by omega)) (fun hS => ?_)
          clear hK K hS1
          try simp only [Act.put, List.setIfInBounds_toArray, List.set_cons_zero, List.set_cons_succ]
          repeat (refine SeqO.ld (v := ?_) rfl (by rfl) ?_ ?_; rotate_left; (· intro w hSw; (try dsimp only at hSw); go_simp; (try with_reducible rfl)); (try simp only [Act.put, List.setIfInBounds_toArray, List.set_cons_zero, List.set_cons_succ]))
          refine SeqO.fin ?_
          obtain ⟨W, hWW⟩ : ∃ W : World, W = w1.alloc (spnObj ⟨q.f, r.t⟩) := ⟨_, rfl⟩
          have j0 : W.cell? ⟨w1.heap.size, 0, none⟩ = some (.int .i64 q.f) := by rw [hWW]; simp
          have j1 : W.cell? ⟨w1.heap.size, 1, none⟩ = some (.int .i64 r.t) := by rw [hWW]; simp
          rw [← hWW] at hS ⊢
          clear hWW
          obtain ⟨hown, hw, d0, d1, c0, c1, s1, s2, s3⟩ := hS
          have hfz := hown.snoc
          obtain ⟨_, _, e0, _, _, _, hfz, _⟩ := hfz
          obtain ⟨rfl, rfl⟩ : g = _ ∧ cp = _ := by simpa using e0
          clear e0
          have f0 := hfz (a.length * 2)
          have f1 := hfz (a.length * 2 + 1)
          clear hfz
          by_cases hmk : q.t = r.f
          · have HN' := Lib.hid (HN.out.trans (if_pos hmk))
            have hd : decide (q.t = r.f) = true := by simp [hmk]
            rw [hd]
            clear hmk HN hd
            have hs := hown.setS ⟨q.f, r.t⟩
            have hsw := (hw.setCell (p := ⟨g, a.length * 2, none⟩) hg1 (.int .i64 q.f)).setCell (p := ⟨g, a.length * 2 + 1, none⟩) hg1 (.int .i64 r.t)
            have HS := Lib.hid (And.intro hs hsw)
            clear hs hsw hown hw
            go_wp2
            go_roundw
            case rel => exact ⟨k + 1, by omega, by go_num, by rw [HN'.out]; exact HS.out.1, HS.out.2⟩
            case measure => simp [intOf]; omega
          · have HN' := Lib.hid (HN.out.trans (if_neg hmk))
            have hd : decide (q.t = r.f) = false := by simp [hmk]
            rw [hd]
            clear hmk HN hd
            have hr := hown.row
            go_wp2_with (at_builtin; refine wpList_append_own _ rfl _ _ 53 rfl w.heap.size 57 i0 (.agg #[.int .i64 0, .int .i64 0]) 2 16 Try.underlying53 hi hz0 hz1 hz2 rfl (by decide) _ _ _ rfl (hr.alloc _) ⟨W.heap.size, 0, none⟩ 1 1 (spnC r) rfl rfl (spnC_at W r _ rfl) (spnC_one r) (by unfold maxLen; omega) (by omega) (by simp; omega) ?_)
            intro v' w3 hown1 hgrow _
            have hw1 := (hw.alloc s3 (spnObj r)).grown hgrow (by simp; omega) (fun j e => (World.ownsRow.lt hown j e).1)
            have hown2 : OwnS w.heap.size w3 v' (a ++ [q] ++ [r]) := OwnS.pushed (a := a ++ [q]) (by rw [show (a ++ [q]).length = a.length + 1 by simp]; exact hown1)
            clear hown1 hgrow hown hw hr c0 c1 d0 d1 f0 f1 j0 j1
            go_wp2
            go_roundw
            case rel => exact ⟨k + 1, by omega, by go_num, by rw [HN'.out]; exact hown2, hw1⟩
            case measure => simp [intOf]; omega
        · go_simp
          refine hK.out _ _ (keepS hS ((Below.refl _ _).alloc (Nat.le_refl _) _) (by (try dsimp only at hS); omega)) (fun hS1 => ?_)
          clear hK K hS
          try simp only [Act.put, List.setIfInBounds_toArray, List.set_cons_zero, List.set_cons_succ]
          refine SeqO.step rfl (by rfl) (fun K hK => ?_)
          go_simp
          go_at_call 105
          refine (join_spans_any q r _).mono ?_
          rintro e w1 ⟨rfl, hb1⟩
          try dsimp only
          have z0 : w1.cell? ⟨wr.heap.size + 1, 0, none⟩ = some (.int .i64 0) := (hb1.cell (p := ⟨wr.heap.size + 1, 0, none⟩) (by simp)).trans (by simp)
          have z1 : w1.cell? ⟨wr.heap.size + 1, 1, none⟩ = some (.int .i64 0) := (hb1.cell (p := ⟨wr.heap.size + 1, 1, none⟩) (by simp)).trans (by simp)
          have y0 : w1.frozen? ⟨wr.heap.size + 1, 0, none⟩ = false := (hb1.frozen (p := ⟨wr.heap.size + 1, 0, none⟩) (by simp)).trans (by simp [go_sem])
          have y1 : w1.frozen? ⟨wr.heap.size + 1, 1, none⟩ = false := (hb1.frozen (p := ⟨wr.heap.size + 1, 1, none⟩) (by simp)).trans (by simp [go_sem])
          have hz9 : wr.heap.size + 1 < w1.heap.size := Nat.lt_of_lt_of_le (by simp) hb1.size
          refine hK.out _ _ (keepS hS1 hb1 (by (try dsimp only at hS1); omega)) (fun hS2 => ?_)
          clear hK K hb1 hS1
          try simp only [Act.put, List.setIfInBounds_toArray, List.set_cons_zero, List.set_cons_succ]
          dsimp only [spnV]
          repeat (refine SeqO.ld (v := ?_) rfl (by rfl) ?_ ?_; rotate_left; (· intro w hSw; (try dsimp only at hSw); go_simp; (try with_reducible rfl)); (try simp only [Act.put, List.setIfInBounds_toArray, List.set_cons_zero, List.set_cons_succ]))
          refine SeqO.step rfl (by rfl) (fun K hK => ?_)
          go_simp
          refine hK.out _ _ (keepS (B := wr.heap.size + 1) hS2 (by repeat' (first | exact Below.refl _ _ | refine Below.setCell ?_ (by simp) _)) (by omega)) (fun hS => ?_)
          clear hK K hS2
          try simp only [Act.put, List.setIfInBounds_toArray, List.set_cons_zero, List.set_cons_succ]
          repeat (refine SeqO.ld (v := ?_) rfl (by rfl) ?_ ?_; rotate_left; (· intro w hSw; (try dsimp only at hSw); go_simp; (try with_reducible rfl)); (try simp only [Act.put, List.setIfInBounds_toArray, List.set_cons_zero, List.set_cons_succ]))
          refine SeqO.fin ?_
          obtain ⟨W, hWW⟩ : ∃ W : World, W = (w1.setCell ⟨wr.heap.size + 1, 0, none⟩ (.int .i64 q.f)).setCell ⟨wr.heap.size + 1, 1, none⟩ (.int .i64 r.t) := ⟨_, rfl⟩
          have j0 : W.cell? ⟨wr.heap.size + 1, 0, none⟩ = some (.int .i64 q.f) := by rw [hWW]; simp [go_sem, z0]
          have j1 : W.cell? ⟨wr.heap.size + 1, 1, none⟩ = some (.int .i64 r.t) := by rw [hWW]; simp [go_sem, z1]
          rw [← hWW] at hS ⊢
          clear hWW
          obtain ⟨hown, hw, d0, d1, c0, c1, s1, s2, s3⟩ := hS
          have hfz := hown.snoc
          obtain ⟨_, _, e0, _, _, _, hfz, _⟩ := hfz
          obtain ⟨rfl, rfl⟩ : g = _ ∧ cp = _ := by simpa using e0
          clear e0
          have f0 := hfz (a.length * 2)
          have f1 := hfz (a.length * 2 + 1)
          clear hfz
          by_cases hmk : q.t = r.f
          · have HN' := Lib.hid (HN.out.trans (if_pos hmk))
            have hd : decide (q.t = r.f) = true := by simp [hmk]
            rw [hd]
            clear hmk HN hd
            have hs := hown.setS ⟨q.f, r.t⟩
            have hsw := (hw.setCell (p := ⟨g, a.length * 2, none⟩) hg1 (.int .i64 q.f)).setCell (p := ⟨g, a.length * 2 + 1, none⟩) hg1 (.int .i64 r.t)
            have HS := Lib.hid (And.intro hs hsw)
            clear hs hsw hown hw
            go_wp2
            go_roundw
            case rel => exact ⟨k + 1, by omega, by go_num, by rw [HN'.out]; exact HS.out.1, HS.out.2⟩
            case measure => simp [intOf]; omega
          · have HN' := Lib.hid (HN.out.trans (if_neg hmk))
            have hd : decide (q.t = r.f) = false := by simp [hmk]
            rw [hd]
            clear hmk HN hd
            have hr := hown.row
            go_wp2_with (at_builtin; refine wpList_append_own _ rfl _ _ 53 rfl w.heap.size 57 i0 (.agg #[.int .i64 0, .int .i64 0]) 2 16 Try.underlying53 hi hz0 hz1 hz2 rfl (by decide) _ _ _ rfl (hr.alloc _) ⟨W.heap.size, 0, none⟩ 1 1 (spnC r) rfl rfl (spnC_at W r _ rfl) (spnC_one r) (by unfold maxLen; omega) (by omega) (by simp; omega) ?_)
            intro v' w3 hown1 hgrow _
            have hw1 := (hw.alloc s3 (spnObj r)).grown hgrow (by simp; omega) (fun j e => (World.ownsRow.lt hown j e).1)
            have hown2 : OwnS w.heap.size w3 v' (a ++ [q] ++ [r]) := OwnS.pushed (a := a ++ [q]) (by rw [show (a ++ [q]).length = a.length + 1 by simp]; exact hown1)
            clear hown1 hgrow hown hw hr c0 c1 d0 d1 f0 f1 j0 j1
            go_wp2
            go_roundw
            case rel => exact ⟨k + 1, by omega, by go_num, by rw [HN'.out]; exact hown2, hw1⟩
            case measure => simp [intOf]; omega
    · obtain rfl : k = rs.length := by omega
      clear HK
      rw [List.take_length] at hown
      rcases hown.form with ⟨rfl, _⟩ | ⟨g, cp, rfl, hg1, hg2, hg3, hg4, _⟩
      all_goals
        go_wp2
        go_ret
        exact ⟨_, rfl, hown, hw⟩
end Go.Proofs.Ytilpofmjkcjhdaa
namespace Go.Proofs.Ytilpofmjkcjhdaa
open Go.RowKit

def Bd.holds (la mo sh fl : Int) (m : Bd.M) : Bool := decide (la ≤ m.t) && decide (m.t ≤ mo) && (sh == -1 || sh == m.s) && (bits BinOp.andNot IntKind.i64 m.f fl == 0)

set_option maxRecDepth 20000 in
set_option maxHeartbeats 2000000 in
theorem num_holds_any (la mo sh fl : Int) (m : Bd.M) (w : World) :
    Calls Try.prog 103 #[.agg #[.int .i64 la, .int .i64 mo, .int .i64 sh, .int .i64 fl], markV m] w fun e w' => e = .returned (.bool (Bd.holds la mo sh fl m)) ∧ Below w.heap.size w w' := by
  generalize hh : Bd.holds la mo sh fl m = H
  have HH := Lib.hid hh
  clear hh
  by_cases h1 : la ≤ m.t
  · by_cases h2 : m.t ≤ mo
    · by_cases h3 : sh = -1
      · subst h3
        go_enter Try.func103, Try.ntmps103
        go_wp2
        go_ret
        exact ⟨ret_bool (by rw [← HH.out]; simp [Bd.holds, *]; try (intros; omega)), by repeat' (first | exact Below.refl _ _ | refine Below.alloc ?_ (by simp <;> omega) _)⟩
      · have h3b : (sh == -1) = false := by simp [h3]
        by_cases h4 : sh = m.s
        · have h4b : (sh == m.s) = true := by simp [h4]
          go_enter Try.func103, Try.ntmps103
          go_wp2
          go_ret
          exact ⟨ret_bool (by rw [← HH.out]; simp [Bd.holds, *]; try (intros; omega)), by repeat' (first | exact Below.refl _ _ | refine Below.alloc ?_ (by simp <;> omega) _)⟩
        · have h4b : (sh == m.s) = false := by simp [h4]
          go_enter Try.func103, Try.ntmps103
          go_wp2
          go_ret
          exact ⟨ret_bool (by rw [← HH.out]; simp [Bd.holds, *]; try (intros; omega)), by repeat' (first | exact Below.refl _ _ | refine Below.alloc ?_ (by simp <;> omega) _)⟩
    · skip
      go_enter Try.func103, Try.ntmps103
      go_wp2
      go_ret
      exact ⟨ret_bool (by rw [← HH.out]; simp [Bd.holds, *]; try (intros; omega)), by repeat' (first | exact Below.refl _ _ | refine Below.alloc ?_ (by simp <;> omega) _)⟩
  · skip
    go_enter Try.func103, Try.ntmps103
    go_wp2
    go_ret
    exact ⟨ret_bool (by rw [← HH.out]; simp [Bd.holds, *]; try (intros; omega)), by repeat' (first | exact Below.refl _ _ | refine Below.alloc ?_ (by simp <;> omega) _)⟩

set_option maxRecDepth 20000 in
set_option maxHeartbeats 2000000 in
theorem ref_holds_any (la mo sh fl : Int) (m : Bd.M) (w : World) :
    Calls Try.prog 77 #[.agg #[.int .i64 la, .int .i64 mo, .int .i64 sh, .int .i64 fl], markV m] w fun e w' => e = .returned (.bool (Bd.holds la mo sh fl m)) ∧ Below w.heap.size w w' := by
  generalize hh : Bd.holds la mo sh fl m = H
  have HH := Lib.hid hh
  clear hh
  by_cases h1 : la ≤ m.t
  · by_cases h2 : m.t ≤ mo
    · by_cases h3 : sh = -1
      · subst h3
        go_enter Try.func77, Try.ntmps77
        go_wp2
        go_ret
        exact ⟨ret_bool (by rw [← HH.out]; simp [Bd.holds, *]; try (intros; omega)), by repeat' (first | exact Below.refl _ _ | refine Below.alloc ?_ (by simp <;> omega) _)⟩
      · have h3b : (sh == -1) = false := by simp [h3]
        by_cases h4 : sh = m.s
        · have h4b : (sh == m.s) = true := by simp [h4]
          go_enter Try.func77, Try.ntmps77
          go_wp2
          go_ret
          exact ⟨ret_bool (by rw [← HH.out]; simp [Bd.holds, *]; try (intros; omega)), by repeat' (first | exact Below.refl _ _ | refine Below.alloc ?_ (by simp <;> omega) _)⟩
        · have h4b : (sh == m.s) = false := by simp [h4]
          go_enter Try.func77, Try.ntmps77
          go_wp2
          go_ret
          exact ⟨ret_bool (by rw [← HH.out]; simp [Bd.holds, *]; try (intros; omega)), by repeat' (first | exact Below.refl _ _ | refine Below.alloc ?_ (by simp <;> omega) _)⟩
    · skip
      go_enter Try.func77, Try.ntmps77
      go_wp2
      go_ret
      exact ⟨ret_bool (by rw [← HH.out]; simp [Bd.holds, *]; try (intros; omega)), by repeat' (first | exact Below.refl _ _ | refine Below.alloc ?_ (by simp <;> omega) _)⟩
  · skip
    go_enter Try.func77, Try.ntmps77
    go_wp2
    go_ret
    exact ⟨ret_bool (by rw [← HH.out]; simp [Bd.holds, *]; try (intros; omega)), by repeat' (first | exact Below.refl _ _ | refine Below.alloc ?_ (by simp <;> omega) _)⟩
end Go.Proofs.Ytilpofmjkcjhdaa
