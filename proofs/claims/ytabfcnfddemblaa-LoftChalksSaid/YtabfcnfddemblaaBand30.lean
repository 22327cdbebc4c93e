/- At: the mark at a place, of the program and of the reference. -/
import Derived.Test.YtabfcnfddemblaaBand23
namespace Go.Proofs.Ytabfcnfddemblaa
open Go.RowKit Go.Shelf

attribute [local go_sem] Oper.semAt_some

namespace Bd
def atE (rs : List R) (p : Int) : Int := if valE rs = 0 then (if 0 ≤ p ∧ p < len rs then 0 else 5) else valE rs
def atM (rs : List R) (p : Int) : M := if valE rs = 0 ∧ 0 ≤ p ∧ p < len rs then (exp rs)[p.toNat]?.getD ⟨0, 0, 0⟩ else ⟨0, 0, 0⟩
theorem exp_at {rs : List R} (h : pos rs) {k : Nat} (hk : k < rs.length) {p : Int} (h1 : len (rs.take k) ≤ p) (h2 : p < len (rs.take k) + rs[k].l) : (exp rs)[p.toNat]? = some rs[k].m := by
  have hl := exp_take_len h k
  have e : exp rs = exp (rs.take k) ++ (List.replicate rs[k].l.toNat rs[k].m ++ exp (rs.drop (k + 1))) := by
    have e1 := exp_append (rs.take k) (rs.drop k)
    rw [List.take_append_drop, drop_run hk] at e1
    exact e1
  rw [e, List.getElem?_append_right (by omega), List.getElem?_append_left (by simp; omega), List.getElem?_replicate, if_pos (by omega)]
theorem span_of {rs : List R} (h : pos rs) {p : Int} (h1 : 0 ≤ p) : ∀ n, n ≤ rs.length → p < len (rs.take n) → ∃ k, k < n ∧ len (rs.take k) ≤ p ∧ p < len (rs.take (k + 1))
  | 0, _, h2 => by simp [len] at h2; omega
  | n + 1, hn, h2 => by
    by_cases h3 : p < len (rs.take n)
    · obtain ⟨k, k1, k2, k3⟩ := span_of h h1 n (by omega) h3
      exact ⟨k, by omega, k2, k3⟩
    · exact ⟨n, by omega, by omega, h2⟩
theorem at_ok {rs : List R} {p : Int} (hv : valE rs = 0) {k : Nat} (hk : k < rs.length) (h1 : len (rs.take k) ≤ p) (h2 : p < len (rs.take k) + rs[k].l) : atE rs p = 0 ∧ atM rs p = rs[k].m := by
  have hf := fine_of_valid hv
  have hp := hf.2.1
  have a := len_take_le hp k
  have b := len_take_le hp (k + 1)
  rw [len_take_succ hk] at b
  unfold atE atM
  rw [if_pos hv, if_pos ⟨by omega, by omega⟩, if_pos ⟨hv, by omega, by omega⟩, exp_at hp hk h1 h2]
  exact ⟨rfl, rfl⟩
theorem at_none {rs : List R} {p : Int} (hv : valE rs = 0) (h : ∀ k, k < rs.length → ¬ (len (rs.take k) ≤ p ∧ p < len (rs.take (k + 1)))) : atE rs p = 5 ∧ atM rs p = ⟨0, 0, 0⟩ := by
  have hp := (fine_of_valid hv).2.1
  have hn : ¬ (0 ≤ p ∧ p < len rs) := by
    rintro ⟨h1, h2⟩
    obtain ⟨k, k1, k2, k3⟩ := span_of hp h1 rs.length (Nat.le_refl _) (by rw [List.take_length]; exact h2)
    exact h k k1 ⟨k2, k3⟩
  unfold atE atM
  rw [if_pos hv, if_neg hn, if_neg (fun e => hn e.2)]
  exact ⟨rfl, rfl⟩
theorem at_inv {rs : List R} {p : Int} (hv : valE rs ≠ 0) : atE rs p = valE rs ∧ atM rs p = ⟨0, 0, 0⟩ := by
  unfold atE atM; rw [if_neg hv, if_neg (fun e => hv e.1)]; exact ⟨rfl, rfl⟩
end Bd

/-- No span among these holds the place. -/
def noSp (p : Int) (pre : List Bd.SpB) : Prop := ∀ x ∈ pre, ¬ (x.1.f ≤ p ∧ p < x.1.t)
theorem noSp_nil (p : Int) : noSp p [] := fun _ h => by cases h
theorem noSp_snoc {p : Int} {pre : List Bd.SpB} {x : Bd.SpB} (h : noSp p pre) (h2 : ¬ (x.1.f ≤ p ∧ p < x.1.t)) : noSp p (pre ++ [x]) := by
  intro y hy
  rcases List.mem_append.1 hy with h3 | h3
  · exact h y h3
  · rw [List.mem_singleton.1 h3]; exact h2
/-- One of these spans holds the place, and its mark lies in a block. -/
def HitAt (p : Int) (B : Nat) (pre : List Bd.SpB) (W : World) : Prop := ∃ x ∈ pre, (x.1.f ≤ p ∧ p < x.1.t) ∧ BlockAt W B #[.int .i64 x.1.m.t, .int .i64 x.1.m.s, .int .i64 x.1.m.f] 58
theorem hit_own (p : Int) (B : Nat) : Go.Own (fun (pre : List Bd.SpB) W => HitAt p B pre W) := by
  rintro s X Y row ⟨x, h2, h3, h4⟩ hg hr
  exact ⟨x, h2, h3, block_own _ (fun (_ : Unit) => #[Value.int .i64 x.1.m.t, .int .i64 x.1.m.s, .int .i64 x.1.m.f]) 58 () X Y row h4 hg hr⟩
theorem BlockAt.frozen {W : World} {B : Nat} {cs : Array Value} {t : TypeId} (h : BlockAt W B cs t) (i : Nat) : W.frozen? ⟨B, i, none⟩ = false := by simp [World.frozen?, show W.heap[B]? = _ from h]
theorem BlockAt.set {W : World} {B : Nat} {cs : Array Value} {t : TypeId} (h : BlockAt W B cs t) (i : Nat) (v : Value) : BlockAt (W.setCell ⟨B, i, none⟩ v) B (cs.setIfInBounds i v) t := by
  obtain ⟨hlt, hk⟩ := Array.getElem?_eq_some_iff.1 h
  show (W.heap.modify B _)[B]? = _
  rw [Array.getElem?_eq_getElem (by rw [Array.size_modify]; exact hlt), Array.getElem_modify_self, hk]
  rfl
theorem BlockAt.other {W : World} {B B' i : Nat} {cs : Array Value} {t : TypeId} (h : BlockAt W B cs t) (hne : B ≠ B') (u : Value) : BlockAt (W.setCell ⟨B', i, none⟩ u) B cs t := by
  unfold BlockAt
  rw [Below.heap_setCell _ _ _ _ hne]; exact h
theorem BlockAt.below {W W2 : World} {B N : Nat} {cs : Array Value} {t : TypeId} (h : BlockAt W B cs t) (hb : Below N W W2) (hN : B < N) : BlockAt W2 B cs t := (hb.block B hN).trans h
theorem BlockAt.set3 {W : World} {B : Nat} {a b c : Value} {t : TypeId} (h : BlockAt W B #[a, b, c] t) (x y z : Value) : BlockAt (((W.setCell ⟨B, 0, none⟩ x).setCell ⟨B, 1, none⟩ y).setCell ⟨B, 2, none⟩ z) B #[x, y, z] t :=
  ((h.set 0 x).set 1 y).set 2 z
theorem Boxed.blockAt {W : World} {B : Nat} {v : Value} {t : TypeId} (h : Boxed W B t v) : BlockAt W B #[v] t := h

theorem num_at_results {W : World} {B B2 : Nat} {m : Bd.M} {e : Int} {tmps : Array Value} (hM : BlockAt W B #[.int .i64 m.t, .int .i64 m.s, .int .i64 m.f] 58) (hE : BlockAt W B2 #[.int .i64 e] 25)
    (h4 : tmps.getD 4 undef = .pointer (some ⟨B, 0, none⟩)) (h5 : tmps.getD 5 undef = .pointer (some ⟨B2, 0, none⟩)) :
    (results Try.f34 tmps).run Try.prog W = .ok (.tuple #[markV m, .int .i64 e]) W := by
  have c0 : W.cell? ⟨B, 0, none⟩ = some (.int .i64 m.t) := hM.cell 0
  have c1 : W.cell? ⟨B, 1, none⟩ = some (.int .i64 m.s) := hM.cell 1
  have c2 : W.cell? ⟨B, 2, none⟩ = some (.int .i64 m.f) := hM.cell 2
  have cE : W.cell? ⟨B2, 0, none⟩ = some (.int .i64 e) := hE.cell 0
  simp at h4 h5
  simp [results, Try.results34, go_sem, h4, h5, c0, c1, c2, cE]
set_option maxRecDepth 100000 in
set_option maxHeartbeats 8000000 in
theorem num_at_any (v : Value) (rs : List Bd.R) (p : Int) (w : World) (hv : Runs w v rs) (hl : rs.length ≤ 1000) :
    Calls Try.prog 34 #[v, .int .i64 p] w fun e w' => e = .returned (.tuple #[markV (Bd.atM rs p), .int .i64 (Bd.atE rs p)]) ∧ Below w.heap.size w w' := by
  have V := Lib.hid (fun W (hW : Below w.heap.size w W) => validate_any v rs W (hv.all hW) hl)
  obtain ⟨ao, c, hvf, hlk⟩ := hv.look
  subst hvf
  generalize hEM : (Bd.atE rs p, Bd.atM rs p) = EM
  obtain ⟨E, m⟩ := EM
  obtain ⟨hE, hM⟩ : Bd.atE rs p = E ∧ Bd.atM rs p = m := by simpa using hEM
  rw [hE, hM]
  have HEM := Lib.hid (And.intro hE hM)
  clear hE hM hEM hv
  refine (callsIn_wide (n := 6)).1 ?_
  refine callsIn_of_wp_marks Try.func34 rfl trivial ?_ rfl
  simp only [Try.ntmps34, List.size_toArray, List.length_cons, List.length_nil, Nat.reduceAdd, Nat.reduceSub, Array.replicate_succ, Array.replicate_zero, List.push_toArray, List.append_toArray, List.nil_append, List.cons_append]
  have hB0 : Below w.heap.size w (((w.alloc (.cells #[.int .i64 p] 3)).alloc (.cells #[.int .i64 0, .int .i64 0, .int .i64 0] 58)).alloc (.cells #[.int .i64 0] 25)) := by
    repeat' (first | exact Below.refl _ _ | refine Below.alloc ?_ (by simp <;> omega) _)
  have bP := (((BlockAt.new w #[.int .i64 p] 3).alloc (.cells #[.int .i64 0, .int .i64 0, .int .i64 0] 58)).alloc (.cells #[.int .i64 0] 25))
  have bM := ((BlockAt.new (w.alloc (.cells #[.int .i64 p] 3)) #[.int .i64 0, .int .i64 0, .int .i64 0] 58).alloc (.cells #[.int .i64 0] 25))
  have bE := BlockAt.new ((w.alloc (.cells #[.int .i64 p] 3)).alloc (.cells #[.int .i64 0, .int .i64 0, .int .i64 0] 58)) #[.int .i64 0] 25
  simp only [World.size_alloc] at bM bE
  have hlt := bE.lt
  have C := Lib.hid (V.out _ hB0)
  obtain ⟨Wx, hWx⟩ : ∃ Wx, ((w.alloc (.cells #[.int .i64 p] 3)).alloc (.cells #[.int .i64 0, .int .i64 0, .int .i64 0] 58)).alloc (.cells #[.int .i64 0] 25) = Wx := ⟨_, rfl⟩
  rw [hWx] at hB0 bP bM bE hlt C
  have HW := Lib.hid hWx
  clear hWx
  gi_wp2_with fail
  rw [HW.out]
  refine ⟨trivial, (callsIn_wide.2 C.out).mono ?_⟩
  rintro e w1 ⟨rfl, hb1⟩
  have bP := bP.below hb1 (by omega)
  have bM := bM.below hb1 (by omega)
  have bE := bE.below hb1 (by omega)
  have hB1 := below_step hB0 hb1
  clear hb1 hB0 C V HW hlt
  by_cases hv0 : Bd.valE rs = 0
  · rw [hv0]
    have hf := Bd.fine_of_valid hv0
    gi_wp2_with (refine ⟨trivial, ?_⟩; gi_at_call 73; refine (callsIn_wide.2 (marks_any ao rs.length c _)).mono ?_; rintro e w' ⟨rfl, rfl⟩)
    have bS := BlockAt.new w1 #[.slice ao rs.length c] 51
    have hs1 := hB1.size
    have hB2 := hB1.alloc hs1 (.cells #[.slice ao rs.length c] 51)
    have bP := bP.alloc (.cells #[.slice ao rs.length c] 51)
    have bM := bM.alloc (.cells #[.slice ao rs.length c] 51)
    have bE := bE.alloc (.cells #[.slice ao rs.length c] 51)
    obtain ⟨B1, hB1e⟩ : ∃ B1, w1.heap.size = B1 := ⟨_, rfl⟩
    have hsz : (w1.alloc (.cells #[.slice ao rs.length c] 51)).heap.size = B1 + 1 := by simp [hB1e]
    rw [hB1e] at bS hs1 ⊢
    obtain ⟨W0, hW0⟩ : ∃ W0, w1.alloc (.cells #[.slice ao rs.length c] 51) = W0 := ⟨_, rfl⟩
    rw [hW0] at bP bM bE bS hB2 hsz ⊢
    have hlt := bE.lt
    clear hW0 hB1 hB1e
    refine wpIn_rangeFunc_ownH rfl (by omega) (gf := 119) (lb := #[.pointer (some ⟨B1, 0, none⟩)]) rfl trivial (enters_of Try.func119 (by kernel_rfl) rfl)
      (marks_stops Fence.wide (6 - 1) trivial rfl (by omega) B1 w.heap.size _ rs hf W0 (by omega) (by omega) (bS.cell 0) ⟨ao, c, rfl, fun k hk => by obtain ⟨b, off, h1, h2, h3⟩ := hlk k hk; exact ⟨b, off, h1, h2, h3.below hB2 h2⟩⟩) belowK_t (belowK_b (by omega)) (Below.refl _ _) (fun _ => rfl)
      (fun pre W => ((noSp p pre ∧ BlockAt W w.heap.size #[.int .i64 p] 3) ∧ (BlockAt W (w.heap.size + 1) #[.int .i64 0, .int .i64 0, .int .i64 0] 58 ∧ BlockAt W (w.heap.size + 1 + 1) #[.int .i64 0] 25)) ∧ Below w.heap.size w W)
      (fun cc pre W => ((cc = .ret ∧ HitAt p (w.heap.size + 1) pre W) ∧ BlockAt W (w.heap.size + 1 + 1) #[.int .i64 0] 25) ∧ Below w.heap.size w W)
      (OwnFrom.and (OwnFrom.and (OwnFrom.and (ownFrom_pure _ _) (Own.from (block_own _ (fun _ => #[Value.int .i64 p]) 3) _)) (OwnFrom.and (Own.from (block_own _ (fun _ => #[Value.int .i64 0, .int .i64 0, .int .i64 0]) 58) _) (Own.from (block_own _ (fun _ => #[Value.int .i64 0]) 25) _))) (ownFrom_below (Nat.le_refl _) (by omega)))
      (fun cc => OwnFrom.and (OwnFrom.and (OwnFrom.and (ownFrom_pure _ (fun _ => cc = .ret)) (Own.from (hit_own p _) _)) (Own.from (block_own _ (fun _ => #[Value.int .i64 0]) 25) _)) (ownFrom_below (Nat.le_refl _) (by omega)))
      ⟨⟨⟨noSp_nil p, bP⟩, bM, bE⟩, hB2⟩
      (fun x a' W => ∃ Bx, w.heap.size + 2 < Bx ∧ (BlockAt W Bx #[.int .i64 x.1.f, .int .i64 x.1.t] 118 ∧ BlockAt W (Bx + 1) #[.int .i64 x.1.m.t, .int .i64 x.1.m.s, .int .i64 x.1.m.f] 58) ∧ a' = { tmps := #[.slice ao rs.length c, .int .i64 p, undef, .pointer (some ⟨w.heap.size, 0, none⟩), .pointer (some ⟨w.heap.size + 1, 0, none⟩), .pointer (some ⟨w.heap.size + 1 + 1, 0, none⟩), .int .i64 0, .pointer (some ⟨Bx, 0, none⟩), .pointer (some ⟨Bx + 1, 0, none⟩), .slice ao rs.length c, .int .i64 0, .int .i64 0, .bool false, undef, undef, .slice ao rs.length c, .func (.func 119) #[] #[.pointer (some ⟨B1, 0, none⟩)], .agg #[.int .i64 x.1.f, .int .i64 x.1.t], .agg #[.int .i64 x.1.m.t, .int .i64 x.1.m.s, .int .i64 x.1.m.f], undef, undef, undef, undef, undef, undef, undef, undef, undef, undef, undef, undef], defers := [] })
      (fun x a' _ X Y row hs hg hr => by obtain ⟨Bx, e1, ⟨e2, e4⟩, e3⟩ := hs; exact ⟨Bx, e1, ⟨block_own Bx (fun (_ : Unit) => #[.int .i64 x.1.f, .int .i64 x.1.t]) 118 () X Y row e2 hg (fun r e => (hr r e).2), block_own (Bx + 1) (fun (_ : Unit) => #[.int .i64 x.1.m.t, .int .i64 x.1.m.s, .int .i64 x.1.m.f]) 58 () X Y row e4 hg (fun r e => (hr r e).2)⟩, e3⟩)
      ?assign ?body ?done ?stop
    case assign =>
      rintro l pre x W K ⟨⟨⟨hp, bP1⟩, bM1, bE1⟩, hB1⟩ hK
      have hsW := hB1.size
      gi_wp2
      exact hK _ _ (((KeepsOthers.alloc _ _).trans (KeepsOthers.alloc _ _)).from _) (((Below.refl _ W).alloc hsW _).alloc (by simp; omega) _) ⟨⟨⟨hp, (bP1.alloc _).alloc _⟩, (bM1.alloc _).alloc _, (bE1.alloc _).alloc _⟩, (hB1.alloc hsW _).alloc (by simp; omega) _⟩ ⟨W.heap.size, by have := bE1.lt; omega, ⟨(BlockAt.new W _ _).alloc _, by simpa using BlockAt.new (W.alloc (.cells #[.int .i64 x.1.f, .int .i64 x.1.t] 118)) #[.int .i64 x.1.m.t, .int .i64 x.1.m.s, .int .i64 x.1.m.f] 58⟩, rfl⟩
    case body =>
      rintro l pre x a' W hl' ⟨r, hr⟩ ⟨⟨⟨hp, bP1⟩, bM1, bE1⟩, hB1⟩ ⟨Bx, hBx, ⟨e2, e4⟩, rfl⟩ hlt'
      have cP := (bP1.cell 0).trans rfl
      have cM0 := (bM1.cell 0).trans rfl
      have cM1 := (bM1.cell 1).trans rfl
      have cM2 := (bM1.cell 2).trans rfl
      have fM0 := bM1.frozen 0
      have fM1 := bM1.frozen 1
      have fM2 := bM1.frozen 2
      have cE := (bE1.cell 0).trans rfl
      have fE := bE1.frozen 0
      have x0 := (e2.cell 0).trans rfl
      have x1 := (e2.cell 1).trans rfl
      have y0 := (e4.cell 0).trans rfl
      have y1 := (e4.cell 1).trans rfl
      have y2 := (e4.cell 2).trans rfl
      have HP := Lib.hid hp
      clear e2 e4 hr hp
      by_cases h1 : x.1.f ≤ p
      · by_cases h2 : p < x.1.t
        · gi_wp2
          refine ⟨((((KeepsOthers.setCell _ _ _).trans (KeepsOthers.setCell _ _ _)).trans (KeepsOthers.setCell _ _ _)).trans (KeepsOthers.setCell _ _ _)).from _, ⟨⟨rfl, x, by simp, ⟨h1, h2⟩, ?_⟩, ?_⟩, ?_⟩
          · exact (bM1.set3 _ _ _).other (by omega) _
          · exact (((bE1.other (by omega) _).other (by omega) _).other (by omega) _).set 0 _
          · exact (((hB1.setCell (p := ⟨w.heap.size + 1, 0, none⟩) (by simp) _).setCell (p := ⟨w.heap.size + 1, 1, none⟩) (by simp) _).setCell (p := ⟨w.heap.size + 1, 2, none⟩) (by simp) _).setCell (p := ⟨w.heap.size + 1 + 1, 0, none⟩) (by simp; omega) _
        · gi_wp2
          exact ⟨KeepsFrom.refl _ _, Below.refl _ _, ⟨⟨noSp_snoc HP.out (by omega), bP1⟩, bM1, bE1⟩, hB1⟩
      · gi_wp2
        exact ⟨KeepsFrom.refl _ _, Below.refl _ _, ⟨⟨noSp_snoc HP.out (by omega), bP1⟩, bM1, bE1⟩, hB1⟩
    case done =>
      rintro D ys W hD rfl ⟨⟨⟨hp, bP1⟩, bM1, bE1⟩, hB1⟩ hK
      have cM0 := (bM1.cell 0).trans rfl
      have cM1 := (bM1.cell 1).trans rfl
      have cM2 := (bM1.cell 2).trans rfl
      have fM0 := bM1.frozen 0
      have fM1 := bM1.frozen 1
      have fM2 := bM1.frozen 2
      have cE := (bE1.cell 0).trans rfl
      have fE := bE1.frozen 0
      have HP := Lib.hid hp
      clear hp
      gi_wp2
      obtain ⟨W2, hW2⟩ : ∃ W2, (((W.setCell ⟨w.heap.size + 1, 0, none⟩ (.int .i64 0)).setCell ⟨w.heap.size + 1, 1, none⟩ (.int .i64 0)).setCell ⟨w.heap.size + 1, 2, none⟩ (.int .i64 0)).setCell ⟨w.heap.size + 1 + 1, 0, none⟩ (.int .i64 5) = W2 := ⟨_, rfl⟩
      have bM2 : BlockAt W2 (w.heap.size + 1) #[.int .i64 0, .int .i64 0, .int .i64 0] 58 := by rw [← hW2]; exact (bM1.set3 _ _ _).other (by omega) _
      have bE2 : BlockAt W2 (w.heap.size + 1 + 1) #[.int .i64 5] 25 := by rw [← hW2]; exact (((bE1.other (by omega) _).other (by omega) _).other (by omega) _).set 0 _
      have hB2 : Below w.heap.size w W2 := by
        rw [← hW2]
        exact (((hB1.setCell (p := ⟨w.heap.size + 1, 0, none⟩) (by simp) _).setCell (p := ⟨w.heap.size + 1, 1, none⟩) (by simp) _).setCell (p := ⟨w.heap.size + 1, 2, none⟩) (by simp) _).setCell (p := ⟨w.heap.size + 1 + 1, 0, none⟩) (by simp; omega) _
      have hK2 : W2.heap[D]? = some (.deferred (some [])) := by
        rw [← hW2]
        exact ((((KeepsOthers.setCell _ _ _).trans (KeepsOthers.setCell _ _ _)).trans (KeepsOthers.setCell _ _ _)).trans (KeepsOthers.setCell _ _ _)).same D _ hK rfl
      rw [hW2]
      refine ⟨by simp, .inl ⟨_, _, rfl, run_takeDeferred hK2, ?_⟩⟩
      obtain ⟨e1, e2⟩ := Bd.at_none (p := p) hv0 (fun k hk hh => HP.out (Bd.spk rs k) (List.mem_map.2 ⟨k, by simpa using hk, rfl⟩) (by rw [Bd.spk_eq hf hk]; exact hh))
      rw [HEM.out.1] at e1
      rw [HEM.out.2] at e2
      subst e1 e2
      exact ⟨_, num_at_results (m := ⟨0, 0, 0⟩) (bM2.kept (grownBy_putObj' _ D _) (by simp; omega)) (bE2.kept (grownBy_putObj' _ D _) (by simp; omega)) rfl rfl, rfl, hB2.trans (belowK_b (w := w) (Nat.le_refl _) W2 D _ _ (by omega) hK2 rfl rfl)⟩
    case stop =>
      rintro D cc pre W hD ⟨k, hk, rfl⟩ ⟨⟨⟨rfl, x, hx, ⟨x1, x2⟩, bM1⟩, bE1⟩, hB1⟩ hK
      gi_wp2
      refine ⟨by simp, .inl ⟨_, _, rfl, run_takeDeferred hK, ?_⟩⟩
      obtain ⟨j, hj, rfl⟩ := List.mem_map.1 hx
      have hj2 : j < rs.length := by have := List.mem_range.1 hj; omega
      rw [Bd.spk_eq hf hj2] at x1 x2 bM1
      dsimp only at x1 x2 bM1
      rw [Bd.len_take_succ hj2] at x2
      obtain ⟨e1, e2⟩ := Bd.at_ok hv0 hj2 x1 x2
      rw [HEM.out.1] at e1
      rw [HEM.out.2] at e2
      subst e1 e2
      exact ⟨_, num_at_results (bM1.kept (grownBy_putObj' _ D _) (by simp; omega)) (bE1.kept (grownBy_putObj' _ D _) (by simp; omega)) rfl rfl, rfl, hB1.trans (belowK_b (w := w) (Nat.le_refl _) W D _ _ (by omega) hK rfl rfl)⟩
  · generalize hz' : Bd.valE rs = z at *
    have hz : (z == 0) = false := by simp [hv0]
    have cM0 := (bM.cell 0).trans rfl
    have cM1 := (bM.cell 1).trans rfl
    have cM2 := (bM.cell 2).trans rfl
    have fM0 := bM.frozen 0
    have fM1 := bM.frozen 1
    have fM2 := bM.frozen 2
    have cE := (bE.cell 0).trans rfl
    have fE := bE.frozen 0
    have hne : Bd.valE rs ≠ 0 := by rw [hz']; exact hv0
    have HZ := Lib.hid (And.intro hz' hne)
    clear hv0 hz' hne
    gi_wp2
    obtain ⟨e1, e2⟩ := Bd.at_inv (p := p) HZ.out.2
    rw [HEM.out.1, HZ.out.1] at e1
    rw [HEM.out.2] at e2
    subst e1 e2
    refine ⟨_, num_at_results (m := ⟨0, 0, 0⟩) (B := w.heap.size + 1) (B2 := w.heap.size + 1 + 1) ((bM.set3 _ _ _).other (by omega) _) ((((bE.other (by omega) _).other (by omega) _).other (by omega) _).set 0 _) rfl rfl, rfl, ?_⟩
    exact (((hB1.setCell (p := ⟨w.heap.size + 1, 0, none⟩) (by simp) _).setCell (p := ⟨w.heap.size + 1, 1, none⟩) (by simp) _).setCell (p := ⟨w.heap.size + 1, 2, none⟩) (by simp) _).setCell (p := ⟨w.heap.size + 1 + 1, 0, none⟩) (by simp; omega) _
end Go.Proofs.Ytabfcnfddemblaa
