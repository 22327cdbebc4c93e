/- Find of the program. -/
import Derived.Test.YtimpdmpfpbeflaaBandJ
import Derived.Test.YtimpdmpfpbeflaaSeqR
import Derived.Test.YtimpdmpfpbeflaaSeq3
import Derived.Test.YtimpdmpfpbeflaaBand34
import Derived.Test.YtimpdmpfpbeflaaBand21
import Derived.Test.YtimpdmpfpbeflaaBand9
import Derived.Test.YtimpdmpfpbeflaaBand6
namespace Go.Proofs.Ytimpdmpfpbeflaa
open Go.RowKit Go.Shelf

attribute [local go_sem] Oper.semAt_some

/-- The five blocks of a call: both lists, and the three results. -/
def FB (W : World) (A : Nat) (b p : Value) (n : Int) (t : Bool) (e : Int) : Prop :=
  (BlockAt W A #[b] 22 ∧ BlockAt W (A + 1) #[p] 22) ∧ BlockAt W (A + 1 + 1) #[.int .i64 n] 3 ∧ BlockAt W (A + 1 + 1 + 1) #[.bool t] 4 ∧ BlockAt W (A + 1 + 1 + 1 + 1) #[.int .i64 e] 26
theorem FB.lt {W : World} {A : Nat} {b p : Value} {n : Int} {t : Bool} {e : Int} (h : FB W A b p n t e) : A + 1 + 1 + 1 + 1 < W.heap.size := h.2.2.2.lt
theorem FB.below {W W2 : World} {A N : Nat} {b p : Value} {n : Int} {t : Bool} {e : Int} (h : FB W A b p n t e) (hb : Below N W W2) (hN : A + 1 + 1 + 1 + 1 < N) : FB W2 A b p n t e :=
  ⟨⟨h.1.1.below hb (by omega), h.1.2.below hb (by omega)⟩, h.2.1.below hb (by omega), h.2.2.1.below hb (by omega), h.2.2.2.below hb hN⟩
theorem FB.drew {W : World} {A : Nat} {b p : Value} {n : Int} {t : Bool} {e : Int} (h : FB W A b p n t e) : FB W.drew A b p n t e := h
theorem FB.both {W : World} {A : Nat} {b p : Value} {n : Int} {t : Bool} {e : Int} (h : FB W A b p n t e) (x y : Value) : FB ((W.setCell ⟨A, 0, none⟩ x).setCell ⟨A + 1, 0, none⟩ y) A x y n t e :=
  ⟨⟨(h.1.1.set 0 x).other (by omega) _, (h.1.2.other (by omega) _).set 0 y⟩, (h.2.1.other (by omega) _).other (by omega) _, (h.2.2.1.other (by omega) _).other (by omega) _, (h.2.2.2.other (by omega) _).other (by omega) _⟩
theorem FB.answer {W : World} {A : Nat} {b p : Value} {n : Int} {t : Bool} {e : Int} (h : FB W A b p n t e) (n2 : Int) (t2 : Bool) (e2 : Int) : FB (((W.setCell ⟨A + 1 + 1, 0, none⟩ (.int .i64 n2)).setCell ⟨A + 1 + 1 + 1, 0, none⟩ (.bool t2)).setCell ⟨A + 1 + 1 + 1 + 1, 0, none⟩ (.int .i64 e2)) A b p n2 t2 e2 :=
  ⟨⟨((h.1.1.other (by omega) _).other (by omega) _).other (by omega) _, ((h.1.2.other (by omega) _).other (by omega) _).other (by omega) _⟩, ((h.2.1.set 0 _).other (by omega) _).other (by omega) _, ((h.2.2.1.other (by omega) _).set 0 _).other (by omega) _, ((h.2.2.2.other (by omega) _).other (by omega) _).set 0 _⟩
theorem find_results {W : World} {A : Nat} {n e : Int} {t : Bool} {tmps : Array Value} (h1 : BlockAt W (A + 1 + 1) #[.int .i64 n] 3) (h2 : BlockAt W (A + 1 + 1 + 1) #[.bool t] 4) (h3 : BlockAt W (A + 1 + 1 + 1 + 1) #[.int .i64 e] 26)
    (h4 : tmps.getD 4 undef = .pointer (some ⟨A + 1 + 1, 0, none⟩)) (h5 : tmps.getD 5 undef = .pointer (some ⟨A + 1 + 1 + 1, 0, none⟩)) (h6 : tmps.getD 6 undef = .pointer (some ⟨A + 1 + 1 + 1 + 1, 0, none⟩)) :
    (results Try.f55 tmps).run Try.prog W = .ok (.tuple #[.int .i64 n, .bool t, .int .i64 e]) W := by
  have c0 : W.cell? ⟨A + 1 + 1, 0, none⟩ = some (.int .i64 n) := h1.cell 0
  have c1 : W.cell? ⟨A + 1 + 1 + 1, 0, none⟩ = some (.bool t) := h2.cell 0
  have c2 : W.cell? ⟨A + 1 + 1 + 1 + 1, 0, none⟩ = some (.int .i64 e) := h3.cell 0
  simp at h4 h5 h6
  simp [results, Try.results55, go_sem, h4, h5, h6, c0, c1, c2]

theorem FB.left {W : World} {A : Nat} {b p : Value} {n : Int} {t : Bool} {e : Int} (h : FB W A b p n t e) (x : Value) : FB (W.setCell ⟨A, 0, none⟩ x) A x p n t e :=
  ⟨⟨h.1.1.set 0 x, h.1.2.other (by omega) _⟩, h.2.1.other (by omega) _, h.2.2.1.other (by omega) _, h.2.2.2.other (by omega) _⟩
theorem FB.right {W : World} {A : Nat} {b p : Value} {n : Int} {t : Bool} {e : Int} (h : FB W A b p n t e) (x : Value) : FB (W.setCell ⟨A + 1, 0, none⟩ x) A b x n t e :=
  ⟨⟨h.1.1.other (by omega) _, h.1.2.set 0 x⟩, h.2.1.other (by omega) _, h.2.2.1.other (by omega) _, h.2.2.2.other (by omega) _⟩
theorem Own.lower {base B : Nat} {w : World} {v : Value} {rs : List Bd.R} (h : Own base w v rs) (hB : B ≤ base) : Own B w v rs := by
  obtain ⟨h0, h⟩ := h
  rcases h with h | ⟨g, cap, cur, h1, h2, h3⟩
  · exact ⟨h0, .inl h⟩
  · exact ⟨h0, .inr ⟨g, cap, cur, h1, Nat.le_trans hB h2, h3⟩⟩

/-- The place that is asked at a span. -/
def plS (p : List Bd.R) (x : Bd.Sp) : Int := if p.length ≤ 1 then x.f else x.t - (p.getD 0 default).l
def noHit (x p : List Bd.R) (pre : List Bd.SpB) : Prop := ∀ s ∈ pre, ¬ (s.1.f ≤ plS p s.1 ∧ Bd.occ x p (plS p s.1))
def plL (p : List Bd.R) (pre : List Bd.SpB) : Int := (pre.getLast?.map fun s => plS p s.1).getD 0
def hitL (x p : List Bd.R) (pre : List Bd.SpB) : Prop := ∃ pre' s, pre = pre' ++ [s] ∧ noHit x p pre' ∧ Bd.occ x p (plS p s.1)
theorem noHit_nil (x p : List Bd.R) : noHit x p [] := fun _ h => absurd h List.not_mem_nil
theorem noHit_snoc {x p : List Bd.R} {pre : List Bd.SpB} {s : Bd.SpB} (h : noHit x p pre) (hs : ¬ (s.1.f ≤ plS p s.1 ∧ Bd.occ x p (plS p s.1))) : noHit x p (pre ++ [s]) := by
  intro t ht
  rcases List.mem_append.1 ht with ht | ht
  · exact h t ht
  · obtain rfl : t = s := by simpa using ht
    exact hs
theorem plL_snoc (p : List Bd.R) (pre : List Bd.SpB) (s : Bd.SpB) : plL p (pre ++ [s]) = plS p s.1 := by simp [plL]
theorem plS_spk {x : List Bd.R} (hf : Bd.fine x) (p : List Bd.R) {k : Nat} (hk : k < x.length) : plS p (Bd.spk x k).1 = Bd.plcF x p k := by
  rw [Bd.spk_eq hf hk]; rfl
theorem find_none {x p : List Bd.R} (hf : Bd.fine x) (hn : Bd.nrm x) (hq : Bd.nrm p) (h0 : p ≠ []) (h : noHit x p (Bd.upto x x.length)) : Bd.fnd x p = none :=
  Bd.asked_none hn hq h0 fun j hj hc => h (Bd.spk x j) (List.mem_map.2 ⟨j, by simpa using hj, rfl⟩) ⟨by rw [plS_spk hf p hj, Bd.spk_eq hf hj]; exact hc.1, by rw [plS_spk hf p hj]; exact hc.2⟩
theorem find_hit {x p : List Bd.R} (hf : Bd.fine x) (hn : Bd.nrm x) (hq : Bd.nrm p) (h0 : p ≠ []) {k : Nat} (hk : k ≤ x.length) (h : hitL x p (Bd.upto x k)) : Bd.fnd x p = some (plL p (Bd.upto x k)).toNat ∧ 0 ≤ plL p (Bd.upto x k) := by
  obtain ⟨pre, s, e, h1, h2⟩ := h
  cases k with
  | zero => simp [Bd.upto] at e
  | succ k =>
    rw [Bd.upto_succ] at e
    obtain ⟨rfl, e2⟩ := List.append_inj' e rfl
    obtain rfl : Bd.spk x k = s := by simpa using e2
    rw [Bd.upto_succ, plL_snoc]
    have hk' : k < x.length := by omega
    rw [plS_spk hf p hk'] at h2 ⊢
    refine ⟨Bd.asked_hit hn hq h0 hk' (fun j hj hc => h1 (Bd.spk x j) (List.mem_map.2 ⟨j, by simpa using hj, rfl⟩) ⟨by rw [plS_spk hf p (by omega), Bd.spk_eq hf (by omega)]; exact hc.1, by rw [plS_spk hf p (by omega)]; exact hc.2⟩) h2, h2.1⟩
theorem head_le {p : List Bd.R} (hf : Bd.fine p) (h : 0 < p.length) : 0 ≤ (p.getD 0 default).l ∧ (p.getD 0 default).l ≤ 1000000000 := by
  obtain ⟨_, h2, h3⟩ := hf
  cases p with
  | nil => simp at h
  | cons q r =>
    have h4 := h2 q (by simp)
    have h5 := Bd.len_nonneg (b := r) fun t ht => h2 t (by simp [ht])
    simp only [Bd.len] at h3
    simp only [List.getD_cons_zero]
    omega
theorem FB.alloc {W : World} {A : Nat} {b p : Value} {n : Int} {t : Bool} {e : Int} (h : FB W A b p n t e) (o : Obj) : FB (W.alloc o) A b p n t e :=
  ⟨⟨h.1.1.alloc o, h.1.2.alloc o⟩, h.2.1.alloc o, h.2.2.1.alloc o, h.2.2.2.alloc o⟩
theorem keepsOthersB {W W1 : World} (h : Below W.heap.size W W1) : KeepsOthers W W1 := ⟨h.size, fun k o hk _ => (h.block k (Array.getElem?_eq_some_iff.1 hk).1).trans hk⟩

set_option maxRecDepth 100000 in
set_option maxHeartbeats 8000000 in
theorem num_find_any (v u : Value) (rs qs : List Bd.R) (w : World) (hv : Runs w v rs) (hu : Runs w u qs) (hl : rs.length ≤ 1000) (hl2 : qs.length ≤ 1000) :
    Calls Try.prog 55 #[v, u] w fun e w' => e = .returned (.tuple #[.int .i64 (Bd.finV rs qs), .bool (Bd.finB rs qs), .int .i64 (Bd.bothE rs qs)]) ∧ Below w.heap.size w w' := by
  have V := Lib.hid (fun W (hW : Below w.heap.size w W) => validate_both_any v u rs qs W (hv.all hW) (hu.all hW) hl hl2)
  have NX := Lib.hid (fun W (hW : Below w.heap.size w W) h => normal_any v rs W (hv.all hW) h)
  have NP := Lib.hid (fun W (hW : Below w.heap.size w W) h => normal_any u qs W (hu.all hW) h)
  obtain ⟨va, vc, rfl⟩ := hv.form
  obtain ⟨ua, uc, rfl⟩ := hu.form
  obtain ⟨A, hA⟩ : ∃ A, A = w.heap.size := ⟨_, rfl⟩
  have hB0 : Below w.heap.size w (((((w.alloc (.cells #[.slice va rs.length vc] 22)).alloc (.cells #[.slice ua qs.length uc] 22)).alloc (.cells #[.int .i64 0] 3)).alloc (.cells #[.bool false] 4)).alloc (.cells #[.int .i64 0] 26)) := by
    repeat' (first | exact Below.refl _ _ | refine Below.alloc ?_ (by simp <;> omega) _)
  have hFB : FB (((((w.alloc (.cells #[.slice va rs.length vc] 22)).alloc (.cells #[.slice ua qs.length uc] 22)).alloc (.cells #[.int .i64 0] 3)).alloc (.cells #[.bool false] 4)).alloc (.cells #[.int .i64 0] 26)) w.heap.size (.slice va rs.length vc) (.slice ua qs.length uc) 0 false 0 := by
    have b1 := BlockAt.new (w.alloc (.cells #[.slice va rs.length vc] 22)) #[.slice ua qs.length uc] 22
    have b2 := BlockAt.new ((w.alloc (.cells #[.slice va rs.length vc] 22)).alloc (.cells #[.slice ua qs.length uc] 22)) #[.int .i64 0] 3
    have b3 := BlockAt.new (((w.alloc (.cells #[.slice va rs.length vc] 22)).alloc (.cells #[.slice ua qs.length uc] 22)).alloc (.cells #[.int .i64 0] 3)) #[.bool false] 4
    have b4 := BlockAt.new ((((w.alloc (.cells #[.slice va rs.length vc] 22)).alloc (.cells #[.slice ua qs.length uc] 22)).alloc (.cells #[.int .i64 0] 3)).alloc (.cells #[.bool false] 4)) #[.int .i64 0] 26
    simp only [World.size_alloc] at b1 b2 b3 b4
    exact ⟨⟨((((BlockAt.new w _ _).alloc _).alloc _).alloc _).alloc _, ((b1.alloc _).alloc _).alloc _⟩, (b2.alloc _).alloc _, b3.alloc _, b4⟩
  have C := Lib.hid (V.out _ hB0)
  obtain ⟨Wx, hWx⟩ : ∃ Wx, ((((w.alloc (.cells #[.slice va rs.length vc] 22)).alloc (.cells #[.slice ua qs.length uc] 22)).alloc (.cells #[.int .i64 0] 3)).alloc (.cells #[.bool false] 4)).alloc (.cells #[.int .i64 0] 26) = Wx := ⟨_, rfl⟩
  rw [hWx] at hB0 hFB C
  have HW := Lib.hid hWx
  clear hWx hv hu hA
  refine (callsIn_wide (n := 6)).1 ?_
  refine callsIn_of_wp_marks Try.func55 rfl trivial ?_ rfl
  simp only [Try.ntmps55, List.size_toArray, List.length_cons, List.length_nil, Nat.reduceAdd, Nat.reduceSub, Array.replicate_succ, Array.replicate_zero, List.push_toArray, List.append_toArray, List.nil_append, List.cons_append]
  gi_wp2_with fail
  rw [HW.out]
  refine ⟨trivial, (callsIn_wide.2 C.out).mono ?_⟩
  rintro e w1 ⟨rfl, hb1⟩
  have hFB := hFB.below hb1 hFB.lt
  have hB1 := below_step hB0 hb1
  clear hb1 hB0 C V HW
  by_cases hv0 : Bd.bothE rs qs = 0
  · obtain ⟨hv1, hv2⟩ := Bd.bothE_zero.1 hv0
    have hf := Bd.fine_of_valid hv1
    have hf2 := Bd.fine_of_valid hv2
    rw [hv0]
    have c0 := hFB.1.1.cell 0
    have c1 := hFB.1.2.cell 0
    have HF := Lib.hid (And.intro hFB (And.intro hB1 (And.intro hf hf2)))
    have HVV := Lib.hid (And.intro hv0 (And.intro hv1 hv2))
    clear hFB hB1 hf hf2 hv0 hv1 hv2
    gi_wp2
    clear c0 c1
    refine wpIn_wide.2 ?_
    refine wp_region_meet (β := (Option Addr × Nat) × (Option Addr × Nat)) (.two 0 (.two 1 (.one 2 (.one 3 (.one 4 (.one 5 .done)))) 2 (.one 1 (.one 3 (.one 4 (.one 5 .done))))) 2 (.one 0 (.one 1 (.one 3 (.one 4 (.one 5 .done))))))
      (fun _ => True)
      (fun xp => [(16, .slice va rs.length vc), (17, .slice xp.1.1 (Bd.norm rs).length xp.1.2), (18, .slice ua qs.length uc), (19, .slice xp.2.1 (Bd.norm qs).length xp.2.2)])
      (fun xp Y => FB Y w.heap.size (.slice xp.1.1 (Bd.norm rs).length xp.1.2) (.slice xp.2.1 (Bd.norm qs).length xp.2.2) 0 false 0 ∧ Own w1.heap.size Y (.slice xp.1.1 (Bd.norm rs).length xp.1.2) (Bd.norm rs) ∧ Own w1.heap.size Y (.slice xp.2.1 (Bd.norm qs).length xp.2.2) (Bd.norm qs) ∧ Below w.heap.size w Y)
      (by kernel_rfl) (by kernel_rfl) (by kernel_rfl) (by kernel_rfl) trivial (fun _ => ?_) ?_
    · have HM := Lib.hid ((Below.refl w1.heap.size w1).drew)
      generalize w1.drew = X0 at *
      refine ⟨wpOp_stepS rfl (by rfl) (fun K hK => ?_), wpOp_stepS rfl (by rfl) (fun K hK => ?_)⟩
      · skip
        have cc := (HF.out.1.below HM.out HF.out.1.lt).1.1.cell 0
        go_simp
        clear cc
        refine hK.out _ _ trivial (fun _ => ?_)
        clear hK K
        try simp only [Act.put, List.setIfInBounds_toArray, List.set_cons_zero, List.set_cons_succ]
        refine ⟨wpOp_stepS rfl (by rfl) (fun K hK => ?_), wpOp_stepS rfl (by rfl) (fun K hK => ?_)⟩
        · skip
          go_simp
          refine (NX.out X0 (below_step HF.out.2.1 HM.out) HF.out.2.2.1).mono ?_
          rintro e X1 ⟨x, rfl, hx, hb⟩
          obtain ⟨xa, xc, rfl⟩ := hx.runs.form
          have HXO := Lib.hid (hx.lower HM.out.size)
          have HM := Lib.hid (below_step HM.out hb)
          clear hx hb
          refine hK.out _ _ trivial (fun _ => ?_)
          clear hK K
          try simp only [Act.put, List.setIfInBounds_toArray, List.set_cons_zero, List.set_cons_succ]
          refine wpOp_stepS rfl (by rfl) (fun K hK => ?_)
          have cc := (HF.out.1.below HM.out HF.out.1.lt).1.2.cell 0
          go_simp
          clear cc
          refine hK.out _ _ trivial (fun _ => ?_)
          clear hK K
          try simp only [Act.put, List.setIfInBounds_toArray, List.set_cons_zero, List.set_cons_succ]
          refine wpOp_stepS rfl (by rfl) (fun K hK => ?_)
          go_simp
          refine (NP.out X1 (below_step HF.out.2.1 HM.out) HF.out.2.2.2).mono ?_
          rintro e X2 ⟨p, rfl, hp, hb⟩
          obtain ⟨pa, pc, rfl⟩ := hp.runs.form
          have HPO := Lib.hid (hp.lower HM.out.size)
          have HXO := Lib.hid (HXO.out.all hb)
          have HM := Lib.hid (below_step HM.out hb)
          clear hp hb
          refine hK.out _ _ trivial (fun _ => ?_)
          clear hK K
          try simp only [Act.put, List.setIfInBounds_toArray, List.set_cons_zero, List.set_cons_succ]
          refine wpOp_stepS rfl (by rfl) (fun K hK => ?_)
          have hfb := HF.out.1.below HM.out HF.out.1.lt
          have hfl := hfb.1.1.lt
          have hff := hfb.1.1.frozen 0
          have hcc := hfb.1.1.cell 0
          go_simp
          obtain ⟨Y4, hY⟩ : ∃ Y, X2.setCell ⟨w.heap.size, 0, none⟩ (.slice xa (Bd.norm rs).length xc) = Y := ⟨_, rfl⟩
          have HFB := Lib.hid (show FB Y4 w.heap.size (.slice xa (Bd.norm rs).length xc) (.slice ua qs.length uc) 0 false 0 by rw [← hY]; exact hfb.left _)
          have HXO := Lib.hid (show Own w1.heap.size Y4 (.slice xa (Bd.norm rs).length xc) (Bd.norm rs) by rw [← hY]; exact RowKit.ownsRow_setCell_below HXO.out (show w.heap.size < w1.heap.size by have := HF.out.1.lt; omega) _)
          have HPO := Lib.hid (show Own w1.heap.size Y4 (.slice pa (Bd.norm qs).length pc) (Bd.norm qs) by rw [← hY]; exact RowKit.ownsRow_setCell_below HPO.out (show w.heap.size < w1.heap.size by have := HF.out.1.lt; omega) _)
          have HBW := Lib.hid (show Below w.heap.size w Y4 by rw [← hY]; exact (below_step HF.out.2.1 HM.out).setCell (p := ⟨w.heap.size, 0, none⟩) (Nat.le_refl _) _)
          rw [hY]
          clear hY hfb hfl hff hcc
          refine hK.out _ _ trivial (fun _ => ?_)
          clear hK K
          try simp only [Act.put, List.setIfInBounds_toArray, List.set_cons_zero, List.set_cons_succ]
          refine wpOp_stepS rfl (by rfl) (fun K hK => ?_)
          have hfl := HFB.out.1.2.lt
          have hff := HFB.out.1.2.frozen 0
          have hcc := HFB.out.1.2.cell 0
          go_simp
          obtain ⟨Y5, hY⟩ : ∃ Y, Y4.setCell ⟨w.heap.size + 1, 0, none⟩ (.slice pa (Bd.norm qs).length pc) = Y := ⟨_, rfl⟩
          have HFB := Lib.hid (show FB Y5 w.heap.size (.slice xa (Bd.norm rs).length xc) (.slice pa (Bd.norm qs).length pc) 0 false 0 by rw [← hY]; exact HFB.out.right _)
          have HXO := Lib.hid (show Own w1.heap.size Y5 (.slice xa (Bd.norm rs).length xc) (Bd.norm rs) by rw [← hY]; exact RowKit.ownsRow_setCell_below HXO.out (show w.heap.size + 1 < w1.heap.size by have := HF.out.1.lt; omega) _)
          have HPO := Lib.hid (show Own w1.heap.size Y5 (.slice pa (Bd.norm qs).length pc) (Bd.norm qs) by rw [← hY]; exact RowKit.ownsRow_setCell_below HPO.out (show w.heap.size + 1 < w1.heap.size by have := HF.out.1.lt; omega) _)
          have HBW := Lib.hid (show Below w.heap.size w Y5 by rw [← hY]; exact HBW.out.setCell (p := ⟨w.heap.size + 1, 0, none⟩) (by simp) _)
          rw [hY]
          clear hY hfl hff hcc
          refine hK.out _ _ trivial (fun _ => ?_)
          clear hK K
          try simp only [Act.put, List.setIfInBounds_toArray, List.set_cons_zero, List.set_cons_succ]
          exact SeqT.fin ⟨rfl, ((xa, xc), (pa, pc)), by simp only [putAll, Act.put, List.setIfInBounds_toArray, List.set_cons_zero, List.set_cons_succ], HFB.out, HXO.out, HPO.out, HBW.out⟩
        · skip
          have cc := (HF.out.1.below HM.out HF.out.1.lt).1.2.cell 0
          go_simp
          clear cc
          refine hK.out _ _ trivial (fun _ => ?_)
          clear hK K
          try simp only [Act.put, List.setIfInBounds_toArray, List.set_cons_zero, List.set_cons_succ]
          refine wpOp_stepS rfl (by rfl) (fun K hK => ?_)
          go_simp
          refine (NX.out X0 (below_step HF.out.2.1 HM.out) HF.out.2.2.1).mono ?_
          rintro e X1 ⟨x, rfl, hx, hb⟩
          obtain ⟨xa, xc, rfl⟩ := hx.runs.form
          have HXO := Lib.hid (hx.lower HM.out.size)
          have HM := Lib.hid (below_step HM.out hb)
          clear hx hb
          refine hK.out _ _ trivial (fun _ => ?_)
          clear hK K
          try simp only [Act.put, List.setIfInBounds_toArray, List.set_cons_zero, List.set_cons_succ]
          refine wpOp_stepS rfl (by rfl) (fun K hK => ?_)
          go_simp
          refine (NP.out X1 (below_step HF.out.2.1 HM.out) HF.out.2.2.2).mono ?_
          rintro e X2 ⟨p, rfl, hp, hb⟩
          obtain ⟨pa, pc, rfl⟩ := hp.runs.form
          have HPO := Lib.hid (hp.lower HM.out.size)
          have HXO := Lib.hid (HXO.out.all hb)
          have HM := Lib.hid (below_step HM.out hb)
          clear hp hb
          refine hK.out _ _ trivial (fun _ => ?_)
          clear hK K
          try simp only [Act.put, List.setIfInBounds_toArray, List.set_cons_zero, List.set_cons_succ]
          refine wpOp_stepS rfl (by rfl) (fun K hK => ?_)
          have hfb := HF.out.1.below HM.out HF.out.1.lt
          have hfl := hfb.1.1.lt
          have hff := hfb.1.1.frozen 0
          have hcc := hfb.1.1.cell 0
          go_simp
          obtain ⟨Y4, hY⟩ : ∃ Y, X2.setCell ⟨w.heap.size, 0, none⟩ (.slice xa (Bd.norm rs).length xc) = Y := ⟨_, rfl⟩
          have HFB := Lib.hid (show FB Y4 w.heap.size (.slice xa (Bd.norm rs).length xc) (.slice ua qs.length uc) 0 false 0 by rw [← hY]; exact hfb.left _)
          have HXO := Lib.hid (show Own w1.heap.size Y4 (.slice xa (Bd.norm rs).length xc) (Bd.norm rs) by rw [← hY]; exact RowKit.ownsRow_setCell_below HXO.out (show w.heap.size < w1.heap.size by have := HF.out.1.lt; omega) _)
          have HPO := Lib.hid (show Own w1.heap.size Y4 (.slice pa (Bd.norm qs).length pc) (Bd.norm qs) by rw [← hY]; exact RowKit.ownsRow_setCell_below HPO.out (show w.heap.size < w1.heap.size by have := HF.out.1.lt; omega) _)
          have HBW := Lib.hid (show Below w.heap.size w Y4 by rw [← hY]; exact (below_step HF.out.2.1 HM.out).setCell (p := ⟨w.heap.size, 0, none⟩) (Nat.le_refl _) _)
          rw [hY]
          clear hY hfb hfl hff hcc
          refine hK.out _ _ trivial (fun _ => ?_)
          clear hK K
          try simp only [Act.put, List.setIfInBounds_toArray, List.set_cons_zero, List.set_cons_succ]
          refine wpOp_stepS rfl (by rfl) (fun K hK => ?_)
          have hfl := HFB.out.1.2.lt
          have hff := HFB.out.1.2.frozen 0
          have hcc := HFB.out.1.2.cell 0
          go_simp
          obtain ⟨Y5, hY⟩ : ∃ Y, Y4.setCell ⟨w.heap.size + 1, 0, none⟩ (.slice pa (Bd.norm qs).length pc) = Y := ⟨_, rfl⟩
          have HFB := Lib.hid (show FB Y5 w.heap.size (.slice xa (Bd.norm rs).length xc) (.slice pa (Bd.norm qs).length pc) 0 false 0 by rw [← hY]; exact HFB.out.right _)
          have HXO := Lib.hid (show Own w1.heap.size Y5 (.slice xa (Bd.norm rs).length xc) (Bd.norm rs) by rw [← hY]; exact RowKit.ownsRow_setCell_below HXO.out (show w.heap.size + 1 < w1.heap.size by have := HF.out.1.lt; omega) _)
          have HPO := Lib.hid (show Own w1.heap.size Y5 (.slice pa (Bd.norm qs).length pc) (Bd.norm qs) by rw [← hY]; exact RowKit.ownsRow_setCell_below HPO.out (show w.heap.size + 1 < w1.heap.size by have := HF.out.1.lt; omega) _)
          have HBW := Lib.hid (show Below w.heap.size w Y5 by rw [← hY]; exact HBW.out.setCell (p := ⟨w.heap.size + 1, 0, none⟩) (by simp) _)
          rw [hY]
          clear hY hfl hff hcc
          refine hK.out _ _ trivial (fun _ => ?_)
          clear hK K
          try simp only [Act.put, List.setIfInBounds_toArray, List.set_cons_zero, List.set_cons_succ]
          exact SeqT.fin ⟨rfl, ((xa, xc), (pa, pc)), by simp only [putAll, Act.put, List.setIfInBounds_toArray, List.set_cons_zero, List.set_cons_succ], HFB.out, HXO.out, HPO.out, HBW.out⟩
      · skip
        have cc := (HF.out.1.below HM.out HF.out.1.lt).1.2.cell 0
        go_simp
        clear cc
        refine hK.out _ _ trivial (fun _ => ?_)
        clear hK K
        try simp only [Act.put, List.setIfInBounds_toArray, List.set_cons_zero, List.set_cons_succ]
        refine wpOp_stepS rfl (by rfl) (fun K hK => ?_)
        have cc := (HF.out.1.below HM.out HF.out.1.lt).1.1.cell 0
        go_simp
        clear cc
        refine hK.out _ _ trivial (fun _ => ?_)
        clear hK K
        try simp only [Act.put, List.setIfInBounds_toArray, List.set_cons_zero, List.set_cons_succ]
        refine wpOp_stepS rfl (by rfl) (fun K hK => ?_)
        go_simp
        refine (NX.out X0 (below_step HF.out.2.1 HM.out) HF.out.2.2.1).mono ?_
        rintro e X1 ⟨x, rfl, hx, hb⟩
        obtain ⟨xa, xc, rfl⟩ := hx.runs.form
        have HXO := Lib.hid (hx.lower HM.out.size)
        have HM := Lib.hid (below_step HM.out hb)
        clear hx hb
        refine hK.out _ _ trivial (fun _ => ?_)
        clear hK K
        try simp only [Act.put, List.setIfInBounds_toArray, List.set_cons_zero, List.set_cons_succ]
        refine wpOp_stepS rfl (by rfl) (fun K hK => ?_)
        go_simp
        refine (NP.out X1 (below_step HF.out.2.1 HM.out) HF.out.2.2.2).mono ?_
        rintro e X2 ⟨p, rfl, hp, hb⟩
        obtain ⟨pa, pc, rfl⟩ := hp.runs.form
        have HPO := Lib.hid (hp.lower HM.out.size)
        have HXO := Lib.hid (HXO.out.all hb)
        have HM := Lib.hid (below_step HM.out hb)
        clear hp hb
        refine hK.out _ _ trivial (fun _ => ?_)
        clear hK K
        try simp only [Act.put, List.setIfInBounds_toArray, List.set_cons_zero, List.set_cons_succ]
        refine wpOp_stepS rfl (by rfl) (fun K hK => ?_)
        have hfb := HF.out.1.below HM.out HF.out.1.lt
        have hfl := hfb.1.1.lt
        have hff := hfb.1.1.frozen 0
        have hcc := hfb.1.1.cell 0
        go_simp
        obtain ⟨Y4, hY⟩ : ∃ Y, X2.setCell ⟨w.heap.size, 0, none⟩ (.slice xa (Bd.norm rs).length xc) = Y := ⟨_, rfl⟩
        have HFB := Lib.hid (show FB Y4 w.heap.size (.slice xa (Bd.norm rs).length xc) (.slice ua qs.length uc) 0 false 0 by rw [← hY]; exact hfb.left _)
        have HXO := Lib.hid (show Own w1.heap.size Y4 (.slice xa (Bd.norm rs).length xc) (Bd.norm rs) by rw [← hY]; exact RowKit.ownsRow_setCell_below HXO.out (show w.heap.size < w1.heap.size by have := HF.out.1.lt; omega) _)
        have HPO := Lib.hid (show Own w1.heap.size Y4 (.slice pa (Bd.norm qs).length pc) (Bd.norm qs) by rw [← hY]; exact RowKit.ownsRow_setCell_below HPO.out (show w.heap.size < w1.heap.size by have := HF.out.1.lt; omega) _)
        have HBW := Lib.hid (show Below w.heap.size w Y4 by rw [← hY]; exact (below_step HF.out.2.1 HM.out).setCell (p := ⟨w.heap.size, 0, none⟩) (Nat.le_refl _) _)
        rw [hY]
        clear hY hfb hfl hff hcc
        refine hK.out _ _ trivial (fun _ => ?_)
        clear hK K
        try simp only [Act.put, List.setIfInBounds_toArray, List.set_cons_zero, List.set_cons_succ]
        refine wpOp_stepS rfl (by rfl) (fun K hK => ?_)
        have hfl := HFB.out.1.2.lt
        have hff := HFB.out.1.2.frozen 0
        have hcc := HFB.out.1.2.cell 0
        go_simp
        obtain ⟨Y5, hY⟩ : ∃ Y, Y4.setCell ⟨w.heap.size + 1, 0, none⟩ (.slice pa (Bd.norm qs).length pc) = Y := ⟨_, rfl⟩
        have HFB := Lib.hid (show FB Y5 w.heap.size (.slice xa (Bd.norm rs).length xc) (.slice pa (Bd.norm qs).length pc) 0 false 0 by rw [← hY]; exact HFB.out.right _)
        have HXO := Lib.hid (show Own w1.heap.size Y5 (.slice xa (Bd.norm rs).length xc) (Bd.norm rs) by rw [← hY]; exact RowKit.ownsRow_setCell_below HXO.out (show w.heap.size + 1 < w1.heap.size by have := HF.out.1.lt; omega) _)
        have HPO := Lib.hid (show Own w1.heap.size Y5 (.slice pa (Bd.norm qs).length pc) (Bd.norm qs) by rw [← hY]; exact RowKit.ownsRow_setCell_below HPO.out (show w.heap.size + 1 < w1.heap.size by have := HF.out.1.lt; omega) _)
        have HBW := Lib.hid (show Below w.heap.size w Y5 by rw [← hY]; exact HBW.out.setCell (p := ⟨w.heap.size + 1, 0, none⟩) (by simp) _)
        rw [hY]
        clear hY hfl hff hcc
        refine hK.out _ _ trivial (fun _ => ?_)
        clear hK K
        try simp only [Act.put, List.setIfInBounds_toArray, List.set_cons_zero, List.set_cons_succ]
        exact SeqT.fin ⟨rfl, ((xa, xc), (pa, pc)), by simp only [putAll, Act.put, List.setIfInBounds_toArray, List.set_cons_zero, List.set_cons_succ], HFB.out, HXO.out, HPO.out, HBW.out⟩
    · intro xp w2 hF2
      obtain ⟨⟨xa, xc⟩, ⟨pa, pc⟩⟩ := xp
      simp only [putAll, Act.put, List.setIfInBounds_toArray, List.set_cons_zero, List.set_cons_succ]
      obtain ⟨hfb, hxo, hpo, hbw⟩ := hF2
      have HFIN : Hid (Bd.finV rs qs = ((Bd.fnd (Bd.norm rs) (Bd.norm qs)).getD 0 : Nat) ∧ Bd.finB rs qs = (Bd.fnd (Bd.norm rs) (Bd.norm qs)).isSome) := Lib.hid (by unfold Bd.finV Bd.finB; rw [if_pos HVV.out.1, if_pos HVV.out.1]; exact ⟨rfl, rfl⟩)
      have hnx : Bd.nrm (Bd.norm rs) := Bd.norm_nrm (Bd.valE_pos HVV.out.2.1)
      have hnp : Bd.nrm (Bd.norm qs) := Bd.norm_nrm (Bd.valE_pos HVV.out.2.2)
      have hfx : Bd.fine (Bd.norm rs) := Bd.fine_norm HF.out.2.2.1
      have hfp : Bd.fine (Bd.norm qs) := Bd.fine_norm HF.out.2.2.2
      have hw1 : w.heap.size + 1 + 1 + 1 + 1 < w1.heap.size := HF.out.1.lt
      generalize Bd.norm rs = xs at *
      generalize Bd.norm qs = ps at *
      have hlp := hfp.1
      have hlx := hfx.1
      have hlw := hfb.lt
      have c1 := hfb.1.2.cell 0
      have c0 := hfb.1.1.cell 0
      clear HF NX NP
      by_cases h0 : ps.length = 0
      · have hq : ((ps.length : Int) == 0) = true := by simpa using h0
        have n0 := hfb.2.1.cell 0
        have t0 := hfb.2.2.1.cell 0
        have e0 := hfb.2.2.2.cell 0
        have n1 := hfb.2.1.frozen 0
        have t1 := hfb.2.2.1.frozen 0
        have e1 := hfb.2.2.2.frozen 0
        have HF := Lib.hid (And.intro hfb hbw)
        obtain rfl : ps = [] := List.length_eq_zero_iff.1 h0
        have HX := Lib.hid (Bd.fnd_nil (Bd.nrm_pos hnx))
        clear hfb hbw hpo hxo h0
        gi_wp2
        have hA := HF.out.1.answer 0 true 0
        refine ⟨_, find_results hA.2.1 hA.2.2.1 hA.2.2.2 rfl rfl rfl, by rw [HFIN.out.1, HFIN.out.2, HX.out, HVV.out.1]; rfl, ?_⟩
        exact ((HF.out.2.setCell (p := ⟨w.heap.size + 1 + 1, 0, none⟩) (by simp; omega) _).setCell (p := ⟨w.heap.size + 1 + 1 + 1, 0, none⟩) (by simp; omega) _).setCell (p := ⟨w.heap.size + 1 + 1 + 1 + 1, 0, none⟩) (by simp; omega) _
      · have hq : ((ps.length : Int) == 0) = false := by simpa using h0
        have hpne : ps ≠ [] := fun h => h0 (by rw [h]; rfl)
        gi_wp2_with (refine ⟨trivial, ?_⟩; gi_at_call 65; refine (callsIn_wide.2 (marks_any xa xs.length xc _)).mono ?_; rintro e w' ⟨rfl, rfl⟩)
        have bS := Boxed.new w2 22 (.slice xa xs.length xc)
        have hxo := (hxo.lower (show w.heap.size + 5 ≤ w1.heap.size by omega)).alloc (.cells #[.slice xa xs.length xc] 22)
        have hpo := (hpo.lower (show w.heap.size + 5 ≤ w1.heap.size by omega)).alloc (.cells #[.slice xa xs.length xc] 22)
        have hfb := hfb.alloc (.cells #[.slice xa xs.length xc] 22)
        have hbw := hbw.alloc (by omega) (.cells #[.slice xa xs.length xc] 22)
        have hs4 : (w2.alloc (.cells #[.slice xa xs.length xc] 22)).heap.size = w2.heap.size + 1 := by simp
        obtain ⟨W0, hW0⟩ : ∃ W0, w2.alloc (.cells #[.slice xa xs.length xc] 22) = W0 := ⟨_, rfl⟩
        rw [hW0] at bS hxo hpo hfb hbw hs4 ⊢
        obtain ⟨b0, cs, t0, hb0, hK, ht0, ao', c', e', hrd⟩ := hxo.block w2.heap.size _ 22 (by omega) bS
        have hBL : w.heap.size + 5 ≤ w2.heap.size := by omega
        obtain ⟨Bs, hBs⟩ : ∃ B, B = w2.heap.size := ⟨_, rfl⟩
        rw [← hBs] at bS hs4 hBL ⊢
        have HPP := Lib.hid (And.intro hnx (And.intro hnp (And.intro hfx (And.intro hfp hpne))))
        clear hW0 c0 c1 hBs ht0 h0
        refine wpIn_rangeFunc_ownH rfl (by omega) (gf := 88) (lb := #[.pointer (some ⟨Bs, 0, none⟩)]) rfl trivial (enters_of Try.func88 (by kernel_rfl) rfl)
          (marks_stays Fence.wide (6 - 1) trivial rfl (by omega) Bs b0 cs t0 _ xs hfx W0 (by omega) hK bS.cell ⟨ao', c', e', hrd⟩) kpB_t kpB_b (Below.refl _ _) (fun _ => rfl)
          (fun pre W => (((noHit xs ps pre ∧ BlockAt W b0 cs t0) ∧ ((∃ v, Boxed W w.heap.size 22 v ∧ W.ownsRow (w.heap.size + 5) 68 4 v xs.length (cellsR xs) ∧ v = .slice xa xs.length xc) ∧ (∃ v, Boxed W (w.heap.size + 1) 22 v ∧ W.ownsRow (w.heap.size + 5) 68 4 v ps.length (cellsR ps) ∧ v = .slice pa ps.length pc))) ∧ (BlockAt W (w.heap.size + 1 + 1) #[.int .i64 0] 3 ∧ BlockAt W (w.heap.size + 1 + 1 + 1) #[.bool false] 4 ∧ BlockAt W (w.heap.size + 1 + 1 + 1 + 1) #[.int .i64 0] 26)) ∧ Below w.heap.size w W)
          (fun cc pre W => ((cc = .ret ∧ hitL xs ps pre) ∧ (BlockAt W (w.heap.size + 1 + 1) #[.int .i64 (plL ps pre)] 3 ∧ BlockAt W (w.heap.size + 1 + 1 + 1) #[.bool true] 4 ∧ BlockAt W (w.heap.size + 1 + 1 + 1 + 1) #[.int .i64 0] 26)) ∧ Below w.heap.size w W)
          (OwnFrom.and (OwnFrom.and (OwnFrom.and (OwnFrom.and (ownFrom_pure _ _) (Own.from (block_own _ (fun _ => cs) t0) _)) (OwnFrom.and (Own.from (holdsRow_own (w.heap.size + 5) w.heap.size 22 68 4 (fun _ => xs.length) (fun _ => cellsR xs) (fun _ v => v = .slice xa xs.length xc)) _) (Own.from (holdsRow_own (w.heap.size + 5) (w.heap.size + 1) 22 68 4 (fun _ => ps.length) (fun _ => cellsR ps) (fun _ v => v = .slice pa ps.length pc)) _)))
            (OwnFrom.and (Own.from (block_own _ (fun _ => #[Value.int .i64 0]) 3) _) (OwnFrom.and (Own.from (block_own _ (fun _ => #[Value.bool false]) 4) _) (Own.from (block_own _ (fun _ => #[Value.int .i64 0]) 26) _)))) (ownFrom_below (Nat.le_refl _) (by omega)))
          (fun cc => OwnFrom.and (OwnFrom.and (OwnFrom.and (ownFrom_pure _ (fun _ => cc = .ret)) (ownFrom_pure _ _)) (OwnFrom.and (Own.from (block_own _ (fun pre => #[Value.int .i64 (plL ps pre)]) 3) _) (OwnFrom.and (Own.from (block_own _ (fun _ => #[Value.bool true]) 4) _) (Own.from (block_own _ (fun _ => #[Value.int .i64 0]) 26) _)))) (ownFrom_below (Nat.le_refl _) (by omega)))
          ⟨⟨⟨⟨noHit_nil _ _, hK⟩, ⟨_, hfb.1.1, hxo, rfl⟩, ⟨_, hfb.1.2, hpo, rfl⟩⟩, hfb.2⟩, hbw⟩
          (fun x a' W => ∃ Bx, w.heap.size + 1 + 1 + 1 + 1 < Bx ∧ BlockAt W Bx #[.int .i64 x.1.f, .int .i64 x.1.t] 62 ∧ a' = { tmps := #[.slice va rs.length vc, .slice ua qs.length uc, .pointer (some ⟨w.heap.size, 0, none⟩), .pointer (some ⟨w.heap.size + 1, 0, none⟩), .pointer (some ⟨w.heap.size + 1 + 1, 0, none⟩), .pointer (some ⟨w.heap.size + 1 + 1 + 1, 0, none⟩), .pointer (some ⟨w.heap.size + 1 + 1 + 1 + 1, 0, none⟩), .int .i64 0, .pointer (some ⟨Bx, 0, none⟩), undef, .slice va rs.length vc, .slice ua qs.length uc, .int .i64 0, .int .i64 0, .bool false, undef, .slice va rs.length vc, .slice xa xs.length xc, .slice ua qs.length uc, .slice pa ps.length pc, .slice pa ps.length pc, .int .i64 (ps.length : Int), .bool false, .slice xa xs.length xc, .func (.func 88) #[] #[.pointer (some ⟨Bs, 0, none⟩)], .agg #[.int .i64 x.1.f, .int .i64 x.1.t], .agg #[.int .i64 x.1.m.t, .int .i64 x.1.m.s, .int .i64 x.1.m.f], undef, undef, undef, undef, undef, undef, undef, undef, undef, undef, undef, undef, undef, undef, undef, undef, undef, undef, undef, undef, undef, undef, undef, undef, undef, undef, undef, undef], defers := [] })
          (fun x a' _ X Y row hs hg hr => by obtain ⟨Bx, e1, e2, e3⟩ := hs; exact ⟨Bx, e1, block_own Bx (fun (_ : Unit) => #[.int .i64 x.1.f, .int .i64 x.1.t]) 62 () X Y row e2 hg (fun r e => (hr r e).2), e3⟩)
          ?assign ?body ?done ?stop
        case assign =>
          rintro l pre x W K ⟨⟨⟨⟨hno, bK⟩, ⟨v1, bA, hrA, rfl⟩, ⟨v2, bB, hrB, rfl⟩⟩, bn, bt, be⟩, hB1⟩ hK'
          have hsW := hB1.size
          gi_wp2
          exact hK' _ _ ((KeepsOthers.alloc _ _).from _) (fun h => h.alloc _) ⟨⟨⟨⟨hno, bK.alloc _⟩, ⟨_, bA.alloc _, hrA.alloc _, rfl⟩, ⟨_, bB.alloc _, hrB.alloc _, rfl⟩⟩, bn.alloc _, bt.alloc _, be.alloc _⟩, hB1.alloc hsW _⟩ ⟨W.heap.size, by have := be.lt; omega, BlockAt.new W _ _, rfl⟩
        case body =>
          rintro l pre x a' W hl' ⟨r, hr⟩ ⟨⟨⟨⟨hno, bK⟩, ⟨v1, bA, hrA, rfl⟩, ⟨v2, bB, hrB, rfl⟩⟩, bn, bt, be⟩, hB1⟩ ⟨Bx, hBx, e2, rfl⟩ hlt
          have cA := bA.cell
          have cB := bB.cell
          have x0 := (e2.cell 0).trans rfl
          have x1 := (e2.cell 1).trans rfl
          have hBxl := e2.lt
          obtain ⟨p1, p2, p3, p4⟩ := x.2
          have RX : Runs W (.slice xa xs.length xc) xs := Own.runs hrA
          have RP : Runs W (.slice pa ps.length pc) ps := Own.runs hrB
          have hlenp := HPP.out.2.2.2.1.2.2
          have hlen0 := Bd.len_nonneg (Bd.nrm_pos HPP.out.2.1)
          have HNO := Lib.hid hno
          have HI := Lib.hid (And.intro bK (And.intro bA (And.intro bB (And.intro hrA (And.intro hrB (And.intro bn (And.intro bt (And.intro be hB1))))))))
          clear hno hr hnx hnp hfx hfp
          by_cases hp1 : ps.length ≤ 1
          · have hd1 : decide ((1 : Int) < (ps.length : Int)) = false := decide_eq_false (by omega)
            have hd2 : decide (1 < ps.length) = false := decide_eq_false (by omega)
            have hpl : plS ps x.1 = x.1.f := if_pos hp1
            gi_wp2
            by_cases ho : Bd.occ xs ps x.1.f
            · have hE : decide (cutS (x.1.f) ((x.1.f) + Bd.len ps) (Bd.upto xs xs.length) = ps) = true := decide_eq_true ((Bd.cut_occ HPP.out.2.2.1 HPP.out.1 HPP.out.2.1 HPP.out.2.2.2.2 (a := x.1.f) (by omega)).2 ho)
              have hwr := IntWalk.i64_in ((x.1.f) + Bd.len ps) (by omega)
              refine wpIn_region_seq [(0, true), (1, true), (2, true), (3, true), (4, true), (5, true), (6, true), (7, true), (8, true), (12, true), (9, false), (10, true), (11, false), (13, false), (14, true)] (fun W' => W'.cell? ⟨w.heap.size, 0, none⟩ = some (.slice xa xs.length xc) ∧ W'.cell? ⟨w.heap.size + 1, 0, none⟩ = some (.slice pa ps.length pc) ∧ W'.cell? ⟨Bx, 0, none⟩ = some (.int .i64 x.1.f))
                (by kernel_rfl) (by kernel_rfl) (by kernel_rfl) (by kernel_rfl) (by kernel_rfl) (fun d _ _ _ _ h => by cases d <;> exact h) ⟨cA, cB, x0⟩ (fun hS => ?_)
              have HM := Lib.hid (Below.refl W.heap.size W).drew
              have HCS := Lib.hid (show ∀ Z, Below W.heap.size W Z → (fun W' : World => W'.cell? ⟨w.heap.size, 0, none⟩ = some (.slice xa xs.length xc) ∧ W'.cell? ⟨w.heap.size + 1, 0, none⟩ = some (.slice pa ps.length pc) ∧ W'.cell? ⟨Bx, 0, none⟩ = some (.int .i64 x.1.f)) Z from fun Z hZ => ⟨(hZ.cell (p := ⟨w.heap.size, 0, none⟩) (show w.heap.size < W.heap.size by have := HI.out.2.2.2.2.2.2.2.1.lt; omega)).trans cA, (hZ.cell (p := ⟨w.heap.size + 1, 0, none⟩) (show w.heap.size + 1 < W.heap.size by have := HI.out.2.2.2.2.2.2.2.1.lt; omega)).trans cB, (hZ.cell (p := ⟨Bx, 0, none⟩) hBxl).trans x0⟩)
              clear hS
              repeat (refine SeqK.take (v := ?_) rfl (by rfl) (fun _ => rfl) ?_ ?_; rotate_left; (· intro w hSw; (try dsimp only at hSw); (try (obtain ⟨f0, f1, f2⟩ := hSw)); go_simp; (try with_reducible rfl)); simp only [Act.put, List.setIfInBounds_toArray, List.set_cons_zero, List.set_cons_succ])
              refine SeqK.step rfl (by rfl) (fun K hK => ?_)
              go_simp
              refine ⟨trivial, CallsIn.inRound l ((callsIn_wide.2 (length_any _ ps _ (RP.all HM.out) HPP.out.2.2.2.1)).mono ?_)⟩
              rintro e y1 ⟨rfl, hb1⟩
              have HM := Lib.hid (below_step HM.out hb1)
              clear hb1
              try dsimp only
              refine hK.out _ _ (HCS.out _ HM.out) (fun _ => ?_)
              clear hK K
              try simp only [Act.put, List.setIfInBounds_toArray, List.set_cons_zero, List.set_cons_succ]
              repeat (refine SeqK.take (v := ?_) rfl (by rfl) (fun _ => rfl) ?_ ?_; rotate_left; (· intro w hSw; (try dsimp only at hSw); (try (obtain ⟨f0, f1, f2⟩ := hSw)); go_simp; (try with_reducible rfl)); simp only [Act.put, List.setIfInBounds_toArray, List.set_cons_zero, List.set_cons_succ])
              refine SeqK.step rfl (by rfl) (fun K hK => ?_)
              go_simp
              refine ⟨trivial, CallsIn.inRound l ((callsIn_wide.2 (part_any _ xs (x.1.f) ((x.1.f) + Bd.len ps) _ (RX.all HM.out) HPP.out.2.2.1 (by omega) (by omega) (by omega) (by omega))).mono ?_)⟩
              rintro e y2 ⟨uu, rfl, hu, hb1⟩
              obtain ⟨ux, uy, rfl⟩ := hu.runs.form
              have HU := Lib.hid hu
              have HM := Lib.hid (below_step HM.out hb1)
              clear hb1 hu
              try dsimp only
              refine hK.out _ _ (HCS.out _ HM.out) (fun _ => ?_)
              clear hK K
              try simp only [Act.put, List.setIfInBounds_toArray, List.set_cons_zero, List.set_cons_succ]
              repeat (refine SeqK.take (v := ?_) rfl (by rfl) (fun _ => rfl) ?_ ?_; rotate_left; (· intro w hSw; (try dsimp only at hSw); (try (obtain ⟨f0, f1, f2⟩ := hSw)); go_simp; (try with_reducible rfl)); simp only [Act.put, List.setIfInBounds_toArray, List.set_cons_zero, List.set_cons_succ])
              refine SeqK.step rfl (by rfl) (fun K hK => ?_)
              go_simp
              refine ⟨trivial, CallsIn.inRound l ((callsIn_wide.2 (equal_any _ _ _ ps _ HU.out.runs (RP.all HM.out) (Nat.le_trans (cutS_le _ _ _) (by rw [Bd.upto_length]; exact HPP.out.2.2.1.1)) HPP.out.2.2.2.1.1)).mono ?_)⟩
              rw [hE]
              rintro e y3 ⟨rfl, hb1⟩
              have HM := Lib.hid (below_step HM.out hb1)
              clear hb1 HU
              try dsimp only
              refine hK.out _ _ (HCS.out _ HM.out) (fun _ => ?_)
              clear hK K HCS
              try simp only [Act.put, List.setIfInBounds_toArray, List.set_cons_zero, List.set_cons_succ]
              repeat (refine SeqK.take (v := ?_) rfl (by rfl) (fun _ => rfl) ?_ ?_; rotate_left; (· intro w hSw; (try dsimp only at hSw); (try (obtain ⟨f0, f1, f2⟩ := hSw)); go_simp; (try with_reducible rfl)); simp only [Act.put, List.setIfInBounds_toArray, List.set_cons_zero, List.set_cons_succ])
              refine SeqK.done ?_
              have HW3 := Lib.hid (HM.out)
              have bn' := HI.out.2.2.2.2.2.1.below HM.out HI.out.2.2.2.2.2.1.lt
              have bt' := HI.out.2.2.2.2.2.2.1.below HM.out HI.out.2.2.2.2.2.2.1.lt
              have be' := HI.out.2.2.2.2.2.2.2.1.below HM.out HI.out.2.2.2.2.2.2.2.1.lt
              have hB' := below_step HI.out.2.2.2.2.2.2.2.2 HM.out
              have n0 := bn'.cell 0
              have t0' := bt'.cell 0
              have e0 := be'.cell 0
              have n1 := bn'.frozen 0
              have t1 := bt'.frozen 0
              have e1 := be'.frozen 0
              have hlE := be'.lt
              have HO := Lib.hid ho
              have HFI := Lib.hid (And.intro bn' (And.intro bt' (And.intro be' hB')))
              clear bn' bt' be' hB' ho hE
              gi_wp2
              have HPLL : Hid (plL ps (pre ++ [x]) = x.1.f) := Lib.hid (by rw [plL_snoc, hpl])
              refine ⟨((keepsOthersB HW3.out).trans (((KeepsOthers.setCell _ _ _).trans (KeepsOthers.setCell _ _ _)).trans (KeepsOthers.setCell _ _ _))).from _, ⟨⟨rfl, ⟨pre, x, rfl, HNO.out, by rw [hpl]; exact HO.out⟩⟩, ?_, ?_, ?_⟩, ?_⟩
              · rw [HPLL.out]; exact ((HFI.out.1.set 0 _).other (by omega) _).other (by omega) _
              · exact ((HFI.out.2.1.other (by omega) _).set 0 _).other (by omega) _
              · exact ((HFI.out.2.2.1.other (by omega) _).other (by omega) _).set 0 _
              · exact ((HFI.out.2.2.2.setCell (p := ⟨w.heap.size + 1 + 1, 0, none⟩) (by simp; omega) _).setCell (p := ⟨w.heap.size + 1 + 1 + 1, 0, none⟩) (by simp; omega) _).setCell (p := ⟨w.heap.size + 1 + 1 + 1 + 1, 0, none⟩) (by simp; omega) _
            · have hE : decide (cutS (x.1.f) ((x.1.f) + Bd.len ps) (Bd.upto xs xs.length) = ps) = false := decide_eq_false fun h => ho ((Bd.cut_occ HPP.out.2.2.1 HPP.out.1 HPP.out.2.1 HPP.out.2.2.2.2 (a := x.1.f) (by omega)).1 h)
              have hwr := IntWalk.i64_in ((x.1.f) + Bd.len ps) (by omega)
              refine wpIn_region_seq [(0, true), (1, true), (2, true), (3, true), (4, true), (5, true), (6, true), (7, true), (8, true), (12, true), (9, false), (10, true), (11, false), (13, false), (14, true)] (fun W' => W'.cell? ⟨w.heap.size, 0, none⟩ = some (.slice xa xs.length xc) ∧ W'.cell? ⟨w.heap.size + 1, 0, none⟩ = some (.slice pa ps.length pc) ∧ W'.cell? ⟨Bx, 0, none⟩ = some (.int .i64 x.1.f))
                (by kernel_rfl) (by kernel_rfl) (by kernel_rfl) (by kernel_rfl) (by kernel_rfl) (fun d _ _ _ _ h => by cases d <;> exact h) ⟨cA, cB, x0⟩ (fun hS => ?_)
              have HM := Lib.hid (Below.refl W.heap.size W).drew
              have HCS := Lib.hid (show ∀ Z, Below W.heap.size W Z → (fun W' : World => W'.cell? ⟨w.heap.size, 0, none⟩ = some (.slice xa xs.length xc) ∧ W'.cell? ⟨w.heap.size + 1, 0, none⟩ = some (.slice pa ps.length pc) ∧ W'.cell? ⟨Bx, 0, none⟩ = some (.int .i64 x.1.f)) Z from fun Z hZ => ⟨(hZ.cell (p := ⟨w.heap.size, 0, none⟩) (show w.heap.size < W.heap.size by have := HI.out.2.2.2.2.2.2.2.1.lt; omega)).trans cA, (hZ.cell (p := ⟨w.heap.size + 1, 0, none⟩) (show w.heap.size + 1 < W.heap.size by have := HI.out.2.2.2.2.2.2.2.1.lt; omega)).trans cB, (hZ.cell (p := ⟨Bx, 0, none⟩) hBxl).trans x0⟩)
              clear hS
              repeat (refine SeqK.take (v := ?_) rfl (by rfl) (fun _ => rfl) ?_ ?_; rotate_left; (· intro w hSw; (try dsimp only at hSw); (try (obtain ⟨f0, f1, f2⟩ := hSw)); go_simp; (try with_reducible rfl)); simp only [Act.put, List.setIfInBounds_toArray, List.set_cons_zero, List.set_cons_succ])
              refine SeqK.step rfl (by rfl) (fun K hK => ?_)
              go_simp
              refine ⟨trivial, CallsIn.inRound l ((callsIn_wide.2 (length_any _ ps _ (RP.all HM.out) HPP.out.2.2.2.1)).mono ?_)⟩
              rintro e y1 ⟨rfl, hb1⟩
              have HM := Lib.hid (below_step HM.out hb1)
              clear hb1
              try dsimp only
              refine hK.out _ _ (HCS.out _ HM.out) (fun _ => ?_)
              clear hK K
              try simp only [Act.put, List.setIfInBounds_toArray, List.set_cons_zero, List.set_cons_succ]
              repeat (refine SeqK.take (v := ?_) rfl (by rfl) (fun _ => rfl) ?_ ?_; rotate_left; (· intro w hSw; (try dsimp only at hSw); (try (obtain ⟨f0, f1, f2⟩ := hSw)); go_simp; (try with_reducible rfl)); simp only [Act.put, List.setIfInBounds_toArray, List.set_cons_zero, List.set_cons_succ])
              refine SeqK.step rfl (by rfl) (fun K hK => ?_)
              go_simp
              refine ⟨trivial, CallsIn.inRound l ((callsIn_wide.2 (part_any _ xs (x.1.f) ((x.1.f) + Bd.len ps) _ (RX.all HM.out) HPP.out.2.2.1 (by omega) (by omega) (by omega) (by omega))).mono ?_)⟩
              rintro e y2 ⟨uu, rfl, hu, hb1⟩
              obtain ⟨ux, uy, rfl⟩ := hu.runs.form
              have HU := Lib.hid hu
              have HM := Lib.hid (below_step HM.out hb1)
              clear hb1 hu
              try dsimp only
              refine hK.out _ _ (HCS.out _ HM.out) (fun _ => ?_)
              clear hK K
              try simp only [Act.put, List.setIfInBounds_toArray, List.set_cons_zero, List.set_cons_succ]
              repeat (refine SeqK.take (v := ?_) rfl (by rfl) (fun _ => rfl) ?_ ?_; rotate_left; (· intro w hSw; (try dsimp only at hSw); (try (obtain ⟨f0, f1, f2⟩ := hSw)); go_simp; (try with_reducible rfl)); simp only [Act.put, List.setIfInBounds_toArray, List.set_cons_zero, List.set_cons_succ])
              refine SeqK.step rfl (by rfl) (fun K hK => ?_)
              go_simp
              refine ⟨trivial, CallsIn.inRound l ((callsIn_wide.2 (equal_any _ _ _ ps _ HU.out.runs (RP.all HM.out) (Nat.le_trans (cutS_le _ _ _) (by rw [Bd.upto_length]; exact HPP.out.2.2.1.1)) HPP.out.2.2.2.1.1)).mono ?_)⟩
              rw [hE]
              rintro e y3 ⟨rfl, hb1⟩
              have HM := Lib.hid (below_step HM.out hb1)
              clear hb1 HU
              try dsimp only
              refine hK.out _ _ (HCS.out _ HM.out) (fun _ => ?_)
              clear hK K HCS
              try simp only [Act.put, List.setIfInBounds_toArray, List.set_cons_zero, List.set_cons_succ]
              repeat (refine SeqK.take (v := ?_) rfl (by rfl) (fun _ => rfl) ?_ ?_; rotate_left; (· intro w hSw; (try dsimp only at hSw); (try (obtain ⟨f0, f1, f2⟩ := hSw)); go_simp; (try with_reducible rfl)); simp only [Act.put, List.setIfInBounds_toArray, List.set_cons_zero, List.set_cons_succ])
              refine SeqK.done ?_
              have HW3 := Lib.hid (HM.out)
              have bn' := HI.out.2.2.2.2.2.1.below HM.out HI.out.2.2.2.2.2.1.lt
              have bt' := HI.out.2.2.2.2.2.2.1.below HM.out HI.out.2.2.2.2.2.2.1.lt
              have be' := HI.out.2.2.2.2.2.2.2.1.below HM.out HI.out.2.2.2.2.2.2.2.1.lt
              have hB' := below_step HI.out.2.2.2.2.2.2.2.2 HM.out
              have bK' := HI.out.1.below HM.out HI.out.1.lt
              have bA' := BlockAt.below (show BlockAt W _ _ _ from HI.out.2.1) HM.out HI.out.2.1.lt
              have bB' := BlockAt.below (show BlockAt W _ _ _ from HI.out.2.2.1) HM.out HI.out.2.2.1.lt
              have hrA' := Own.all (show Own (w.heap.size + 5) W (.slice xa xs.length xc) xs from HI.out.2.2.2.1) HM.out
              have hrB' := Own.all (show Own (w.heap.size + 5) W (.slice pa ps.length pc) ps from HI.out.2.2.2.2.1) HM.out
              have HN2 := Lib.hid (noHit_snoc (s := x) HNO.out (by rw [hpl]; exact fun h => ho h.2))
              have HFI := Lib.hid (And.intro bK' (And.intro bA' (And.intro bB' (And.intro hrA' (And.intro hrB' (And.intro bn' (And.intro bt' (And.intro be' hB'))))))))
              clear bK' bA' bB' hrA' hrB' bn' bt' be' hB' ho hE
              gi_wp2
              first | exact ⟨(keepsOthersB HW3.out).from _, fun _ => HFI.out.1, ⟨⟨⟨⟨HN2.out, HFI.out.1⟩, ⟨_, HFI.out.2.1, HFI.out.2.2.2.1, rfl⟩, ⟨_, HFI.out.2.2.1, HFI.out.2.2.2.2.1, rfl⟩⟩, HFI.out.2.2.2.2.2.1, HFI.out.2.2.2.2.2.2.1, HFI.out.2.2.2.2.2.2.2.1⟩, HFI.out.2.2.2.2.2.2.2.2⟩⟩ | exact ⟨(keepsOthersB HW3.out).from _, fun _ => HFI.out.1, ⟨⟨⟨⟨HN2.out, HFI.out.1⟩, ⟨HFI.out.2.1, HFI.out.2.2.2.1⟩, ⟨HFI.out.2.2.1, HFI.out.2.2.2.2.1⟩⟩, HFI.out.2.2.2.2.2.1, HFI.out.2.2.2.2.2.2.1, HFI.out.2.2.2.2.2.2.2.1⟩, HFI.out.2.2.2.2.2.2.2.2⟩⟩
          · have hd1 : decide ((1 : Int) < (ps.length : Int)) = true := decide_eq_true (by omega)
            have hd2 : decide (1 < ps.length) = true := decide_eq_true (by omega)
            have hpl : plS ps x.1 = x.1.t - (ps.getD 0 default).l := if_neg hp1
            have hl0 := head_le HPP.out.2.2.2.1 (by omega)
            obtain ⟨a', c', he, hk0⟩ := RP.look
            simp only [Value.slice.injEq, true_and] at he
            obtain ⟨rfl, rfl⟩ := he
            obtain ⟨b2, off2, rfl, hb2, hr0⟩ := hk0 0 (by omega)
            have l0c : W.cell? ⟨b2, off2, none⟩ = some (.int .i64 (ps.getD 0 default).l) := by
              rw [getD_run (show 0 < ps.length by omega)]
              simpa using hr0.1
            have hi0 : (0 : Int) < (ps.length : Int) := by omega
            have hi1 : 0 < ps.length := by omega
            clear hk0 hr0
            generalize (ps.getD 0 default).l = l0 at *
            have hwr0 := IntWalk.i64_in (x.1.t - l0) (by omega)
            gi_wp2
            refine wpIn_region_seq [(0, true), (1, true), (2, true), (3, true), (4, true), (5, true), (6, true), (7, true)] (fun W' => W'.cell? ⟨Bx, 1, none⟩ = some (.int .i64 x.1.t) ∧ W'.cell? ⟨w.heap.size + 1, 0, none⟩ = some (.slice (some ⟨b2, off2, none⟩) ps.length pc) ∧ W'.cell? ⟨b2, off2, none⟩ = some (.int .i64 l0))
              (by kernel_rfl) (by kernel_rfl) (by kernel_rfl) (by kernel_rfl) (by kernel_rfl) (fun d _ _ _ _ h => by cases d <;> exact h) ⟨x1, cB, l0c⟩ (fun hS => ?_)
            repeat (refine SeqK.take (v := ?_) rfl (by rfl) (fun _ => rfl) ?_ ?_; rotate_left; (· intro w hSw; (try dsimp only at hSw); (try (obtain ⟨f0, f1, f2⟩ := hSw)); go_simp; (try with_reducible rfl)); simp only [Act.put, List.setIfInBounds_toArray, List.set_cons_zero, List.set_cons_succ])
            refine SeqK.done ?_
            clear hS
            obtain ⟨W3, hW3⟩ : ∃ X, X = W.drew := ⟨_, rfl⟩
            have bK3 : BlockAt W3 b0 cs t0 := by rw [hW3]; exact HI.out.1
            have bA3 : Boxed W3 w.heap.size 22 (.slice xa xs.length xc) := by rw [hW3]; exact HI.out.2.1
            have bB3 : Boxed W3 (w.heap.size + 1) 22 (.slice (some ⟨b2, off2, none⟩) ps.length pc) := by rw [hW3]; exact HI.out.2.2.1
            have hrA3 : Own (w.heap.size + 5) W3 (.slice xa xs.length xc) xs := by rw [hW3]; exact HI.out.2.2.2.1
            have hrB3 : Own (w.heap.size + 5) W3 (.slice (some ⟨b2, off2, none⟩) ps.length pc) ps := by rw [hW3]; exact HI.out.2.2.2.2.1
            have bn3 : BlockAt W3 (w.heap.size + 1 + 1) #[.int .i64 0] 3 := by rw [hW3]; exact HI.out.2.2.2.2.2.1
            have bt3 : BlockAt W3 (w.heap.size + 1 + 1 + 1) #[.bool false] 4 := by rw [hW3]; exact HI.out.2.2.2.2.2.2.1
            have be3 : BlockAt W3 (w.heap.size + 1 + 1 + 1 + 1) #[.int .i64 0] 26 := by rw [hW3]; exact HI.out.2.2.2.2.2.2.2.1
            have hB3 : Below w.heap.size w W3 := by rw [hW3]; exact HI.out.2.2.2.2.2.2.2.2.drew
            have HWW := Lib.hid (show Below W.heap.size W W3 by rw [hW3]; exact (Below.refl _ _).drew)
            have e23 : BlockAt W3 Bx #[.int .i64 x.1.f, .int .i64 x.1.t] 62 := by rw [hW3]; exact e2
            rw [← hW3]
            have cA := bA3.cell
            have cB := bB3.cell
            have x0 := (e23.cell 0).trans rfl
            have hBxl := e23.lt
            have RX : Runs W3 (.slice xa xs.length xc) xs := hrA3.runs
            have RP : Runs W3 (.slice (some ⟨b2, off2, none⟩) ps.length pc) ps := hrB3.runs
            have HI := Lib.hid (And.intro bK3 (And.intro bA3 (And.intro bB3 (And.intro hrA3 (And.intro hrB3 (And.intro bn3 (And.intro bt3 (And.intro be3 hB3))))))))
            clear hW3 bK3 bA3 bB3 hrA3 hrB3 bn3 bt3 be3 hB3 e23 x1 l0c bK bA bB hrA hrB bn bt be hB1 e2
            gi_wp2
            by_cases hg : x.1.f ≤ x.1.t - l0
            · have hgd : decide (x.1.f ≤ x.1.t - l0) = true := decide_eq_true hg
              by_cases ho : Bd.occ xs ps (x.1.t - l0)
              · have hE : decide (cutS (x.1.t - l0) ((x.1.t - l0) + Bd.len ps) (Bd.upto xs xs.length) = ps) = true := decide_eq_true ((Bd.cut_occ HPP.out.2.2.1 HPP.out.1 HPP.out.2.1 HPP.out.2.2.2.2 (a := x.1.t - l0) (by omega)).2 ho)
                have hwr := IntWalk.i64_in ((x.1.t - l0) + Bd.len ps) (by omega)
                refine wpIn_region_seq [(0, true), (1, true), (2, true), (3, true), (4, true), (5, true), (6, true), (7, true), (8, true), (12, true), (9, false), (10, true), (11, false), (13, false), (14, true)] (fun W' => W'.cell? ⟨w.heap.size, 0, none⟩ = some (.slice xa xs.length xc) ∧ W'.cell? ⟨w.heap.size + 1, 0, none⟩ = some (.slice (some ⟨b2, off2, none⟩) ps.length pc) ∧ W'.cell? ⟨Bx, 0, none⟩ = some (.int .i64 x.1.f))
                  (by kernel_rfl) (by kernel_rfl) (by kernel_rfl) (by kernel_rfl) (by kernel_rfl) (fun d _ _ _ _ h => by cases d <;> exact h) ⟨cA, cB, x0⟩ (fun hS => ?_)
                have HM := Lib.hid (Below.refl W3.heap.size W3).drew
                have HCS := Lib.hid (show ∀ Z, Below W3.heap.size W3 Z → (fun W' : World => W'.cell? ⟨w.heap.size, 0, none⟩ = some (.slice xa xs.length xc) ∧ W'.cell? ⟨w.heap.size + 1, 0, none⟩ = some (.slice (some ⟨b2, off2, none⟩) ps.length pc) ∧ W'.cell? ⟨Bx, 0, none⟩ = some (.int .i64 x.1.f)) Z from fun Z hZ => ⟨(hZ.cell (p := ⟨w.heap.size, 0, none⟩) (show w.heap.size < W3.heap.size by have := HI.out.2.2.2.2.2.2.2.1.lt; omega)).trans cA, (hZ.cell (p := ⟨w.heap.size + 1, 0, none⟩) (show w.heap.size + 1 < W3.heap.size by have := HI.out.2.2.2.2.2.2.2.1.lt; omega)).trans cB, (hZ.cell (p := ⟨Bx, 0, none⟩) hBxl).trans x0⟩)
                clear hS
                repeat (refine SeqK.take (v := ?_) rfl (by rfl) (fun _ => rfl) ?_ ?_; rotate_left; (· intro w hSw; (try dsimp only at hSw); (try (obtain ⟨f0, f1, f2⟩ := hSw)); go_simp; (try with_reducible rfl)); simp only [Act.put, List.setIfInBounds_toArray, List.set_cons_zero, List.set_cons_succ])
                refine SeqK.step rfl (by rfl) (fun K hK => ?_)
                go_simp
                refine ⟨trivial, CallsIn.inRound l ((callsIn_wide.2 (length_any _ ps _ (RP.all HM.out) HPP.out.2.2.2.1)).mono ?_)⟩
                rintro e y1 ⟨rfl, hb1⟩
                have HM := Lib.hid (below_step HM.out hb1)
                clear hb1
                try dsimp only
                refine hK.out _ _ (HCS.out _ HM.out) (fun _ => ?_)
                clear hK K
                try simp only [Act.put, List.setIfInBounds_toArray, List.set_cons_zero, List.set_cons_succ]
                repeat (refine SeqK.take (v := ?_) rfl (by rfl) (fun _ => rfl) ?_ ?_; rotate_left; (· intro w hSw; (try dsimp only at hSw); (try (obtain ⟨f0, f1, f2⟩ := hSw)); go_simp; (try with_reducible rfl)); simp only [Act.put, List.setIfInBounds_toArray, List.set_cons_zero, List.set_cons_succ])
                refine SeqK.step rfl (by rfl) (fun K hK => ?_)
                go_simp
                refine ⟨trivial, CallsIn.inRound l ((callsIn_wide.2 (part_any _ xs (x.1.t - l0) ((x.1.t - l0) + Bd.len ps) _ (RX.all HM.out) HPP.out.2.2.1 (by omega) (by omega) (by omega) (by omega))).mono ?_)⟩
                rintro e y2 ⟨uu, rfl, hu, hb1⟩
                obtain ⟨ux, uy, rfl⟩ := hu.runs.form
                have HU := Lib.hid hu
                have HM := Lib.hid (below_step HM.out hb1)
                clear hb1 hu
                try dsimp only
                refine hK.out _ _ (HCS.out _ HM.out) (fun _ => ?_)
                clear hK K
                try simp only [Act.put, List.setIfInBounds_toArray, List.set_cons_zero, List.set_cons_succ]
                repeat (refine SeqK.take (v := ?_) rfl (by rfl) (fun _ => rfl) ?_ ?_; rotate_left; (· intro w hSw; (try dsimp only at hSw); (try (obtain ⟨f0, f1, f2⟩ := hSw)); go_simp; (try with_reducible rfl)); simp only [Act.put, List.setIfInBounds_toArray, List.set_cons_zero, List.set_cons_succ])
                refine SeqK.step rfl (by rfl) (fun K hK => ?_)
                go_simp
                refine ⟨trivial, CallsIn.inRound l ((callsIn_wide.2 (equal_any _ _ _ ps _ HU.out.runs (RP.all HM.out) (Nat.le_trans (cutS_le _ _ _) (by rw [Bd.upto_length]; exact HPP.out.2.2.1.1)) HPP.out.2.2.2.1.1)).mono ?_)⟩
                rw [hE]
                rintro e y3 ⟨rfl, hb1⟩
                have HM := Lib.hid (below_step HM.out hb1)
                clear hb1 HU
                try dsimp only
                refine hK.out _ _ (HCS.out _ HM.out) (fun _ => ?_)
                clear hK K HCS
                try simp only [Act.put, List.setIfInBounds_toArray, List.set_cons_zero, List.set_cons_succ]
                repeat (refine SeqK.take (v := ?_) rfl (by rfl) (fun _ => rfl) ?_ ?_; rotate_left; (· intro w hSw; (try dsimp only at hSw); (try (obtain ⟨f0, f1, f2⟩ := hSw)); go_simp; (try with_reducible rfl)); simp only [Act.put, List.setIfInBounds_toArray, List.set_cons_zero, List.set_cons_succ])
                refine SeqK.done ?_
                have HW3 := Lib.hid (below_step HWW.out HM.out)
                have bn' := HI.out.2.2.2.2.2.1.below HM.out HI.out.2.2.2.2.2.1.lt
                have bt' := HI.out.2.2.2.2.2.2.1.below HM.out HI.out.2.2.2.2.2.2.1.lt
                have be' := HI.out.2.2.2.2.2.2.2.1.below HM.out HI.out.2.2.2.2.2.2.2.1.lt
                have hB' := below_step HI.out.2.2.2.2.2.2.2.2 HM.out
                have n0 := bn'.cell 0
                have t0' := bt'.cell 0
                have e0 := be'.cell 0
                have n1 := bn'.frozen 0
                have t1 := bt'.frozen 0
                have e1 := be'.frozen 0
                have hlE := be'.lt
                have HO := Lib.hid ho
                have HFI := Lib.hid (And.intro bn' (And.intro bt' (And.intro be' hB')))
                clear bn' bt' be' hB' ho hE
                gi_wp2
                have HPLL : Hid (plL ps (pre ++ [x]) = x.1.t - l0) := Lib.hid (by rw [plL_snoc, hpl])
                refine ⟨((keepsOthersB HW3.out).trans (((KeepsOthers.setCell _ _ _).trans (KeepsOthers.setCell _ _ _)).trans (KeepsOthers.setCell _ _ _))).from _, ⟨⟨rfl, ⟨pre, x, rfl, HNO.out, by rw [hpl]; exact HO.out⟩⟩, ?_, ?_, ?_⟩, ?_⟩
                · rw [HPLL.out]; exact ((HFI.out.1.set 0 _).other (by omega) _).other (by omega) _
                · exact ((HFI.out.2.1.other (by omega) _).set 0 _).other (by omega) _
                · exact ((HFI.out.2.2.1.other (by omega) _).other (by omega) _).set 0 _
                · exact ((HFI.out.2.2.2.setCell (p := ⟨w.heap.size + 1 + 1, 0, none⟩) (by simp; omega) _).setCell (p := ⟨w.heap.size + 1 + 1 + 1, 0, none⟩) (by simp; omega) _).setCell (p := ⟨w.heap.size + 1 + 1 + 1 + 1, 0, none⟩) (by simp; omega) _
              · have hE : decide (cutS (x.1.t - l0) ((x.1.t - l0) + Bd.len ps) (Bd.upto xs xs.length) = ps) = false := decide_eq_false fun h => ho ((Bd.cut_occ HPP.out.2.2.1 HPP.out.1 HPP.out.2.1 HPP.out.2.2.2.2 (a := x.1.t - l0) (by omega)).1 h)
                have hwr := IntWalk.i64_in ((x.1.t - l0) + Bd.len ps) (by omega)
                refine wpIn_region_seq [(0, true), (1, true), (2, true), (3, true), (4, true), (5, true), (6, true), (7, true), (8, true), (12, true), (9, false), (10, true), (11, false), (13, false), (14, true)] (fun W' => W'.cell? ⟨w.heap.size, 0, none⟩ = some (.slice xa xs.length xc) ∧ W'.cell? ⟨w.heap.size + 1, 0, none⟩ = some (.slice (some ⟨b2, off2, none⟩) ps.length pc) ∧ W'.cell? ⟨Bx, 0, none⟩ = some (.int .i64 x.1.f))
                  (by kernel_rfl) (by kernel_rfl) (by kernel_rfl) (by kernel_rfl) (by kernel_rfl) (fun d _ _ _ _ h => by cases d <;> exact h) ⟨cA, cB, x0⟩ (fun hS => ?_)
                have HM := Lib.hid (Below.refl W3.heap.size W3).drew
                have HCS := Lib.hid (show ∀ Z, Below W3.heap.size W3 Z → (fun W' : World => W'.cell? ⟨w.heap.size, 0, none⟩ = some (.slice xa xs.length xc) ∧ W'.cell? ⟨w.heap.size + 1, 0, none⟩ = some (.slice (some ⟨b2, off2, none⟩) ps.length pc) ∧ W'.cell? ⟨Bx, 0, none⟩ = some (.int .i64 x.1.f)) Z from fun Z hZ => ⟨(hZ.cell (p := ⟨w.heap.size, 0, none⟩) (show w.heap.size < W3.heap.size by have := HI.out.2.2.2.2.2.2.2.1.lt; omega)).trans cA, (hZ.cell (p := ⟨w.heap.size + 1, 0, none⟩) (show w.heap.size + 1 < W3.heap.size by have := HI.out.2.2.2.2.2.2.2.1.lt; omega)).trans cB, (hZ.cell (p := ⟨Bx, 0, none⟩) hBxl).trans x0⟩)
                clear hS
                repeat (refine SeqK.take (v := ?_) rfl (by rfl) (fun _ => rfl) ?_ ?_; rotate_left; (· intro w hSw; (try dsimp only at hSw); (try (obtain ⟨f0, f1, f2⟩ := hSw)); go_simp; (try with_reducible rfl)); simp only [Act.put, List.setIfInBounds_toArray, List.set_cons_zero, List.set_cons_succ])
                refine SeqK.step rfl (by rfl) (fun K hK => ?_)
                go_simp
                refine ⟨trivial, CallsIn.inRound l ((callsIn_wide.2 (length_any _ ps _ (RP.all HM.out) HPP.out.2.2.2.1)).mono ?_)⟩
                rintro e y1 ⟨rfl, hb1⟩
                have HM := Lib.hid (below_step HM.out hb1)
                clear hb1
                try dsimp only
                refine hK.out _ _ (HCS.out _ HM.out) (fun _ => ?_)
                clear hK K
                try simp only [Act.put, List.setIfInBounds_toArray, List.set_cons_zero, List.set_cons_succ]
                repeat (refine SeqK.take (v := ?_) rfl (by rfl) (fun _ => rfl) ?_ ?_; rotate_left; (· intro w hSw; (try dsimp only at hSw); (try (obtain ⟨f0, f1, f2⟩ := hSw)); go_simp; (try with_reducible rfl)); simp only [Act.put, List.setIfInBounds_toArray, List.set_cons_zero, List.set_cons_succ])
                refine SeqK.step rfl (by rfl) (fun K hK => ?_)
                go_simp
                refine ⟨trivial, CallsIn.inRound l ((callsIn_wide.2 (part_any _ xs (x.1.t - l0) ((x.1.t - l0) + Bd.len ps) _ (RX.all HM.out) HPP.out.2.2.1 (by omega) (by omega) (by omega) (by omega))).mono ?_)⟩
                rintro e y2 ⟨uu, rfl, hu, hb1⟩
                obtain ⟨ux, uy, rfl⟩ := hu.runs.form
                have HU := Lib.hid hu
                have HM := Lib.hid (below_step HM.out hb1)
                clear hb1 hu
                try dsimp only
                refine hK.out _ _ (HCS.out _ HM.out) (fun _ => ?_)
                clear hK K
                try simp only [Act.put, List.setIfInBounds_toArray, List.set_cons_zero, List.set_cons_succ]
                repeat (refine SeqK.take (v := ?_) rfl (by rfl) (fun _ => rfl) ?_ ?_; rotate_left; (· intro w hSw; (try dsimp only at hSw); (try (obtain ⟨f0, f1, f2⟩ := hSw)); go_simp; (try with_reducible rfl)); simp only [Act.put, List.setIfInBounds_toArray, List.set_cons_zero, List.set_cons_succ])
                refine SeqK.step rfl (by rfl) (fun K hK => ?_)
                go_simp
                refine ⟨trivial, CallsIn.inRound l ((callsIn_wide.2 (equal_any _ _ _ ps _ HU.out.runs (RP.all HM.out) (Nat.le_trans (cutS_le _ _ _) (by rw [Bd.upto_length]; exact HPP.out.2.2.1.1)) HPP.out.2.2.2.1.1)).mono ?_)⟩
                rw [hE]
                rintro e y3 ⟨rfl, hb1⟩
                have HM := Lib.hid (below_step HM.out hb1)
                clear hb1 HU
                try dsimp only
                refine hK.out _ _ (HCS.out _ HM.out) (fun _ => ?_)
                clear hK K HCS
                try simp only [Act.put, List.setIfInBounds_toArray, List.set_cons_zero, List.set_cons_succ]
                repeat (refine SeqK.take (v := ?_) rfl (by rfl) (fun _ => rfl) ?_ ?_; rotate_left; (· intro w hSw; (try dsimp only at hSw); (try (obtain ⟨f0, f1, f2⟩ := hSw)); go_simp; (try with_reducible rfl)); simp only [Act.put, List.setIfInBounds_toArray, List.set_cons_zero, List.set_cons_succ])
                refine SeqK.done ?_
                have HW3 := Lib.hid (below_step HWW.out HM.out)
                have bn' := HI.out.2.2.2.2.2.1.below HM.out HI.out.2.2.2.2.2.1.lt
                have bt' := HI.out.2.2.2.2.2.2.1.below HM.out HI.out.2.2.2.2.2.2.1.lt
                have be' := HI.out.2.2.2.2.2.2.2.1.below HM.out HI.out.2.2.2.2.2.2.2.1.lt
                have hB' := below_step HI.out.2.2.2.2.2.2.2.2 HM.out
                have bK' := HI.out.1.below HM.out HI.out.1.lt
                have bA' := BlockAt.below (show BlockAt W3 _ _ _ from HI.out.2.1) HM.out HI.out.2.1.lt
                have bB' := BlockAt.below (show BlockAt W3 _ _ _ from HI.out.2.2.1) HM.out HI.out.2.2.1.lt
                have hrA' := Own.all (show Own (w.heap.size + 5) W3 (.slice xa xs.length xc) xs from HI.out.2.2.2.1) HM.out
                have hrB' := Own.all (show Own (w.heap.size + 5) W3 (.slice (some ⟨b2, off2, none⟩) ps.length pc) ps from HI.out.2.2.2.2.1) HM.out
                have HN2 := Lib.hid (noHit_snoc (s := x) HNO.out (by rw [hpl]; exact fun h => ho h.2))
                have HFI := Lib.hid (And.intro bK' (And.intro bA' (And.intro bB' (And.intro hrA' (And.intro hrB' (And.intro bn' (And.intro bt' (And.intro be' hB'))))))))
                clear bK' bA' bB' hrA' hrB' bn' bt' be' hB' ho hE
                gi_wp2
                first | exact ⟨(keepsOthersB HW3.out).from _, fun _ => HFI.out.1, ⟨⟨⟨⟨HN2.out, HFI.out.1⟩, ⟨_, HFI.out.2.1, HFI.out.2.2.2.1, rfl⟩, ⟨_, HFI.out.2.2.1, HFI.out.2.2.2.2.1, rfl⟩⟩, HFI.out.2.2.2.2.2.1, HFI.out.2.2.2.2.2.2.1, HFI.out.2.2.2.2.2.2.2.1⟩, HFI.out.2.2.2.2.2.2.2.2⟩⟩ | exact ⟨(keepsOthersB HW3.out).from _, fun _ => HFI.out.1, ⟨⟨⟨⟨HN2.out, HFI.out.1⟩, ⟨HFI.out.2.1, HFI.out.2.2.2.1⟩, ⟨HFI.out.2.2.1, HFI.out.2.2.2.2.1⟩⟩, HFI.out.2.2.2.2.2.1, HFI.out.2.2.2.2.2.2.1, HFI.out.2.2.2.2.2.2.2.1⟩, HFI.out.2.2.2.2.2.2.2.2⟩⟩
            · have hgd : decide (x.1.f ≤ x.1.t - l0) = false := decide_eq_false hg
              refine wpIn_region_seq [(0, true), (1, true), (2, true), (3, true), (4, true), (5, true), (6, true), (7, true), (8, true), (12, true), (9, false), (10, true), (11, false), (13, false), (14, true)] (fun W' => W'.cell? ⟨w.heap.size, 0, none⟩ = some (.slice xa xs.length xc) ∧ W'.cell? ⟨w.heap.size + 1, 0, none⟩ = some (.slice (some ⟨b2, off2, none⟩) ps.length pc) ∧ W'.cell? ⟨Bx, 0, none⟩ = some (.int .i64 x.1.f))
                (by kernel_rfl) (by kernel_rfl) (by kernel_rfl) (by kernel_rfl) (by kernel_rfl) (fun d _ _ _ _ h => by cases d <;> exact h) ⟨cA, cB, x0⟩ (fun hS => ?_)
              repeat (refine SeqK.take (v := ?_) rfl (by rfl) (fun _ => rfl) ?_ ?_; rotate_left; (· intro w hSw; (try dsimp only at hSw); (try (obtain ⟨f0, f1, f2⟩ := hSw)); go_simp; (try with_reducible rfl)); simp only [Act.put, List.setIfInBounds_toArray, List.set_cons_zero, List.set_cons_succ])
              refine SeqK.skip rfl (by rfl) (fun _ => rfl) ?_
              try simp only [Act.put, List.setIfInBounds_toArray, List.set_cons_zero, List.set_cons_succ]
              refine SeqK.skip rfl (by rfl) (fun _ => rfl) ?_
              try simp only [Act.put, List.setIfInBounds_toArray, List.set_cons_zero, List.set_cons_succ]
              refine SeqK.skip rfl (by rfl) (fun _ => rfl) ?_
              try simp only [Act.put, List.setIfInBounds_toArray, List.set_cons_zero, List.set_cons_succ]
              refine SeqK.skip rfl (by rfl) (fun _ => rfl) ?_
              try simp only [Act.put, List.setIfInBounds_toArray, List.set_cons_zero, List.set_cons_succ]
              refine SeqK.skip rfl (by rfl) (fun _ => rfl) ?_
              try simp only [Act.put, List.setIfInBounds_toArray, List.set_cons_zero, List.set_cons_succ]
              refine SeqK.pass rfl (by rfl) hS (fun _ _ => trivial) ?_
              try simp only [Act.put, List.setIfInBounds_toArray, List.set_cons_zero, List.set_cons_succ]
              refine SeqK.skip rfl (by rfl) (fun _ => rfl) ?_
              try simp only [Act.put, List.setIfInBounds_toArray, List.set_cons_zero, List.set_cons_succ]
              refine SeqK.pass rfl (by rfl) hS (fun _ _ => trivial) ?_
              try simp only [Act.put, List.setIfInBounds_toArray, List.set_cons_zero, List.set_cons_succ]
              refine SeqK.pass rfl (by rfl) hS (fun _ _ => trivial) ?_
              try simp only [Act.put, List.setIfInBounds_toArray, List.set_cons_zero, List.set_cons_succ]
              repeat (refine SeqK.take (v := ?_) rfl (by rfl) (fun _ => rfl) ?_ ?_; rotate_left; (· intro w hSw; (try dsimp only at hSw); (try (obtain ⟨f0, f1, f2⟩ := hSw)); go_simp; (try with_reducible rfl)); simp only [Act.put, List.setIfInBounds_toArray, List.set_cons_zero, List.set_cons_succ])
              have HM := Lib.hid (Below.refl W3.heap.size W3).drew
              generalize W3.drew = y3 at *
              clear hS
              refine SeqK.done ?_
              have HW3 := Lib.hid (below_step HWW.out HM.out)
              have bn' := HI.out.2.2.2.2.2.1.below HM.out HI.out.2.2.2.2.2.1.lt
              have bt' := HI.out.2.2.2.2.2.2.1.below HM.out HI.out.2.2.2.2.2.2.1.lt
              have be' := HI.out.2.2.2.2.2.2.2.1.below HM.out HI.out.2.2.2.2.2.2.2.1.lt
              have hB' := below_step HI.out.2.2.2.2.2.2.2.2 HM.out
              have bK' := HI.out.1.below HM.out HI.out.1.lt
              have bA' := BlockAt.below (show BlockAt W3 _ _ _ from HI.out.2.1) HM.out HI.out.2.1.lt
              have bB' := BlockAt.below (show BlockAt W3 _ _ _ from HI.out.2.2.1) HM.out HI.out.2.2.1.lt
              have hrA' := Own.all (show Own (w.heap.size + 5) W3 (.slice xa xs.length xc) xs from HI.out.2.2.2.1) HM.out
              have hrB' := Own.all (show Own (w.heap.size + 5) W3 (.slice (some ⟨b2, off2, none⟩) ps.length pc) ps from HI.out.2.2.2.2.1) HM.out
              have HN2 := Lib.hid (noHit_snoc (s := x) HNO.out (by rw [hpl]; exact fun h => hg h.1))
              have HFI := Lib.hid (And.intro bK' (And.intro bA' (And.intro bB' (And.intro hrA' (And.intro hrB' (And.intro bn' (And.intro bt' (And.intro be' hB'))))))))
              clear bK' bA' bB' hrA' hrB' bn' bt' be' hB' 
              gi_wp2
              first | exact ⟨(keepsOthersB HW3.out).from _, fun _ => HFI.out.1, ⟨⟨⟨⟨HN2.out, HFI.out.1⟩, ⟨_, HFI.out.2.1, HFI.out.2.2.2.1, rfl⟩, ⟨_, HFI.out.2.2.1, HFI.out.2.2.2.2.1, rfl⟩⟩, HFI.out.2.2.2.2.2.1, HFI.out.2.2.2.2.2.2.1, HFI.out.2.2.2.2.2.2.2.1⟩, HFI.out.2.2.2.2.2.2.2.2⟩⟩ | exact ⟨(keepsOthersB HW3.out).from _, fun _ => HFI.out.1, ⟨⟨⟨⟨HN2.out, HFI.out.1⟩, ⟨HFI.out.2.1, HFI.out.2.2.2.1⟩, ⟨HFI.out.2.2.1, HFI.out.2.2.2.2.1⟩⟩, HFI.out.2.2.2.2.2.1, HFI.out.2.2.2.2.2.2.1, HFI.out.2.2.2.2.2.2.2.1⟩, HFI.out.2.2.2.2.2.2.2.2⟩⟩
        case done =>
          rintro D ys W hD rfl ⟨⟨⟨⟨hno, bK⟩, ⟨v1, bA, hrA, rfl⟩, ⟨v2, bB, hrB, rfl⟩⟩, bn, bt, be⟩, hB1⟩ hK'
          have n0 := bn.cell 0
          have t0' := bt.cell 0
          have e0 := be.cell 0
          have n1 := bn.frozen 0
          have t1 := bt.frozen 0
          have e1 := be.frozen 0
          have hlE := be.lt
          have HNO := Lib.hid hno
          clear hno
          gi_wp2
          obtain ⟨W2, hW2⟩ : ∃ W2, ((W.setCell ⟨w.heap.size + 1 + 1, 0, none⟩ (.int .i64 0)).setCell ⟨w.heap.size + 1 + 1 + 1, 0, none⟩ (.bool false)).setCell ⟨w.heap.size + 1 + 1 + 1 + 1, 0, none⟩ (.int .i64 0) = W2 := ⟨_, rfl⟩
          have hA : FB W2 w.heap.size (.slice xa xs.length xc) (.slice pa ps.length pc) 0 false 0 := by rw [← hW2]; exact FB.answer ⟨⟨bA, bB⟩, bn, bt, be⟩ 0 false 0
          have hB2 : Below w.heap.size w W2 := by
            rw [← hW2]
            exact ((hB1.setCell (p := ⟨w.heap.size + 1 + 1, 0, none⟩) (by simp; omega) _).setCell (p := ⟨w.heap.size + 1 + 1 + 1, 0, none⟩) (by simp; omega) _).setCell (p := ⟨w.heap.size + 1 + 1 + 1 + 1, 0, none⟩) (by simp; omega) _
          have hK2 : W2.heap[D]? = some (.deferred (some [])) := by
            rw [← hW2]
            exact (((KeepsOthers.setCell _ _ _).trans (KeepsOthers.setCell _ _ _)).trans (KeepsOthers.setCell _ _ _)).same D _ hK' rfl
          rw [hW2]
          refine ⟨by simp, .inl ⟨_, _, rfl, run_takeDeferred hK2, ?_⟩⟩
          have hN := find_none HPP.out.2.2.1 HPP.out.1 HPP.out.2.1 HPP.out.2.2.2.2 HNO.out
          exact ⟨_, find_results (hA.2.1.kept (grownBy_putObj' _ D _) (by simp; omega)) (hA.2.2.1.kept (grownBy_putObj' _ D _) (by simp; omega)) (hA.2.2.2.kept (grownBy_putObj' _ D _) (by simp; omega)) rfl rfl rfl, by rw [HFIN.out.1, HFIN.out.2, hN, HVV.out.1]; rfl, hB2.trans (belowK_b (w := w) (Nat.le_refl _) W2 D _ _ (by omega) hK2 rfl rfl)⟩
        case stop =>
          rintro D cc pre W hD ⟨k, hk, rfl⟩ ⟨⟨⟨rfl, hh⟩, bn, bt, be⟩, hB1⟩ hK'
          gi_wp2
          refine ⟨by simp, .inl ⟨_, _, rfl, run_takeDeferred hK', ?_⟩⟩
          obtain ⟨hN, hN0⟩ := find_hit HPP.out.2.2.1 HPP.out.1 HPP.out.2.1 HPP.out.2.2.2.2 hk hh
          exact ⟨_, find_results (bn.kept (grownBy_putObj' _ D _) (by simp; omega)) (bt.kept (grownBy_putObj' _ D _) (by simp; omega)) (be.kept (grownBy_putObj' _ D _) (by simp; omega)) rfl rfl rfl, by rw [HFIN.out.1, HFIN.out.2, hN, HVV.out.1]; simp only [Option.getD_some, Option.isSome_some]; rw [Int.toNat_of_nonneg hN0], hB1.trans (belowK_b (w := w) (Nat.le_refl _) W D _ _ (by omega) hK' rfl rfl)⟩
  · have hne : (Bd.bothE rs qs != 0) = true := by simpa using hv0
    have HV0 := Lib.hid hv0
    generalize hz : Bd.bothE rs qs = z at *
    have HZ := Lib.hid hz
    have n0 := hFB.2.1.cell 0
    have t0 := hFB.2.2.1.cell 0
    have e0 := hFB.2.2.2.cell 0
    have n1 := hFB.2.1.frozen 0
    have t1 := hFB.2.2.1.frozen 0
    have e1 := hFB.2.2.2.frozen 0
    have hlt := hFB.lt
    have HF := Lib.hid (And.intro hFB hB1)
    clear hFB hB1 hz hv0
    gi_wp2
    have hA := HF.out.1.answer 0 false z
    refine ⟨_, find_results hA.2.1 hA.2.2.1 hA.2.2.2 rfl rfl rfl, by unfold Bd.finV Bd.finB; rw [HZ.out, if_neg HV0.out, if_neg HV0.out], ?_⟩
    exact ((HF.out.2.setCell (p := ⟨w.heap.size + 1 + 1, 0, none⟩) (by simp; omega) _).setCell (p := ⟨w.heap.size + 1 + 1 + 1, 0, none⟩) (by simp; omega) _).setCell (p := ⟨w.heap.size + 1 + 1 + 1 + 1, 0, none⟩) (by simp; omega) _
end Go.Proofs.Ytimpdmpfpbeflaa
