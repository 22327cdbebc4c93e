/- Which pieces can be cut: of both. -/
import Derived.Test.YtbmjjmpdlmbehaaRoll5
namespace Go.Proofs.Ytbmjjmpdlmbehaa
open Go.RowKit

abbrev tabA (bv : Value) (n : Int) (ov : Value) : Array Value := #[bv, .int .i64 n, ov]
set_option maxRecDepth 20000 in
set_option maxHeartbeats 1000000 in
theorem has_any (bv : Value) (n : Int) (oa : Option Addr) (m oc : Nat) (x : Int) (w : World) (hm : m ≤ 1000) :
    Calls Try.prog 98 #[tabV bv n (.slice oa m oc), .int .i64 x] w fun e w' => e = .returned (.bool (decide (0 ≤ x) && decide (x < m))) ∧ Below w.heap.size w w' := by
  have hw := below_alloc2 (Below.refl w.heap.size w) (.cells (tabA bv n (.slice oa m oc)) TabT)
  have c2 : World.cell? (w.alloc (.cells (tabA bv n (.slice oa m oc)) TabT)) ⟨w.heap.size, 2, none⟩ = some (.slice oa m oc) := (BlockAt.new w (tabA bv n (.slice oa m oc)) TabT).cell 2
  have hwr : IntKind.i64.wrap ((m : Int) - 1) = (m : Int) - 1 := IntWalk.i64_in _ ⟨by omega, by omega⟩
  have C := Lib.hid (fun W => rollFrom_any 0 ((m : Int) - 1) x W)
  rw [show decide (x ≤ (m : Int) - 1) = decide (x < m) from decide_eq_decide.2 (by omega)] at C
  generalize (decide (0 ≤ x) && decide (x < (m : Int))) = r at *
  have HW := Lib.hid hw
  clear hw
  go_enter Try.func98, Try.ntmps98
  go_wp2_with fail
  refine (C.out _).mono ?_
  rintro e w1 ⟨rfl, rfl⟩
  go_wp2
  go_ret
  exact ⟨rfl, HW.out⟩
/-- What the table tells of a piece. -/
def TfS (bt : Nat) (bv : Value) (n : Int) (ov : Value) (bx : Nat) (x : Ro.X) (W : World) : Prop := BlockAt W bt (tabA bv n ov) TabT ∧ BlockAt W bx #[.int .i64 x.f, .int .i64 x.a] PcT
theorem TfS.below {bt : Nat} {bv : Value} {n : Int} {ov : Value} {bx : Nat} {x : Ro.X} {W W2 : World} (h : TfS bt bv n ov bx x W) (hb : Below W.heap.size W W2) : TfS bt bv n ov bx x W2 := ⟨h.1.below hb h.1.lt, h.2.below hb h.2.lt⟩
theorem TfS.drew {bt : Nat} {bv : Value} {n : Int} {ov : Value} {bx : Nat} {x : Ro.X} {W : World} (h : TfS bt bv n ov bx x W) : TfS bt bv n ov bx x W.drew := h
def TfO (bt : Nat) (bv : Value) (n : Int) (ov : Value) (bx : Nat) (x : Ro.X) (b off : Nat) (a : Ro.A) (k : Nat) (u : Value) (W : World) : Prop := TfS bt bv n ov bx x W ∧ OffAt W b off a k u ∧ b < W.heap.size
theorem TfO.below {bt : Nat} {bv : Value} {n : Int} {ov : Value} {bx : Nat} {x : Ro.X} {b off : Nat} {a : Ro.A} {k : Nat} {u : Value} {W W2 : World} (h : TfO bt bv n ov bx x b off a k u W) (hb : Below W.heap.size W W2) : TfO bt bv n ov bx x b off a k u W2 :=
  ⟨h.1.below hb, h.2.1.below hb h.2.2, Nat.lt_of_lt_of_le h.2.2 hb.size⟩
theorem spaA_ok (rs : List Bd.R) (a : Ro.A) : ∀ s ∈ spaA rs a, Bd.okS s := Bd.spa_ok _ _ _ _ _
theorem spaA_len {rs : List Bd.R} (hf : Bd.fine rs) (a : Ro.A) : (spaA rs a).length ≤ 1000 := Nat.le_trans (Bd.spa_length _ _ _ _ rs) hf.1
theorem spaA_fit {rs : List Bd.R} (hf : Bd.fine rs) {a : Ro.A} (ha : 1 ≤ a.l) (f : Int) : Ro.inS a.l (spaA rs a) f = Ro.fit (Bd.exp rs) a f := Ro.fit_spa hf ha f

set_option maxRecDepth 20000 in
set_option maxHeartbeats 4000000 in
theorem tfits_any (bv ov : Value) (n : Int) (rs : List Bd.R) (al : List Ro.A) (x : Ro.X) (w : World) (ho : Offs w ov rs al) (hf : Bd.fine rs) (hok : Ro.okAs al) (hal : al.length ≤ 5) :
    Calls Try.prog 80 #[tabV bv n ov, pcV x] w fun e w' => e = .returned (.bool (Ro.fitX (Bd.exp rs) al x)) ∧ Below w.heap.size w w' := by
  obtain ⟨oa, oc, rfl, hok2⟩ := ho
  obtain ⟨f, n2⟩ := x
  have b0 := (BlockAt.new w (tabA bv n (.slice oa al.length oc)) TabT).alloc (.cells #[.int .i64 f, .int .i64 n2] PcT)
  have b1 := BlockAt.new (w.alloc (.cells (tabA bv n (.slice oa al.length oc)) TabT)) #[.int .i64 f, .int .i64 n2] PcT
  simp only [World.size_alloc] at b1
  have hw := below_alloc2 (below_alloc2 (Below.refl w.heap.size w) (.cells (tabA bv n (.slice oa al.length oc)) TabT)) (.cells #[.int .i64 f, .int .i64 n2] PcT)
  have HB : Hid (TfS w.heap.size bv n (.slice oa al.length oc) (w.heap.size + 1) ⟨f, n2⟩ ((w.alloc (.cells (tabA bv n (.slice oa al.length oc)) TabT)).alloc (.cells #[.int .i64 f, .int .i64 n2] PcT)) ∧ Below w.heap.size w ((w.alloc (.cells (tabA bv n (.slice oa al.length oc)) TabT)).alloc (.cells #[.int .i64 f, .int .i64 n2] PcT))) := Lib.hid ⟨⟨b0, b1⟩, hw⟩
  have HA := Lib.hid hok2
  have CH := Lib.hid (fun W => has_any bv n oa al.length oc n2 W (by omega))
  clear b0 b1 hw hok2
  by_cases h1 : 0 ≤ n2 ∧ n2 < al.length
  case neg =>
    have HE := Lib.hid (Ro.fitX_out (ms := Bd.exp rs) (al := al) (x := ⟨f, n2⟩) (by dsimp only; omega))
    have hh : (decide (0 ≤ n2) && decide (n2 < (al.length : Int))) = false := by
      apply Bool.eq_false_iff.2
      intro hc
      simp only [Bool.and_eq_true, decide_eq_true_eq] at hc
      exact h1 hc
    rw [hh] at CH
    generalize Ro.fitX (Bd.exp rs) al ⟨f, n2⟩ = r at *
    clear hok h1 hh HA
    go_enter Try.func80, Try.ntmps80
    go_upto_region 1 with fail
    refine wp_region_seq [(0, true), (1, true), (2, true), (3, false), (4, true), (5, true), (6, true), (7, true), (8, true), (9, true), (10, true), (11, true), (12, true), (13, false), (14, true), (15, true)] (TfS w.heap.size bv n (.slice oa al.length oc) (w.heap.size + 1) ⟨f, n2⟩)
      (by kernel_rfl) (by kernel_rfl) (by kernel_rfl) (by kernel_rfl) (fun d _ _ _ _ h => by cases d <;> exact h) HB.out.1 (fun _ => ?_)
    repeat (first | (refine SeqH.take (v := ?_) rfl (by rfl) ?_ ?_; rotate_left; (· intro w hSw; (try dsimp only at hSw); obtain ⟨hbt, hbx⟩ := hSw; have t0 := (hbt.cell 0).trans rfl; have t1 := (hbt.cell 1).trans rfl; have t2 := (hbt.cell 2).trans rfl; have x0 := (hbx.cell 0).trans rfl; have x1 := (hbx.cell 1).trans rfl; go_simp; (try with_reducible rfl)); simp only [Act.put, List.setIfInBounds_toArray, List.set_cons_zero, List.set_cons_succ]) | (refine SeqH.skip rfl (by rfl) ?_; simp only [Act.put, List.setIfInBounds_toArray, List.set_cons_zero, List.set_cons_succ]))
    refine SeqH.step rfl (by rfl) (fun K hK => ?_)
    go_simp
    go_at_call 98
    refine (CH.out _).mono ?_
    rintro e w3 ⟨rfl, hb3⟩
    try dsimp only
    have HW := Lib.hid (below_step (below_drewN HB.out.2 1) hb3)
    refine hK.out _ _ (TfS.below (TfS.drew HB.out.1) hb3) (fun _ => ?_)
    clear hK K hb3 HB
    try simp only [Act.put, List.setIfInBounds_toArray, List.set_cons_zero, List.set_cons_succ]
    repeat (first | (refine SeqH.take (v := ?_) rfl (by rfl) ?_ ?_; rotate_left; (· intro w hSw; (try dsimp only at hSw); obtain ⟨hbt, hbx⟩ := hSw; have t0 := (hbt.cell 0).trans rfl; have t1 := (hbt.cell 1).trans rfl; have t2 := (hbt.cell 2).trans rfl; have x0 := (hbx.cell 0).trans rfl; have x1 := (hbx.cell 1).trans rfl; go_simp; (try with_reducible rfl)); simp only [Act.put, List.setIfInBounds_toArray, List.set_cons_zero, List.set_cons_succ]) | (refine SeqH.skip rfl (by rfl) ?_; simp only [Act.put, List.setIfInBounds_toArray, List.set_cons_zero, List.set_cons_succ]))
    refine SeqH.pass rfl (by rfl) ‹_› ?_
    simp only [Act.put, List.setIfInBounds_toArray, List.set_cons_zero, List.set_cons_succ]
    repeat (first | (refine SeqH.take (v := ?_) rfl (by rfl) ?_ ?_; rotate_left; (· intro w hSw; (try dsimp only at hSw); obtain ⟨hbt, hbx⟩ := hSw; have t0 := (hbt.cell 0).trans rfl; have t1 := (hbt.cell 1).trans rfl; have t2 := (hbt.cell 2).trans rfl; have x0 := (hbx.cell 0).trans rfl; have x1 := (hbx.cell 1).trans rfl; go_simp; (try with_reducible rfl)); simp only [Act.put, List.setIfInBounds_toArray, List.set_cons_zero, List.set_cons_succ]) | (refine SeqH.skip rfl (by rfl) ?_; simp only [Act.put, List.setIfInBounds_toArray, List.set_cons_zero, List.set_cons_succ]))
    refine SeqH.done ?_
    go_wp2
    go_ret
    exact ⟨by rw [HE.out]; rfl, HW.out⟩
  obtain ⟨k, rfl⟩ : ∃ k : Nat, n2 = k := ⟨n2.toNat, by omega⟩
  have hk : k < al.length := by omega
  obtain ⟨b, off, u, rfl, hb, hr, hsp⟩ := HA.out k hk
  have hla := Ro.okA_iff.1 (hok _ (List.getElem_mem hk))
  rw [Ro.fitX_in hk]
  have hh : (decide (0 ≤ (k : Int)) && decide ((k : Int) < (al.length : Int))) = true := by
    rw [decide_eq_true h1.1, decide_eq_true h1.2]; rfl
  rw [hh] at CH
  have CF := Lib.hid (fun W (hW : Below w.heap.size w W) => fitsAt_any al[k] (k : Int) u f (spaA rs al[k]) W hla.1 (hsp.all hW) (spaA_ok rs _) (spaA_len hf _))
  rw [spaA_fit hf hla.1.1] at CF
  have HS0 : Hid (TfO w.heap.size bv n (.slice (some ⟨b, off, none⟩) al.length oc) (w.heap.size + 1) ⟨f, k⟩ b (off + k * 8) al[k] k u ((w.alloc (.cells (tabA bv n (.slice (some ⟨b, off, none⟩) al.length oc)) TabT)).alloc (.cells #[.int .i64 f, .int .i64 k] PcT)).drew) :=
    Lib.hid ⟨HB.out.1, hr.below (below_drewN HB.out.2 1) hb, Nat.lt_of_lt_of_le hb HB.out.2.size⟩
  obtain ⟨ua, uc, rfl, hsp2⟩ := hsp
  clear HA hok hsp2 h1 hh hr hf
  generalize Ro.fit (Bd.exp rs) al[k] f = r at *
  generalize (spaA rs al[k]).length = sl at *
  generalize al[k] = a at *
  go_enter Try.func80, Try.ntmps80
  go_upto_region 1 with fail
  refine wp_region_seq [(0, true), (1, true), (2, true), (3, false), (4, true), (5, true), (6, true), (7, true), (8, true), (9, true), (10, true), (11, true), (12, true), (13, false), (14, true), (15, true)] (TfO w.heap.size bv n (.slice (some ⟨b, off, none⟩) al.length oc) (w.heap.size + 1) ⟨f, k⟩ b (off + k * 8) a k (.slice ua sl uc))
    (by kernel_rfl) (by kernel_rfl) (by kernel_rfl) (by kernel_rfl) (fun d _ _ _ _ h => by cases d <;> exact h) HS0.out (fun _ => ?_)
  repeat (first | (refine SeqH.take (v := ?_) rfl (by rfl) ?_ ?_; rotate_left; (· intro w hSw; (try dsimp only at hSw); obtain ⟨⟨hbt, hbx⟩, ⟨⟨c0, c1, c2, c3, c4, c5⟩, c6, c7⟩, _⟩ := hSw; have t0 := (hbt.cell 0).trans rfl; have t1 := (hbt.cell 1).trans rfl; have t2 := (hbt.cell 2).trans rfl; have x0 := (hbx.cell 0).trans rfl; have x1 := (hbx.cell 1).trans rfl; go_simp; (try with_reducible rfl)); simp only [Act.put, List.setIfInBounds_toArray, List.set_cons_zero, List.set_cons_succ]) | (refine SeqH.skip rfl (by rfl) ?_; simp only [Act.put, List.setIfInBounds_toArray, List.set_cons_zero, List.set_cons_succ]))
  refine SeqH.step rfl (by rfl) (fun K hK => ?_)
  go_simp
  go_at_call 98
  refine (CH.out _).mono ?_
  rintro e w3 ⟨rfl, hb3⟩
  try dsimp only
  have HW := Lib.hid (below_step (below_drewN HB.out.2 1) hb3)
  have HS3 := Lib.hid (HS0.out.below hb3)
  refine hK.out _ _ HS3.out (fun _ => ?_)
  clear hK K hb3 HB HS0 CH
  try simp only [Act.put, List.setIfInBounds_toArray, List.set_cons_zero, List.set_cons_succ]
  repeat (first | (refine SeqH.take (v := ?_) rfl (by rfl) ?_ ?_; rotate_left; (· intro w hSw; (try dsimp only at hSw); obtain ⟨⟨hbt, hbx⟩, ⟨⟨c0, c1, c2, c3, c4, c5⟩, c6, c7⟩, _⟩ := hSw; have t0 := (hbt.cell 0).trans rfl; have t1 := (hbt.cell 1).trans rfl; have t2 := (hbt.cell 2).trans rfl; have x0 := (hbx.cell 0).trans rfl; have x1 := (hbx.cell 1).trans rfl; go_simp; (try with_reducible rfl)); simp only [Act.put, List.setIfInBounds_toArray, List.set_cons_zero, List.set_cons_succ]) | (refine SeqH.skip rfl (by rfl) ?_; simp only [Act.put, List.setIfInBounds_toArray, List.set_cons_zero, List.set_cons_succ]))
  refine SeqH.step rfl (by rfl) (fun K hK => ?_)
  go_simp
  go_at_call 33
  refine (CF.out _ HW.out).mono ?_
  rintro e w4 ⟨rfl, hb4⟩
  try dsimp only
  have HW4 := Lib.hid (below_step HW.out hb4)
  refine hK.out _ _ (HS3.out.below hb4) (fun _ => ?_)
  clear hK K hb4 HS3 HW CF
  try simp only [Act.put, List.setIfInBounds_toArray, List.set_cons_zero, List.set_cons_succ]
  repeat (first | (refine SeqH.take (v := ?_) rfl (by rfl) ?_ ?_; rotate_left; (· intro w hSw; (try dsimp only at hSw); obtain ⟨⟨hbt, hbx⟩, ⟨⟨c0, c1, c2, c3, c4, c5⟩, c6, c7⟩, _⟩ := hSw; have t0 := (hbt.cell 0).trans rfl; have t1 := (hbt.cell 1).trans rfl; have t2 := (hbt.cell 2).trans rfl; have x0 := (hbx.cell 0).trans rfl; have x1 := (hbx.cell 1).trans rfl; go_simp; (try with_reducible rfl)); simp only [Act.put, List.setIfInBounds_toArray, List.set_cons_zero, List.set_cons_succ]) | (refine SeqH.skip rfl (by rfl) ?_; simp only [Act.put, List.setIfInBounds_toArray, List.set_cons_zero, List.set_cons_succ]))
  refine SeqH.done ?_
  go_wp2
  go_ret
  exact ⟨rfl, HW4.out⟩
end Go.Proofs.Ytbmjjmpdlmbehaa
