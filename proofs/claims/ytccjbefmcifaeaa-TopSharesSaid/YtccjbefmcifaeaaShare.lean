/- The program's shares. -/
import Derived.Test.YtccjbefmcifaeaaVisit
import Derived.Test.YtccjbefmcifaeaaVals
import Derived.Laws.EntriesVeiled
namespace Go.Proofs.Ytccjbefmcifaeaa
open Go.RowKit

/-- Which lot a share is of. -/
def oneO (of : Nat) (i : Nat) : Bool := decide (i = of)
theorem visit_any (w0 : World) (bl bo bb bf bv bd bof bm : Nat) (v : Value) (ls : List Lt.L) (of : Nat) (hl : ls.length ≤ 24) (hfine : ∀ j, j < ls.length → Lt.fine (ls.getD j default)) (hearly : Sh.early ls) :
    ∀ i, i < ls.length → VisitOk w0 bl bo bb bf bv bd bof bm v ls of (Sh.S ls (oneO of)) i := by
  intro i
  induction i using Nat.strongRecOn with
  | ind i ih =>
    intro hi w D hE hM
    cases hh : Maps.has D (keyL i) with
    | true => exact visit_found w0 bl bo bb bf bv bd bof bm v ls of _ i (by omega) w D hE hM hh
    | false =>
      refine visit_new w0 bl bo bb bf bv bd bof bm v ls of _ i hi hl hfine hearly (fun e => ?_) (fun e => ?_) (fun j hj => ih j hj (by omega)) w D hE hM hh
      · rw [Sh.S_eq hearly _ hi, if_pos (by simp [oneO, e])]
      · rw [Sh.S_eq hearly _ hi, if_neg (by simp [oneO, e])]

theorem early_of {ls : List Lt.L} (h : ∀ j, j < ls.length → Lt.errAt ls j = 0) : Sh.early ls := by
  intro i hi p hp
  obtain ⟨_, _, h3, _⟩ := Lt.errAt_parts (h i hi)
  exact Lt.okPs_mem h3 p hp

abbrev storeF (W : World) (B n : Nat) (v : Value) : World := (storeN W B n).setCell ⟨B, 8, none⟩ v
theorem set9 {W W2 : World} {B n : Nat} {v : Value} {t : TypeId} {a0 a1 a2 a3 a4 a5 a6 a7 a8 : Value} (h : BlockAt W B #[a0, a1, a2, a3, a4, a5, a6, a7, a8] t) (e : storeF W B n v = W2) : BlockAt W2 B #[wV n 0, wV n 1, wV n 2, wV n 3, wV n 4, wV n 5, wV n 6, wV n 7, v] t := by
  subst e
  have e : ((((((((#[a0, a1, a2, a3, a4, a5, a6, a7, a8].setIfInBounds 0 (wV n 0)).setIfInBounds 1 (wV n 1)).setIfInBounds 2 (wV n 2)).setIfInBounds 3 (wV n 3)).setIfInBounds 4 (wV n 4)).setIfInBounds 5 (wV n 5)).setIfInBounds 6 (wV n 6)).setIfInBounds 7 (wV n 7)).setIfInBounds 8 v = #[wV n 0, wV n 1, wV n 2, wV n 3, wV n 4, wV n 5, wV n 6, wV n 7, v] := by simp
  rw [← e]
  exact ((((((((h.set 0 _).set 1 _).set 2 _).set 3 _).set 4 _).set 5 _).set 6 _).set 7 _).set 8 _

/-- The function that gives the share in a lot. -/
theorem shareIn_any (w0 : World) (bl bo bb bf bv bd bof bm : Nat) (v : Value) (ls : List Lt.L) (of : Nat) (hl : ls.length ≤ 24) (hfine : ∀ j, j < ls.length → Lt.fine (ls.getD j default)) (hearly : Sh.early ls) (i : Nat) (hi : i < ls.length)
    (w : World) (D : DataW Value) (hE : VE w0 w bl bo bb bf bv bd bof bm v ls of) (hM : VM w bm (Sh.S ls (oneO of)) D) :
    Calls Try.prog 98 #[.int .i64 i, ptr bv, ptr bb] w fun e w' => e = .returned (fracV (Sh.S ls (oneO of) i) (.slice (some ⟨bd, 0, none⟩) (i + 1) ls.length)) ∧ Hid ((∃ D', VM w' bm (Sh.S ls (oneO of)) D') ∧ Kb bm w w') := by
  have hb1 := below_alloc (Below.refl w.heap.size w) (.cells #[.int .u64 0, .int .u64 0, .int .u64 0, .int .u64 0, .int .u64 0, .int .u64 0, .int .u64 0, .int .u64 0, .slice none 0 0] 87)
  have bF := BlockAt.new w #[.int .u64 0, .int .u64 0, .int .u64 0, .int .u64 0, .int .u64 0, .int .u64 0, .int .u64 0, .int .u64 0, .slice none 0 0] 87
  have HV := Lib.hid (visit_any w0 bl bo bb bf bv bd bof bm v ls of hl hfine hearly i hi)
  have HE := Lib.hid (And.intro hE (And.intro hM (And.intro hb1 bF)))
  clear hE hM hb1 bF hfine hearly
  generalize Sh.S ls (oneO of) = T at *
  go_enter Try.func98, Try.ntmps98
  go_wp2_with fail
  obtain ⟨X0, hX0⟩ : ∃ X0, w.alloc (.cells #[.int .u64 0, .int .u64 0, .int .u64 0, .int .u64 0, .int .u64 0, .int .u64 0, .int .u64 0, .int .u64 0, .slice none 0 0] 87) = X0 := ⟨_, rfl⟩
  rw [hX0] at HE
  rw [hX0]
  obtain ⟨hE, hM, hb1, bF⟩ := HE.out
  have hk1 : Kb bm w X0.drew := (Kb.of hb1).drew
  have hE1 := hE.kb hk1
  have hM1 : VM X0.drew bm T D := hM.kept hb1.drew
  have bF1 := bF.drew
  have hlt := hM.lt
  have hwj : IntKind.i64.wrap ((i : Int) + 1) = (i : Int) + 1 := wrap_i (by omega) (by omega)
  have htn : ((i : Int) + 1).toNat = i + 1 := by omega
  have h0j : (0 : Int) ≤ (i : Int) + 1 := by omega
  have hil : (i : Int) + 1 ≤ (ls.length : Int) := by omega
  have hil2 : i + 1 ≤ ls.length := by omega
  have hS0 : X0.drew.cell? ⟨bv, 0, none⟩ = some (.func (.func 95) #[] #[ptr bf, ptr bo, ptr bb, ptr bl, ptr bv]) ∧ X0.drew.cell? ⟨bb, 0, none⟩ = some (.slice (some ⟨bd, 0, none⟩) ls.length ls.length) := ⟨hE1.vis.cell 0, hE1.b.cell 0⟩
  have HEw := Lib.hid hE
  have HH := Lib.hid (And.intro hE (And.intro hk1 (And.intro hE1 (And.intro hM1 (And.intro bF1 hlt)))))
  clear hE hM hb1 bF hX0 hk1 hE1 hM1 bF1 HE hlt
  refine wp_region_seq [(0, true), (1, true), (3, true), (4, true), (5, true), (6, true), (2, false), (7, true), (8, false)] (fun W => W.cell? ⟨bv, 0, none⟩ = some (.func (.func 95) #[] #[ptr bf, ptr bo, ptr bb, ptr bl, ptr bv]) ∧ W.cell? ⟨bb, 0, none⟩ = some (.slice (some ⟨bd, 0, none⟩) ls.length ls.length))
    (by kernel_rfl) (by kernel_rfl) (by kernel_rfl) (by kernel_rfl) (fun d _ _ _ _ h => by cases d <;> exact h) hS0 (fun hS => ?_)
  clear hS0
  repeat (refine SeqH.take (v := ?_) rfl (by rfl) ?_ ?_; rotate_left; (· intro w hSw; (try dsimp only at hSw); obtain ⟨q0, q1⟩ := hSw; go_simp; (try with_reducible rfl)); simp only [Act.put, List.setIfInBounds_toArray, List.set_cons_zero, List.set_cons_succ])
  refine SeqH.step rfl (by rfl) (fun K hK => ?_)
  go_simp
  obtain ⟨hE, hk1, hE1, hM1, bF1, hlt⟩ := HH.out
  refine (HV.out _ D hE1 hM1).mono ?_
  rintro e X1 ⟨rfl, hvis⟩
  obtain ⟨D1, hM2, _, hk2⟩ := hvis.out
  have hE2 := hE1.kb hk2
  have bF2 := bF1.kb hk2 (by omega)
  have hSn : X1.cell? ⟨bv, 0, none⟩ = some (.func (.func 95) #[] #[ptr bf, ptr bo, ptr bb, ptr bl, ptr bv]) ∧ X1.cell? ⟨bb, 0, none⟩ = some (.slice (some ⟨bd, 0, none⟩) ls.length ls.length) := ⟨hE2.vis.cell 0, hE2.b.cell 0⟩
  try dsimp only
  refine hK.out _ _ hSn (fun _ => ?_)
  clear hK K hS
  try simp only [Act.put, List.setIfInBounds_toArray, List.set_cons_zero, List.set_cons_succ]
  repeat (refine SeqH.take (v := ?_) rfl (by rfl) ?_ ?_; rotate_left; (· intro w hSw; (try dsimp only at hSw); obtain ⟨q0, q1⟩ := hSw; go_simp; (try with_reducible rfl)); simp only [Act.put, List.setIfInBounds_toArray, List.set_cons_zero, List.set_cons_succ])
  have HN := Lib.hid (And.intro hM2 (And.intro (hk1.trans hk2) (And.intro hE2 (And.intro bF2 hlt))))
  have e0 := bF2.cell 0
  have e1 := bF2.cell 1
  have e2 := bF2.cell 2
  have e3 := bF2.cell 3
  have e4 := bF2.cell 4
  have e5 := bF2.cell 5
  have e6 := bF2.cell 6
  have e7 := bF2.cell 7
  have e8 := bF2.cell 8
  have f0 := bF2.frozen 0
  have f1 := bF2.frozen 1
  have f2 := bF2.frozen 2
  have f3 := bF2.frozen 3
  have f4 := bF2.frozen 4
  have f5 := bF2.frozen 5
  have f6 := bF2.frozen 6
  have f7 := bF2.frozen 7
  have f8 := bF2.frozen 8
  clear hE hk1 hE1 hM1 bF1 hM2 hk2 hE2 bF2 hvis HH HV
  refine SeqH.step rfl (by rfl) (fun K hK => ?_)
  go_simp
  obtain ⟨hM2, hk3, hE2, bF2, hlt2⟩ := HN.out
  obtain ⟨W2, hW2⟩ : ∃ W2, storeF X1 w.heap.size (T i) (.slice (some ⟨bd, 0, none⟩) (i + 1) ls.length) = W2 := ⟨_, rfl⟩
  have b9 := set9 bF2 hW2
  have hM3 : VM W2 bm T D1 := by rw [← hW2]; exact (hM2.storeN (by omega)).other (by dsimp only; omega) _
  have hk4 : Kb bm w W2 := by rw [← hW2]; exact (hk3.storeN (Nat.le_refl _)).set (Nat.le_refl _) _
  have hSn2 : W2.cell? ⟨bv, 0, none⟩ = some (.func (.func 95) #[] #[ptr bf, ptr bo, ptr bb, ptr bl, ptr bv]) ∧ W2.cell? ⟨bb, 0, none⟩ = some (.slice (some ⟨bd, 0, none⟩) ls.length ls.length) := by
    have := HEw.out.kb hk4
    exact ⟨this.vis.cell 0, this.b.cell 0⟩
  unfold storeF storeN at hW2
  rw [hW2]
  refine hK.out _ _ hSn2 (fun _ => ?_)
  clear hK K hSn hSn2
  try simp only [Act.put, List.setIfInBounds_toArray, List.set_cons_zero, List.set_cons_succ]
  refine SeqH.done ?_
  have y0 := b9.cell 0
  have y1 := b9.cell 1
  have y2 := b9.cell 2
  have y3 := b9.cell 3
  have y4 := b9.cell 4
  have y5 := b9.cell 5
  have y6 := b9.cell 6
  have y7 := b9.cell 7
  have y8 := b9.cell 8
  have HZ := Lib.hid (And.intro hM3 hk4)
  clear hM2 hk3 hE2 bF2 hlt2 hM3 hk4 hW2 b9 HN e0 e1 e2 e3 e4 e5 e6 e7 e8 f0 f1 f2 f3 f4 f5 f6 f7 f8
  go_wp2
  exact bodyPost_ret (v := fracV (T i) (.slice (some ⟨bd, 0, none⟩) (i + 1) ls.length)) (by simp [results, Try.results98, go_sem, y0, y1, y2, y3, y4, y5, y6, y7, y8]) rfl ⟨rfl, Lib.hid ⟨⟨D1, HZ.out.1⟩, HZ.out.2⟩⟩

theorem VM_made (w : World) (T : Nat → Nat) : VM (w.alloc (.map #[] 0)) w.heap.size T (.map []) := by
  refine ⟨⟨0, World.ownsMap_made _ _ _ _, Nat.zero_le _⟩, Maps.isMap_empty, fun i hi => ?_⟩
  rw [Maps.has_eq] at hi; cases hi

set_option maxRecDepth 100000 in
set_option maxHeartbeats 1000000 in
theorem sharesOf_any (v : Value) (ls : List Lt.L) (of bof : Nat) (T : Nat → Nat) (w : World) (hv : Lots w v ls) (hl : ls.length ≤ 24) (hfine : ∀ j, j < ls.length → Lt.fine (ls.getD j default)) (ho : BlockAt w bof #[.int .i64 of] 3) :
    Calls Try.prog 71 #[v, .func (.func 99) #[] #[ptr bof]] w fun e w' => ∃ bl bo bb bf bv bd bm : Nat, e = .returned (.func (.func 98) #[] #[ptr bv, ptr bb]) ∧ Hid (VE w w' bl bo bb bf bv bd bof bm v ls of ∧ (∃ D, VM w' bm T D) ∧ Below w.heap.size w w') := by
  have hmm := @run_makeMap Try.prog
  have hmf : ∀ (fn : Fn) (first cap : Array Value) (w : World), (Instr.makeFunc fn first cap).run Try.prog w = .ok (.func fn first cap) w := fun _ _ _ _ => rfl
  obtain ⟨a, c, hvv⟩ := hv.form
  have hb1 := below_alloc (Below.refl w.heap.size w) (.cells #[v] 22)
  have hb2 := below_alloc hb1 (.cells #[.func (.func 99) #[] #[ptr bof]] 80)
  have bL := (BlockAt.new w #[v] 22).alloc (.cells #[.func (.func 99) #[] #[ptr bof]] 80)
  have bO := BlockAt.new (w.alloc (.cells #[v] 22)) #[.func (.func 99) #[] #[ptr bof]] 80
  simp only [World.size_alloc] at bO
  have DN := Lib.hid (denominators_any v ls _ (hv.all hb2) hl hfine)
  have HH := Lib.hid (And.intro hb2 (And.intro bL (And.intro bO (And.intro ho hv))))
  subst hvv
  clear hb1 hb2 bL bO ho hv hfine
  go_enter Try.func71, Try.ntmps71
  go_wp2_with fail
  refine DN.out.mono ?_
  rintro e w2 ⟨rfl, hbd, hb3⟩
  obtain ⟨hb2, bL, bO, ho, hv⟩ := HH.out
  have hs3 := hb3.size
  simp only [World.size_alloc] at hbd hs3
  have hbw : bof < w.heap.size := ho.lt
  have hb4 : Below w2.heap.size w2 ((((w2.alloc (.cells #[.slice (some ⟨w.heap.size + 1 + 1, 0, none⟩) ls.length ls.length] 54)).alloc (.map #[] 0)).alloc (.cells #[.map (some (w2.heap.size + 1))] 111)).alloc (.cells #[.func (.func 95) #[] #[ptr (w2.heap.size + 1 + 1), ptr (w.heap.size + 1), ptr w2.heap.size, ptr w.heap.size, ptr (w2.heap.size + 1 + 1 + 1)]] 112)) := below_alloc (below_alloc (below_alloc (below_alloc (Below.refl _ _) _) _) _) _
  have hall : Below w.heap.size w ((((w2.alloc (.cells #[.slice (some ⟨w.heap.size + 1 + 1, 0, none⟩) ls.length ls.length] 54)).alloc (.map #[] 0)).alloc (.cells #[.map (some (w2.heap.size + 1))] 111)).alloc (.cells #[.func (.func 95) #[] #[ptr (w2.heap.size + 1 + 1), ptr (w.heap.size + 1), ptr w2.heap.size, ptr w.heap.size, ptr (w2.heap.size + 1 + 1 + 1)]] 112)) := below_step (below_step hb2 hb3) hb4
  have fb : BlockAt ((((w2.alloc (.cells #[.slice (some ⟨w.heap.size + 1 + 1, 0, none⟩) ls.length ls.length] 54)).alloc (.map #[] 0)).alloc (.cells #[.map (some (w2.heap.size + 1))] 111)).alloc (.cells #[.func (.func 95) #[] #[ptr (w2.heap.size + 1 + 1), ptr (w.heap.size + 1), ptr w2.heap.size, ptr w.heap.size, ptr (w2.heap.size + 1 + 1 + 1)]] 112)) w2.heap.size #[.slice (some ⟨w.heap.size + 1 + 1, 0, none⟩) ls.length ls.length] 54 := (((BlockAt.new w2 _ _).alloc _).alloc _).alloc _
  have fm : BlockAt ((((w2.alloc (.cells #[.slice (some ⟨w.heap.size + 1 + 1, 0, none⟩) ls.length ls.length] 54)).alloc (.map #[] 0)).alloc (.cells #[.map (some (w2.heap.size + 1))] 111)).alloc (.cells #[.func (.func 95) #[] #[ptr (w2.heap.size + 1 + 1), ptr (w.heap.size + 1), ptr w2.heap.size, ptr w.heap.size, ptr (w2.heap.size + 1 + 1 + 1)]] 112)) (w2.heap.size + 1 + 1) #[.map (some (w2.heap.size + 1))] 111 := by
    have := (BlockAt.new ((w2.alloc (.cells #[.slice (some ⟨w.heap.size + 1 + 1, 0, none⟩) ls.length ls.length] 54)).alloc (.map #[] 0)) #[.map (some (w2.heap.size + 1))] 111).alloc (.cells #[.func (.func 95) #[] #[ptr (w2.heap.size + 1 + 1), ptr (w.heap.size + 1), ptr w2.heap.size, ptr w.heap.size, ptr (w2.heap.size + 1 + 1 + 1)]] 112)
    simpa only [World.size_alloc] using this
  have fv : BlockAt ((((w2.alloc (.cells #[.slice (some ⟨w.heap.size + 1 + 1, 0, none⟩) ls.length ls.length] 54)).alloc (.map #[] 0)).alloc (.cells #[.map (some (w2.heap.size + 1))] 111)).alloc (.cells #[.func (.func 95) #[] #[ptr (w2.heap.size + 1 + 1), ptr (w.heap.size + 1), ptr w2.heap.size, ptr w.heap.size, ptr (w2.heap.size + 1 + 1 + 1)]] 112)) (w2.heap.size + 1 + 1 + 1) #[.func (.func 95) #[] #[ptr (w2.heap.size + 1 + 1), ptr (w.heap.size + 1), ptr w2.heap.size, ptr w.heap.size, ptr (w2.heap.size + 1 + 1 + 1)]] 112 := by
    have := BlockAt.new (((w2.alloc (.cells #[.slice (some ⟨w.heap.size + 1 + 1, 0, none⟩) ls.length ls.length] 54)).alloc (.map #[] 0)).alloc (.cells #[.map (some (w2.heap.size + 1))] 111)) #[.func (.func 95) #[] #[ptr (w2.heap.size + 1 + 1), ptr (w.heap.size + 1), ptr w2.heap.size, ptr w.heap.size, ptr (w2.heap.size + 1 + 1 + 1)]] 112
    simpa only [World.size_alloc] using this
  have fM : VM ((((w2.alloc (.cells #[.slice (some ⟨w.heap.size + 1 + 1, 0, none⟩) ls.length ls.length] 54)).alloc (.map #[] 0)).alloc (.cells #[.map (some (w2.heap.size + 1))] 111)).alloc (.cells #[.func (.func 95) #[] #[ptr (w2.heap.size + 1 + 1), ptr (w.heap.size + 1), ptr w2.heap.size, ptr w.heap.size, ptr (w2.heap.size + 1 + 1 + 1)]] 112)) (w2.heap.size + 1) T (.map []) := by
    have := (VM_made (w2.alloc (.cells #[.slice (some ⟨w.heap.size + 1 + 1, 0, none⟩) ls.length ls.length] 54)) T).kept (below_alloc (below_alloc (Below.refl _ _) (.cells #[.map (some (w2.heap.size + 1))] 111)) (.cells #[.func (.func 95) #[] #[ptr (w2.heap.size + 1 + 1), ptr (w.heap.size + 1), ptr w2.heap.size, ptr w.heap.size, ptr (w2.heap.size + 1 + 1 + 1)]] 112))
    simpa only [World.size_alloc] using this
  have fL := (bL.below hb3 bL.lt).below hb4 (bL.below hb3 bL.lt).lt
  have fO := (bO.below hb3 bO.lt).below hb4 (bO.below hb3 bO.lt).lt
  have fD := hbd.below hb4 hbd.lt
  have fF := ho.below hall ho.lt
  have hF : Hid (VE w ((((w2.alloc (.cells #[.slice (some ⟨w.heap.size + 1 + 1, 0, none⟩) ls.length ls.length] 54)).alloc (.map #[] 0)).alloc (.cells #[.map (some (w2.heap.size + 1))] 111)).alloc (.cells #[.func (.func 95) #[] #[ptr (w2.heap.size + 1 + 1), ptr (w.heap.size + 1), ptr w2.heap.size, ptr w.heap.size, ptr (w2.heap.size + 1 + 1 + 1)]] 112)) w.heap.size (w.heap.size + 1) w2.heap.size (w2.heap.size + 1 + 1) (w2.heap.size + 1 + 1 + 1) (w.heap.size + 1 + 1) bof (w2.heap.size + 1) (.slice a ls.length c) ls of ∧ (∃ D, VM ((((w2.alloc (.cells #[.slice (some ⟨w.heap.size + 1 + 1, 0, none⟩) ls.length ls.length] 54)).alloc (.map #[] 0)).alloc (.cells #[.map (some (w2.heap.size + 1))] 111)).alloc (.cells #[.func (.func 95) #[] #[ptr (w2.heap.size + 1 + 1), ptr (w.heap.size + 1), ptr w2.heap.size, ptr w.heap.size, ptr (w2.heap.size + 1 + 1 + 1)]] 112)) (w2.heap.size + 1) T D) ∧ Below w.heap.size w ((((w2.alloc (.cells #[.slice (some ⟨w.heap.size + 1 + 1, 0, none⟩) ls.length ls.length] 54)).alloc (.map #[] 0)).alloc (.cells #[.map (some (w2.heap.size + 1))] 111)).alloc (.cells #[.func (.func 95) #[] #[ptr (w2.heap.size + 1 + 1), ptr (w.heap.size + 1), ptr w2.heap.size, ptr w.heap.size, ptr (w2.heap.size + 1 + 1 + 1)]] 112))) :=
    Lib.hid ⟨⟨fL, fO, fF, fb, fD, fm, fv, ⟨by omega, by omega, by omega, by omega, by omega, by omega, by omega⟩, hv, hall, by omega⟩, ⟨_, fM⟩, hall⟩
  clear hb2 bL bO ho hv hs3 hbd hbw hb4 hall fb fm fv fM fL fO fD fF hb3 HH DN
  go_wp2
  go_ret
  exact ⟨w.heap.size, w.heap.size + 1, w2.heap.size, w2.heap.size + 1 + 1, w2.heap.size + 1 + 1 + 1, w.heap.size + 1 + 1, w2.heap.size + 1, rfl, hF⟩
end Go.Proofs.Ytccjbefmcifaeaa
