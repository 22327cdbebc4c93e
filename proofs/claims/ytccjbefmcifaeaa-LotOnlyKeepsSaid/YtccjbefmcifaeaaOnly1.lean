/- What is left of a genealogy for some of its lots: the program's. -/
import Derived.Test.YtccjbefmcifaeaaRenum
namespace Go.Proofs.Ytccjbefmcifaeaa
open Go.RowKit

/-- The new numbers after some lots. -/
def nf (K : Nat → Bool) : Nat → Nat → Int
  | 0 => fun _ => 0
  | i + 1 => if K i = true then upd (nf K i) i ((selK K i).length : Int) else nf K i
def onlyL (ls : List Lt.L) (K : Nat → Bool) : Nat → List Lt.L
  | 0 => []
  | i + 1 => if K i = true then onlyL ls K i ++ [⟨(ls.getD i default).k, (ls.getD i default).m, renP (nf K (i + 1)) (ls.getD i default).ps⟩] else onlyL ls K i
theorem onlyL_len (ls : List Lt.L) (K : Nat → Bool) : ∀ i, (onlyL ls K i).length ≤ i
  | 0 => Nat.le_refl _
  | i + 1 => by
    have := onlyL_len ls K i
    unfold onlyL
    split
    · rw [List.length_append]; simp; exact this
    · omega
def onlyE (ls : List Lt.L) (ks : List Int) : Int := if Lt.valE ls = 0 then (if setB ls.length ks = true then 0 else 1) else Lt.valE ls
def onlyR (ls : List Lt.L) (ks : List Int) : List Lt.L := if onlyE ls ks = 0 then onlyL ls (leadP ls ks) ls.length else []
def onlyO (ls : List Lt.L) (ks : List Int) : List Int := if onlyE ls ks = 0 then selK (leadP ls ks) ls.length else []

theorem row_ne {base size n : Nat} {W : World} {s : Value} {t t' : TypeId} {xs : List Value} (hrow : W.ownsRow base t size s n xs) {b : Nat} {cs : Array Value} {fz : Nat × Nat} (hb : W.heap[b]? = some (.cells cs t' fz)) (ht : t ≠ t') : some b ≠ s.ownBlock := by
  intro e2
  have e2 := e2.symm
  obtain ⟨h0, ⟨h1, h2⟩ | ⟨g, cap, cur, h1, h2, h3, h4⟩⟩ := id hrow
  · rw [h1] at e2; simp [Value.ownBlock] at e2
  · rw [h1] at e2
    simp [Value.ownBlock] at e2
    subst e2
    rw [h3] at hb
    simp at hb
    exact ht hb.2.1
theorem OwnL.keep {base : Nat} {W W2 : World} {v : Value} {ls : List Lt.L} {us : List Value} (h : OwnL base W v ls us) (hs : W.heap.size ≤ W2.heap.size)
    (hb : ∀ (b : Nat) (cs : Array Value) (t : TypeId) (fz : Nat × Nat), W.heap[b]? = some (Obj.cells cs t fz) → t ≠ 3 → W2.heap[b]? = W.heap[b]?) : OwnL base W2 v ls us := by
  refine ⟨h.1, ?_, fun k hk => let ⟨u, h1, h2⟩ := h.2.2 k hk; ⟨u, h1, h2.keep hs fun b cs fz e => hb b cs _ fz e (by decide)⟩⟩
  obtain ⟨h0, h1 | ⟨g, cap, cur, h1, h2, h3, h4⟩⟩ := h.2.1
  · exact ⟨h0, .inl h1⟩
  · exact ⟨h0, .inr ⟨g, cap, cur, h1, h2, by rw [hb g cur _ _ h3 (by decide)]; exact h3, h4⟩⟩
theorem OwnL.grownI {base base' n : Nat} {W w9 : World} {v s : Value} {ls : List Lt.L} {us : List Value} {xs : List Value} (h : OwnL base W v ls us) (hrow : W.ownsRow base' 3 1 s n xs) (hg : W.grownBy w9 s.ownBlock) : OwnL base w9 v ls us :=
  h.keep hg.size fun b _ _ _ e ht => hg.block b (Array.getElem?_eq_some_iff.1 e).1 (row_ne hrow e (Ne.symm ht))
theorem OwnL.setI {base g i : Nat} {W : World} {v u : Value} {ls : List Lt.L} {us : List Value} {cs : Array Value} (h : OwnL base W v ls us) (hB : BlockAt W g cs 3) : OwnL base (W.setCell ⟨g, i, none⟩ u) v ls us :=
  h.keep (by simp [World.setCell]) fun b _ _ _ e ht => Below.heap_setCell _ _ _ _ (by
    intro eb; subst eb
    have := e.symm.trans hB
    simp at this
    exact ht this.2.1)
theorem OwnI.grownL {base base' n : Nat} {W w9 : World} {v s : Value} {rs : List Int} {xs : List Value} (h : OwnI base W v rs) (hrow : W.ownsRow base' 25 3 s n xs) (hg : W.grownBy w9 s.ownBlock) : OwnI base w9 v rs := by
  obtain ⟨h0, h1 | ⟨g, cap, cur, h1, h2, h3, h4⟩⟩ := h
  · exact ⟨h0, .inl h1⟩
  · exact ⟨h0, .inr ⟨g, cap, cur, h1, h2, by rw [hg.block g (Array.getElem?_eq_some_iff.1 h3).1 (row_ne hrow h3 (by decide))]; exact h3, h4⟩⟩
theorem BlockAt.grown {base size n : Nat} {W w9 : World} {B : Nat} {cs : Array Value} {t t' : TypeId} {s : Value} {xs : List Value} (h : BlockAt W B cs t') (hrow : W.ownsRow base t size s n xs) (hg : W.grownBy w9 s.ownBlock) (ht : t ≠ t') : BlockAt w9 B cs t' :=
  (hg.block B h.lt (row_ne hrow h ht)).trans h

set_option maxRecDepth 20000 in
set_option maxHeartbeats 2000000 in
theorem lotOnly_any (v u : Value) (ls : List Lt.L) (ks : List Int) (w : World) (hv : Lots w v ls) (hu : Ints w u ks) (hsh : short ls) (hkl : ks.length ≤ 1000) :
    Calls Try.prog 53 #[v, u] w fun e w' => ∃ y z us, e = .returned (.tuple #[y, z, .int .i64 (onlyE ls ks)]) ∧ OwnL w.heap.size w' y (onlyR ls ks) us ∧ OwnI w.heap.size w' z (onlyO ls ks) ∧ Below w.heap.size w w' := by
  have V := Lib.hid (validate_any v ls w hv hsh)
  have HV := Lib.hid (And.intro hv hu)
  obtain ⟨i0, hi, hz0, hz1, hz2⟩ := info_of infoLot
  obtain ⟨i1, hi', hz0', hz1', hz2'⟩ := info_parts infoInt
  have hl1 := hsh.1
  by_cases h0 : Lt.valE ls = 0
  · obtain ⟨hl, herr, _⟩ := Lt.valE_zero h0
    have S := Lib.hid (fun W (hW : Below w.heap.size w W) => isSet_any v u ls ks W (hv.all hW) (hu.all hW) hl1 hkl)
    rw [h0] at V
    cases hs : setB ls.length ks with
    | true =>
      have hE : onlyE ls ks = 0 := by unfold onlyE; rw [if_pos h0, if_pos hs]
      have hR : onlyR ls ks = onlyL ls (leadP ls ks) ls.length := by unfold onlyR; rw [if_pos hE]
      have hO : onlyO ls ks = selK (leadP ls ks) ls.length := by unfold onlyO; rw [if_pos hE]
      rw [hE, hR, hO]
      rw [hs] at S
      have hmk := made_ints ls.length (by omega)
      have LD := Lib.hid (fun W i (hi : i < ls.length) (hW : Below w.heap.size w W) => leadsToAny_any v u ls ks i W (hv.all hW) (hu.all hW) hl hkl herr hi hs)
      have HR := Lib.hid herr
      obtain ⟨a, c, rfl, hlk⟩ := hv.look
      obtain ⟨ka, kc, rfl, _⟩ := hu.look
      have HLK := Lib.hid hlk
      generalize leadP ls ks = K at *
      clear hv hu hsh h0 herr hE hR hO hs hlk
      go_enter Try.func53, Try.ntmps53
      go_wp2_with fail
      refine V.out.mono ?_
      rintro e w1 ⟨rfl, hb1⟩
      go_wp2_with fail
      refine (S.out _ hb1).mono ?_
      rintro e w2 ⟨rfl, hb2⟩
      have hw2 := below_step hb1 hb2
      have H0 := Lib.hid (And.intro (BlockAt.new w2 (fnC ls.length (fun _ => 0)) 3) (below_alloc hw2 (.cells (fnC ls.length (fun _ => 0)) 3)))
      have hw2s : w.heap.size ≤ w2.heap.size := hw2.size
      clear hb1 hb2 hw2 V S
      have HGW := Lib.hid hw2s
      go_wp2
      clear hmk
      obtain ⟨wA, hwA⟩ : ∃ x, x = w2.alloc (.cells (fnC ls.length (fun _ => 0)) 3) := ⟨_, rfl⟩
      have hgA : w2.heap.size < wA.heap.size := by rw [hwA]; simp
      have H0 : Hid (BlockAt wA w2.heap.size (fnC ls.length (fun _ => 0)) 3 ∧ Below w.heap.size w wA) := by rw [hwA]; exact H0
      rw [← hwA]
      clear hwA
      have hgA' := hgA
      generalize w2.heap.size = g at *
      go_loopw [8, 9, 27] (fun s o t wr => ∃ i : Nat, ∃ us : List Value, i ≤ ls.length ∧ t = .int .i64 i ∧ Hid (OwnL wA.heap.size wr s (onlyL ls K i) us ∧ OwnI wA.heap.size wr o (selK K i) ∧ BlockAt wr g (fnC ls.length (nf K i)) 3 ∧ Below w.heap.size w wr ∧ wA.heap.size ≤ wr.heap.size)) (fun _ _ t _ => ls.length - (intOf t).toNat)
      case atStart => exact ⟨0, [], Nat.zero_le _, rfl, Lib.hid ⟨OwnL.nil _ _, OwnI.nil _ _, H0.out.1, H0.out.2, Nat.le_refl _⟩⟩
      case round =>
        obtain ⟨i, us, hil, rfl, hg⟩ := hrel
        by_cases hlt : i < ls.length
        · obtain ⟨wB, rfl⟩ : ∃ x, x = wr := ⟨wr, rfl⟩
          obtain ⟨b, off, y, rfl, hbl, hlot⟩ := HLK.out i hlt
          have hpw := hlot.2.2.2
          have hlot := hlot.below hg.out.2.2.2.1 hbl
          have hfx := Lt.fine_of (HR.out i hlt)
          obtain ⟨_, _, hok, _⟩ := Lt.errAt_parts (HR.out i hlt)
          have HOK := Lib.hid (fun p (hp : p ∈ (ls.getD i default).ps) => Lt.okPs_mem hok p hp)
          have HLN := Lib.hid (show onlyL ls K (i + 1) = if K i = true then onlyL ls K i ++ [⟨(ls.getD i default).k, (ls.getD i default).m, renP (nf K (i + 1)) (ls.getD i default).ps⟩] else onlyL ls K i from rfl)
          have HNF := Lib.hid (show nf K (i + 1) = if K i = true then upd (nf K i) i ((selK K i).length : Int) else nf K i from rfl)
          have HSS := Lib.hid (selK_succ K i)
          have hsl := selK_len K i
          have hol := onlyL_len ls K i
          generalize ls.getD i default = x at *
          obtain ⟨xk, xm, ps⟩ := x
          dsimp only at *
          obtain ⟨c0, c1, c2, hpt⟩ := hlot
          obtain ⟨pa, pc, rfl⟩ := hpt.form
          dsimp only at c0 c1 c2 hpt
          have HG := Lib.hid hg.out
          have HPT := Lib.hid hpw
          have hwX := below_alloc hg.out.2.2.2.1 (.cells #[.int .i64 xk, .int .i64 xm, .slice pa ps.length pc] 25)
          have L1 := Lib.hid (LD.out _ i hlt hwX)
          have hps6 : ps.length ≤ 6 := hfx.2.1
          have hps1k : (⟨xk, xm, ps⟩ : Lt.L).ps.length ≤ 1000 := by show ps.length ≤ 1000; omega
          have bX := BlockAt.new wB #[.int .i64 xk, .int .i64 xm, .slice pa ps.length pc] 25
          have HX := Lib.hid (And.intro hwX bX)
          clear hg hpt hpw hwX hok hfx bX
          go_wp2_with fail
          refine L1.out.mono ?_
          rintro e w3 ⟨rfl, hb3⟩
          have hbB : Below wB.heap.size wB w3 := below_step (below_alloc (Below.refl wB.heap.size wB) _) hb3
          have HX := Lib.hid (And.intro (below_step HX.out.1 hb3) (HX.out.2.below hb3 HX.out.2.lt))
          have HG : Hid (OwnL wA.heap.size w3 u8 (onlyL ls K i) us ∧ OwnI wA.heap.size w3 u9 (selK K i) ∧ BlockAt w3 g (fnC ls.length (nf K i)) 3 ∧ wA.heap.size ≤ w3.heap.size ∧ Below wB.heap.size wB w3) := Lib.hid ⟨HG.out.1.all hbB, HG.out.2.1.all hbB, HG.out.2.2.1.below hbB HG.out.2.2.1.lt, Nat.le_trans HG.out.2.2.2.2 hbB.size, hbB⟩
          clear hb3 hbB L1 c0 c1 c2
          cases hK : K i with
          | false =>
            rw [hK, if_neg (by decide)] at HLN HSS HNF
            clear hK
            go_wp2
            go_roundw
            case rel => exact ⟨i + 1, us, by omega, by go_num, Lib.hid ⟨by rw [HLN.out]; exact HG.out.1, by rw [HSS.out]; exact HG.out.2.1, by rw [HNF.out]; exact HG.out.2.2.1, HX.out.1, HG.out.2.2.2.1⟩⟩
            case measure => simp [intOf]; omega
          | true =>
            rw [hK, if_pos rfl] at HLN HSS HNF
            clear hK
            obtain ⟨oa, oc, hof⟩ : ∃ a c, u9 = .slice a (selK K i).length c := by
              obtain ⟨h0, ⟨h1, h2⟩ | ⟨g', cap, cur, h1, h2, h3, h4⟩⟩ := id HG.out.2.1
              · exact ⟨none, 0, by rw [h1, h2]⟩
              · exact ⟨_, _, h1⟩
            have hgc := HG.out.2.2.1.cell i
            rw [fnC_at hlt] at hgc
            have hgf := HG.out.2.2.1.frozen i
            have hglt := HG.out.2.2.1.lt
            have hset := HG.out.2.2.1.set i (.int .i64 ((selK K i).length : Int))
            rw [fnC_set, ← HNF.out] at hset
            have hL3 : OwnL wA.heap.size (w3.setCell ⟨g, i, none⟩ (.int .i64 ((selK K i).length : Int))) u8 (onlyL ls K i) us := HG.out.1.setI HG.out.2.2.1
            have hI3 : OwnI wA.heap.size (w3.setCell ⟨g, i, none⟩ (.int .i64 ((selK K i).length : Int))) u9 (selK K i) := RowKit.ownsRow_setCell_below HG.out.2.1 hgA _
            have hX3 : BlockAt (w3.setCell ⟨g, i, none⟩ (.int .i64 ((selK K i).length : Int))) wB.heap.size #[.int .i64 xk, .int .i64 xm, .slice pa ps.length pc] 25 := HX.out.2.other (by have := HG.out.2.2.1.lt; intro e; subst e; have h1 := HX.out.2; have h2 := HG.out.2.2.1; unfold BlockAt at h1 h2; rw [h1] at h2; simp at h2) _
            have hgw : w.heap.size ≤ g := HGW.out
            have hW3 := HX.out.1.setCell (p := ⟨g, i, none⟩) hgw (.int .i64 ((selK K i).length : Int))
            have hsz3 : (w3.setCell ⟨g, i, none⟩ (.int .i64 ((selK K i).length : Int))).heap.size = w3.heap.size := by simp [World.setCell]
            have hA3 : wA.heap.size ≤ w3.heap.size := HG.out.2.2.2.1
            have hbB : Below wB.heap.size wB w3 := HG.out.2.2.2.2
            subst hof
            have H3 := Lib.hid (And.intro hL3 (And.intro hI3 (And.intro hset (And.intro hX3 hW3))))
            have hro : _ := hI3
            unfold OwnI at hro
            have hltb := HX.out.2.lt
            have HPT3 := Lib.hid (show Parts w (.slice pa ps.length pc) ps ∨ True from .inr trivial)
            clear HG hL3 hI3 hset hX3 hW3 HX HPT3
            generalize hnk : (selK K i).length = nk at *
            have hn3 := Lib.hid hnk
            clear hnk
            have hnew := intL_at (w3.setCell ⟨g, i, none⟩ (.int .i64 (nk : Int))) (i : Int) 3
            rw [hsz3] at hnew
            go_wp2_with (at_builtin; refine wpList_append_own _ rfl _ _ 54 rfl wA.heap.size 3 i1 (.int .i64 0) 1 8 Try.underlying54 hi' hz0' hz1' hz2' rfl (by decide) _ _ _ rfl (World.ownsRow.alloc hro _) ⟨_, 0, none⟩ 1 1 (intL i) rfl rfl hnew (intL_one _) (by unfold maxLen; omega) (by omega) (by rw [World.size_alloc, hsz3]; omega) ?_)
            intro v1 w4 hown1 hgrow _
            have hroA := World.ownsRow.alloc hro (.cells #[.int .i64 (i : Int)] 3)
            have hI4 : OwnI wA.heap.size w4 v1 (selK K i ++ [(i : Int)]) := by rw [← hn3.out] at hown1; exact OwnI.pushed hown1
            have bA := below_alloc (Below.refl _ (w3.setCell ⟨g, i, none⟩ (.int .i64 (nk : Int)))) (.cells #[.int .i64 (i : Int)] 3)
            have hL4 : OwnL wA.heap.size w4 u8 (onlyL ls K i) us := (H3.out.1.all bA).grownI hroA hgrow
            have hset4 : BlockAt w4 g (fnC ls.length (nf K (i + 1))) 3 := (hgrow.block g (by have := (H3.out.2.2.1.alloc (.cells #[.int .i64 (i : Int)] 3)).lt; exact this) (fun e => by have := (World.ownsRow.lt hroA g e.symm).1; omega)).trans (H3.out.2.2.1.alloc _)
            have hX4 : BlockAt w4 wB.heap.size #[.int .i64 xk, .int .i64 xm, .slice pa ps.length pc] 25 := (H3.out.2.2.2.1.alloc _).grown hroA hgrow (by decide)
            have hW4 := (H3.out.2.2.2.2.alloc (by rw [hsz3]; omega) (.cells #[.int .i64 (i : Int)] 3)).grown hgrow (by rw [World.size_alloc, hsz3]; omega) (fun j e => by have := (World.ownsRow.lt hroA j e).1; omega)
            have hs4 : wA.heap.size ≤ w4.heap.size := by have := hgrow.size; rw [World.size_alloc, hsz3] at this; omega
            have REN := Lib.hid (renumbered_any ⟨xk, xm, ps⟩ (.slice pa ps.length pc) (nf K (i + 1)) ls.length g w4 (HPT.out.all hW4) hps1k (fun p hp => ⟨(HOK.out p hp).1, by have := (HOK.out p hp).2.1; omega⟩) (by omega) hset4)
            have H4 := Lib.hid (And.intro hL4 (And.intro hI4 (And.intro hset4 (And.intro hW4 hs4))))
            have d0 := hX4.cell 0
            have d1 := hX4.cell 1
            have d2 := hX4.cell 2
            clear hX4
            clear hro hroA hown1 hgrow hI4 hL4 hset4 hW4 H3 hnew hgc hgf hglt hsl
            go_wp2_with fail
            refine REN.out.mono ?_
            rintro e w5 ⟨yu, rfl, hp5, hb5⟩
            have hp5 : PartsT w5 yu (renP (nf K (i + 1)) ps) := hp5
            obtain ⟨ya, yc, hyf⟩ := hp5.1.form
            rw [renP_len] at hyf
            subst hyf
            have hs5 := hb5.size
            have hL5 := H4.out.1.all hb5
            have hI5 := H4.out.2.1.all hb5
            have hset5 := H4.out.2.2.1.below hb5 H4.out.2.2.1.lt
            have hW5 := below_step H4.out.2.2.2.1 hb5
            have hsA5 : wA.heap.size ≤ w5.heap.size := Nat.le_trans H4.out.2.2.2.2 hs5
            have hrow := hL5.2.1
            have H5 := Lib.hid (And.intro hp5 (And.intro hL5 (And.intro hI5 (And.intro hset5 hW5))))
            clear hp5 hb5 hL5 hI5 hset5 hW5 H4 REN d0 d1 d2
            go_wp2_with (at_builtin; refine wpList_append_own _ rfl _ _ 22 rfl wA.heap.size 25 i0 zLot 3 40 ul_lots hi hz0 hz1 hz2 rfl (by decide) _ _ _ rfl (World.ownsRow.alloc hrow _) ⟨_, 0, none⟩ 1 1 (lotC ⟨xk, xm, renP (nf K (i + 1)) ps⟩ (.slice ya ps.length yc)) rfl rfl (lot_at _ _ _ _) (lotC_one _ _ _ _) (by unfold maxLen; omega) (by omega) (by rw [World.size_alloc]; omega) ?_)
            intro v2 w6 hown1 hgrow _
            have bA := below_alloc (Below.refl _ w5) (.cells #[.int .i64 xk, .int .i64 xm, .slice ya ps.length yc] 25)
            have hrowA := World.ownsRow.alloc hrow (.cells #[.int .i64 xk, .int .i64 xm, .slice ya ps.length yc] 25)
            have hx6 := (H5.out.2.1.all bA).push (x := ⟨xk, xm, renP (nf K (i + 1)) ps⟩) (H5.out.1.all bA) hgrow hown1
            have hI6 := (H5.out.2.2.1.all bA).grownL hrowA hgrow
            have hset6 := (H5.out.2.2.2.1.alloc _).grown hrowA hgrow (by decide)
            have hW6 := (H5.out.2.2.2.2.alloc H5.out.2.2.2.2.size (.cells #[.int .i64 xk, .int .i64 xm, .slice ya ps.length yc] 25)).grown hgrow (by rw [World.size_alloc]; omega) (fun j e => by have := (World.ownsRow.lt hrowA j e).1; omega)
            have hs6 : wA.heap.size ≤ w6.heap.size := by have := hgrow.size; rw [World.size_alloc] at this; omega
            have HN := Lib.hid (And.intro hx6 (And.intro hI6 (And.intro hset6 (And.intro hW6 hs6))))
            clear hown1 hgrow hrow hrowA hx6 hI6 hset6 hW6 H5
            go_wp2
            go_roundw
            case rel => exact ⟨i + 1, _, by omega, by go_num, Lib.hid ⟨by rw [HLN.out]; exact HN.out.1, by rw [HSS.out]; exact HN.out.2.1, HN.out.2.2.1, HN.out.2.2.2.1, HN.out.2.2.2.2⟩⟩
            case measure => simp [intOf]; omega
        · obtain rfl : i = ls.length := by omega
          have hL := hg.out.1.mono (Nat.le_trans hw2s (Nat.le_of_lt hgA'))
          have hI := hg.out.2.1.mono (Nat.le_trans hw2s (Nat.le_of_lt hgA'))
          have hw := hg.out.2.2.2.1
          clear hg
          go_wp2
          exact bodyPost_ret (v := .tuple #[_, _, .int .i64 0]) (by simp [results, Try.results53, go_sem]) rfl ⟨_, _, us, rfl, hL, hI, hw⟩
    | false =>
      have hE : onlyE ls ks = 1 := by unfold onlyE; rw [if_pos h0, hs, if_neg (by decide)]
      have hR : onlyR ls ks = [] := by unfold onlyR; rw [hE, if_neg (by decide)]
      have hO : onlyO ls ks = [] := by unfold onlyO; rw [hE, if_neg (by decide)]
      rw [hE, hR, hO]
      rw [hs] at S
      obtain ⟨a, c, rfl⟩ := hv.form
      obtain ⟨ka, kc, rfl, _⟩ := hu.look
      clear hv hu hsh h0 herr hE hR hO hs
      go_enter Try.func53, Try.ntmps53
      go_wp2_with fail
      refine V.out.mono ?_
      rintro e w1 ⟨rfl, hb1⟩
      go_wp2_with fail
      refine (S.out _ hb1).mono ?_
      rintro e w2 ⟨rfl, hb2⟩
      have hw2 := below_step hb1 hb2
      clear hb1 hb2 S V
      go_wp2
      exact bodyPost_ret (v := .tuple #[_, _, .int .i64 1]) (by simp [results, Try.results53, go_sem]) rfl ⟨_, _, [], rfl, OwnL.nil _ _, OwnI.nil _ _, hw2⟩
  · have hE : onlyE ls ks = Lt.valE ls := by unfold onlyE; rw [if_neg h0]
    have hR : onlyR ls ks = [] := by unfold onlyR; rw [hE, if_neg h0]
    have hO : onlyO ls ks = [] := by unfold onlyO; rw [hE, if_neg h0]
    rw [hE, hR, hO]
    have hne : (Lt.valE ls != 0) = true := by simpa using h0
    obtain ⟨a, c, rfl⟩ := hv.form
    obtain ⟨ka, kc, rfl, _⟩ := hu.look
    generalize Lt.valE ls = q at *
    clear hv hu hsh h0 hE hR hO
    go_enter Try.func53, Try.ntmps53
    go_wp2_with fail
    refine V.out.mono ?_
    rintro e w1 ⟨rfl, hb1⟩
    have hw1 := hb1
    clear hb1 V
    go_wp2
    exact bodyPost_ret (v := .tuple #[_, _, .int .i64 q]) (by simp [results, Try.results53, go_sem]) rfl ⟨_, _, [], rfl, OwnL.nil _ _, OwnI.nil _ _, hw1⟩
end Go.Proofs.Ytccjbefmcifaeaa
