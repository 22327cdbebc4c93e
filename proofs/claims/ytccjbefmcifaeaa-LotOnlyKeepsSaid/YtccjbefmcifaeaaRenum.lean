/- A lot with new parts, whose lots have new numbers: the program's. -/
import Derived.Test.YtccjbefmcifaeaaLead
namespace Go.Proofs.Ytccjbefmcifaeaa
open Go.RowKit

def renP (f : Nat → Int) (ps : List Lt.P) : List Lt.P := ps.map fun p => ⟨f p.l.toNat, p.m⟩
/-- The first parts have the new numbers. -/
def renK (f : Nat → Int) (ps : List Lt.P) (j : Nat) : List Lt.P := renP f (ps.take j) ++ ps.drop j
theorem renP_len (f : Nat → Int) (ps : List Lt.P) : (renP f ps).length = ps.length := by simp [renP]
theorem renK_len (f : Nat → Int) (ps : List Lt.P) (j : Nat) : (renK f ps j).length = ps.length := by simp [renK, renP]; omega
theorem renK_zero (f : Nat → Int) (ps : List Lt.P) : renK f ps 0 = ps := by simp [renK, renP]
theorem renK_all (f : Nat → Int) (ps : List Lt.P) : renK f ps ps.length = renP f ps := by simp [renK]
theorem renK_at {f : Nat → Int} {ps : List Lt.P} {j : Nat} (h : j < ps.length) : (renK f ps j).getD j default = ps[j] := by
  unfold renK
  have hl : (renP f (ps.take j)).length = j := by rw [renP_len]; simp; omega
  rw [List.getD_eq_getElem?_getD, List.getElem?_append_right (by omega), hl]
  simp [h]
theorem renK_set {f : Nat → Int} {ps : List Lt.P} {j : Nat} (h : j < ps.length) : (renK f ps j).set j ⟨f ps[j].l.toNat, ps[j].m⟩ = renK f ps (j + 1) := by
  unfold renK
  have hl : (renP f (ps.take j)).length = j := by rw [renP_len]; simp; omega
  rw [List.set_append_right _ _ (by omega), hl, Nat.sub_self, List.drop_eq_getElem_cons h, List.set_cons_zero, List.take_succ_eq_append_getElem h, show renP f (ps.take j ++ [ps[j]]) = renP f (ps.take j) ++ [⟨f ps[j].l.toNat, ps[j].m⟩] by unfold renP; rw [List.map_append]; rfl, List.append_assoc]
  rfl
theorem partsC_set : ∀ (ps : List Lt.P) (j : Nat) (l : Int), j < ps.length → (partsC ps).set (j * 2) (.int .i64 l) = partsC (ps.set j ⟨l, (ps.getD j default).m⟩)
  | p :: r, 0, l, _ => by simp [partsC, partC]
  | p :: r, j + 1, l, h => by
    have := partsC_set r j l (by simpa using h)
    rw [show (j + 1) * 2 = j * 2 + 1 + 1 by omega]
    simp only [partsC, partC, List.flatMap_cons, List.cons_append, List.nil_append, List.set_cons_succ, List.getD_cons_succ] at this ⊢
    rw [this]

set_option maxRecDepth 20000 in
set_option maxHeartbeats 1000000 in
theorem renumbered_any (x : Lt.L) (v : Value) (f : Nat → Int) (n g : Nat) (w : World) (hv : Parts w v x.ps) (hl : x.ps.length ≤ 1000) (hin : ∀ p ∈ x.ps, 0 ≤ p.l ∧ p.l < n) (hn : n ≤ 1000) (hg : BlockAt w g (fnC n f) 3) :
    Calls Try.prog 89 #[lotV x v, .slice (some ⟨g, 0, none⟩) n n] w fun e w' => ∃ u, e = .returned (.agg #[.int .i64 x.k, .int .i64 x.m, u]) ∧ PartsT w' u (renP f x.ps) ∧ Below w.heap.size w w' := by
  obtain ⟨xk, xm, ps⟩ := x
  dsimp only at hv hl hin ⊢
  obtain ⟨a, c, rfl⟩ := hv.form
  have bX := (BlockAt.new w #[.int .i64 xk, .int .i64 xm, .slice a ps.length c] 25).alloc (.cells #[.int .i64 0, .int .i64 0, .slice none 0 0] 25)
  have bR := BlockAt.new (w.alloc (.cells #[.int .i64 xk, .int .i64 xm, .slice a ps.length c] 25)) #[.int .i64 0, .int .i64 0, .slice none 0 0] 25
  have hw0 := below_alloc (below_alloc (Below.refl w.heap.size w) (.cells #[.int .i64 xk, .int .i64 xm, .slice a ps.length c] 25)) (.cells #[.int .i64 0, .int .i64 0, .slice none 0 0] 25)
  simp only [World.size_alloc] at bR
  have CL := Lib.hid (cloneParts_any (.slice a ps.length c) ps _ (hv.all hw0) hl)
  have HB := Lib.hid (And.intro bX (And.intro bR (And.intro hw0 hg)))
  have x2 := bX.cell 2
  have HIN := Lib.hid hin
  clear bX bR hw0 hv hg hin
  go_enter Try.func89, Try.ntmps89
  go_wp2_with fail
  refine CL.out.mono ?_
  rintro e w1 ⟨u, rfl, hrow, hb1⟩
  have hb1' : Below w.heap.size w w1 := below_step HB.out.2.2.1 hb1
  have bX := HB.out.1.below hb1 HB.out.1.lt
  have bR := HB.out.2.1.below hb1 HB.out.2.1.lt
  have hszw : w.heap.size + 1 + 1 ≤ w1.heap.size := by have := hb1.size; simpa using this
  obtain ⟨ua, uc, rfl⟩ := (PartsT.row hrow).1.form
  have e2 := bX.frozen 2
  have hcx := bX.cell 2
  have hlx := bX.lt
  have hp2 : (w1.setCell ⟨w.heap.size, 2, none⟩ (.slice ua ps.length uc)).ownsRow (w.heap.size + 1 + 1) 35 2 (.slice ua ps.length uc) ps.length (partsC (renK f ps 0)) := by
    rw [renK_zero]
    have hrow2 : w1.ownsRow (w.heap.size + 1 + 1) 35 2 (.slice ua ps.length uc) ps.length (partsC ps) := by simpa only [World.size_alloc] using hrow
    exact RowKit.ownsRow_setCell_below hrow2 (by simp; omega) _
  have bX2 : BlockAt (w1.setCell ⟨w.heap.size, 2, none⟩ (.slice ua ps.length uc)) w.heap.size #[.int .i64 xk, .int .i64 xm, .slice ua ps.length uc] 25 := bX.set 2 _
  have bR2 : BlockAt (w1.setCell ⟨w.heap.size, 2, none⟩ (.slice ua ps.length uc)) (w.heap.size + 1) #[.int .i64 0, .int .i64 0, .slice none 0 0] 25 := bR.other (by omega) _
  have H0 := Lib.hid (And.intro hp2 (And.intro bX2 (And.intro bR2 (hb1'.setCell (p := ⟨w.heap.size, 2, none⟩) (by simp) (.slice ua ps.length uc)))))
  clear hrow hb1 hb1' bX bR hp2 bX2 bR2 CL
  go_wp2
  clear e2 hcx hlx x2
  go_loopw [13] (fun t wr => ∃ j : Nat, j ≤ ps.length ∧ t = .int .i64 j ∧ Hid (wr.ownsRow (w.heap.size + 1 + 1) 35 2 (.slice ua ps.length uc) ps.length (partsC (renK f ps j)) ∧ BlockAt wr w.heap.size #[.int .i64 xk, .int .i64 xm, .slice ua ps.length uc] 25 ∧ BlockAt wr (w.heap.size + 1) #[.int .i64 0, .int .i64 0, .slice none 0 0] 25 ∧ Below w.heap.size w wr)) (fun t _ => ps.length - (intOf t).toNat)
  case atStart => exact ⟨0, Nat.zero_le _, rfl, H0⟩
  case round =>
    obtain ⟨j, hj, rfl, hg⟩ := hrel
    clear H0
    obtain ⟨hx, bX, bR, hw⟩ := hg.out
    by_cases hlt : j < ps.length
    · obtain ⟨g2, rfl⟩ : ∃ g2, ua = some ⟨g2, 0, none⟩ := by
        rcases hx.2 with ⟨_, h0⟩ | ⟨g2, cap, cur, h1, _⟩
        · omega
        · simp only [Value.slice.injEq] at h1
          exact ⟨g2, h1.1⟩
      obtain ⟨hq0, hq1⟩ := HIN.out _ (List.getElem_mem hlt)
      obtain ⟨q, hq⟩ : ∃ q : Nat, ps[j].l = (q : Int) := ⟨ps[j].l.toNat, by omega⟩
      have hpl := partsC_len (renK f ps j)
      rw [renK_len] at hpl
      obtain ⟨k1, k2⟩ := partsC_get (renK f ps j) j (by rw [renK_len]; exact hlt)
      rw [renK_at hlt, hq] at k1
      have c1 := (World.ownsRow.cellAt hx (j * 2) (by omega)).trans k1
      have f1 := World.ownsRow.frozenAt hx (j * 2)
      have cg := ((HB.out.2.2.2.below hw HB.out.2.2.2.lt).cell q).trans (fnC_at (n := n) (f := f) (by omega))
      have c2 := bX.cell 2
      obtain ⟨hx2, hgrow⟩ := World.ownsRow.stored hx (j * 2) (.int .i64 (f q))
      have hset := partsC_set (renK f ps j) j (f q) (by rw [renK_len]; exact hlt)
      rw [renK_at hlt, show (⟨f q, ps[j].m⟩ : Lt.P) = ⟨f ps[j].l.toNat, ps[j].m⟩ by rw [hq, Int.toNat_natCast], renK_set hlt] at hset
      rw [hset] at hx2
      have hg2b : w.heap.size + 1 + 1 ≤ g2 := (World.ownsRow.lt hx g2 rfl).1
      have hw2 := hw.grown hgrow (by have := hw.size; omega) (fun j e => by simp at e; subst e; omega)
      have hbx2 : BlockAt (wr.setCell ⟨g2, j * 2, none⟩ (.int .i64 (f q))) w.heap.size #[.int .i64 xk, .int .i64 xm, .slice (some ⟨g2, 0, none⟩) ps.length uc] 25 := bX.other (by omega) _
      have hbr2 : BlockAt (wr.setCell ⟨g2, j * 2, none⟩ (.int .i64 (f q))) (w.heap.size + 1) #[.int .i64 0, .int .i64 0, .slice none 0 0] 25 := bR.other (by omega) _
      have HN := Lib.hid (And.intro hx2 (And.intro hbx2 (And.intro hbr2 hw2)))
      have hqn : q < n := by omega
      have hgs := (World.ownsRow.lt hx g2 rfl).2
      clear hx bX bR hw hg hx2 hgrow hset hw2 hbx2 hbr2 k1 k2 hq hq0 hq1 hpl hg2b
      go_wp2
      go_region
      go_wp2
      go_roundw
      case rel => exact ⟨j + 1, by omega, by go_num, Lib.hid ⟨HN.out.1, HN.out.2.1.drew, HN.out.2.2.1.drew, HN.out.2.2.2.drew⟩⟩
      case measure => simp [intOf]; omega
    · obtain rfl : j = ps.length := by omega
      have hpt : PartsT wr (.slice ua ps.length uc) (renP f ps) := PartsT.row (by rw [renP_len, ← renK_all]; exact hx)
      have hpt3 : PartsT (((wr.setCell ⟨w.heap.size + 1, 0, none⟩ (.int .i64 xk)).setCell ⟨w.heap.size + 1, 1, none⟩ (.int .i64 xm)).setCell ⟨w.heap.size + 1, 2, none⟩ (.slice ua ps.length uc)) (.slice ua ps.length uc) (renP f ps) := hpt.setLot bR _ _ _
      have hw3 : Below w.heap.size w (((wr.setCell ⟨w.heap.size + 1, 0, none⟩ (.int .i64 xk)).setCell ⟨w.heap.size + 1, 1, none⟩ (.int .i64 xm)).setCell ⟨w.heap.size + 1, 2, none⟩ (.slice ua ps.length uc)) := ((hw.setCell (by simp) _).setCell (by simp) _).setCell (by simp) _
      have bR3 : BlockAt (((wr.setCell ⟨w.heap.size + 1, 0, none⟩ (.int .i64 xk)).setCell ⟨w.heap.size + 1, 1, none⟩ (.int .i64 xm)).setCell ⟨w.heap.size + 1, 2, none⟩ (.slice ua ps.length uc)) (w.heap.size + 1) #[.int .i64 xk, .int .i64 xm, .slice ua ps.length uc] 25 := ((bR.set 0 _).set 1 _).set 2 _
      have HN := Lib.hid (And.intro hpt3 hw3)
      have c0 := bX.cell 0
      have c1 := bX.cell 1
      have c2 := bX.cell 2
      have e0 := bR.cell 0
      have e1 := bR.cell 1
      have e2 := bR.cell 2
      have f0 := bR.frozen 0
      have f1 := bR.frozen 1
      have f2 := bR.frozen 2
      have hsz := bR.lt
      have d0 := bR3.cell 0
      have d1 := bR3.cell 1
      have d2 := bR3.cell 2
      clear hx bX bR hw hg hpt hpt3 hw3 bR3
      go_wp2
      exact bodyPost_ret (v := .agg #[.int .i64 xk, .int .i64 xm, .slice ua ps.length uc]) (by simp [results, Try.results89, go_sem, d0, d1, d2, hsz]) rfl ⟨_, rfl, HN.out⟩
end Go.Proofs.Ytccjbefmcifaeaa
