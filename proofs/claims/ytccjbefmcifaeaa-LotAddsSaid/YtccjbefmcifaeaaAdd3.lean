/- A genealogy with one more lot: the reference's. -/
import Derived.Test.YtccjbefmcifaeaaAdd2
namespace Go.Proofs.Ytccjbefmcifaeaa
open Go.RowKit

set_option maxRecDepth 20000 in
set_option maxHeartbeats 2000000 in
theorem refAdd_any (v vx : Value) (ls : List Lt.L) (x : Lt.L) (w : World) (hv : Lots w v ls) (hp : Parts w vx x.ps) (hsh : short ls) (hl : ls.length ≤ 999) (hx : x.ps.length ≤ 20) :
    Calls Try.prog 20 #[v, lotV x vx] w fun e w' => ∃ y us, e = .returned (.tuple #[y, .int .i64 (addE ls x)]) ∧ OwnL w.heap.size w' y (addR ls x) us ∧ Below w.heap.size w w' := by
  have hshx : short (ls ++ [x]) := ⟨by simp; omega, fun j hj => by
    rw [List.length_append, List.length_singleton] at hj
    by_cases e : j < ls.length
    · rw [show (ls ++ [x]).getD j default = ls.getD j default by simp [List.getD, List.getElem?_append_left e]]
      exact hsh.2 j e
    · have e : j = ls.length := by omega
      subst e
      rw [show (ls ++ [x]).getD ls.length default = x by simp]; exact hx⟩
  obtain ⟨va, vc, rfl⟩ := hp.form
  obtain ⟨la, lc, rfl⟩ := hv.form
  obtain ⟨xk, xm, ps⟩ := x
  dsimp only at hp hx ⊢
  have hw0 := below_alloc (Below.refl w.heap.size w) (.cells #[.int .i64 xk, .int .i64 xm, .slice va ps.length vc] 25)
  have bX := BlockAt.new w #[.int .i64 xk, .int .i64 xm, .slice va ps.length vc] 25
  have V := Lib.hid (ref_validate_any _ ls _ (hv.all hw0) hsh)
  have H0 := Lib.hid (And.intro hw0 bX)
  by_cases h0 : Lt.valE ls = 0
  · have HE := Lib.hid (show addE ls ⟨xk, xm, ps⟩ = Lt.valE (ls ++ [⟨xk, xm, ps⟩]) by unfold addE; rw [if_pos h0])
    have HR := Lib.hid (show addR ls ⟨xk, xm, ps⟩ = if addE ls ⟨xk, xm, ps⟩ = 0 then ls ++ [⟨xk, xm, ps⟩] else [] from rfl)
    have CL := Lib.hid (fun W (hW : Below w.heap.size w W) => refCopy_any _ ls W (hv.all hW) hsh)
    have CX := Lib.hid (fun W (hW : Below w.heap.size w W) => copyLot_any ⟨xk, xm, ps⟩ _ W (hp.all hW) (by show ps.length ≤ 1000; omega))
    have V2 := Lib.hid (fun u W (hu : Lots W u (ls ++ [⟨xk, xm, ps⟩])) => ref_validate_any u _ W hu hshx)
    rw [h0] at V
    generalize addR ls ⟨xk, xm, ps⟩ = R at *
    generalize addE ls ⟨xk, xm, ps⟩ = E at *
    clear h0 hv hp hsh hw0 bX hshx
    go_enter Try.func20, Try.ntmps20
    go_wp2_with fail
    refine V.out.mono ?_
    rintro e w1 ⟨rfl, hb1⟩
    have H1 := Lib.hid (And.intro (below_step H0.out.1 hb1) (H0.out.2.below hb1 H0.out.2.lt))
    clear hb1 H0 V
    go_wp2_with fail
    refine wp_region_seq [(0, true), (2, true), (1, false), (3, false), (4, false), (5, false), (6, true)] (fun W => W.cell? ⟨w.heap.size, 0, none⟩ = some (.int .i64 xk) ∧ W.cell? ⟨w.heap.size, 1, none⟩ = some (.int .i64 xm) ∧ W.cell? ⟨w.heap.size, 2, none⟩ = some (.slice va ps.length vc))
      (by kernel_rfl) (by kernel_rfl) (by kernel_rfl) (by kernel_rfl) (fun d _ _ _ _ h => by cases d <;> exact h) ⟨H1.out.2.drew.cell 0, H1.out.2.drew.cell 1, H1.out.2.drew.cell 2⟩ (fun hS => ?_)
    have H1 := Lib.hid (And.intro H1.out.1.drew H1.out.2.drew)
    generalize w1.drew = X0 at *
    clear hS
    repeat (refine SeqH.take (v := ?_) rfl (by rfl) ?_ ?_; rotate_left; (· intro w hSw; (try dsimp only at hSw); (try (obtain ⟨f0, f1, f2⟩ := hSw)); go_simp; (try with_reducible rfl)); simp only [Act.put, List.setIfInBounds_toArray, List.set_cons_zero, List.set_cons_succ])
    refine SeqH.step rfl (by rfl) (fun K hK => ?_)
    go_simp
    refine (CL.out _ H1.out.1).mono ?_
    rintro e X1 ⟨uc, us, rfl, ho, hb⟩
    have H2 := Lib.hid (And.intro (below_step H1.out.1 hb) (H1.out.2.below hb H1.out.2.lt))
    have HO := Lib.hid ho
    have hs1 : X0.heap.size ≤ X1.heap.size := hb.size
    have hX0 : w.heap.size < X0.heap.size := H1.out.2.lt
    clear ho hb H1 CL
    try dsimp only
    refine hK.out _ _ ⟨H2.out.2.cell 0, H2.out.2.cell 1, H2.out.2.cell 2⟩ (fun _ => ?_)
    clear hK K
    try simp only [Act.put, List.setIfInBounds_toArray, List.set_cons_zero, List.set_cons_succ]
    repeat (refine SeqH.take (v := ?_) rfl (by rfl) ?_ ?_; rotate_left; (· intro w hSw; (try dsimp only at hSw); (try (obtain ⟨f0, f1, f2⟩ := hSw)); go_simp; (try with_reducible rfl)); simp only [Act.put, List.setIfInBounds_toArray, List.set_cons_zero, List.set_cons_succ])
    refine SeqH.step rfl (by rfl) (fun K hK => ?_)
    go_simp
    refine (CX.out _ H2.out.1).mono ?_
    rintro e X2 ⟨ux, rfl, hpx, hb, _⟩
    have H3 := Lib.hid (And.intro (below_step H2.out.1 hb) (H2.out.2.below hb H2.out.2.lt))
    have HO := Lib.hid (HO.out.all hb)
    have HPX := Lib.hid hpx
    have hs2 : X0.heap.size ≤ X2.heap.size := Nat.le_trans hs1 hb.size
    obtain ⟨ya, yc, rfl⟩ := hpx.1.form
    clear hb H2 CX hpx
    try dsimp only
    refine hK.out _ _ ⟨H3.out.2.cell 0, H3.out.2.cell 1, H3.out.2.cell 2⟩ (fun _ => ?_)
    clear hK K
    try simp only [Act.put, List.setIfInBounds_toArray, List.set_cons_zero, List.set_cons_succ]
    repeat (refine SeqH.take (v := ?_) rfl (by rfl) ?_ ?_; rotate_left; (· intro w hSw; (try dsimp only at hSw); (try (obtain ⟨f0, f1, f2⟩ := hSw)); go_simp; (try with_reducible rfl)); simp only [Act.put, List.setIfInBounds_toArray, List.set_cons_zero, List.set_cons_succ])
    refine SeqH.step rfl (by rfl) (fun K hK => ?_)
    go_simp
    have hbN := BlockAt.new X2 #[.int .i64 xk, .int .i64 xm, .slice ya ps.length yc] 25
    have hbA := below_alloc (Below.refl X2.heap.size X2) (.cells #[.int .i64 xk, .int .i64 xm, .slice ya ps.length yc] 25)
    generalize X2.alloc (.cells #[.int .i64 xk, .int .i64 xm, .slice ya ps.length yc] 25) = X3 at *
    have H4 := Lib.hid (And.intro (below_step H3.out.1 hbA) (H3.out.2.below hbA H3.out.2.lt))
    have HO := Lib.hid (HO.out.all hbA)
    have HPX := Lib.hid (HPX.out.all hbA)
    have hs3 : X0.heap.size ≤ X3.heap.size := Nat.le_trans hs2 hbA.size
    clear hbA H3
    generalize X2.heap.size = cx at *
    try dsimp only
    refine hK.out _ _ ⟨H4.out.2.cell 0, H4.out.2.cell 1, H4.out.2.cell 2⟩ (fun _ => ?_)
    clear hK K
    try simp only [Act.put, List.setIfInBounds_toArray, List.set_cons_zero, List.set_cons_succ]
    repeat (refine SeqH.take (v := ?_) rfl (by rfl) ?_ ?_; rotate_left; (· intro w hSw; (try dsimp only at hSw); (try (obtain ⟨f0, f1, f2⟩ := hSw)); go_simp; (try with_reducible rfl)); simp only [Act.put, List.setIfInBounds_toArray, List.set_cons_zero, List.set_cons_succ])
    obtain ⟨vr, Z, hrun, hrz, hgz⟩ := run_append_lot X3 uc (.slice ya ps.length yc) ls us ⟨xk, xm, ps⟩ rfl HO.out.2.1 hbN hs3 (by omega)
    have hoZ := HO.out.push (x := ⟨xk, xm, ps⟩) HPX.out hgz hrz
    have hwZ := H4.out.1.grown hgz H4.out.1.size (fun j e => by have := (World.ownsRow.lt HO.out.2.1 j e).1; omega)
    have bXZ : BlockAt Z w.heap.size _ _ := (hgz.block w.heap.size H4.out.2.lt (fun e => by have := (World.ownsRow.lt HO.out.2.1 _ e.symm).1; omega)).trans H4.out.2
    refine SeqH.step rfl (by rfl) (fun K hK => ?_)
    refine oper_append rfl rfl rfl hrun ?_
    try dsimp only
    refine hK.out _ _ ⟨bXZ.cell 0, bXZ.cell 1, bXZ.cell 2⟩ (fun _ => ?_)
    clear hK K
    try simp only [Act.put, List.setIfInBounds_toArray, List.set_cons_zero, List.set_cons_succ]
    repeat (refine SeqH.take (v := ?_) rfl (by rfl) ?_ ?_; rotate_left; (· intro w hSw; (try dsimp only at hSw); (try (obtain ⟨f0, f1, f2⟩ := hSw)); go_simp; (try with_reducible rfl)); simp only [Act.put, List.setIfInBounds_toArray, List.set_cons_zero, List.set_cons_succ])
    refine SeqH.done ?_
    have hoZ := hoZ.mono (Nat.le_of_lt hX0)
    have C2 := Lib.hid (V2.out vr Z hoZ.lots)
    generalize ls ++ [(⟨xk, xm, ps⟩ : Lt.L)] = LL at *
    have HF := Lib.hid (And.intro hoZ hwZ)
    obtain ⟨ra, rc, rfl⟩ := hoZ.form
    clear hoZ hwZ bXZ hrun hrz hgz HO HPX H4 hbN V2
    go_wp2_with fail
    refine C2.out.mono ?_
    rintro e w2 ⟨rfl, hb2⟩
    have HF := Lib.hid (And.intro (HF.out.1.all hb2) (below_step HF.out.2 hb2))
    clear hb2 C2
    by_cases h2 : Lt.valE LL = 0
    · rw [h2] at HE
      rw [HE.out, if_pos rfl] at HR
      rw [h2]
      clear h2
      go_wp2
      exact bodyPost_ret (v := .tuple #[.slice ra LL.length rc, .int .i64 0]) (by simp [results, Try.results20, go_sem]) rfl ⟨_, _, by rw [HE.out], by rw [HR.out]; exact HF.out.1, HF.out.2⟩
    · have hne : (Lt.valE LL != 0) = true := by simpa using h2
      rw [if_neg (by rw [HE.out]; exact h2)] at HR
      generalize Lt.valE LL = q at *
      clear h2
      go_wp2
      exact bodyPost_ret (v := .tuple #[.slice none 0 0, .int .i64 q]) (by simp [results, Try.results20, go_sem]) rfl ⟨_, [], by rw [HE.out], by rw [HR.out]; exact OwnL.nil _ _, HF.out.2⟩
  · have hE : addE ls ⟨xk, xm, ps⟩ = Lt.valE ls := by unfold addE; rw [if_neg h0]
    have hR : addR ls ⟨xk, xm, ps⟩ = [] := by unfold addR; rw [hE, if_neg h0]
    rw [hE, hR]
    have hne : (Lt.valE ls != 0) = true := by simpa using h0
    generalize Lt.valE ls = q at *
    clear h0 hv hp hsh bX hshx hE hR
    go_enter Try.func20, Try.ntmps20
    go_wp2_with fail
    refine V.out.mono ?_
    rintro e w1 ⟨rfl, hb1⟩
    have hw1 := below_step H0.out.1 hb1
    clear hb1 V hw0 H0
    go_wp2
    exact bodyPost_ret (v := .tuple #[.slice none 0 0, .int .i64 q]) (by simp [results, Try.results20, go_sem]) rfl ⟨_, [], rfl, OwnL.nil _ _, hw1⟩
end Go.Proofs.Ytccjbefmcifaeaa
