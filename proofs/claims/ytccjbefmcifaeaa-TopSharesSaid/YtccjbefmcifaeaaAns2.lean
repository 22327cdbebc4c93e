/- What was lost in a lot, and what was received of a kind: both sides. -/
import Derived.Test.YtccjbefmcifaeaaAns1
namespace Go.Proofs.Ytccjbefmcifaeaa
open Go.RowKit

set_option maxHeartbeats 1000000 in
theorem lost_any (v : Value) (ls : List Lt.L) (n : Int) (w : World) (hv : Lots w v ls) (hsh : short ls) :
    Calls Try.prog 26 #[v, .int .i64 n] w fun e w' => e = .returned (.tuple #[.int .i64 (lostR ls n), .int .i64 (numE ls [n])]) ∧ Below w.heap.size w w' := by
  have hb1 := below_alloc (Below.refl w.heap.size w) (.cells #[.int .i64 n] 3)
  have N := Lib.hid (nums_one v ls n w.heap.size _ (hv.all hb1) hsh (BlockAt.new w #[.int .i64 n] 3))
  have HB := Lib.hid (And.intro hb1 hv)
  obtain ⟨a, c, rfl, hlk⟩ := hv.look
  have HLK := Lib.hid hlk
  clear hb1 hv hsh hlk
  by_cases hz : numE ls [n] = 0
  · obtain ⟨h0, h1, h2⟩ := numE_zero hz
    obtain ⟨hl, herr, _⟩ := Lt.valE_zero h0
    have HR := Lib.hid (show lostR ls n = lostI (ls.getD n.toNat default) by unfold lostR; rw [if_pos hz])
    have HZ := Lib.hid hz
    rw [hz] at N
    obtain ⟨i, rfl⟩ : ∃ i : Nat, n = (i : Int) := ⟨n.toNat, by omega⟩
    simp only [Int.toNat_natCast] at HR
    have hil : i < ls.length := by omega
    have hfx := Lt.fine_of (herr i hil)
    obtain ⟨b, off, u, rfl, hb, hlot⟩ := HLK.out i hil
    generalize ls.getD i default = x at *
    have HLOT := Lib.hid hlot
    obtain ⟨ua, uc, rfl⟩ := hlot.2.2.2.form
    have L := Lib.hid (fun W (hW : Below w.heap.size w W) => lostIn_any x ua uc W (HLOT.out.2.2.2.all hW) hfx)
    clear hz h0 h1 h2 hl herr hlot hfx
    go_enter Try.func26, Try.ntmps26
    go_wp2_with fail
    refine N.out.mono ?_
    rintro e w1 ⟨rfl, hb⟩
    have hw := below_step HB.out.1 hb
    have L1 := Lib.hid (L.out _ hw)
    obtain ⟨c0, c1, c2, _⟩ := HLOT.out.below hw (by assumption)
    clear hb N L
    go_wp2_with fail
    refine L1.out.mono ?_
    rintro e w2 ⟨rfl, hb2⟩
    have hw2 := below_step hw hb2
    clear c0 c1 c2
    go_wp2
    go_ret2
    exact ⟨by rw [HR.out, HZ.out]; rfl, hw2⟩
  · have HR := Lib.hid (show lostR ls n = 0 by unfold lostR; rw [if_neg hz])
    have hne : (numE ls [n] != 0) = true := by simpa using hz
    generalize hq : numE ls [n] = q at *
    clear hz hq
    go_enter Try.func26, Try.ntmps26
    go_wp2_with fail
    refine N.out.mono ?_
    rintro e w1 ⟨rfl, hb⟩
    have hw := below_step HB.out.1 hb
    clear hb N
    go_wp2
    go_ret2
    exact ⟨by rw [HR.out]; rfl, hw⟩

set_option maxHeartbeats 1000000 in
theorem refLost_any (v : Value) (ls : List Lt.L) (n : Int) (w : World) (hv : Lots w v ls) (hsh : short ls) :
    Calls Try.prog 27 #[v, .int .i64 n] w fun e w' => e = .returned (.tuple #[.int .i64 (lostR ls n), .int .i64 (numE ls [n])]) ∧ Below w.heap.size w w' := by
  have N := Lib.hid (named_any v ls n n w hv hsh)
  rw [numE_same] at N
  obtain ⟨a, c, rfl, hlk⟩ := hv.look
  have HLK := Lib.hid hlk
  clear hv hsh hlk
  by_cases hz : numE ls [n] = 0
  · obtain ⟨h0, h1, h2⟩ := numE_zero hz
    obtain ⟨hl, herr, _⟩ := Lt.valE_zero h0
    have HR := Lib.hid (show lostR ls n = lostI (ls.getD n.toNat default) by unfold lostR; rw [if_pos hz])
    have HZ := Lib.hid hz
    rw [hz] at N
    obtain ⟨i, rfl⟩ : ∃ i : Nat, n = (i : Int) := ⟨n.toNat, by omega⟩
    simp only [Int.toNat_natCast] at HR
    have hil : i < ls.length := by omega
    have hfx := Lt.fine_of (herr i hil)
    obtain ⟨b, off, u, rfl, hb, hlot⟩ := HLK.out i hil
    generalize ls.getD i default = x at *
    have HLOT := Lib.hid hlot
    obtain ⟨ua, uc, rfl⟩ := hlot.2.2.2.form
    have T := Lib.hid (fun W (hW : Below w.heap.size w W) => ref_takes_any x (.slice ua x.ps.length uc) W (HLOT.out.2.2.2.all hW) (tame_of hfx))
    have hbd := Lt.takes_bd hfx.2.2
    have h6 := hfx.2.1
    have hm := hfx.1
    have htk : Lt.takes x.ps ≤ 600000 := by omega
    have htk0 : 0 ≤ Lt.takes x.ps := by omega
    have HL : Hid (lostI x = if x.ps.length = 0 then 0 else Lt.takes x.ps - x.m) := Lib.hid rfl
    clear hz h0 h1 h2 hl herr hlot hfx hbd
    by_cases hp0 : x.ps.length = 0
    · have HL0 := Lib.hid (HL.out.trans (if_pos hp0))
      have hpb : ((x.ps.length : Int) == 0) = true := by simp [hp0]
      go_enter Try.func27, Try.ntmps27
      go_wp2_with fail
      refine N.out.mono ?_
      rintro e w1 ⟨rfl, hw⟩
      obtain ⟨c0, c1, c2, _⟩ := HLOT.out.below hw (by assumption)
      clear N hp0
      go_wp2
      go_ret2
      exact ⟨by rw [HR.out, HZ.out, HL0.out]; rfl, hw⟩
    · have HL0 := Lib.hid (HL.out.trans (if_neg hp0))
      have hpb : ((x.ps.length : Int) == 0) = false := by rw [beq_eq_false_iff_ne]; omega
      go_enter Try.func27, Try.ntmps27
      go_wp2_with fail
      refine N.out.mono ?_
      rintro e w1 ⟨rfl, hw⟩
      obtain ⟨c0, c1, c2, _⟩ := HLOT.out.below hw (by assumption)
      have hS0 : w1.drew.cell? ⟨b, off + i * 3, none⟩ = some (.int .i64 x.k) ∧ w1.drew.cell? ⟨b, off + i * 3 + 1, none⟩ = some (.int .i64 x.m) ∧ w1.drew.cell? ⟨b, off + i * 3 + 2, none⟩ = some (.slice ua x.ps.length uc) := ⟨c0, c1, c2⟩
      have T1 := Lib.hid (T.out _ hw.drew)
      have HW := Lib.hid hw
      clear N hp0 T
      go_wp2_with fail
      clear hw
      refine wp_region_seq [(0, true), (1, true), (2, true), (3, true), (5, true), (6, true), (7, true), (8, true), (9, true), (4, false), (10, true), (11, true), (12, true)] (fun W => W.cell? ⟨b, off + i * 3, none⟩ = some (.int .i64 x.k) ∧ W.cell? ⟨b, off + i * 3 + 1, none⟩ = some (.int .i64 x.m) ∧ W.cell? ⟨b, off + i * 3 + 2, none⟩ = some (.slice ua x.ps.length uc))
        (by kernel_rfl) (by kernel_rfl) (by kernel_rfl) (by kernel_rfl) (fun d _ _ _ _ h => by cases d <;> exact h) hS0 (fun hS => ?_)
      clear hS0
      have hi0 : (0 : Int) ≤ (i : Int) := by omega
      have hi1 : (i : Int) < (ls.length : Int) := by omega
      repeat (refine SeqH.take (v := ?_) rfl (by rfl) ?_ ?_; rotate_left; (· intro w hSw; (try dsimp only at hSw); obtain ⟨q0, q1, q2⟩ := hSw; go_simp; (try with_reducible rfl)); simp only [Act.put, List.setIfInBounds_toArray, List.set_cons_zero, List.set_cons_succ])
      refine SeqH.step rfl (by rfl) (fun K hK => ?_)
      go_simp
      refine T1.out.mono ?_
      rintro e w2 ⟨rfl, hb2⟩
      have hw2 := below_step HW.out.drew hb2
      have hSn : w2.cell? ⟨b, off + i * 3, none⟩ = some (.int .i64 x.k) ∧ w2.cell? ⟨b, off + i * 3 + 1, none⟩ = some (.int .i64 x.m) ∧ w2.cell? ⟨b, off + i * 3 + 2, none⟩ = some (.slice ua x.ps.length uc) :=
        ⟨(HLOT.out.below hw2 hb).1, (HLOT.out.below hw2 hb).2.1, (HLOT.out.below hw2 hb).2.2.1⟩
      try dsimp only
      refine hK.out _ _ hSn (fun _ => ?_)
      clear hK K hSn hS hb2 T1 c0 c1 c2
      try simp only [Act.put, List.setIfInBounds_toArray, List.set_cons_zero, List.set_cons_succ]
      have hwr : IntKind.i64.wrap (Lt.takes x.ps - x.m) = Lt.takes x.ps - x.m := IntWalk.i64_in _ (by omega)
      repeat (refine SeqH.take (v := ?_) rfl (by rfl) ?_ ?_; rotate_left; (· intro w hSw; (try dsimp only at hSw); go_simp; (try with_reducible rfl)); simp only [Act.put, List.setIfInBounds_toArray, List.set_cons_zero, List.set_cons_succ])
      refine SeqH.done ?_
      go_wp2
      go_ret2
      exact ⟨by rw [HR.out, HZ.out, HL0.out]; rfl, hw2⟩
  · have HR := Lib.hid (show lostR ls n = 0 by unfold lostR; rw [if_neg hz])
    have hne : (numE ls [n] != 0) = true := by simpa using hz
    generalize hq : numE ls [n] = q at *
    clear hz hq
    go_enter Try.func27, Try.ntmps27
    go_wp2_with fail
    refine N.out.mono ?_
    rintro e w1 ⟨rfl, hw⟩
    clear N
    go_wp2
    go_ret2
    exact ⟨by rw [HR.out]; rfl, hw⟩
end Go.Proofs.Ytccjbefmcifaeaa
