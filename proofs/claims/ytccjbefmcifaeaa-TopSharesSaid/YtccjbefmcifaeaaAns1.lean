/- What is left of a lot, what was lost, what was received: both sides. -/
import Derived.Test.YtccjbefmcifaeaaLong
namespace Go.Proofs.Ytccjbefmcifaeaa
open Go.RowKit

def leftR (ls : List Lt.L) (n : Int) : Int := if numE ls [n] = 0 then Lt.left ls n.toNat else 0
def lostI (x : Lt.L) : Int := if x.ps.length = 0 then 0 else Lt.takes x.ps - x.m
def lostR (ls : List Lt.L) (n : Int) : Int := if numE ls [n] = 0 then lostI (ls.getD n.toNat default) else 0

theorem left_any (v : Value) (ls : List Lt.L) (n : Int) (w : World) (hv : Lots w v ls) (hsh : short ls) :
    Calls Try.prog 24 #[v, .int .i64 n] w fun e w' => e = .returned (.tuple #[.int .i64 (leftR ls n), .int .i64 (numE ls [n])]) ∧ Below w.heap.size w w' := by
  have hb1 := below_alloc (Below.refl w.heap.size w) (.cells #[.int .i64 n] 3)
  have N := Lib.hid (nums_one v ls n w.heap.size _ (hv.all hb1) hsh (BlockAt.new w #[.int .i64 n] 3))
  have HB := Lib.hid (And.intro hb1 hv)
  obtain ⟨a, c, rfl⟩ := hv.form
  clear hb1 hv hsh
  by_cases hz : numE ls [n] = 0
  · obtain ⟨h0, h1, h2⟩ := numE_zero hz
    obtain ⟨hl, herr, _⟩ := Lt.valE_zero h0
    have HR := Lib.hid (show leftR ls n = Lt.left ls n.toNat by unfold leftR; rw [if_pos hz])
    have HZ := Lib.hid hz
    rw [hz] at N
    obtain ⟨i, rfl⟩ : ∃ i : Nat, n = (i : Int) := ⟨n.toNat, by omega⟩
    simp only [Int.toNat_natCast] at HR
    have L := Lib.hid (fun W (hW : Below w.heap.size w W) => leftOf_any _ ls i W (HB.out.2.all hW) hl (fun j hj => Lt.fine_of (herr j hj)) (by omega))
    clear hz h0 h1 h2 hl herr
    generalize hq : Lt.left ls i = q at *
    have HQ := Lib.hid hq
    clear hq
    go_enter Try.func24, Try.ntmps24
    go_wp2_with fail
    refine N.out.mono ?_
    rintro e w1 ⟨rfl, hb⟩
    have hw := below_step HB.out.1 hb
    have L1 := Lib.hid (L.out _ hw)
    clear hb N L
    go_wp2_with fail
    refine L1.out.mono ?_
    rintro e w2 ⟨rfl, hb2⟩
    have hw2 := below_step hw hb2
    go_wp2
    go_ret2
    exact ⟨by rw [HR.out, HZ.out]; rfl, hw2⟩
  · have HR := Lib.hid (show leftR ls n = 0 by unfold leftR; rw [if_neg hz])
    have hne : (numE ls [n] != 0) = true := by simpa using hz
    generalize hq : numE ls [n] = q at *
    have HQ := Lib.hid hq
    clear hz hq
    go_enter Try.func24, Try.ntmps24
    go_wp2_with fail
    refine N.out.mono ?_
    rintro e w1 ⟨rfl, hb⟩
    have hw := below_step HB.out.1 hb
    clear hb N
    go_wp2
    go_ret2
    exact ⟨by rw [HR.out]; rfl, hw⟩
theorem refLeft_any (v : Value) (ls : List Lt.L) (n : Int) (w : World) (hv : Lots w v ls) (hsh : short ls) :
    Calls Try.prog 25 #[v, .int .i64 n] w fun e w' => e = .returned (.tuple #[.int .i64 (leftR ls n), .int .i64 (numE ls [n])]) ∧ Below w.heap.size w w' := by
  have N := Lib.hid (named_any v ls n n w hv hsh)
  rw [numE_same] at N
  have HB := Lib.hid hv
  obtain ⟨a, c, rfl⟩ := hv.form
  clear hv hsh
  by_cases hz : numE ls [n] = 0
  · obtain ⟨h0, h1, h2⟩ := numE_zero hz
    obtain ⟨hl, herr, _⟩ := Lt.valE_zero h0
    have HR := Lib.hid (show leftR ls n = Lt.left ls n.toNat by unfold leftR; rw [if_pos hz])
    have HZ := Lib.hid hz
    rw [hz] at N
    obtain ⟨i, rfl⟩ : ∃ i : Nat, n = (i : Int) := ⟨n.toNat, by omega⟩
    simp only [Int.toNat_natCast] at HR
    have L := Lib.hid (fun W (hW : Below w.heap.size w W) => ref_left_any _ ls i W (HB.out.all hW) hl (fun j hj => Lt.fine_of (herr j hj)) (by omega))
    clear hz h0 h1 h2 hl herr
    generalize hq : Lt.left ls i = q at *
    have HQ := Lib.hid hq
    clear hq
    go_enter Try.func25, Try.ntmps25
    go_wp2_with fail
    refine N.out.mono ?_
    rintro e w1 ⟨rfl, hw⟩
    have L1 := Lib.hid (L.out _ hw)
    clear N L
    go_wp2_with fail
    refine L1.out.mono ?_
    rintro e w2 ⟨rfl, hb2⟩
    have hw2 := below_step hw hb2
    go_wp2
    go_ret2
    exact ⟨by rw [HR.out, HZ.out]; rfl, hw2⟩
  · have HR := Lib.hid (show leftR ls n = 0 by unfold leftR; rw [if_neg hz])
    have hne : (numE ls [n] != 0) = true := by simpa using hz
    generalize hq : numE ls [n] = q at *
    have HQ := Lib.hid hq
    clear hz hq
    go_enter Try.func25, Try.ntmps25
    go_wp2_with fail
    refine N.out.mono ?_
    rintro e w1 ⟨rfl, hw⟩
    clear N
    go_wp2
    go_ret2
    exact ⟨by rw [HR.out]; rfl, hw⟩

set_option maxHeartbeats 1000000 in
theorem lostIn_any (x : Lt.L) (a : Option Addr) (c : Nat) (w : World) (hp : Parts w (.slice a x.ps.length c) x.ps) (hf : Lt.fine x) :
    Calls Try.prog 67 #[lotV x (.slice a x.ps.length c)] w fun e w' => e = .returned (.int .i64 (lostI x)) ∧ Below w.heap.size w w' := by
  have hb1 := below_alloc (Below.refl w.heap.size w) (.cells #[.int .i64 x.k, .int .i64 x.m, .slice a x.ps.length c] 25)
  have bX := BlockAt.new w #[.int .i64 x.k, .int .i64 x.m, .slice a x.ps.length c] 25
  have R := Lib.hid (received_any x a c (w.alloc (.cells #[.int .i64 x.k, .int .i64 x.m, .slice a x.ps.length c] 25)) (by have := hf.2.1; omega))
  have T := Lib.hid (fun W (hW : Below w.heap.size w W) => taken_any x (.slice a x.ps.length c) W (hp.all hW) (tame_of hf))
  have hbd := Lt.takes_bd hf.2.2
  have h6 := hf.2.1
  have hm := hf.1
  have HB := Lib.hid (And.intro hb1 bX)
  have HL : Hid (lostI x = if x.ps.length = 0 then 0 else Lt.takes x.ps - x.m) := Lib.hid rfl
  clear hb1 bX hp hf
  by_cases h0 : x.ps.length = 0
  · have hd : decide (x.ps.length = 0) = true := by simpa using h0
    have HR := Lib.hid (HL.out.trans (if_pos h0))
    rw [hd] at R
    clear h0 hd
    go_enter Try.func67, Try.ntmps67
    go_wp2_with fail
    refine R.out.mono ?_
    rintro e w1 ⟨rfl, hb⟩
    have hw := below_step HB.out.1 hb
    go_wp2
    go_ret
    exact ⟨ret_int HR.out.symm, hw⟩
  · have hd : decide (x.ps.length = 0) = false := by simpa using h0
    have HR := Lib.hid (HL.out.trans (if_neg h0))
    rw [hd] at R
    have htk : Lt.takes x.ps ≤ 600000 := by omega
    have htk0 : 0 ≤ Lt.takes x.ps := by omega
    clear h0 hd hbd
    go_enter Try.func67, Try.ntmps67
    go_wp2_with fail
    refine R.out.mono ?_
    rintro e w1 ⟨rfl, hb⟩
    have hw := below_step HB.out.1 hb
    have bX := HB.out.2.below hb HB.out.2.lt
    have hS0 : lot3 w1.drew w.heap.size x.k x.m (.slice a x.ps.length c) := ⟨bX.cell 0, bX.cell 1, bX.cell 2⟩
    have T1 := Lib.hid (T.out _ hw.drew)
    have HW := Lib.hid (And.intro hw bX)
    clear hw bX hb HB R T
    go_wp2_with fail
    refine wp_region_seq [(0, true), (2, true), (3, true), (1, false), (4, true), (5, true)] (fun W => lot3 W w.heap.size x.k x.m (.slice a x.ps.length c))
      (by kernel_rfl) (by kernel_rfl) (by kernel_rfl) (by kernel_rfl) (fun d _ _ _ _ h => by cases d <;> exact h) hS0 (fun hS => ?_)
    clear hS0
    repeat (refine SeqH.take (v := ?_) rfl (by rfl) ?_ ?_; rotate_left; (· intro w hSw; (try dsimp only at hSw); obtain ⟨q0, q1, q2⟩ := hSw; go_simp; (try with_reducible rfl)); simp only [Act.put, List.setIfInBounds_toArray, List.set_cons_zero, List.set_cons_succ])
    refine SeqH.step rfl (by rfl) (fun K hK => ?_)
    go_simp
    refine T1.out.mono ?_
    rintro e w2 ⟨rfl, hb2⟩
    have bX2 := HW.out.2.drew.below hb2 HW.out.2.lt
    have hSn : lot3 w2 w.heap.size x.k x.m (.slice a x.ps.length c) := ⟨bX2.cell 0, bX2.cell 1, bX2.cell 2⟩
    have hw2 := below_step HW.out.1.drew hb2
    try dsimp only
    refine hK.out _ _ hSn (fun _ => ?_)
    clear hK K hSn hS bX2 hb2 T1
    try simp only [Act.put, List.setIfInBounds_toArray, List.set_cons_zero, List.set_cons_succ]
    have hwr : IntKind.i64.wrap (Lt.takes x.ps - x.m) = Lt.takes x.ps - x.m := IntWalk.i64_in _ (by omega)
    repeat (refine SeqH.take (v := ?_) rfl (by rfl) ?_ ?_; rotate_left; (· intro w hSw; (try dsimp only at hSw); go_simp; (try with_reducible rfl)); simp only [Act.put, List.setIfInBounds_toArray, List.set_cons_zero, List.set_cons_succ])
    refine SeqH.done ?_
    go_wp2
    go_ret
    exact ⟨ret_int HR.out.symm, hw2⟩
end Go.Proofs.Ytccjbefmcifaeaa
