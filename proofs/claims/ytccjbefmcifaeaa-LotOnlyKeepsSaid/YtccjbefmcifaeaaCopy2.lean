/- Copies of genealogies, and whether two are equal: the reference's. -/
import Derived.Test.YtccjbefmcifaeaaCopy
import Derived.Deep.QuietTactic
import Derived.BigQuiet
namespace Go.Proofs.Ytccjbefmcifaeaa
open Go.RowKit

theorem lotC_one (x : Lt.L) (a : Option Addr) (n c : Nat) : ∀ u ∈ lotC x (.slice a n c), u.oneCell' = true := by
  intro u hu
  simp only [lotC, List.mem_cons, List.not_mem_nil, or_false] at hu
  rcases hu with rfl | rfl | rfl <;> rfl

set_option maxRecDepth 20000 in
set_option maxHeartbeats 1000000 in
theorem refCopy_any (v : Value) (ls : List Lt.L) (w : World) (hv : Lots w v ls) (hsh : short ls) :
    Calls Try.prog 18 #[v] w fun e w' => ∃ u us, e = .returned u ∧ OwnL w.heap.size w' u ls us ∧ Below w.heap.size w w' := by
  obtain ⟨i0, hi, hz0, hz1, hz2⟩ := info_of infoLot
  have hl := hsh.1
  obtain ⟨a, c, rfl, hk⟩ := hv.look
  have HK := Lib.hid hk
  have HS := Lib.hid hsh
  clear hk hv hsh
  go_enter Try.func18, Try.ntmps18
  go_wp2
  go_loopw [3, 4] (fun s t wr => ∃ k : Nat, ∃ us : List Value, k ≤ ls.length ∧ t = .int .i64 k ∧ Hid (OwnL w.heap.size wr s (ls.take k) us ∧ Below w.heap.size w wr)) (fun _ t _ => ls.length - (intOf t).toNat)
  case atStart => exact ⟨0, [], Nat.zero_le _, rfl, Lib.hid ⟨OwnL.nil _ _, Below.refl _ _⟩⟩
  case round =>
    obtain ⟨k, us, hk, rfl, hg⟩ := hrel
    by_cases hlt : k < ls.length
    · obtain ⟨wB, rfl⟩ : ∃ x, x = wr := ⟨wr, rfl⟩
      obtain ⟨b, off, u, rfl, hbl, hlot⟩ := HK.out k hlt
      have hlot := hlot.below hg.out.2 hbl
      have hps6 : (ls.getD k default).ps.length ≤ 1000 := by have := HS.out.2 k hlt; omega
      have HT := Lib.hid (show ls.take (k + 1) = ls.take k ++ [ls.getD k default] by rw [List.take_succ_eq_append_getElem hlt, getD_L hlt])
      have hlen : (ls.take k).length = k := by simp; omega
      generalize ls.getD k default = x at *
      obtain ⟨c0, c1, c2, hpt⟩ := hlot
      obtain ⟨pa, pc, rfl⟩ := hpt.form
      have CL := Lib.hid (copyLot_any x (.slice pa x.ps.length pc) wB hpt hps6)
      have HLEN := Lib.hid hlen
      have hlk1 : (ls.take k).length ≤ 1000 := by omega
      clear hpt hlen
      go_wp2_with fail
      refine CL.out.mono ?_
      rintro e w1 ⟨u2, rfl, hp1, hb1, _⟩
      obtain ⟨va, vc, rfl⟩ := hp1.1.form
      have hown := hg.out.1.all hb1
      have hw1 := below_step hg.out.2 hb1
      have hrow := hown.2.1
      have hsz := hw1.size
      have HP := Lib.hid hp1
      have HO := Lib.hid hown
      have HW := Lib.hid hw1
      clear hp1 hb1 hown hw1 c0 c1 c2 CL
      go_wp2_with (at_builtin; refine wpList_append_own _ rfl _ _ 22 rfl w.heap.size 25 i0 zLot 3 40 ul_lots hi hz0 hz1 hz2 rfl (by decide) _ _ _ rfl (World.ownsRow.alloc hrow _) ⟨_, 0, none⟩ 1 1 (lotC x (.slice va x.ps.length vc)) rfl rfl (lot_at _ _ _ _) (lotC_one _ _ _ _) (by unfold maxLen; omega) (by omega) (by simp; omega) ?_)
      intro v' w2 hown1 hgrow _
      have hrowA : OwnL w.heap.size (w1.alloc (.cells #[.int .i64 x.k, .int .i64 x.m, .slice va x.ps.length vc] 25)) u3 (ls.take k) us := HO.out.all (below_alloc (Below.refl _ _) _)
      have hx2 := hrowA.push (x := x) (HP.out.all (below_alloc (Below.refl _ _) _)) hgrow (by rw [HLEN.out]; exact hown1)
      have hw2 := (HW.out.alloc HW.out.size (.cells #[.int .i64 x.k, .int .i64 x.m, .slice va x.ps.length vc] 25)).grown hgrow (by simp; omega) (fun j e => (World.ownsRow.lt hrow j e).1)
      have HN := Lib.hid (And.intro hx2 hw2)
      clear hown1 hgrow hrow hrowA hx2 hw2 hg
      go_wp2
      go_roundw
      case rel => exact ⟨k + 1, _, by omega, by go_num, by rw [HT.out]; exact HN⟩
      case measure => simp [intOf]; omega
    · obtain rfl : k = ls.length := by omega
      have hx := hg.out.1
      rw [List.take_length] at hx
      have hw := hg.out.2
      obtain ⟨va, vc, rfl⟩ := hx.form
      clear hg
      go_wp2
      go_ret
      exact ⟨_, us, rfl, hx, hw⟩

set_option maxRecDepth 20000 in
set_option maxHeartbeats 2000000 in
/-- Two that read alike are the same. -/
theorem refSame_any (v u : Value) (ls : List Lt.L) (w : World) (hv : Lots w v ls) (hu : Lots w u ls) (hsh : short ls) :
    Calls Try.prog 23 #[v, u] w fun e w' => e = .returned (.bool true) ∧ Below w.heap.size w w' := by
  have hl := hsh.1
  obtain ⟨a, c, rfl, hk⟩ := hv.look
  obtain ⟨a2, c2, rfl, hk2⟩ := hu.look
  have HK := Lib.hid hk
  have HK2 := Lib.hid hk2
  have HS := Lib.hid hsh
  have hn : ((ls.length : Int) != (ls.length : Int)) = false := by simp
  clear hk hk2 hv hu hsh
  go_enter Try.func23, Try.ntmps23
  go_wp2
  go_loopw [5] (fun t wr => ∃ k : Nat, k ≤ ls.length ∧ t = .int .i64 k ∧ Hid (Below w.heap.size w wr)) (fun t _ => ls.length - (intOf t).toNat)
  case atStart => exact ⟨0, Nat.zero_le _, rfl, Lib.hid (Below.refl _ _)⟩
  case round =>
    obtain ⟨k, hk, rfl, hg⟩ := hrel
    by_cases hlt : k < ls.length
    · obtain ⟨wB, rfl⟩ : ∃ x, x = wr := ⟨wr, rfl⟩
      obtain ⟨b, off, y, rfl, hbl, hlot⟩ := HK.out k hlt
      obtain ⟨b2, off2, y2, rfl, hbl2, hlot2⟩ := HK2.out k hlt
      have hlot := hlot.below hg.out hbl
      have hlot2 := hlot2.below hg.out hbl2
      have hps6 : (ls.getD k default).ps.length ≤ 1000 := by have := HS.out.2 k hlt; omega
      generalize ls.getD k default = x at *
      obtain ⟨c0, c1, cc2, hpt⟩ := hlot
      obtain ⟨d0, d1, dd2, hpt2⟩ := hlot2
      obtain ⟨pa, pc, rfl, hpk⟩ := hpt.look
      obtain ⟨pa2, pc2, rfl, hpk2⟩ := hpt2.look
      have HPK := Lib.hid hpk
      have HPK2 := Lib.hid hpk2
      have q1 : (x.k != x.k) = false := by simp
      have q2 : (x.m != x.m) = false := by simp
      have q3 : ((x.ps.length : Int) != (x.ps.length : Int)) = false := by simp
      have HC := Lib.hid (And.intro cc2 dd2)
      have HLT := Lib.hid (show b < wB.heap.size ∧ b2 < wB.heap.size from ⟨Nat.lt_of_lt_of_le hbl hg.out.size, Nat.lt_of_lt_of_le hbl2 hg.out.size⟩)
      clear hpt hpt2 hpk hpk2
      go_wp2
      go_quiet (fail)
      clear c0 c1 d0 d1 q1 q2
      go_wp2
      clear cc2 dd2 q3
      go_loopw [6] (fun t w2 => ∃ j : Nat, j ≤ x.ps.length ∧ t = .int .i64 j ∧ Hid (Below wB.heap.size wB w2)) (fun t _ => x.ps.length - (intOf t).toNat)
      case atStart => exact ⟨0, Nat.zero_le _, rfl, Lib.hid (below_drewN (Below.refl _ _) _)⟩
      case round =>
        obtain ⟨j, hj, rfl, hg2⟩ := hrel
        obtain ⟨wC, rfl⟩ : ∃ x, x = wr := ⟨wr, rfl⟩
        have e2 := (hg2.out.cell (p := ⟨b, off + k * 3 + 2, none⟩) HLT.out.1).trans HC.out.1
        have f2 := (hg2.out.cell (p := ⟨b2, off2 + k * 3 + 2, none⟩) HLT.out.2).trans HC.out.2
        by_cases hjl : j < x.ps.length
        · obtain ⟨pb, po, rfl, hpb, hpp⟩ := HPK.out j hjl
          obtain ⟨pb2, po2, rfl, hpb2, hpp2⟩ := HPK2.out j hjl
          obtain ⟨g0, g1⟩ := hpp.below hg2.out hpb
          obtain ⟨h0, h1⟩ := hpp2.below hg2.out hpb2
          generalize x.ps.getD j default = p at *
          have r1 : (p.l == p.l) = true := by simp
          have r2 : (p.m == p.m) = true := by simp
          have r3 : (p.l != p.l) = false := by simp
          have r4 : (p.m != p.m) = false := by simp
          have HG := Lib.hid hg2.out
          clear hpp hpp2 hg2
          go_wp2
          go_quiet (fail)
          clear g0 g1 h0 h1 e2 f2
          go_wp2
          go_roundw
          case rel => exact ⟨j + 1, by omega, by go_num, Lib.hid (below_drewN HG.out _)⟩
          case measure => simp [intOf]; omega
        · obtain rfl : j = x.ps.length := by omega
          have HG := Lib.hid (below_step hg.out hg2.out)
          clear hg2
          go_wp2
          go_roundw
          case rel => exact ⟨k + 1, by omega, by go_num, HG⟩
          case measure => simp [intOf]; omega
    · obtain rfl : k = ls.length := by omega
      have hw := hg.out
      clear hg
      go_wp2
      go_ret
      exact ⟨rfl, hw⟩
end Go.Proofs.Ytccjbefmcifaeaa
