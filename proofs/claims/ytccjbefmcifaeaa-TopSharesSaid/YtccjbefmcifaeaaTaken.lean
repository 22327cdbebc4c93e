/- What a lot takes: the program's and the reference's sum; whether a lot is received. -/
import Derived.Test.YtccjbefmcifaeaaRat
namespace Go.Proofs.Ytccjbefmcifaeaa
open Go.RowKit

def tame (ps : List Lt.P) : Prop := ps.length ≤ 20 ∧ ∀ p ∈ ps, 1 ≤ p.m ∧ p.m ≤ 100000
theorem tame_bd {ps : List Lt.P} (h : tame ps) (k : Nat) : 0 ≤ Lt.takes (ps.take k) ∧ Lt.takes (ps.take k) ≤ 2000000 := by
  have := Lt.takes_bd (ps := ps.take k) fun p hp => h.2 p (List.mem_of_mem_take hp)
  have h2 : (ps.take k).length ≤ 20 := Nat.le_trans (List.length_take_le' _ _) h.1
  omega
theorem tame_of {x : Lt.L} (h : Lt.fine x) : tame x.ps := ⟨by have := h.2.1; omega, h.2.2⟩

set_option maxRecDepth 20000 in
theorem taken_any (x : Lt.L) (v : Value) (w : World) (hp : Parts w v x.ps) (ht : tame x.ps) :
    Calls Try.prog 93 #[lotV x v] w fun e w' => e = .returned (.int .i64 (Lt.takes x.ps)) ∧ Below w.heap.size w w' := by
  obtain ⟨kk, mm, ps⟩ := x
  dsimp only at hp ht ⊢
  have HB := Lib.hid (tame_bd ht)
  have hlen := ht.1
  obtain ⟨a, c, rfl, hk⟩ := hp.look
  have HK := Lib.hid hk
  have hw0 := below_alloc (Below.refl w.heap.size w) (.cells #[.int .i64 kk, .int .i64 mm, .slice a ps.length c] 25)
  have H0 := Lib.hid hw0
  clear hk hp ht hw0
  go_enter Try.func93, Try.ntmps93
  go_wp2
  go_loopw [3, 9] (fun s t wr => ∃ k : Nat, k ≤ ps.length ∧ t = .int .i64 k ∧ s = .int .i64 (Lt.takes (ps.take k)) ∧ Below w.heap.size w wr) (fun _ t _ => ps.length - (intOf t).toNat)
  case atStart => exact ⟨0, Nat.zero_le _, rfl, rfl, H0.out⟩
  case round =>
    obtain ⟨k, hk, rfl, rfl, hw⟩ := hrel
    by_cases hlt : k < ps.length
    · obtain ⟨b, off, rfl, hb, hpt⟩ := HK.out k hlt
      rw [getD_P hlt] at hpt
      obtain ⟨c0, c1⟩ := hpt.below hw hb
      have hn := Lib.hid (Lt.takes_succ hlt)
      have b1 := HB.out k
      have b2 := HB.out (k + 1)
      rw [hn.out] at b2
      clear hpt
      generalize ps[k] = p at *
      generalize Lt.takes (ps.take k) = s at *
      go_wp2
      go_roundw
      case rel => exact ⟨k + 1, by omega, by go_num, by rw [hn.out], below_alloc hw _⟩
      case measure => simp [intOf]; omega
    · obtain rfl : k = ps.length := by omega
      go_wp2
      go_ret
      exact ⟨ret_int (by rw [List.take_length]), hw⟩

set_option maxRecDepth 20000 in
theorem ref_takes_any (x : Lt.L) (v : Value) (w : World) (hp : Parts w v x.ps) (ht : tame x.ps) :
    Calls Try.prog 36 #[lotV x v] w fun e w' => e = .returned (.int .i64 (Lt.takes x.ps)) ∧ Below w.heap.size w w' := by
  obtain ⟨kk, mm, ps⟩ := x
  dsimp only at hp ht ⊢
  have HB := Lib.hid (tame_bd ht)
  have hlen := ht.1
  obtain ⟨a, c, rfl, hk⟩ := hp.look
  have HK := Lib.hid hk
  have hw0 := below_alloc (Below.refl w.heap.size w) (.cells #[.int .i64 kk, .int .i64 mm, .slice a ps.length c] 25)
  have hbx := BlockAt.new w #[.int .i64 kk, .int .i64 mm, .slice a ps.length c] 25
  have H0 := Lib.hid (And.intro hw0 hbx)
  clear hk hp ht hw0 hbx
  go_enter Try.func36, Try.ntmps36
  go_wp2
  go_loopw [3, 4] (fun s t wr => ∃ k : Nat, k ≤ ps.length ∧ t = .int .i64 k ∧ s = .int .i64 (Lt.takes (ps.take k)) ∧ Hid (Below w.heap.size w wr ∧ BlockAt wr w.heap.size #[.int .i64 kk, .int .i64 mm, .slice a ps.length c] 25)) (fun _ t _ => ps.length - (intOf t).toNat)
  case atStart => exact ⟨0, Nat.zero_le _, rfl, rfl, H0⟩
  case round =>
    obtain ⟨k, hk, rfl, rfl, hg⟩ := hrel
    obtain ⟨hw, hbx⟩ := hg.out
    have d2 : wr.cell? ⟨w.heap.size, 2, none⟩ = some (.slice a ps.length c) := hbx.cell 2
    clear hbx
    by_cases hlt : k < ps.length
    · obtain ⟨b, off, rfl, hb, hpt⟩ := HK.out k hlt
      rw [getD_P hlt] at hpt
      obtain ⟨c0, c1⟩ := hpt.below hw hb
      have hn := Lib.hid (Lt.takes_succ hlt)
      have b1 := HB.out k
      have b2 := HB.out (k + 1)
      rw [hn.out] at b2
      clear hpt hw
      generalize ps[k] = p at *
      generalize Lt.takes (ps.take k) = s at *
      go_wp2
      go_roundw
      case rel => exact ⟨k + 1, by omega, by go_num, by rw [hn.out], hg⟩
      case measure => simp [intOf]; omega
    · obtain rfl : k = ps.length := by omega
      go_wp2
      go_ret
      exact ⟨ret_int (by rw [List.take_length]), hw⟩

theorem received_any (x : Lt.L) (a : Option Addr) (c : Nat) (w : World) (hl : x.ps.length ≤ 1000) :
    Calls Try.prog 69 #[lotV x (.slice a x.ps.length c)] w fun e w' => e = .returned (.bool (decide (x.ps.length = 0))) ∧ Below w.heap.size w w' := by
  have H0 := Lib.hid (below_alloc (Below.refl w.heap.size w) (.cells #[.int .i64 x.k, .int .i64 x.m, .slice a x.ps.length c] 25))
  obtain ⟨kk, mm, ps⟩ := x
  dsimp only at hl H0 ⊢
  generalize ps.length = n at *
  by_cases h : n = 0
  · subst h
    go_enter Try.func69, Try.ntmps69
    go_wp2
    go_ret
    exact ⟨rfl, H0.out⟩
  · have h1 : (decide (n = 0)) = false := by simpa using h
    have h0 : ((n : Int) == 0) = false := by simpa using h
    rw [h1]
    clear h h1
    go_enter Try.func69, Try.ntmps69
    go_wp2
    go_ret
    exact ⟨rfl, H0.out⟩
end Go.Proofs.Ytccjbefmcifaeaa
