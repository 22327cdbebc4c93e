/- LotRecalls returns true, whatever the genealogy, the number and the share. -/
import Derived.Test.YtccjbefmcifaeaaRecall
import Derived.Test.YtccjbefmcifaeaaSets4
import Derived.Test.YtccjbefmcifaeaaLong
namespace Go.Proofs.Ytccjbefmcifaeaa
open Go.RowKit

theorem mul_bounds (an ad bn bd : Int) : (-1099511627776 ≤ Fr.mulN an ad bn bd ∧ Fr.mulN an ad bn bd ≤ 1099511627776) ∧ 0 ≤ Fr.mulD an ad bn bd ∧ Fr.mulD an ad bn bd ≤ 1048576 := by
  unfold Fr.mulN Fr.mulD
  split
  · exact ⟨Fr.nu_bound _ _, Fr.de_bound _ _⟩
  · decide
theorem has_sel {p : Nat → Bool} {m k : Nat} (hk : k < m) (hp : p k = true) : hasL (selK p m) k = true := by
  unfold hasL
  rw [List.any_eq_true]
  refine ⟨(k : Int), ?_, by simp⟩
  unfold selK
  rw [List.mem_map]
  exact ⟨k, List.mem_filter.2 ⟨List.mem_range.2 hk, hp⟩, rfl⟩
theorem sel_in {p : Nat → Bool} {m : Nat} {x : Int} (h : x ∈ selK p m) : ∃ k : Nat, x = k ∧ k < m ∧ p k = true := by
  unfold selK at h
  rw [List.mem_map] at h
  obtain ⟨k, hk, rfl⟩ := h
  have := List.mem_filter.1 hk
  exact ⟨k, rfl, List.mem_range.1 this.1, this.2⟩
theorem cmpV_ge {s d : Nat} {rn rd : Int} (h : 0 < rn) : 0 ≤ cmpV s d rn rd ↔ d * rn.toNat ≤ s * rd.toNat := by
  unfold cmpV cmpN
  rw [if_neg (by omega)]
  by_cases h1 : s * rd.toNat < d * rn.toNat
  · rw [if_pos h1]; omega
  · rw [if_neg h1]
    constructor
    · intro _; omega
    · intro _; split <;> omega
/-- A greater share names no more lots. -/
theorem half_more {ls : List Lt.L} {n rn rd : Int} (he : rcE ls n rn rd = 0) (hm : Fr.mulE rn rd 1 2 = 0) :
    rcE ls n (Fr.mulN rn rd 1 2) (Fr.mulD rn rd 1 2) = 0 ∧ ∀ x ∈ rcR ls n rn rd, hasL (rcR ls n (Fr.mulN rn rd 1 2) (Fr.mulD rn rd 1 2)) x = true := by
  have hz : numE ls [n] = 0 := by
    unfold rcE at he
    by_cases hz : numE ls [n] = 0
    · exact hz
    · rw [if_neg hz] at he; exact absurd he hz
  have hk : Fr.ok rn rd = true ∧ 0 < rn := by
    unfold rcE at he
    rw [if_pos hz] at he
    by_cases hk : Fr.ok rn rd = true ∧ 0 < rn
    · exact hk
    · rw [if_neg hk] at he; cases he
  obtain ⟨hk, hpos⟩ := hk
  obtain ⟨k1, k2, k3, k4, _⟩ := Fr.ok_iff.1 hk
  have hb : Fr.both rn rd 1 2 = true := by unfold Fr.both; rw [hk]; decide
  obtain ⟨e1, e2, e3⟩ := Fr.mul_both hb
  rw [e3] at hm
  have hok := Fr.ok_mk hm
  have hval := Fr.val_mk hm
  rw [← e1, ← e2] at hok hval
  generalize Fr.mulN rn rd 1 2 = a at *
  generalize Fr.mulD rn rd 1 2 = b at *
  obtain ⟨j1, j2, j3, j4, _⟩ := Fr.ok_iff.1 hok
  have hval2 : a * (rd * 2) = rn * b := by rw [hval]; rw [Int.mul_one]
  have hapos : 0 < a := by
    rcases Int.lt_or_le 0 a with h | h
    · exact h
    · exfalso
      have h1 : a * (rd * 2) ≤ 0 := Int.mul_nonpos_of_nonpos_of_nonneg h (by omega)
      have h2 : 0 < rn * b := Int.mul_pos hpos (by omega)
      omega
  have hE : rcE ls n a b = 0 := by unfold rcE; rw [if_pos hz, if_pos ⟨hok, hapos⟩]
  refine ⟨hE, fun x hx => ?_⟩
  unfold rcR at hx ⊢
  rw [if_pos he] at hx
  rw [if_pos hE]
  obtain ⟨k, rfl, hkl, hp⟩ := sel_in hx
  refine has_sel hkl ?_
  unfold rcP at hp ⊢
  have h1 := (cmpV_ge hpos).1 (of_decide_eq_true hp)
  refine decide_eq_true ((cmpV_ge hapos).2 ?_)
  obtain ⟨rn', rfl⟩ : ∃ z : Nat, rn = z := ⟨rn.toNat, by omega⟩
  obtain ⟨rd', rfl⟩ : ∃ z : Nat, rd = z := ⟨rd.toNat, by omega⟩
  obtain ⟨a', rfl⟩ : ∃ z : Nat, a = z := ⟨a.toNat, by omega⟩
  obtain ⟨b', rfl⟩ : ∃ z : Nat, b = z := ⟨b.toNat, by omega⟩
  simp only [Int.toNat_natCast] at h1 ⊢
  have hv : a' * (rd' * 2) = rn' * b' := by
    have h3 : ((a' * (rd' * 2) : Nat) : Int) = ((rn' * b' : Nat) : Int) := by
      rw [Int.natCast_mul, Int.natCast_mul, Int.natCast_mul]; exact hval2
    omega
  generalize Sh.S ls (oneO n.toNat) k = s at *
  generalize Sh.D ls (k + 1) = d at *
  have h4 : d * a' * (rd' * 2) ≤ s * b' * (rd' * 2) := by
    rw [Nat.mul_assoc, hv, ← Nat.mul_assoc]
    calc d * rn' * b' ≤ s * rd' * b' := Nat.mul_le_mul_right _ h1
      _ ≤ s * b' * (rd' * 2) := by
        rw [show s * b' * (rd' * 2) = s * rd' * b' * 2 by simp only [Nat.mul_assoc, Nat.mul_comm, Nat.mul_left_comm]]
        omega
  exact Nat.le_of_mul_le_mul_right h4 (by omega)
theorem rcR_len {ls : List Lt.L} (n rn rd : Int) (h : ls.length ≤ 1000) : (rcR ls n rn rd).length ≤ 1000 := by
  unfold rcR
  split
  · exact Nat.le_trans (selK_len _ _) h
  · simp
theorem rcR_nil {ls : List Lt.L} {n rn rd : Int} (h : rcE ls n rn rd ≠ 0) : rcR ls n rn rd = [] := by unfold rcR; rw [if_neg h]

set_option maxRecDepth 20000 in
set_option maxHeartbeats 2000000 in
theorem recalls_walk (v : Value) (ls : List Lt.L) (n rn rd : Int) (w : World) (hv : Lots w v ls) (a1 : -9223372036854775808 ≤ rn) (a2 : rn ≤ 9223372036854775807) (a3 : -9223372036854775808 ≤ rd) (a4 : rd ≤ 9223372036854775807) :
    Calls Try.prog 10 #[v, .int .i64 n, .agg #[.int .i64 rn, .int .i64 rd]] w fun e w' => e = .returned (.bool true) ∧ Below w.heap.size w w' := by
  have bR := BlockAt.new w #[.int .i64 rn, .int .i64 rd] 43
  have hw0 := below_alloc (Below.refl w.heap.size w) (.cells #[.int .i64 rn, .int .i64 rd] 43)
  have L := Lib.hid (long_any v ls _ (hv.all hw0))
  have HB := Lib.hid (And.intro hw0 bR)
  clear hw0 bR
  cases hb : longB ls with
  | true =>
    rw [hb] at L
    clear hb hv a1 a2 a3 a4
    go_enter Try.func10, Try.ntmps10
    go_wp2_with fail
    refine L.out.mono ?_
    rintro e w1 ⟨rfl, rfl⟩
    go_wp2_with fail
    refine (known_any _).mono ?_
    rintro e w2 ⟨rfl, hb2⟩
    have h2 := below_step HB.out.1 hb2
    go_wp2
    go_ret
    exact ⟨rfl, h2⟩
  | false =>
    rw [hb] at L
    have hsh := (longB_short hb).short
    have hl40 : ls.length ≤ 1000 := hsh.1
    have mb := mul_bounds rn rd 1 2
    have C1 := Lib.hid (fun W (hW : Below w.heap.size w W) => lotRecall_any v ls n rn rd W (hv.all hW) hsh a1 a2 a3 a4)
    have C2 := Lib.hid (fun W (hW : Below w.heap.size w W) => refRecall_any v ls n rn rd W (hv.all hW) hsh a1 a2 a3 a4)
    have C3 := Lib.hid (fun W => numMul_any rn rd 1 2 W a1 a2 a3 a4 (by decide) (by decide) (by decide) (by decide))
    have C4 := Lib.hid (fun W (hW : Below w.heap.size w W) => lotRecall_any v ls n (Fr.mulN rn rd 1 2) (Fr.mulD rn rd 1 2) W (hv.all hW) hsh (by omega) (by omega) (by omega) (by omega))
    have HM := Lib.hid (fun he hm => half_more (ls := ls) (n := n) (rn := rn) (rd := rd) he hm)
    have HL1 := rcR_len n rn rd hl40
    have HL2 := rcR_len n (Fr.mulN rn rd 1 2) (Fr.mulD rn rd 1 2) hl40
    have HNIL := Lib.hid (fun h => rcR_nil (ls := ls) (n := n) (rn := rn) (rd := rd) h)
    clear hb hv hsh a1 a2 a3 a4 mb
    generalize rcR ls n (Fr.mulN rn rd 1 2) (Fr.mulD rn rd 1 2) = ys at *
    generalize rcE ls n (Fr.mulN rn rd 1 2) (Fr.mulD rn rd 1 2) = e2 at *
    generalize rcR ls n rn rd = xs at *
    generalize rcE ls n rn rd = e1 at *
    generalize Fr.mulN rn rd 1 2 = hn at *
    generalize Fr.mulD rn rd 1 2 = hd at *
    generalize Fr.mulE rn rd 1 2 = he at *
    have q1 : (e1 != e1) = false := by simp
    go_enter Try.func10, Try.ntmps10
    go_wp2_with fail
    refine L.out.mono ?_
    rintro e w1 ⟨rfl, rfl⟩
    have r0 := HB.out.2.cell 0
    have r1 := HB.out.2.cell 1
    go_wp2_with fail
    refine (C1.out _ HB.out.1).mono ?_
    rintro e w1 ⟨u1, rfl, ho1, h1⟩
    have HB := Lib.hid (And.intro (below_step HB.out.1 h1) (HB.out.2.below h1 HB.out.2.lt))
    have HI := Lib.hid ho1.ints
    clear r0 r1 h1 C1 ho1
    have r0 := HB.out.2.cell 0
    have r1 := HB.out.2.cell 1
    go_wp2_with fail
    refine (C2.out _ HB.out.1).mono ?_
    rintro e w2 ⟨u2, rfl, ho2, h1⟩
    have HB := Lib.hid (And.intro (below_step HB.out.1 h1) (HB.out.2.below h1 HB.out.2.lt))
    have HI := Lib.hid (HI.out.all h1)
    have SM := Lib.hid (sameInts_any u1 u2 xs _ HI.out ho2.ints (by omega))
    clear r0 r1 h1 C2 ho2
    go_wp2_with fail
    refine SM.out.mono ?_
    rintro e w3 ⟨rfl, h1⟩
    have HB := Lib.hid (And.intro (below_step HB.out.1 h1) (HB.out.2.below h1 HB.out.2.lt))
    have HI := Lib.hid (HI.out.all h1)
    clear h1 SM
    have r0 := HB.out.2.cell 0
    have r1 := HB.out.2.cell 1
    go_wp2_with fail
    refine (C3.out _).mono ?_
    rintro e w4 ⟨rfl, h1⟩
    have bH := BlockAt.new w4 #[.int .i64 hn, .int .i64 hd] 43
    have HB := Lib.hid (below_alloc (below_step HB.out.1 h1) (.cells #[.int .i64 hn, .int .i64 hd] 43))
    have HI := Lib.hid ((HI.out.all h1).all (below_alloc (Below.refl _ _) (.cells #[.int .i64 hn, .int .i64 hd] 43)))
    clear h1 r0 r1 C3
    have r0 := bH.cell 0
    have r1 := bH.cell 1
    clear bH
    go_wp2_with fail
    refine (C4.out _ HB.out).mono ?_
    rintro e w5 ⟨u3, rfl, ho3, h1⟩
    have HI := Lib.hid (HI.out.all h1)
    have HI3 := Lib.hid ho3.ints
    have HB := Lib.hid (below_step HB.out h1)
    clear h1 ho3 r0 r1 C4
    obtain ⟨xa, xc, rfl, hxk⟩ := HI.out.look
    have HXK := Lib.hid hxk
    clear hxk HI
    go_wp2
    go_loopw [15] (fun t wr => ∃ k : Nat, k ≤ xs.length ∧ t = .int .i64 k ∧ Hid (Below w5.heap.size w5 wr)) (fun t _ => xs.length - (intOf t).toNat)
    case atStart => exact ⟨0, Nat.zero_le _, rfl, Lib.hid (Below.refl _ _)⟩
    case round =>
      obtain ⟨k, hk, rfl, hg⟩ := hrel
      by_cases hlt : k < xs.length
      · have h10 : e1 = 0 := by
          by_cases h : e1 = 0
          · exact h
          · have := HNIL.out h
            rw [this] at hlt; simp at hlt
        subst h10
        by_cases hhe : he = 0
        · subst hhe
          obtain ⟨rfl, hall⟩ := HM.out rfl rfl
          obtain ⟨b, off, rfl, hb, hc⟩ := HXK.out k hlt
          have hc := (hg.out.cell (p := ⟨b, off + k, none⟩) hb).trans hc
          have hx := hall _ (List.getElem_mem hlt)
          have hgd : xs.getD k 0 = xs[k] := by simp [hlt]
          rw [hgd] at hc
          have HA := Lib.hid (has_any u3 ys xs[k] _ (HI3.out.all hg.out) (by omega))
          rw [hx] at HA
          generalize xs[k] = x at *
          clear hall hx hgd hb
          go_wp2_with fail
          refine HA.out.mono ?_
          rintro e w6 ⟨rfl, h1⟩
          have HN := Lib.hid (below_step hg.out h1)
          clear h1 HA hc
          go_wp2
          go_roundw
          case rel => exact ⟨k + 1, by omega, by go_num, HN⟩
          case measure => simp [intOf]; omega
        · have q3 : (he == 0) = false := by simpa using hhe
          clear hhe HM HNIL
          go_wp2_with fail
          refine (known_any _).mono ?_
          rintro e w7 ⟨rfl, h7⟩
          have h7 := below_step (below_step HB.out hg.out) h7
          go_wp2
          go_ret
          exact ⟨rfl, h7⟩
      · obtain rfl : k = xs.length := by omega
        clear HM HNIL
        go_wp2_with fail
        refine (known_any _).mono ?_
        rintro e w7 ⟨rfl, h7⟩
        have h7 := below_step (below_step HB.out hg.out) h7
        go_wp2
        go_ret
        exact ⟨rfl, h7⟩
end Go.Proofs.Ytccjbefmcifaeaa
