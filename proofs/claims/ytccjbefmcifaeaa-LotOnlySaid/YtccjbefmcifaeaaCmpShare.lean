/- How a share compares with 0: the program's. -/
import Derived.Test.YtccjbefmcifaeaaFrac
import Derived.Test.YtccjbefmcifaeaaPath2
namespace Go.Proofs.Ytccjbefmcifaeaa
open Go.RowKit

def cmpR (ls : List Lt.L) (n m : Int) : Int := if numE ls [n, m] = 0 then cmpN (Sh.S ls (oneO n.toNat) m.toNat * 1) (Sh.D ls (m.toNat + 1) * 0) else 0
theorem valid01 (w : World) : Calls Try.prog 77 #[.agg #[.int .i64 0, .int .i64 1]] w fun e w' => e = .returned (.bool true) ∧ Below w.heap.size w w' := by
  have h := valid_any 0 1 w (by omega) (by omega) (by omega) (by omega)
  rw [show Fr.ok 0 1 = true by rw [ok_in (by omega)]; decide] at h
  exact h
theorem Nums.kb {bm : Nat} {w w2 : World} {v : Value} {fs : List Nat} (h : Nums w v fs) (hb : Below w.heap.size w w2) : Nums w2 v fs := h.all hb

set_option maxRecDepth 100000 in
set_option maxHeartbeats 1000000 in
theorem cmpShare_ok (v : Value) (ls : List Lt.L) (of i : Nat) (w : World) (hv : Lots w v ls) (hsh : short ls) (h0 : Lt.valE ls = 0) (ho : of < ls.length) (hi : i < ls.length) :
    Calls Try.prog 32 #[v, .int .i64 of, .int .i64 i, .agg #[.int .i64 0, .int .i64 1]] w fun e w' => e = .returned (.tuple #[.int .i64 (cmpN (Sh.S ls (oneO of) i * 1) (Sh.D ls (i + 1) * 0)), .int .i64 0]) ∧ Below w.heap.size w w' := by
  obtain ⟨hl, herr, _⟩ := Lt.valE_zero h0
  have hfine := fun j hj => Lt.fine_of (herr j hj)
  have hearly := early_of herr
  have hnum : numE ls [(of : Int), (i : Int)] = 0 := by
    rw [numE_two, if_pos h0, show inR ls (of : Int) = true by unfold inR; simp; omega, show inR ls (i : Int) = true by unfold inR; simp; omega]; rfl
  have bR := (BlockAt.new w #[.int .i64 0, .int .i64 1] 43).alloc (.cells #[.int .i64 of, .int .i64 i] 3)
  have bN := BlockAt.new (w.alloc (.cells #[.int .i64 0, .int .i64 1] 43)) #[.int .i64 of, .int .i64 i] 3
  have hb2 := below_alloc (below_alloc (Below.refl w.heap.size w) (.cells #[.int .i64 0, .int .i64 1] 43)) (.cells #[.int .i64 of, .int .i64 i] 3)
  simp only [World.size_alloc] at bN
  have NT := Lib.hid (nums_two v ls of i (w.heap.size + 1) _ (hv.all hb2) hsh bN)
  rw [hnum] at NT
  have HH := Lib.hid (And.intro hb2 (And.intro bR (And.intro hv (And.intro hfine hearly))))
  obtain ⟨a, c, rfl⟩ := hv.form
  clear hb2 bR bN hv hfine hearly hnum herr hsh
  go_enter Try.func32, Try.ntmps32
  go_wp2_with fail
  refine NT.out.mono ?_
  rintro e w2 ⟨rfl, hb3⟩
  obtain ⟨hb2, bR, hv, hfine, hearly⟩ := HH.out
  have hw2 := below_step hb2 hb3
  have bR2 := bR.below hb3 bR.lt
  have r0 := bR2.cell 0
  have r1 := bR2.cell 1
  have HK := Lib.hid (And.intro hw2 bR2)
  clear hb2 bR hv hfine hearly hw2 bR2 hb3 NT
  go_wp2_with fail
  refine (valid01 _).mono ?_
  rintro e w3 ⟨rfl, hb4⟩
  obtain ⟨hw2, bR2⟩ := HK.out
  have hw3 := (below_step hw2 hb4).drew
  have bR3 := (bR2.below hb4 bR2.lt).drew
  have HK := Lib.hid (And.intro hw3 bR3)
  have hS0 : w3.drew.cell? ⟨w.heap.size, 0, none⟩ = some (.int .i64 0) ∧ w3.drew.cell? ⟨w.heap.size, 1, none⟩ = some (.int .i64 1) := ⟨bR3.cell 0, bR3.cell 1⟩
  clear hw2 bR2 hb4 hw3 bR3 r0 r1
  go_wp2_with fail
  refine wp_region_seq [(0, true), (1, true), (4, true), (6, true), (2, false), (3, false), (5, false), (7, false), (8, true), (9, true)] (fun W => W.cell? ⟨w.heap.size, 0, none⟩ = some (.int .i64 0) ∧ W.cell? ⟨w.heap.size, 1, none⟩ = some (.int .i64 1))
    (by kernel_rfl) (by kernel_rfl) (by kernel_rfl) (by kernel_rfl) (fun d _ _ _ _ h => by cases d <;> exact h) hS0 (fun hS => ?_)
  clear hS0
  generalize w3.drew = w3 at *
  repeat (refine SeqH.take (v := ?_) rfl (by rfl) ?_ ?_; rotate_left; (· intro w hSw; (try dsimp only at hSw); obtain ⟨q0, q1⟩ := hSw; go_simp; (try with_reducible rfl)); simp only [Act.put, List.setIfInBounds_toArray, List.set_cons_zero, List.set_cons_succ])
  refine SeqH.step rfl (by rfl) (fun K hK => ?_)
  go_simp
  refine (alone_any of _).mono ?_
  rintro e w4 ⟨rfl, hal⟩
  obtain ⟨hw3, bR3⟩ := HK.out
  obtain ⟨_, _, hv, hfine, hearly⟩ := HH.out
  have hw4 := below_step hw3 hal.out.2
  have bR4 := bR3.below hal.out.2 bR3.lt
  have SO := Lib.hid (sharesOf_any (.slice a ls.length c) ls of w3.heap.size (Sh.S ls (oneO of)) w4 (hv.all hw4) hl hfine hal.out.1)
  have HK := Lib.hid (And.intro hw4 bR4)
  have hSn : w4.cell? ⟨w.heap.size, 0, none⟩ = some (.int .i64 0) ∧ w4.cell? ⟨w.heap.size, 1, none⟩ = some (.int .i64 1) := ⟨bR4.cell 0, bR4.cell 1⟩
  clear hw3 bR3 hw4 bR4 hal hv hfine hearly
  try dsimp only
  refine hK.out _ _ hSn (fun _ => ?_)
  clear hK K hSn hS
  try simp only [Act.put, List.setIfInBounds_toArray, List.set_cons_zero, List.set_cons_succ]
  repeat (refine SeqH.take (v := ?_) rfl (by rfl) ?_ ?_; rotate_left; (· intro w hSw; (try dsimp only at hSw); obtain ⟨q0, q1⟩ := hSw; go_simp; (try with_reducible rfl)); simp only [Act.put, List.setIfInBounds_toArray, List.set_cons_zero, List.set_cons_succ])
  refine SeqH.step rfl (by rfl) (fun K hK => ?_)
  go_simp
  refine SO.out.mono ?_
  rintro e w5 ⟨bl, bo, bb, bf, bv, bd, bm, rfl, hE⟩
  obtain ⟨hE, ⟨D, hM⟩, hb5⟩ := hE.out
  obtain ⟨hw4, bR4⟩ := HK.out
  obtain ⟨_, _, hv, hfine, hearly⟩ := HH.out
  have hw5 := below_step hw4 hb5
  have bR5 := bR4.below hb5 bR4.lt
  have hbm : w4.heap.size ≤ bm := hE.base
  have SI := Lib.hid (shareIn_any w4 bl bo bb bf bv bd w3.heap.size bm (.slice a ls.length c) ls of hl hfine hearly i hi w5 D hE hM)
  have hdd := hE.d
  have hnd := hE.ne.2.2.2.2.1
  have HN := Lib.hid (And.intro hw5 (And.intro bR5 (And.intro hdd hnd)))
  have hbR : w.heap.size < w4.heap.size := bR4.lt
  have hSn : w5.cell? ⟨w.heap.size, 0, none⟩ = some (.int .i64 0) ∧ w5.cell? ⟨w.heap.size, 1, none⟩ = some (.int .i64 1) := ⟨bR5.cell 0, bR5.cell 1⟩
  clear hE hM hb5 hw4 bR4 hw5 bR5 HK hdd hnd SO hv hfine hearly
  try dsimp only
  refine hK.out _ _ hSn (fun _ => ?_)
  clear hK K hSn
  try simp only [Act.put, List.setIfInBounds_toArray, List.set_cons_zero, List.set_cons_succ]
  repeat (refine SeqH.take (v := ?_) rfl (by rfl) ?_ ?_; rotate_left; (· intro w hSw; (try dsimp only at hSw); obtain ⟨q0, q1⟩ := hSw; go_simp; (try with_reducible rfl)); simp only [Act.put, List.setIfInBounds_toArray, List.set_cons_zero, List.set_cons_succ])
  refine SeqH.step rfl (by rfl) (fun K hK => ?_)
  go_simp
  refine SI.out.mono ?_
  rintro e w6 ⟨rfl, hk⟩
  obtain ⟨_, hk⟩ := hk.out
  obtain ⟨hw5, bR5, hdd, hnd⟩ := HN.out
  obtain ⟨_, _, hv, hfine, hearly⟩ := HH.out
  have hw6 : Below w.heap.size w w6 := ⟨hk.os.trans hw5.os, hk.tape.trans hw5.tape, hk.output.trans hw5.output, Nat.le_trans hw5.size hk.size, fun j hj => (hk.block j (Nat.lt_of_lt_of_le hj hw5.size) (fun e => by have := Option.some.inj e; omega)).trans (hw5.block j hj)⟩
  have bR6 := bR5.kb hk (by omega)
  have hdd6 := hdd.kb hk hnd
  have hfs : ∀ k, k < (segN ls 0 (i + 1)).length → (segN ls 0 (i + 1)).getD k 0 < 9223372036854775808 := by
    intro k hk
    have h1 := Sh.be_le hfine k
    simp [segN] at hk
    simp [segN, hk]; omega
  have hpd : prodL (segN ls 0 (i + 1)) = Sh.D ls (i + 1) := prodL_seg ls 0 (i + 1)
  have hsd := Sh.S_le hearly (oneO of) i hi
  have RT := fracCompare_any (Sh.S ls (oneO of) i) (.slice (some ⟨bd, 0, none⟩) (i + 1) ls.length) (segN ls 0 (i + 1)) 0 1 w6 (nums_seg hdd6 (by omega) (by omega)) (by simp [segN]; omega) hfs (by omega) (by omega) (by rw [Nat.mul_one]; exact Nat.lt_of_le_of_lt hsd (D_small hfine (by omega))) (by rw [Nat.mul_zero]; exact Nat.pow_pos Wd.B_pos)
  rw [hpd] at RT
  have HRT := Lib.hid RT
  have HW := Lib.hid (And.intro hw6 bR6)
  generalize hcv : cmpN (Sh.S ls (oneO of) i * 1) (Sh.D ls (i + 1) * 0) = cv at *
  have HCV := Lib.hid hcv
  have hSn : w6.cell? ⟨w.heap.size, 0, none⟩ = some (.int .i64 0) ∧ w6.cell? ⟨w.heap.size, 1, none⟩ = some (.int .i64 1) := ⟨bR6.cell 0, bR6.cell 1⟩
  clear hw5 bR5 hdd hnd hw6 bR6 hdd6 hfs hpd hsd RT hk HN SI hcv hv hfine hearly
  try dsimp only
  refine hK.out _ _ hSn (fun _ => ?_)
  clear hK K hSn
  try simp only [Act.put, List.setIfInBounds_toArray, List.set_cons_zero, List.set_cons_succ]
  repeat (refine SeqH.take (v := ?_) rfl (by rfl) ?_ ?_; rotate_left; (· intro w hSw; (try dsimp only at hSw); obtain ⟨q0, q1⟩ := hSw; go_simp; (try with_reducible rfl)); simp only [Act.put, List.setIfInBounds_toArray, List.set_cons_zero, List.set_cons_succ])
  refine SeqH.step rfl (by rfl) (fun K hK => ?_)
  go_simp
  refine HRT.out.mono ?_
  rintro e w7 ⟨rfl, hb7⟩
  have hw7 := below_step HW.out.1 hb7
  have bR7 := HW.out.2.below hb7 HW.out.2.lt
  have hSn : w7.cell? ⟨w.heap.size, 0, none⟩ = some (.int .i64 0) ∧ w7.cell? ⟨w.heap.size, 1, none⟩ = some (.int .i64 1) := ⟨bR7.cell 0, bR7.cell 1⟩
  clear bR7 hb7 HW HRT
  try dsimp only
  refine hK.out _ _ hSn (fun _ => ?_)
  clear hK K hSn
  try simp only [Act.put, List.setIfInBounds_toArray, List.set_cons_zero, List.set_cons_succ]
  repeat (refine SeqH.take (v := ?_) rfl (by rfl) ?_ ?_; rotate_left; (· intro w hSw; (try dsimp only at hSw); go_simp; (try with_reducible rfl)); simp only [Act.put, List.setIfInBounds_toArray, List.set_cons_zero, List.set_cons_succ])
  refine SeqH.done ?_
  go_wp2
  go_ret2
  exact ⟨by rw [HCV.out]; rfl, hw7⟩

theorem cmpShare_any (v : Value) (ls : List Lt.L) (n m : Int) (w : World) (hv : Lots w v ls) (hsh : short ls) :
    Calls Try.prog 32 #[v, .int .i64 n, .int .i64 m, .agg #[.int .i64 0, .int .i64 1]] w fun e w' => e = .returned (.tuple #[.int .i64 (cmpR ls n m), .int .i64 (numE ls [n, m])]) ∧ Below w.heap.size w w' := by
  by_cases hz : numE ls [n, m] = 0
  · obtain ⟨h0, ⟨h1, h2⟩, h3, h4⟩ := numE_zero2 hz
    obtain ⟨i, rfl⟩ : ∃ i : Nat, n = (i : Int) := ⟨n.toNat, by omega⟩
    obtain ⟨q, rfl⟩ : ∃ i : Nat, m = (i : Int) := ⟨m.toNat, by omega⟩
    have := cmpShare_ok v ls i q w hv hsh h0 (by omega) (by omega)
    rw [hz, show cmpR ls i q = cmpN (Sh.S ls (oneO i) q * 1) (Sh.D ls (q + 1) * 0) by unfold cmpR; rw [if_pos hz]; rfl]
    exact this
  · have HR := Lib.hid (show cmpR ls n m = 0 by unfold cmpR; rw [if_neg hz])
    have hb2 := below_alloc (below_alloc (Below.refl w.heap.size w) (.cells #[.int .i64 0, .int .i64 1] 43)) (.cells #[.int .i64 n, .int .i64 m] 3)
    have bN := BlockAt.new (w.alloc (.cells #[.int .i64 0, .int .i64 1] 43)) #[.int .i64 n, .int .i64 m] 3
    simp only [World.size_alloc] at bN
    have NT := Lib.hid (nums_two v ls n m (w.heap.size + 1) _ (hv.all hb2) hsh bN)
    have HB := Lib.hid hb2
    obtain ⟨a, c, rfl⟩ := hv.form
    have hne : (numE ls [n, m] != 0) = true := by simpa using hz
    generalize hq : numE ls [n, m] = q at *
    have HQ := Lib.hid hq
    clear hz hq hb2 bN hv hsh
    go_enter Try.func32, Try.ntmps32
    go_wp2_with fail
    refine NT.out.mono ?_
    rintro e w2 ⟨rfl, hb3⟩
    have hw := below_step HB.out hb3
    clear hb3 NT
    go_wp2
    go_ret2
    exact ⟨by rw [HR.out]; rfl, hw⟩
/-- A share is above 0 exactly if a path leads there. -/
theorem share_pos {ls : List Lt.L} (hl : ls.length ≤ 24) (herr : ∀ j, j < ls.length → Lt.errAt ls j = 0) {i : Nat} : ∀ j, j < ls.length → (0 < Sh.S ls (oneO i) j ↔ Reach ls i j) := by
  intro j
  induction j using Nat.strongRecOn with
  | _ j ih =>
    intro hj
    rw [Sh.S_eq (early_of herr) _ hj, reach_iff]
    unfold oneO
    by_cases e : j = i
    · subst e
      rw [if_pos (by simp)]
      exact ⟨fun _ => .inl rfl, fun _ => Sh.D_pos _ _⟩
    · rw [if_neg (by simpa using e)]
      have key : ∀ ps : List Lt.P, (∀ p ∈ ps, 1 ≤ p.m) → (0 < Sh.sumS ls j (Sh.S ls (oneO i)) ps ↔ ∃ p ∈ ps, 0 < Sh.S ls (oneO i) p.l.toNat) := by
        intro ps
        induction ps with
        | nil => intro _; simp [Sh.sumS]
        | cons p r ihr =>
          intro h
          have hp := h p (by simp)
          have hr := ihr fun q hq => h q (by simp [hq])
          have h1 : 0 < p.m.toNat := by omega
          have h2 := Sh.pr_pos (Sh.be_pos ls) (p.l.toNat + 1) (j - (p.l.toNat + 1))
          show 0 < Sh.S ls (oneO i) p.l.toNat * p.m.toNat * Sh.pr (Sh.be ls) (p.l.toNat + 1) (j - (p.l.toNat + 1)) + Sh.sumS ls j (Sh.S ls (oneO i)) r ↔ _
          constructor
          · intro hs
            by_cases hz : 0 < Sh.S ls (oneO i) p.l.toNat
            · exact ⟨p, by simp, hz⟩
            · have h0 : Sh.S ls (oneO i) p.l.toNat = 0 := by omega
              rw [h0, Nat.zero_mul, Nat.zero_mul, Nat.zero_add] at hs
              obtain ⟨q, hq, hx⟩ := hr.1 hs
              exact ⟨q, by simp [hq], hx⟩
          · rintro ⟨q, hq, hx⟩
            rcases List.mem_cons.1 hq with rfl | hq
            · have := Nat.mul_pos (Nat.mul_pos hx h1) h2
              omega
            · have := hr.2 ⟨q, hq, hx⟩
              omega
      show 0 < Sh.sumS ls j (Sh.S ls (oneO i)) (ls.getD j default).ps ↔ _
      rw [key _ (fun p hp => ((early_of herr) j hj p hp).2.2.1)]
      constructor
      · rintro ⟨p, hp, hx⟩
        exact .inr ⟨p, hp, (ih _ (part_in (herr j hj) hp).2 (by have := (part_in (herr j hj) hp).2; omega)).1 hx⟩
      · rintro (h | ⟨p, hp, hx⟩)
        · exact absurd h.symm e
        · exact ⟨p, hp, (ih _ (part_in (herr j hj) hp).2 (by have := (part_in (herr j hj) hp).2; omega)).2 hx⟩
/-- The program's comparison with 0. -/
theorem cmpN_zero (a b : Nat) : cmpN (a * 1) (b * 0) = if 0 < a then 1 else 0 := by
  unfold cmpN
  rw [Nat.mul_one, Nat.mul_zero, if_neg (by omega)]
  by_cases h : a = 0
  · rw [if_pos h, if_neg (by omega)]
  · rw [if_neg h, if_pos (by omega)]
end Go.Proofs.Ytccjbefmcifaeaa
