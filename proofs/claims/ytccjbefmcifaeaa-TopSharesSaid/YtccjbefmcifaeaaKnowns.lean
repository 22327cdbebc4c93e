/- The program's Share, and the law's own look at one answer. The law's own look at one answer. -/
import Derived.Test.YtccjbefmcifaeaaShare
import Derived.Test.YtccjbefmcifaeaaRefs
namespace Go.Proofs.Ytccjbefmcifaeaa
open Go.RowKit

theorem alone_any (of : Nat) (w : World) :
    Calls Try.prog 72 #[.int .i64 of] w fun e w' => e = .returned (.func (.func 99) #[] #[ptr w.heap.size]) ∧ Hid (BlockAt w' w.heap.size #[.int .i64 of] 3 ∧ Below w.heap.size w w') := by
  have hmf : ∀ (fn : Fn) (first cap : Array Value) (w : World), (Instr.makeFunc fn first cap).run Try.prog w = .ok (.func fn first cap) w := fun _ _ _ _ => rfl
  have HB := Lib.hid (And.intro (BlockAt.new w #[.int .i64 of] 3) (below_alloc (Below.refl w.heap.size w) (.cells #[.int .i64 of] 3)))
  go_enter Try.func72, Try.ntmps72
  go_wp2
  go_ret
  exact ⟨rfl, HB⟩

theorem D_small {ls : List Lt.L} (h : ∀ j, j < ls.length → Lt.fine (ls.getD j default)) {n : Nat} (hn : n ≤ 24) : Sh.D ls n < Wd.B ^ 8 :=
  Nat.lt_of_le_of_lt (Sh.D_lt h hn) (by unfold Wd.B; decide +kernel)

set_option maxRecDepth 100000 in
set_option maxHeartbeats 1000000 in
theorem share_ok (v : Value) (ls : List Lt.L) (of i : Nat) (w : World) (hv : Lots w v ls) (hsh : short ls) (h0 : Lt.valE ls = 0) (ho : of < ls.length) (hi : i < ls.length)
    (hD : ∀ a d, a ≤ Sh.S ls (oneO of) i → 0 < d → d ≤ 1048576 → DivAt a d) :
    Calls Try.prog 30 #[v, .int .i64 of, .int .i64 i] w fun e w' => e = .returned (.tuple #[rat (Rd.rN (Sh.S ls (oneO of) i) (Sh.D ls (i + 1))) (Rd.rD (Sh.S ls (oneO of) i) (Sh.D ls (i + 1))), .int .i64 (Rd.rE (Sh.S ls (oneO of) i) (Sh.D ls (i + 1)))]) ∧ Below w.heap.size w w' := by
  obtain ⟨hl, herr, _⟩ := Lt.valE_zero h0
  have hfine := fun j hj => Lt.fine_of (herr j hj)
  have hearly := early_of herr
  have hnum : numE ls [(of : Int), (i : Int)] = 0 := by
    rw [numE_two, if_pos h0, show inR ls (of : Int) = true by unfold inR; simp; omega, show inR ls (i : Int) = true by unfold inR; simp; omega]; rfl
  have bR := (BlockAt.new w #[.int .i64 0, .int .i64 0] 43).alloc (.cells #[.int .i64 of, .int .i64 i] 3)
  have bN := BlockAt.new (w.alloc (.cells #[.int .i64 0, .int .i64 0] 43)) #[.int .i64 of, .int .i64 i] 3
  have hb2 := below_alloc (below_alloc (Below.refl w.heap.size w) (.cells #[.int .i64 0, .int .i64 0] 43)) (.cells #[.int .i64 of, .int .i64 i] 3)
  simp only [World.size_alloc] at bN
  have NT := Lib.hid (nums_two v ls of i (w.heap.size + 1) _ (hv.all hb2) hsh bN)
  rw [hnum] at NT
  have HH := Lib.hid (And.intro hb2 (And.intro bR (And.intro hv (And.intro hfine (And.intro hearly hD)))))
  obtain ⟨a, c, rfl⟩ := hv.form
  clear hb2 bR bN hv hfine hearly hD hnum herr hsh
  go_enter Try.func30, Try.ntmps30
  go_wp2_with fail
  refine NT.out.mono ?_
  rintro e w2 ⟨rfl, hb3⟩
  go_wp2_with fail
  refine (alone_any of _).mono ?_
  rintro e w3 ⟨rfl, hal⟩
  obtain ⟨hb2, bR, hv, hfine, hearly, hD⟩ := HH.out
  have hw2 := below_step hb2 hb3
  have bR2 := bR.below hb3 bR.lt
  have hw3 := below_step hw2 hal.out.2
  have bR3 := bR2.below hal.out.2 bR2.lt
  have bof := hal.out.1
  have SO := Lib.hid (sharesOf_any (.slice a ls.length c) ls of w2.heap.size (Sh.S ls (oneO of)) w3 (hv.all hw3) hl hfine bof)
  have HK := Lib.hid (And.intro hw3 bR3)
  clear hb2 bR hv hw2 bR2 hw3 bR3 bof hal hb3 NT
  go_wp2_with fail
  refine SO.out.mono ?_
  rintro e w4 ⟨bl, bo, bb, bf, bv, bd, bm, rfl, hE⟩
  obtain ⟨hE, ⟨D, hM⟩, hb4⟩ := hE.out
  obtain ⟨hw3, bR3⟩ := HK.out
  have hw4 := below_step hw3 hb4
  have bR4 := bR3.below hb4 bR3.lt
  have hbm : w3.heap.size ≤ bm := hE.base
  have SI := Lib.hid (shareIn_any w3 bl bo bb bf bv bd w2.heap.size bm (.slice a ls.length c) ls of hl hfine hearly i hi w4 D hE hM)
  have hdd := hE.d
  have hnd := hE.ne.2.2.2.2.1
  have HN := Lib.hid (And.intro hw4 (And.intro bR4 (And.intro hdd hnd)))
  have hbR : w.heap.size < w3.heap.size := bR3.lt
  clear hE hM hb4 hw3 bR3 hw4 bR4 HK hdd hnd SO
  go_wp2_with fail
  refine SI.out.mono ?_
  rintro e w5 ⟨rfl, hk⟩
  obtain ⟨_, hk⟩ := hk.out
  obtain ⟨hw4, bR4, hdd, hnd⟩ := HN.out
  have hw5 : Below w.heap.size w w5 := ⟨hk.os.trans hw4.os, hk.tape.trans hw4.tape, hk.output.trans hw4.output, Nat.le_trans hw4.size hk.size, fun j hj => (hk.block j (Nat.lt_of_lt_of_le hj hw4.size) (fun e => by have := Option.some.inj e; omega)).trans (hw4.block j hj)⟩
  have bR5 := bR4.kb hk (by omega)
  have hdd5 := hdd.kb hk hnd
  have hfs : ∀ k, k < (segN ls 0 (i + 1)).length → 1 ≤ (segN ls 0 (i + 1)).getD k 0 ∧ (segN ls 0 (i + 1)).getD k 0 ≤ 600000 := by
    intro k hk
    have h1 := Sh.be_le hfine k
    have h2 := Sh.be_pos ls k
    simp [segN] at hk
    simp [segN, hk]; omega
  have hpd : prodL (segN ls 0 (i + 1)) = Sh.D ls (i + 1) := prodL_seg ls 0 (i + 1)
  have hsd := Sh.S_le hearly (oneO of) i hi
  have RT := rat_any (Sh.S ls (oneO of) i) (.slice (some ⟨bd, 0, none⟩) (i + 1) ls.length) (segN ls 0 (i + 1)) w5 (nums_seg hdd5 (by omega) (by omega)) (by simp [segN]; omega) hfs (Nat.lt_of_le_of_lt hsd (D_small hfine (by omega))) (by rw [hpd]; exact hsd) hD
  rw [hpd] at RT
  have HRT := Lib.hid RT
  have HP := Lib.hid (And.intro hw5 bR5)
  generalize hrn : Rd.rN (Sh.S ls (oneO of) i) (Sh.D ls (i + 1)) = rn at *
  generalize hrd : Rd.rD (Sh.S ls (oneO of) i) (Sh.D ls (i + 1)) = rd at *
  generalize hre : Rd.rE (Sh.S ls (oneO of) i) (Sh.D ls (i + 1)) = re at *
  have HX := Lib.hid (And.intro hrn (And.intro hrd hre))
  clear hw4 bR4 hdd hnd hw5 bR5 hdd5 hfs hpd hsd RT hk HN SI hrn hrd hre hfine hearly hD
  go_wp2_with fail
  refine HRT.out.mono ?_
  rintro e w6 ⟨rfl, hb6⟩
  obtain ⟨hw5, bR5⟩ := HP.out
  have bR6 := bR5.below hb6 bR5.lt
  have hw6 := below_step hw5 hb6
  have d0 := bR6.cell 0
  have d1 := bR6.cell 1
  have e0 := bR6.frozen 0
  have e1 := bR6.frozen 1
  have hsz := bR6.lt
  clear hw5 bR5 bR6 hb6 HP HRT
  go_wp2
  exact bodyPost_ret (v := .tuple #[rat rn rd, .int .i64 re]) (by simp [results, Try.results30, go_sem, d0, d1, hsz]) rfl ⟨by rw [HX.out.1, HX.out.2.1, HX.out.2.2], (hw6.setCell (by simp) _).setCell (by simp) _⟩

/-- The genealogy at which the law looks. -/
def ls0 : List Lt.L := [⟨0, 100, []⟩, ⟨0, 100, []⟩, ⟨5, 110, [⟨0, 60⟩, ⟨1, 40⟩]⟩]
theorem lots0 {W : World} {B B2 : Nat} (h : BlockAt W B #[.int .i64 0, .int .i64 100, .slice none 0 0, .int .i64 0, .int .i64 100, .slice none 0 0, .int .i64 5, .int .i64 110, .slice (some ⟨B2, 0, none⟩) 2 2] 25)
    (h2 : BlockAt W B2 #[.int .i64 0, .int .i64 60, .int .i64 1, .int .i64 40] 35) : Lots W (.slice (some ⟨B, 0, none⟩) 3 3) ls0 := by
  refine .inr ⟨B, 0, 3, rfl, by decide, h.lt, fun k hk => ?_⟩
  have hk3 : k = 0 ∨ k = 1 ∨ k = 2 := by have : k < 3 := hk; omega
  rcases hk3 with rfl | rfl | rfl
  · exact ⟨.slice none 0 0, h.cell 0, h.cell 1, h.cell 2, .inl ⟨none, 0, rfl, rfl, fun _ => rfl⟩⟩
  · exact ⟨.slice none 0 0, h.cell 3, h.cell 4, h.cell 5, .inl ⟨none, 0, rfl, rfl, fun _ => rfl⟩⟩
  · refine ⟨_, h.cell 6, h.cell 7, h.cell 8, .inr ⟨B2, 0, 2, rfl, by decide, h2.lt, fun k hk => ?_⟩⟩
    have hk2 : k = 0 ∨ k = 1 := by have : k < 2 := hk; omega
    rcases hk2 with rfl | rfl
    · exact ⟨h2.cell 0, h2.cell 1⟩
    · exact ⟨h2.cell 2, h2.cell 3⟩
end Go.Proofs.Ytccjbefmcifaeaa
namespace Go.Proofs.Ytccjbefmcifaeaa
open Go.RowKit

theorem ls0_valid : Lt.valE ls0 = 0 := by decide +kernel
theorem ls0_short : short ls0 := ⟨by decide, by
  intro j hj
  have : j = 0 ∨ j = 1 ∨ j = 2 := by have : j < 3 := hj; omega
  rcases this with rfl | rfl | rfl <;> decide⟩
theorem ls0_S : Sh.S ls0 (oneO 0) 2 = 60 := by decide +kernel
theorem ls0_D : Sh.D ls0 3 = 100 := by decide +kernel

set_option maxRecDepth 20000 in
theorem known_any (w : World) :
    Calls Try.prog 17 #[] w fun e w' => e = .returned (.bool true) ∧ Below w.heap.size w w' := by
  have hb1 := below_alloc (Below.refl w.heap.size w) (.cells #[.int .i64 0, .int .i64 60, .int .i64 1, .int .i64 40] 35)
  have hb2 := below_alloc hb1 (.cells #[.int .i64 0, .int .i64 100, .slice none 0 0, .int .i64 0, .int .i64 100, .slice none 0 0, .int .i64 5, .int .i64 110, .slice (some ⟨w.heap.size, 0, none⟩) 2 2] 25)
  have b1 := (BlockAt.new w #[.int .i64 0, .int .i64 60, .int .i64 1, .int .i64 40] 35).alloc (.cells #[.int .i64 0, .int .i64 100, .slice none 0 0, .int .i64 0, .int .i64 100, .slice none 0 0, .int .i64 5, .int .i64 110, .slice (some ⟨w.heap.size, 0, none⟩) 2 2] 25)
  have b2 := BlockAt.new (w.alloc (.cells #[.int .i64 0, .int .i64 60, .int .i64 1, .int .i64 40] 35)) #[.int .i64 0, .int .i64 100, .slice none 0 0, .int .i64 0, .int .i64 100, .slice none 0 0, .int .i64 5, .int .i64 110, .slice (some ⟨w.heap.size, 0, none⟩) 2 2] 25
  have S := share_ok _ ls0 0 2 _ (lots0 b2 b1) ls0_short ls0_valid (by decide) (by decide) (fun a d ha hd hd2 => small_div (by rw [ls0_S] at ha; omega) hd)
  rw [ls0_S, ls0_D, show Rd.rN 60 100 = 3 from by decide +kernel, show Rd.rD 60 100 = 5 from by decide +kernel, show Rd.rE 60 100 = 0 from by decide +kernel] at S
  simp only [World.size_alloc] at S
  have HS := Lib.hid S
  have HB := Lib.hid hb2
  clear hb1 hb2 b1 b2 S
  go_enter Try.func17, Try.ntmps17
  go_wp2_with fail
  refine HS.out.mono ?_
  rintro e w1 ⟨rfl, hb⟩
  have hw := HB.out.trans (hb.mono (by omega))
  go_wp2
  go_ret
  exact ⟨rfl, below_alloc hw _⟩
end Go.Proofs.Ytccjbefmcifaeaa
