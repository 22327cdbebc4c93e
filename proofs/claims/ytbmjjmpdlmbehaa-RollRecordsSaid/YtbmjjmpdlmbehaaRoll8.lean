/- Worth of the program; the chapter's example; which lists are long. -/
import Derived.Test.YtbmjjmpdlmbehaaRoll7
namespace Go.Proofs.Ytbmjjmpdlmbehaa
open Go.RowKit

theorem Ro.lay_facts {rs : List Bd.R} {al : List Ro.A} (h : Ro.layE rs al = 0) : Bd.valE rs = 0 ∧ Bd.fine rs ∧ Bd.len rs = ((Bd.exp rs).length : Int) ∧ (Bd.exp rs).length ≤ 300 ∧ al.length ≤ 5 ∧ Ro.okAs al := by
  obtain ⟨h1, h2, h3, h4⟩ := Ro.layE_zero.1 h
  have hp := Bd.valE_pos h1
  have hl := Bd.len_exp hp
  exact ⟨h1, Bd.fine_of_valid h1, hl, by omega, h3, h4⟩
theorem lay_good (v u : Value) (rs : List Bd.R) (al : List Ro.A) (w : World) (hv : Runs w v rs) (hu : Arts w u al) (hl : rs.length ≤ 1000) (hal : al.length ≤ 1000) (hz : Ro.layE rs al = 0) :
    Calls Try.prog 29 #[v, u] w fun e w' => ∃ oa oc, e = .returned (.tuple #[tabV v ((Bd.exp rs).length : Int) (.slice oa al.length oc), .int .i64 0]) ∧ Offs w' (.slice oa al.length oc) rs al ∧ Below w.heap.size w w' := by
  refine (lay_ok v u rs al w hv hu hl hal hz).mono ?_
  rintro e w' ⟨ov, us, rfl, ho, hb⟩
  obtain ⟨oa, oc, rfl⟩ := ho.form
  exact ⟨oa, oc, by rw [(Ro.lay_facts hz).2.2.1], ho.offs, hb⟩
def Ro.worL (rs : List Bd.R) (al : List Ro.A) : List Int := if Ro.layE rs al = 0 then Ro.wl (Bd.exp rs) al (Bd.exp rs).length else []
theorem ints_block {W : World} {g n : Nat} {f : Nat → Int} (h : BlockAt W g (fnC n f) 3) : Ints W (.slice (some ⟨g, 0, none⟩) n n) ((List.range n).map f) := by
  refine ⟨_, n, by simp, fun k hk => ⟨g, 0, rfl, h.lt, ?_⟩⟩
  have hk' : k < n := by simpa using hk
  rw [Nat.zero_add]
  exact (h.cell k).trans ((fnC_at hk').trans (by simp))

set_option maxRecDepth 20000 in
set_option maxHeartbeats 2000000 in
theorem num_worth_any (v u : Value) (rs : List Bd.R) (al : List Ro.A) (w : World) (hv : Runs w v rs) (hu : Arts w u al) (hl : rs.length ≤ 1000) (hal : al.length ≤ 1000) :
    Calls Try.prog 18 #[v, u] w fun e w' => ∃ a c, e = .returned (.tuple #[.slice a (Ro.worL rs al).length c, .int .i64 (Ro.layE rs al)]) ∧ Ints w' (.slice a (Ro.worL rs al).length c) (Ro.worL rs al) ∧ Below w.heap.size w w' := by
  by_cases hz : Ro.layE rs al = 0
  · obtain ⟨h1, h2, h3, h4, h5, h6⟩ := Ro.lay_facts hz
    have LY := Lib.hid (lay_good v u rs al w hv hu hl hal hz)
    have WO := Lib.hid (fun (ov : Value) W (ho : Offs W ov rs al) => worth_any v ov rs al W ho h2 h6 h5 h4)
    have hR : Ro.worL rs al = (List.range ((Bd.exp rs).length + 1)).map (Ro.W (Bd.exp rs) al) := if_pos hz
    rw [hR, hz]
    have hRL : ((List.range ((Bd.exp rs).length + 1)).map (Ro.W (Bd.exp rs) al)).length = (Bd.exp rs).length + 1 := by simp
    rw [hRL]
    obtain ⟨va, vc, rfl⟩ := hv.form
    obtain ⟨ua, uc, rfl, _⟩ := hu
    clear hv hz h1 h2 h3 h6 hR hRL
    generalize Bd.exp rs = ms at *
    obtain ⟨N, hN⟩ : ∃ N, N = ms.length := ⟨_, rfl⟩
    rw [← hN] at LY WO h4 ⊢
    clear hN
    obtain ⟨vl, hvl⟩ : ∃ x, x = rs.length := ⟨_, rfl⟩
    rw [← hvl] at LY WO ⊢
    clear hvl hl
    go_enter Try.func18, Try.ntmps18
    go_wp2_with fail
    refine LY.out.mono ?_
    rintro e w1 ⟨oa, oc, rfl, ho, hb1⟩
    have ho2 := ho.all ((Below.refl _ _).alloc (Nat.le_refl _) (.cells (tabA (.slice va vl vc) (N : Int) (.slice oa al.length oc)) TabT))
    have HB := Lib.hid (below_alloc2 hb1 (.cells (tabA (.slice va vl vc) (N : Int) (.slice oa al.length oc)) TabT))
    have C := Lib.hid (WO.out _ _ ho2)
    clear ho ho2 hb1 LY WO
    go_wp2_with fail
    refine C.out.mono ?_
    rintro e w2 ⟨g, rfl, hg1, hg2, hb2⟩
    have HI := Lib.hid (ints_block hg2)
    have HW := Lib.hid (below_step HB.out hb2)
    clear hb2 hg1 hg2 HB C
    go_wp2
    go_ret2
    exact ⟨_, _, rfl, HI.out, HW.out⟩
  · have LY := Lib.hid (lay_bad v u rs al w hv hu hl hal hz)
    have hR : Ro.worL rs al = [] := if_neg hz
    rw [hR]
    obtain ⟨va, vc, rfl⟩ := hv.form
    obtain ⟨ua, uc, rfl, _⟩ := hu
    generalize Ro.layE rs al = q at *
    have hd : (q == 0) = false := beq_eq_false_iff_ne.2 hz
    have hd2 : (q != 0) = true := by rw [bne, hd]; rfl
    clear hv hz hR
    go_enter Try.func18, Try.ntmps18
    go_wp2_with fail
    refine LY.out.mono ?_
    rintro e w1 ⟨rfl, hb1⟩
    have HB := Lib.hid (below_alloc2 hb1 (.cells (tabA (.slice none 0 0) 0 (.slice none 0 0)) TabT))
    clear hb1 LY
    go_wp2
    go_ret2
    exact ⟨none, 0, rfl, ⟨none, 0, rfl, fun k hk => absurd hk (Nat.not_lt_zero _)⟩, HB.out⟩

def Ro.exR : List Bd.R := [⟨7, ⟨20, 0, 0⟩⟩]
def Ro.exA : List Ro.A := [⟨3, 1, 99, -1, 0, 10⟩, ⟨2, 1, 99, -1, 0, 6⟩]
theorem Ro.ex_lay : Ro.layE Ro.exR Ro.exA = 0 := by decide +kernel
theorem Ro.ex_len : (Ro.worL Ro.exR Ro.exA).length = 8 := by decide +kernel
theorem Ro.ex_val : (Ro.worL Ro.exR Ro.exA)[7]'(by rw [Ro.ex_len]; omega) = 22 := by decide +kernel

set_option maxRecDepth 20000 in
set_option maxHeartbeats 2000000 in
theorem rollKnown_any (w : World) :
    Calls Try.prog 8 #[] w fun e w' => e = .returned (.bool true) ∧ Below w.heap.size w w' := by
  have hb := below_alloc2 (below_alloc2 (below_alloc2 (Below.refl w.heap.size w) (.cells #[.int .i64 7, .int .i64 20, .int .i64 0, .int .i64 0] 52)) (.cells #[.int .i64 1, .int .i64 99, .int .i64 (-1), .int .i64 0] 76)) (.cells #[.int .i64 3, .int .i64 1, .int .i64 99, .int .i64 (-1), .int .i64 0, .int .i64 10, .int .i64 2, .int .i64 1, .int .i64 99, .int .i64 (-1), .int .i64 0, .int .i64 6] 78)
  have hR3 : Runs (((w.alloc (.cells #[.int .i64 7, .int .i64 20, .int .i64 0, .int .i64 0] 52)).alloc (.cells #[.int .i64 1, .int .i64 99, .int .i64 (-1), .int .i64 0] 76)).alloc (.cells #[.int .i64 3, .int .i64 1, .int .i64 99, .int .i64 (-1), .int .i64 0, .int .i64 10, .int .i64 2, .int .i64 1, .int .i64 99, .int .i64 (-1), .int .i64 0, .int .i64 6] 78)) (.slice (some ⟨w.heap.size, 0, none⟩) 1 1) Ro.exR :=
    .inr ⟨w.heap.size, 0, 1, rfl, Nat.le_refl _, by simp; omega, fun k hk => by
      obtain rfl : k = 0 := by have : k < 1 := hk; omega
      have hB := ((BlockAt.new w #[.int .i64 7, .int .i64 20, .int .i64 0, .int .i64 0] 52).alloc (.cells #[.int .i64 1, .int .i64 99, .int .i64 (-1), .int .i64 0] 76)).alloc (.cells #[.int .i64 3, .int .i64 1, .int .i64 99, .int .i64 (-1), .int .i64 0, .int .i64 10, .int .i64 2, .int .i64 1, .int .i64 99, .int .i64 (-1), .int .i64 0, .int .i64 6] 78)
      exact ⟨hB.cell 0, hB.cell 1, hB.cell 2, hB.cell 3⟩⟩
  have hA3 : Arts (((w.alloc (.cells #[.int .i64 7, .int .i64 20, .int .i64 0, .int .i64 0] 52)).alloc (.cells #[.int .i64 1, .int .i64 99, .int .i64 (-1), .int .i64 0] 76)).alloc (.cells #[.int .i64 3, .int .i64 1, .int .i64 99, .int .i64 (-1), .int .i64 0, .int .i64 10, .int .i64 2, .int .i64 1, .int .i64 99, .int .i64 (-1), .int .i64 0, .int .i64 6] 78)) (.slice (some ⟨w.heap.size + 1 + 1, 0, none⟩) 2 2) Ro.exA := by
    have hB := BlockAt.new ((w.alloc (.cells #[.int .i64 7, .int .i64 20, .int .i64 0, .int .i64 0] 52)).alloc (.cells #[.int .i64 1, .int .i64 99, .int .i64 (-1), .int .i64 0] 76)) #[.int .i64 3, .int .i64 1, .int .i64 99, .int .i64 (-1), .int .i64 0, .int .i64 10, .int .i64 2, .int .i64 1, .int .i64 99, .int .i64 (-1), .int .i64 0, .int .i64 6] 78
    simp only [World.size_alloc] at hB
    refine ⟨_, 2, rfl, fun k hk => ⟨w.heap.size + 1 + 1, 0, rfl, by simp, ?_⟩⟩
    have hk2 : k < 2 := hk
    rcases (by omega : k = 0 ∨ k = 1) with rfl | rfl
    · exact ⟨hB.cell 0, hB.cell 1, hB.cell 2, hB.cell 3, hB.cell 4, hB.cell 5⟩
    · exact ⟨hB.cell 6, hB.cell 7, hB.cell 8, hB.cell 9, hB.cell 10, hB.cell 11⟩
  have C := Lib.hid (num_worth_any _ _ _ _ _ hR3 hA3 (by decide) (by decide))
  rw [Ro.ex_lay, Ro.ex_len] at C
  have HB := Lib.hid hb
  clear hb hR3 hA3
  go_enter Try.func8, Try.ntmps8
  go_wp2_with fail
  refine C.out.mono ?_
  rintro e w1 ⟨a, c, rfl, hi, hb1⟩
  obtain ⟨a', c', he, hk⟩ := hi
  rw [Ro.ex_len] at he
  simp only [Value.slice.injEq, true_and] at he
  obtain ⟨rfl, rfl⟩ := he
  obtain ⟨b, off, rfl, hbl, hc⟩ := hk 7 (by rw [Ro.ex_len]; omega)
  rw [Ro.ex_val] at hc
  have HW := Lib.hid (below_step HB.out hb1)
  clear hk hb1 HB C
  go_wp2
  go_ret
  exact ⟨rfl, HW.out⟩

set_option maxRecDepth 20000 in
set_option maxHeartbeats 1000000 in
theorem rollLong_any (v u x : Value) (rs : List Bd.R) (la lx : Nat) (w : World) (hv : Runs w v rs) (hu : ∃ a c, u = .slice a la c) (hx : ∃ a c, x = .slice a lx c) :
    Calls Try.prog 7 #[v, u, x] w fun e w' => e = .returned (.bool (decide (100 < rs.length) || (decide (40 < la) || decide (400 < lx)))) ∧ Below w.heap.size w w' := by
  obtain ⟨ua, uc, rfl⟩ := hu
  obtain ⟨xa, xc, rfl⟩ := hx
  by_cases h1 : 100 < rs.length
  · have C := Lib.hid (long_true v rs w hv h1)
    rw [decide_eq_true h1, Bool.true_or]
    obtain ⟨va, vc, rfl⟩ := hv.form
    clear hv
    go_enter Try.func7, Try.ntmps7
    go_wp2_with fail
    refine C.out.mono ?_
    rintro e w1 ⟨rfl, hb1⟩
    go_wp2
    go_ret
    exact ⟨rfl, hb1⟩
  · have C := Lib.hid (long_false v rs w hv (by omega))
    rw [decide_eq_false h1, Bool.false_or]
    obtain ⟨va, vc, rfl⟩ := hv.form
    clear hv
    by_cases h2 : 40 < la
    · rw [decide_eq_true h2, Bool.true_or]
      have hd : decide ((40 : Int) < la) = true := decide_eq_true (by omega)
      have hd' : decide (40 < la) = true := decide_eq_true h2
      go_enter Try.func7, Try.ntmps7
      go_wp2_with fail
      refine C.out.mono ?_
      rintro e w1 ⟨rfl, hb1⟩
      go_wp2
      go_ret
      exact ⟨rfl, hb1⟩
    · rw [decide_eq_false h2, Bool.false_or]
      have hd : decide ((40 : Int) < la) = false := decide_eq_false (by omega)
      have hd' : decide (40 < la) = false := decide_eq_false h2
      obtain ⟨r, hr⟩ : ∃ r, r = decide (400 < lx) := ⟨_, rfl⟩
      have hd2 : decide ((400 : Int) < lx) = r := by rw [hr]; exact decide_eq_decide.2 (by omega)
      have HR := Lib.hid hr
      go_enter Try.func7, Try.ntmps7
      go_wp2_with fail
      refine C.out.mono ?_
      rintro e w1 ⟨rfl, hb1⟩
      go_wp2
      go_ret
      exact ⟨by first | rfl | (simp [hr]), hb1⟩
end Go.Proofs.Ytbmjjmpdlmbehaa
