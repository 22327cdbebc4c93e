/- Which sets of lots are right, and whether a lot leads to one of a set: the program's. -/
import Derived.Test.YtccjbefmcifaeaaCopy2
import Derived.Test.YtccjbefmcifaeaaInsideN
namespace Go.Proofs.Ytccjbefmcifaeaa
open Go.RowKit

/-- A number of a set: one of a lot, greater than the one before it. -/
def setAt (n : Nat) (ks : List Int) (i : Nat) : Bool := decide (0 ≤ ks.getD i 0) && (decide (ks.getD i 0 < n) && (decide (i = 0) || decide (ks.getD (i - 1) 0 < ks.getD i 0)))
def setB (n : Nat) (ks : List Int) : Bool := (List.range ks.length).all (setAt n ks)
theorem setB_false {n : Nat} {ks : List Int} {i : Nat} (hi : i < ks.length) (h : setAt n ks i = false) : setB n ks = false := by
  unfold setB
  rw [List.all_eq_false]
  exact ⟨i, List.mem_range.2 hi, by simp [h]⟩
theorem setB_true {n : Nat} {ks : List Int} (h : ∀ i, i < ks.length → setAt n ks i = true) : setB n ks = true := by
  unfold setB
  rw [List.all_eq_true]
  exact fun i hi => h i (List.mem_range.1 hi)
theorem setB_at {n : Nat} {ks : List Int} (h : setB n ks = true) {i : Nat} (hi : i < ks.length) : 0 ≤ ks.getD i 0 ∧ ks.getD i 0 < n := by
  unfold setB at h
  rw [List.all_eq_true] at h
  have := h i (List.mem_range.2 hi)
  unfold setAt at this
  simp only [Bool.and_eq_true, decide_eq_true_eq] at this
  exact ⟨this.1, this.2.1⟩

set_option maxRecDepth 20000 in
set_option maxHeartbeats 1000000 in
theorem isSet_any (v u : Value) (ls : List Lt.L) (ks : List Int) (w : World) (hv : Lots w v ls) (hu : Ints w u ks) (hl : ls.length ≤ 1000) (hkl : ks.length ≤ 1000) :
    Calls Try.prog 87 #[v, u] w fun e w' => e = .returned (.bool (setB ls.length ks)) ∧ Below w.heap.size w w' := by
  obtain ⟨a, c, rfl⟩ := hv.form
  obtain ⟨ka, kc, rfl, hk⟩ := hu.look
  have HK := Lib.hid hk
  generalize hR : setB ls.length ks = R
  have HR := Lib.hid hR
  clear hv hu hk hR
  go_enter Try.func87, Try.ntmps87
  go_wp2
  go_loopw [9] (fun t wr => ∃ i : Nat, i ≤ ks.length ∧ t = .int .i64 i ∧ Hid ((∀ j, j < i → setAt ls.length ks j = true) ∧ Below w.heap.size w wr)) (fun t _ => ks.length - (intOf t).toNat)
  case atStart => exact ⟨0, Nat.zero_le _, rfl, Lib.hid ⟨fun j h => absurd h (Nat.not_lt_zero _), Below.refl _ _⟩⟩
  case round =>
    obtain ⟨i, hi, rfl, hg⟩ := hrel
    by_cases hlt : i < ks.length
    · obtain ⟨b, off, rfl, hb, hc⟩ := HK.out i hlt
      have hc := (hg.out.2.cell (p := ⟨b, off + i, none⟩) hb).trans hc
      have hs : setAt ls.length ks i = (decide (0 ≤ ks.getD i 0) && (decide (ks.getD i 0 < ls.length) && (decide (i = 0) || decide (ks.getD (i - 1) 0 < ks.getD i 0)))) := rfl
      have HF := Lib.hid (fun h => setB_false (n := ls.length) hlt h)
      have HG := Lib.hid hg.out
      have hprev : 0 < i → ∃ z, ks.getD (i - 1) 0 = z ∧ (HG.out.2.cell (p := ⟨b, off + (i - 1), none⟩) hb = HG.out.2.cell (p := ⟨b, off + (i - 1), none⟩) hb) := fun _ => ⟨_, rfl, rfl⟩
      have hcp : 0 < i → wr.cell? ⟨b, off + (i - 1), none⟩ = some (.int .i64 (ks.getD (i - 1) 0)) := fun h0 => by
        obtain ⟨b', off', e, hb', hc'⟩ := HK.out (i - 1) (by omega)
        have := Option.some.inj e
        simp only [Addr.mk.injEq] at this
        rw [this.1, this.2.1]
        exact (HG.out.2.cell (p := ⟨b', off' + (i - 1), none⟩) hb').trans hc'
      clear hprev
      generalize ks.getD i 0 = x at *
      generalize ks.getD (i - 1) 0 = y at *
      clear hg
      by_cases h1 : 0 ≤ x
      · by_cases h2 : x < ls.length
        · by_cases h3 : i = 0
          · have hst : setAt ls.length ks i = true := by rw [hs, decide_eq_true h1, decide_eq_true h2, decide_eq_true h3]; rfl
            have HST := Lib.hid hst
            have h1' : ¬ x < 0 := by omega
            have h2' : ¬ (ls.length : Int) ≤ x := by omega
            have h3' : ¬ (0 : Int) < (i : Int) := by omega
            clear hs hst hcp h3
            go_wp2
            go_roundw
            case rel =>
              refine ⟨i + 1, by omega, by go_num, Lib.hid ⟨fun j hj => ?_, HG.out.2⟩⟩
              by_cases e : j = i
              · rw [e]; exact HST.out
              · exact HG.out.1 j (by omega)
            case measure => simp [intOf]; omega
          · have hcp := hcp (by omega)
            obtain ⟨p, rfl⟩ : ∃ p, i = p + 1 := ⟨i - 1, by omega⟩
            rw [show p + 1 - 1 = p by omega] at hcp
            have h1' : ¬ x < 0 := by omega
            have h2' : ¬ (ls.length : Int) ≤ x := by omega
            have h3' : (0 : Int) < ((p + 1 : Nat) : Int) := by omega
            have h4' : (((p + 1 : Nat) : Int) - 1) = (p : Int) := by omega
            have h5' : ((p : Int) + 1 - 1) = (p : Int) := by omega
            by_cases h4 : y < x
            · have hst : setAt ls.length ks (p + 1) = true := by rw [hs, decide_eq_true h1, decide_eq_true h2, decide_eq_true h4]; simp
              have HST := Lib.hid hst
              have h6' : ¬ x ≤ y := by omega
              clear hs hst h3
              go_wp2
              go_roundw
              case rel =>
                refine ⟨p + 1 + 1, by omega, by go_num, Lib.hid ⟨fun j hj => ?_, HG.out.2⟩⟩
                by_cases e : j = p + 1
                · rw [e]; exact HST.out
                · exact HG.out.1 j (by omega)
              case measure => simp [intOf]; omega
            · have hst : setAt ls.length ks (p + 1) = false := by rw [hs, decide_eq_false h4]; simp
              have HN := Lib.hid (HF.out hst)
              have h6' : x ≤ y := by omega
              clear hs hst h3 h4
              go_wp2
              go_ret
              exact ⟨ret_bool (by rw [← HR.out]; exact HN.out.symm), HG.out.2⟩
        · have hst : setAt ls.length ks i = false := by rw [hs, decide_eq_false h2]; simp
          have HN := Lib.hid (HF.out hst)
          have h1' : ¬ x < 0 := by omega
          have h2' : (ls.length : Int) ≤ x := by omega
          clear hs hst hcp h2
          go_wp2
          go_ret
          exact ⟨ret_bool (by rw [← HR.out]; exact HN.out.symm), HG.out.2⟩
      · have hst : setAt ls.length ks i = false := by rw [hs, decide_eq_false h1]; simp
        have HN := Lib.hid (HF.out hst)
        have h1' : x < 0 := by omega
        clear hs hst hcp h1
        go_wp2
        go_ret
        exact ⟨ret_bool (by rw [← HR.out]; exact HN.out.symm), HG.out.2⟩
    · obtain rfl : i = ks.length := by omega
      have HN := Lib.hid (setB_true hg.out.1)
      have hw := hg.out.2
      clear hg
      go_wp2
      go_ret
      exact ⟨ret_bool (by rw [← HR.out]; exact HN.out.symm), hw⟩

/-- Whether a path leads from a lot to one of some lots. -/
def leadP (ls : List Lt.L) (ks : List Int) (i : Nat) : Bool := ks.any fun k => decide (0 < pathsF ls i k.toNat)
theorem lead_hit {ls : List Lt.L} {ks : List Int} {i j : Nat} (hj : j < ks.length) (h : 0 < pathsF ls i (ks.getD j 0).toNat) : leadP ls ks i = true := by
  unfold leadP
  rw [List.any_eq_true]
  refine ⟨ks[j], List.getElem_mem hj, ?_⟩
  rw [show ks.getD j 0 = ks[j] by simp [hj]] at h
  simpa using h
theorem lead_none {ls : List Lt.L} {ks : List Int} {i : Nat} (h : ∀ j, j < ks.length → ¬ 0 < pathsF ls i (ks.getD j 0).toNat) : leadP ls ks i = false := by
  unfold leadP
  rw [List.any_eq_false]
  intro k hk
  obtain ⟨j, hj, rfl⟩ := List.getElem_of_mem hk
  have := h j hj
  rw [show ks.getD j 0 = ks[j] by simp [hj]] at this
  simpa using this

set_option maxRecDepth 20000 in
set_option maxHeartbeats 1000000 in
theorem indexLead_any (u : Value) (ks : List Int) (bc g i : Nat) (ls : List Lt.L) (w : World) (hu : Ints w u ks) (hkl : ks.length ≤ 1000) (hin : setB ls.length ks = true)
    (hc : BlockAt w bc #[.slice (some ⟨g, 0, none⟩) ls.length ls.length] 54) (hg : BlockAt w g (fnC ls.length (pathsF ls i)) 3) :
    Calls Try.prog 121 #[u, .func (.func 113) #[] #[ptrV bc]] w fun e w' => ∃ z : Int, e = .returned (.int .i64 z) ∧ decide (0 ≤ z) = leadP ls ks i ∧ Below w.heap.size w w' := by
  obtain ⟨ka, kc, rfl, hk⟩ := hu.look
  have HK := Lib.hid hk
  have HB := Lib.hid (And.intro hc hg)
  have HIN := Lib.hid hin
  generalize hR : leadP ls ks i = R
  have HR := Lib.hid hR
  clear hk hu hR hc hg hin
  go_enter Try.func121, Try.ntmps121
  go_wp2
  go_loopw [8] (fun t wr => ∃ j : Nat, j ≤ ks.length ∧ t = .int .i64 j ∧ Hid ((∀ q, q < j → ¬ 0 < pathsF ls i (ks.getD q 0).toNat) ∧ Below w.heap.size w wr)) (fun t _ => ks.length - (intOf t).toNat)
  case atStart => exact ⟨0, Nat.zero_le _, rfl, Lib.hid ⟨fun j h => absurd h (Nat.not_lt_zero _), Below.refl _ _⟩⟩
  case round =>
    obtain ⟨j, hj, rfl, hg⟩ := hrel
    by_cases hlt : j < ks.length
    · obtain ⟨b, off, rfl, hb, hcl⟩ := HK.out j hlt
      have hcl := (hg.out.2.cell (p := ⟨b, off + j, none⟩) hb).trans hcl
      obtain ⟨hx0, hx1⟩ := setB_at HIN.out hlt
      obtain ⟨x, hx⟩ : ∃ x : Nat, ks.getD j 0 = (x : Int) := ⟨(ks.getD j 0).toNat, by omega⟩
      have hxl : x < ls.length := by omega
      have c0 := (HB.out.1.below hg.out.2 HB.out.1.lt).cell 0
      have c1 := ((HB.out.2.below hg.out.2 HB.out.2.lt).cell x).trans (fnC_at hxl)
      have HH := Lib.hid (fun h => lead_hit (ls := ls) (i := i) hlt h)
      have hpx : pathsF ls i (ks.getD j 0).toNat = pathsF ls i x := by rw [hx, Int.toNat_natCast]
      have HPX := Lib.hid hpx
      rw [hx] at hcl
      have HG := Lib.hid hg.out
      generalize hz : pathsF ls i x = z at *
      have HZ := Lib.hid hz
      clear hg hpx hx hx0 hx1 hz
      by_cases hp : 0 < z
      · have HL := Lib.hid (HH.out (by rw [HPX.out]; exact hp))
        go_wp2
        go_ret
        exact ⟨(j : Int), rfl, by rw [← HR.out, HL.out]; simp, HG.out.2⟩
      · go_wp2
        go_roundw
        case rel =>
          refine ⟨j + 1, by omega, by go_num, Lib.hid ⟨fun q hq => ?_, HG.out.2⟩⟩
          by_cases e : q = j
          · rw [e, HPX.out]; exact hp
          · exact HG.out.1 q (by omega)
        case measure => simp [intOf]; omega
    · obtain rfl : j = ks.length := by omega
      have HL := Lib.hid (lead_none hg.out.1)
      have hw := hg.out.2
      clear hg
      go_wp2
      go_ret
      exact ⟨-1, rfl, by rw [← HR.out, HL.out]; decide, hw⟩

theorem containsLead_any (u : Value) (ks : List Int) (bc g i : Nat) (ls : List Lt.L) (w : World) (hu : Ints w u ks) (hkl : ks.length ≤ 1000) (hin : setB ls.length ks = true)
    (hc : BlockAt w bc #[.slice (some ⟨g, 0, none⟩) ls.length ls.length] 54) (hg : BlockAt w g (fnC ls.length (pathsF ls i)) 3) :
    Calls Try.prog 112 #[u, .func (.func 113) #[] #[ptrV bc]] w fun e w' => e = .returned (.bool (leadP ls ks i)) ∧ Below w.heap.size w w' := by
  have C := Lib.hid (indexLead_any u ks bc g i ls w hu hkl hin hc hg)
  obtain ⟨ka, kc, rfl, _⟩ := hu.look
  clear hu hin hc hg
  generalize leadP ls ks i = R at *
  go_enter Try.func112, Try.ntmps112
  go_wp2_with fail
  refine C.out.mono ?_
  rintro e w1 ⟨z, rfl, hz, hb1⟩
  have HZ := Lib.hid hz
  clear hz
  go_wp2
  go_ret
  exact ⟨ret_bool HZ.out, hb1⟩

set_option maxRecDepth 20000 in
theorem leadsToAny_any (v u : Value) (ls : List Lt.L) (ks : List Int) (i : Nat) (w : World) (hv : Lots w v ls) (hu : Ints w u ks) (hl : ls.length ≤ 24) (hkl : ks.length ≤ 1000) (herr : ∀ j, j < ls.length → Lt.errAt ls j = 0) (hi : i < ls.length) (hin : setB ls.length ks = true) :
    Calls Try.prog 88 #[v, .int .i64 i, u] w fun e w' => e = .returned (.bool (leadP ls ks i)) ∧ Below w.heap.size w w' := by
  have hmf : ∀ (fn : Fn) (first cap : Array Value) (w : World), (Instr.makeFunc fn first cap).run Try.prog w = .ok (.func fn first cap) w := fun _ _ _ _ => rfl
  have P := Lib.hid (paths_any v ls i w hv hl herr hi)
  have IX := Lib.hid (fun W bc g (hW : Below w.heap.size w W) hc hg => containsLead_any u ks bc g i ls W (hu.all hW) hkl hin hc hg)
  obtain ⟨a, c, rfl⟩ := hv.form
  obtain ⟨ka, kc, rfl, _⟩ := hu.look
  generalize leadP ls ks i = R at *
  clear hv hu herr hin
  go_enter Try.func88, Try.ntmps88
  go_wp2_with fail
  refine P.out.mono ?_
  rintro e w1 ⟨rfl, hblk, hb1⟩
  have hw1 := below_alloc hb1 (.cells #[.slice (some ⟨w.heap.size, 0, none⟩) ls.length ls.length] 54)
  have IX1 := Lib.hid (IX.out _ w1.heap.size w.heap.size hw1 (BlockAt.new w1 #[.slice (some ⟨w.heap.size, 0, none⟩) ls.length ls.length] 54) (hblk.alloc _))
  have HW := Lib.hid hw1
  clear hblk hb1 hw1 IX P
  go_wp2_with fail
  refine IX1.out.mono ?_
  rintro e w2 ⟨rfl, hb2⟩
  have hw2 := below_step HW.out hb2
  clear hb2 HW IX1
  go_wp2
  go_ret
  exact ⟨rfl, hw2⟩
end Go.Proofs.Ytccjbefmcifaeaa
