/- NumShares returns true, whatever the total and the weights. -/
import Derived.Test.YtmmmlcnclehilaaDoorRShare2
import Derived.Test.YtmmmlcnclehilaaDoorShare5
import Derived.Test.YtmmmlcnclehilaaDoorMoney0
namespace Go.Proofs.YtmmmlcnclehilaaDoor
open Go.RowKit Go.Sort

theorem Ints.form1 {w : World} {v : Value} {ws : List Int} (h : Ints w v ws) : ∃ a c, v = .slice a ws.length c := by
  rcases h with ⟨a, c, rfl, rfl⟩ | ⟨b, off, cap, rfl, _⟩
  · exact ⟨a, c, rfl⟩
  · exact ⟨_, cap, rfl⟩

set_option maxRecDepth 20000 in
set_option maxHeartbeats 2000000 in
theorem sharesN_walk (T : Int) (v : Value) (ws : List Int) (w : World) (hv : Ints w v ws) :
    Calls Tryd.prog 3 #[.int .i64 T, v] w fun e w' => e = .returned (.bool true) ∧ Below w.heap.size w w' := by
  have HV := Lib.hid hv
  obtain ⟨a, c, rfl⟩ := hv.form1
  clear hv
  by_cases hl : 100 < ws.length
  · have hl' : (100 : Int) < (ws.length : Int) := by omega
    clear HV hl
    go_enter Tryd.func3, Tryd.ntmps3
    go_wp2_with fail
    refine (known_any _).mono ?_
    rintro e w1 ⟨rfl, hb1⟩
    go_wp2
    go_ret
    exact ⟨rfl, hb1⟩
  · have hl' : ¬ (100 : Int) < (ws.length : Int) := by omega
    have hlen : ws.length ≤ 1000 := by omega
    cases hok : shareOk T ws with
    | false =>
      have C := Lib.hid (fun W (hW : Below w.heap.size w W) => share_bad T _ ws W (HV.out.all hW) hlen hok)
      have D := Lib.hid (fun W (hW : Below w.heap.size w W) => refShare_bad T _ ws W (HV.out.all hW) hlen hok)
      clear HV hl hok
      go_enter Tryd.func3, Tryd.ntmps3
      go_wp2_with fail
      refine (C.out _ (Below.refl _ _)).mono ?_
      rintro e w1 ⟨rfl, hb1⟩
      go_wp2_with fail
      refine (D.out _ hb1).mono ?_
      rintro e w2 ⟨rfl, hb2⟩
      have hw2 := Lib.hid (below_step hb1 hb2)
      clear hb1 hb2 C D
      go_wp2
      go_loop [9, 10] (fun s t => s = .int .i64 0 ∧ t = .int .i64 0) (fun _ _ => 0)
      case atStart => exact ⟨rfl, rfl⟩
      case round =>
        obtain ⟨rfl, rfl⟩ := hrel
        go_wp2_with fail
        refine (known_any _).mono ?_
        rintro e w3 ⟨rfl, hb3⟩
        have hw3 := below_step hw2.out hb3
        clear hb3 hw2
        go_wp2
        go_ret
        exact ⟨rfl, hw3⟩
    | true =>
      unfold shareOk at hok
      simp only [Bool.and_eq_true, decide_eq_true_eq] at hok
      obtain ⟨⟨hs, h0⟩, h1⟩ := hok
      have C := Lib.hid (share_good T _ ws w HV.out hlen hs h0 h1)
      have D := Lib.hid (fun W (hW : Below w.heap.size w W) => refShare_good T _ ws W (HV.out.all hW) hlen hs h0 h1)
      obtain ⟨u1, u2, _⟩ := Sh.usable hs
      have hf := Sh.fits_of hs h0
      have hnn : ∀ i, i < ws.length → 0 ≤ Lr.partF T ws i ∧ Lr.partF T ws i ≤ 1152921504606846977 := fun i hi => by
        obtain ⟨_, _, _, _, r0, r1, _, _⟩ := Lr.round_ok hs h0 h1 hi
        unfold Lr.partF
        split <;> omega
      have HSUM := Lib.hid (Lr.part_sum hf)
      have HLE := Lib.hid (fun j (hj : j ≤ ws.length) => Lr.sumN_le (f := Lr.partF T ws) (fun i hi => (hnn i hi).1) j hj)
      clear HV hl hs hf hnn
      generalize Lr.partF T ws = p at *
      go_enter Tryd.func3, Tryd.ntmps3
      go_wp2_with fail
      refine C.out.mono ?_
      rintro e w1 ⟨⟨rfl, hblk⟩, hb1⟩
      go_wp2_with fail
      refine (D.out _ hb1).mono ?_
      rintro e w2 ⟨u, rfl, hown, hb2⟩
      obtain ⟨g, cp, rfl, hg1, hg2⟩ := hown.form u2
      have HP := Lib.hid (And.intro (hblk.below hb2 hblk.lt) (And.intro hown (below_step hb1 hb2)))
      clear hblk hb1 hb2 hown C D hg1 hg2
      go_wp2
      go_loopw [9, 10] (fun s t wr => ∃ k : Nat, k ≤ ws.length ∧ t = .int .i64 k ∧ s = .int .i64 (Lr.sumN p k) ∧ Hid (BlockAt wr w.heap.size (fnC ws.length p) 3 ∧ OwnF w1.heap.size wr (.slice (some ⟨g, 0, none⟩) ws.length cp) ws.length p ∧ Below w.heap.size w wr)) (fun _ t _ => ws.length - (intOf t).toNat)
      case atStart => exact ⟨0, Nat.zero_le _, rfl, rfl, HP⟩
      case round =>
        obtain ⟨k, hk, rfl, rfl, hg⟩ := hrel
        clear HP
        by_cases hlt : k < ws.length
        · have c1 := (hg.out.1.cell k).trans (fnC_at hlt)
          have c2 := hg.out.2.1.cell hlt
          have s1 := HLE.out k (by omega)
          have s2 := HLE.out (k + 1) (by omega)
          have hs : Lr.sumN p (k + 1) = Lr.sumN p k + p k := rfl
          rw [hs] at s2
          rw [HSUM.out] at s1 s2
          have HS := Lib.hid hs
          obtain ⟨s3, s4⟩ := s1
          obtain ⟨s5, s6⟩ := s2
          clear hs
          generalize p k = x at *
          have hx : (x != x) = false := by simp
          go_wp2_with fail
          go_region
          go_wp2
          go_roundw
          case rel => exact ⟨k + 1, by omega, by go_num, by rw [HS.out], Lib.hid ⟨hg.out.1.drew, hg.out.2.1.drew, hg.out.2.2.drew⟩⟩
          case measure => simp [intOf]; omega
        · obtain rfl : k = ws.length := by omega
          rw [HSUM.out]
          have hT : (T == T) = true := by simp
          have hw := Lib.hid hg.out.2.2
          clear hg
          go_wp2_with fail
          refine (known_any _).mono ?_
          rintro e w3 ⟨rfl, hb3⟩
          have hw3 := below_step hw.out hb3
          clear hb3 hw
          go_wp2
          go_ret
          exact ⟨rfl, hw3⟩
end Go.Proofs.YtmmmlcnclehilaaDoor
