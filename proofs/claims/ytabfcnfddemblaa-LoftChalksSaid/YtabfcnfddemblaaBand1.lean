/- Lengths and validity of bands. -/
import Derived.Test.YtabfcnfddemblaaBandM
namespace Go.Proofs.Ytabfcnfddemblaa
open Go.RowKit

set_option maxRecDepth 20000 in
theorem size_any (v : Value) (rs : List Bd.R) (w : World) (hv : Runs w v rs) (hf : Bd.fine rs) :
    Calls Try.prog 117 #[v] w fun e w' => e = .returned (.int .i64 (Bd.len rs)) ∧ Below w.heap.size w w' := by
  have HB := Lib.hid (Bd.len_take_le hf.2.1)
  obtain ⟨hlen, _, hmax⟩ := hf
  rcases hv with ⟨a0, c0, rfl, rfl, hn0⟩ | ⟨b, off, cap, rfl, hcap, hb, hc⟩
  · go_enter Try.func117, Try.ntmps117
    go_wp2
    go_loop [3, 4] (fun s t => s = .int .i64 0 ∧ t = .int .i64 0) (fun _ t => (0 - intOf t).toNat)
    case atStart => exact ⟨rfl, rfl⟩
    case round =>
      obtain ⟨rfl, rfl⟩ := hrel
      go_wp2
      go_ret
      exact ⟨rfl, Below.refl _ _⟩
  · go_enter Try.func117, Try.ntmps117
    go_wp2
    have hw0 := Below.refl w.heap.size w
    go_loopw [3, 4] (fun s t wr => ∃ k : Nat, k ≤ rs.length ∧ t = .int .i64 k ∧ s = .int .i64 (Bd.len (rs.take k)) ∧ Below w.heap.size w wr) (fun _ t _ => rs.length - (intOf t).toNat)
    case atStart => exact ⟨0, Nat.zero_le _, rfl, rfl, hw0⟩
    case round =>
      obtain ⟨k, hk, rfl, rfl, hw⟩ := hrel
      clear hw0
      by_cases hlt : k < rs.length
      · have hck := hc k hlt
        rw [getD_run hlt] at hck
        clear hc
        obtain ⟨c0, c1, c2, c3⟩ := hck.below hw hb
        clear hck
        have hn := Lib.hid (Bd.len_take_succ hlt)
        have b1 := HB.out k
        have b2 := HB.out (k + 1)
        rw [hn.out] at b2
        generalize hr : rs[k] = r at *
        clear hr
        generalize Bd.len (rs.take k) = s at *
        go_wp2
        go_roundw
        case rel => exact ⟨k + 1, by omega, by go_num, by rw [hn.out], hw⟩
        case measure => simp [intOf]; omega
      · obtain rfl : k = rs.length := by omega
        clear hc
        go_wp2
        go_ret
        exact ⟨ret_int (Bd.len_take_all _ (Nat.le_refl _)), hw⟩

set_option maxRecDepth 20000 in
theorem length_any (v : Value) (rs : List Bd.R) (w : World) (hv : Runs w v rs) (hf : Bd.fine rs) :
    Calls Try.prog 72 #[v] w fun e w' => e = .returned (.int .i64 (Bd.len rs)) ∧ Below w.heap.size w w' := by
  have HB := Lib.hid (Bd.len_take_le hf.2.1)
  obtain ⟨hlen, _, hmax⟩ := hf
  rcases hv with ⟨a0, c0, rfl, rfl, hn0⟩ | ⟨b, off, cap, rfl, hcap, hb, hc⟩
  · go_enter Try.func72, Try.ntmps72
    go_wp2
    go_loop [3, 8] (fun s t => s = .int .i64 0 ∧ t = .int .i64 0) (fun _ t => (0 - intOf t).toNat)
    case atStart => exact ⟨rfl, rfl⟩
    case round =>
      obtain ⟨rfl, rfl⟩ := hrel
      go_wp2
      go_ret
      exact ⟨rfl, Below.refl _ _⟩
  · go_enter Try.func72, Try.ntmps72
    go_wp2
    have hw0 := Below.refl w.heap.size w
    go_loopw [3, 8] (fun s t wr => ∃ k : Nat, k ≤ rs.length ∧ t = .int .i64 k ∧ s = .int .i64 (Bd.len (rs.take k)) ∧ Below w.heap.size w wr) (fun _ t _ => rs.length - (intOf t).toNat)
    case atStart => exact ⟨0, Nat.zero_le _, rfl, rfl, hw0⟩
    case round =>
      obtain ⟨k, hk, rfl, rfl, hw⟩ := hrel
      clear hw0
      by_cases hlt : k < rs.length
      · have hck := hc k hlt
        rw [getD_run hlt] at hck
        clear hc
        obtain ⟨c0, c1, c2, c3⟩ := hck.below hw hb
        clear hck
        have hn := Lib.hid (Bd.len_take_succ hlt)
        have b1 := HB.out k
        have b2 := HB.out (k + 1)
        rw [hn.out] at b2
        generalize hr : rs[k] = r at *
        clear hr
        generalize Bd.len (rs.take k) = s at *
        go_wp2
        go_roundw
        case rel => exact ⟨k + 1, by omega, by go_num, by rw [hn.out], hw.alloc hw.size _⟩
        case measure => simp [intOf]; omega
      · obtain rfl : k = rs.length := by omega
        clear hc
        go_wp2
        go_ret
        exact ⟨ret_int (Bd.len_take_all _ (Nat.le_refl _)), hw⟩

theorem isMark_any (m : Bd.M) (w : World) :
    Calls Try.prog 118 #[markV m] w fun e w' => e = .returned (.bool (Bd.okM m)) ∧ Below w.heap.size w w' := by
  have hb := (Below.refl w.heap.size w).alloc (Nat.le_refl _) (.cells #[.int .i64 m.t, .int .i64 m.s, .int .i64 m.f] 58)
  have HB := Lib.hid hb
  clear hb
  cases ho : Bd.okM m
  · rcases Bd.okM_not ho with h | h | ⟨h1, h2, h | h | ⟨h3, h4, h | h⟩⟩
    all_goals
      clear ho
      obtain ⟨t, s, f⟩ := m
      dsimp only at *
      go_enter Try.func118, Try.ntmps118
      go_wp2
      go_ret
      exact ⟨by first | exact ret_bool (by simp; omega) | rfl, HB.out⟩
  · have h : (1 ≤ m.t ∧ m.t ≤ 1000) ∧ (0 ≤ m.s ∧ m.s ≤ 99) ∧ (0 ≤ m.f ∧ m.f ≤ 15) := by simp [Bd.okM] at ho; omega
    obtain ⟨⟨h1, h2⟩, ⟨h3, h4⟩, h5, h6⟩ := h
    clear ho
    obtain ⟨t, s, f⟩ := m
    dsimp only at *
    go_enter Try.func118, Try.ntmps118
    go_wp2
    go_ret
    exact ⟨by first | exact ret_bool (by simp; omega) | rfl, HB.out⟩

theorem within_any (n lo hi : Int) (w : World) :
    Calls Try.prog 148 #[.int .i64 n, .int .i64 lo, .int .i64 hi] w fun e w' => e = .returned (.bool (decide (lo ≤ n) && decide (n ≤ hi))) ∧ w = w' := by
  by_cases h1 : lo ≤ n
  · by_cases h2 : n ≤ hi
    all_goals
      go_enter Try.func148, Try.ntmps148
      go_wp2
      go_ret
      exact ⟨by simp [h1, h2]; try omega, rfl⟩
  · go_enter Try.func148, Try.ntmps148
    go_wp2
    go_ret
    exact ⟨by simp [h1]; try omega, rfl⟩
theorem within_true (n lo hi : Int) (w : World) (h : lo ≤ n ∧ n ≤ hi) :
    Calls Try.prog 148 #[.int .i64 n, .int .i64 lo, .int .i64 hi] w fun e w' => e = .returned (.bool true) ∧ w = w' :=
  (within_any n lo hi w).mono fun e w' ⟨h1, h2⟩ => ⟨by rw [h1]; simp [h], h2⟩
theorem within_false (n lo hi : Int) (w : World) (h : n < lo ∨ hi < n) :
    Calls Try.prog 148 #[.int .i64 n, .int .i64 lo, .int .i64 hi] w fun e w' => e = .returned (.bool false) ∧ w = w' :=
  (within_any n lo hi w).mono fun e w' ⟨h1, h2⟩ => ⟨by rw [h1]; simp; omega, h2⟩

set_option maxRecDepth 20000 in
theorem validate_any (v : Value) (rs : List Bd.R) (w : World) (hv : Runs w v rs) (hlen : rs.length ≤ 1000) :
    Calls Try.prog 71 #[v] w fun e w' => e = .returned (.int .i64 (Bd.valE rs)) ∧ Below w.heap.size w w' := by
  by_cases hl : 40 < rs.length
  · rw [Bd.valE_large hl]
    obtain ⟨a, c, rfl⟩ := hv.form
    clear hv
    go_enter Try.func71, Try.ntmps71
    go_wp2
    go_ret
    exact ⟨rfl, Below.refl _ _⟩
  · have hv0 := Lib.hid hv
    generalize hE : Bd.valE rs = E
    have HE := Lib.hid hE
    clear hE
    rcases hv with ⟨a0, c0, rfl, rfl, hn0⟩ | ⟨b, off, cap, rfl, hcap, hb, hc⟩
    · have L := Lib.hid (fun W => length_any _ [] W (.inl ⟨a0, c0, rfl, rfl, hn0⟩) Bd.fine_nil)
      go_enter Try.func71, Try.ntmps71
      go_wp2
      go_loop [10] (fun t => t = .int .i64 0) (fun t => (0 - intOf t).toNat)
      case atStart => exact rfl
      case round =>
        obtain rfl := hrel
        go_wp2_with fail
        refine (L.out _).mono ?_
        rintro e w1 ⟨rfl, hb1⟩
        unfold Bd.len
        go_wp2
        go_ret
        exact ⟨ret_int (by rw [← HE.out]; rfl), hb1⟩
    · have L := Lib.hid (fun W (hW : Below w.heap.size w W) ho => length_any _ rs W (hv0.out.all hW) (Bd.fine_ok (by omega) ho))
      go_enter Try.func71, Try.ntmps71
      go_wp2
      have hw0 := Below.refl w.heap.size w
      go_loopw [10] (fun t wr => ∃ k : Nat, k ≤ rs.length ∧ t = .int .i64 k ∧ Hid (∀ r ∈ rs.take k, Bd.okR r = true) ∧ Below w.heap.size w wr) (fun t _ => rs.length - (intOf t).toNat)
      case atStart => exact ⟨0, Nat.zero_le _, rfl, Lib.hid (by simp), hw0⟩
      case round =>
        obtain ⟨k, hk, rfl, hg, hw⟩ := hrel
        clear hw0
        by_cases hlt : k < rs.length
        · clear L hv0
          have hck := hc k hlt
          rw [getD_run hlt] at hck
          clear hc
          obtain ⟨c0, c1, c2, c3⟩ := hck.below hw hb
          clear hck
          cases ho : Bd.okR rs[k]
          · have HB := Lib.hid ((Bd.valE_bad (by omega) hlt ho).symm.trans HE.out)
            have hr := Bd.okR_not ho
            clear ho hg
            generalize rs[k] = r at *
            rcases hr with hr | hr | ⟨hr1, hr2, hr⟩
            · go_wp2
              go_ret
              exact ⟨ret_int HB.out, hw.alloc hw.size _⟩
            · go_wp2
              go_ret
              exact ⟨ret_int HB.out, hw.alloc hw.size _⟩
            · have hr' := Lib.hid hr
              clear hr
              go_wp2_with fail
              refine (isMark_any r.m _).mono ?_
              rw [hr'.out]
              rintro e w1 ⟨rfl, hb1⟩
              go_wp2
              go_ret
              exact ⟨ret_int HB.out, below_step (hw.alloc hw.size _) hb1⟩
          · have hg' := Lib.hid (Bd.take_ok_succ hlt hg.out ho)
            obtain ⟨⟨hr1, hr2⟩, hr⟩ := Bd.okR_iff.1 ho
            clear ho hg
            generalize rs[k] = r at *
            have hr' := Lib.hid hr
            clear hr
            go_wp2_with fail
            refine (isMark_any r.m _).mono ?_
            rw [hr'.out]
            rintro e w1 ⟨rfl, hb1⟩
            go_wp2
            go_roundw
            case rel => exact ⟨k + 1, by omega, by go_num, hg', below_step (hw.alloc hw.size _) hb1⟩
            case measure => simp [intOf]; omega
        · obtain rfl : k = rs.length := by omega
          have ho := hg.out
          rw [List.take_length] at ho
          have hE := Lib.hid ((Bd.valE_ok (by omega) ho).symm.trans HE.out)
          have C := L.out _ hw ho
          clear hc L ho hg hv0
          have C := Lib.hid C
          generalize Bd.len rs = n at *
          by_cases hn : 1000000 < n
          · go_wp2_with fail
            refine C.out.mono ?_
            rintro e w1 ⟨rfl, hb1⟩
            go_wp2
            go_ret
            exact ⟨ret_int ((if_pos hn).symm.trans hE.out), below_step hw hb1⟩
          · go_wp2_with fail
            refine C.out.mono ?_
            rintro e w1 ⟨rfl, hb1⟩
            go_wp2
            go_ret
            exact ⟨ret_int ((if_neg (by omega)).symm.trans hE.out), below_step hw hb1⟩
end Go.Proofs.Ytabfcnfddemblaa
