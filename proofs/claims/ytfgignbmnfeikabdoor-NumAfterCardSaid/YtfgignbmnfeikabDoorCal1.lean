/- The program's and the reference's looks at lists of numbers that came in. -/
import Derived.Test.YtfgignbmnfeikabDoorCalN
import Derived.Test.YtfgignbmnfeikabDoorValid
namespace Go.Proofs.YtfgignbmnfeikabDoor
open Go.RowKit

/-- A list of ints that can be read: nil, or a row of cells. -/
def Ints (w : World) (v : Value) (xs : List Int) : Prop :=
  (∃ a c, v = .slice a 0 c ∧ xs = []) ∨ ∃ b off cap, v = .slice (some ⟨b, off, none⟩) xs.length cap ∧ xs.length ≤ cap ∧ b < w.heap.size ∧ ∀ k, k < xs.length → w.cell? ⟨b, off + k, none⟩ = some (.int .i64 (xs.getD k 0))
theorem Ints.all {w w2 : World} {v : Value} {xs : List Int} (h : Ints w v xs) (hb : Below w.heap.size w w2) : Ints w2 v xs := by
  rcases h with h | ⟨b, off, cap, h1, h2, h3, h4⟩
  · exact .inl h
  · exact .inr ⟨b, off, cap, h1, h2, Nat.lt_of_lt_of_le h3 hb.size, fun k hk => (hb.cell (p := ⟨b, off + k, none⟩) h3).trans (h4 k hk)⟩
theorem getD_at {xs : List Int} {k : Nat} (h : k < xs.length) : xs.getD k 0 = xs[k] := by simp [h]

set_option maxRecDepth 20000 in
theorem isSetBelow_any (v : Value) (xs : List Int) (limit : Int) (w : World) (hv : Ints w v xs) (hlen : xs.length ≤ 1000) (hl : 0 ≤ limit) (hl2 : limit ≤ 100000) :
    Calls Tryd.prog 21 #[v, .int .i64 limit] w fun e w' => e = .returned (.bool (Cal.setB limit xs)) ∧ w = w' := by
  rcases hv with ⟨a0, c0, rfl, rfl⟩ | ⟨b, off, cap, rfl, hcap, hb, hc⟩
  · go_enter Tryd.func21, Tryd.ntmps21
    go_wp2
    go_loop [5, 10] (fun s t => s = .int .i64 0 ∧ t = .int .i64 0) (fun _ t => (0 - intOf t).toNat)
    case atStart => exact ⟨rfl, rfl⟩
    case round =>
      obtain ⟨rfl, rfl⟩ := hrel
      go_wp2
      go_ret
      exact ⟨rfl, rfl⟩
  · go_enter Tryd.func21, Tryd.ntmps21
    go_wp2
    go_loop [5, 10] (fun s t => ∃ (k : Nat) (L : Int), k ≤ xs.length ∧ t = .int .i64 k ∧ s = .int .i64 L ∧ 0 ≤ L ∧ L ≤ limit ∧ Hid (Cal.setGo limit L (xs.drop k) = Cal.setB limit xs)) (fun _ t => xs.length - (intOf t).toNat)
    case atStart => exact ⟨0, 0, Nat.zero_le _, rfl, rfl, by omega, hl, Lib.hid rfl⟩
    case round =>
      obtain ⟨k, L, hk, rfl, rfl, hL, hL2, hg⟩ := hrel
      by_cases hlt : k < xs.length
      · have hck := hc k hlt
        rw [getD_at hlt] at hck
        clear hc
        by_cases hbad : xs[k] < L ∨ limit ≤ xs[k]
        · have hr := Lib.hid (Cal.setGo_bad hlt hbad)
          generalize xs[k] = x at *
          by_cases hx : x < L
          all_goals
            go_wp2
            go_ret
            exact ⟨ret_bool (by rw [← hg.out, hr.out]), rfl⟩
        · have hr := Lib.hid (Cal.setGo_good hlt hbad)
          generalize xs[k] = x at *
          have b1 : L ≤ x := by omega
          have b2 : x < limit := by omega
          clear hbad
          go_wp2
          go_round
          case rel => exact ⟨k + 1, x + 1, by omega, by go_num, rfl, by omega, by omega, Lib.hid (by rw [← hr.out]; exact hg.out)⟩
          case measure => simp [intOf]; omega
      · obtain rfl : k = xs.length := by omega
        clear hc
        go_wp2
        go_ret
        exact ⟨ret_bool (by rw [← hg.out, Cal.setGo_end]), rfl⟩

theorem has_any (v : Value) (xs : List Int) (x : Int) (w : World) (hv : Ints w v xs) (hlen : xs.length ≤ 1000) :
    Calls Tryd.prog 38 #[v, .int .i64 x] w fun e w' => e = .returned (.bool (Cal.hasB xs x)) ∧ w = w' := by
  rcases hv with ⟨a0, c0, rfl, rfl⟩ | ⟨b, off, cap, rfl, hcap, hb, hc⟩
  · go_enter Tryd.func38, Tryd.ntmps38
    go_wp2
    go_loop [5] (fun t => t = .int .i64 0) (fun t => (0 - intOf t).toNat)
    case atStart => exact rfl
    case round =>
      obtain rfl := hrel
      go_wp2
      go_ret
      exact ⟨rfl, rfl⟩
  · go_enter Tryd.func38, Tryd.ntmps38
    go_wp2
    go_loop [5] (fun t => ∃ k : Nat, k ≤ xs.length ∧ t = .int .i64 k ∧ Hid (Cal.hasB (xs.drop k) x = Cal.hasB xs x)) (fun t => xs.length - (intOf t).toNat)
    case atStart => exact ⟨0, Nat.zero_le _, rfl, Lib.hid rfl⟩
    case round =>
      obtain ⟨k, hk, rfl, hg⟩ := hrel
      by_cases hlt : k < xs.length
      · have hck := hc k hlt
        rw [getD_at hlt] at hck
        clear hc
        have hd := Lib.hid (Cal.drop_cons hlt)
        generalize xs[k] = y at *
        by_cases hxy : y = x
        · have h' : (y == x) = true := by simp [hxy]
          have h2 := Cal.hasB_hit hd.out hxy
          have H2 := Lib.hid h2
          clear h2 hxy
          go_wp2
          go_ret
          exact ⟨ret_bool (by rw [← hg.out, H2.out]), rfl⟩
        · have h' : (y == x) = false := by simp [hxy]
          have h2 := Cal.hasB_miss hd.out hxy
          have H2 := Lib.hid h2
          clear h2 hxy
          go_wp2
          go_round
          case rel => exact ⟨k + 1, by omega, by go_num, Lib.hid (by rw [← H2.out]; exact hg.out)⟩
          case measure => simp [intOf]; omega
      · obtain rfl : k = xs.length := by omega
        clear hc
        go_wp2
        go_ret
        exact ⟨ret_bool (by rw [← hg.out, Cal.hasB_end]), rfl⟩
end Go.Proofs.YtfgignbmnfeikabDoor
