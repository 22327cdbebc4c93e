/- Whether texts are too long for a statement; the law on sums. The laws on reading and on appending. -/
import Derived.Test.YtcljpklgpedolaaGreatDoorBkQC
import Derived.Test.YtcljpklgpedolaaGreatDoorBkQF
namespace Go.Proofs.YtcljpklgpedolaaGreatDoor
open Go.RowKit Go.Sort

def Bk.longB (xs : List (List UInt8)) : Bool := xs.any fun l => decide (30000 < l.length)
theorem any_next {α : Type} (f : α → Bool) {l : List α} {k : Nat} (h : k < l.length) : (l.take (k + 1)).any f = ((l.take k).any f || f l[k]) := by
  rw [List.take_succ_eq_append_getElem h, List.any_append, List.any_cons, List.any_nil, Bool.or_false]
set_option maxRecDepth 20000 in
theorem long_any (B cap : Nat) (xs : List (List UInt8)) (w : World) (hc : ∀ k (hk : k < xs.length), w.cell? ⟨B, k, none⟩ = some (sv xs[k])) (hl : xs.length ≤ 1000) (_hcap : xs.length ≤ cap) (hz : ∀ k (hk : k < xs.length), xs[k].length ≤ 9223372036854775807) :
    Calls Tryz.prog 15 #[.slice (some ⟨B, 0, none⟩) xs.length cap] w fun e w' => e = .returned (.bool (Bk.longB xs)) ∧ Below w.heap.size w w' := by
  have HC := Lib.hid hc
  have HZ := Lib.hid hz
  have HN := Lib.hid (fun k (h : k < xs.length) => any_next (fun l => decide (30000 < l.length)) h)
  have HA : Hid (∀ k (h : k < xs.length), 30000 < xs[k].length → Bk.longB xs = true) := Lib.hid (fun k h hlt => List.any_eq_true.2 ⟨xs[k], List.getElem_mem _, by simpa using hlt⟩)
  have HR : Hid (Bk.longB xs = xs.any fun l => decide (30000 < l.length)) := Lib.hid rfl
  clear hc hz
  generalize Bk.longB xs = R at *
  go_enter Tryz.func15, Tryz.ntmps15
  go_wp2
  go_loopw [3] (fun t wr => ∃ k : Nat, k ≤ xs.length ∧ t = .int .i64 (k : Int) ∧ Hid ((xs.take k).any (fun l => decide (30000 < l.length)) = false ∧ wr = w)) (fun t _ => xs.length - (intOf t).toNat)
  case atStart => exact ⟨0, Nat.zero_le _, rfl, Lib.hid ⟨rfl, rfl⟩⟩
  case round =>
    obtain ⟨k, hk, rfl, hg⟩ := hrel
    obtain rfl := hg.out.2
    by_cases hlt : k < xs.length
    · have c0 := HC.out k hlt
      have hzk := HZ.out k hlt
      have HX := Lib.hid (HN.out k hlt)
      have HAk := Lib.hid (HA.out k hlt)
      generalize xs[k] = x at *
      by_cases h3 : 30000 < x.length
      · have HE := Lib.hid (HAk.out h3)
        clear HX HAk
        go_wp2
        go_ret
        exact ⟨by rw [HE.out]; rfl, Below.refl _ _⟩
      · have HX2 : Hid ((xs.take (k + 1)).any (fun l => decide (30000 < l.length)) = false) := Lib.hid (by rw [HX.out, hg.out.1, decide_eq_false h3]; rfl)
        clear HX HAk
        go_wp2
        go_roundw
        case rel => exact ⟨k + 1, by omega, by go_num, Lib.hid ⟨HX2.out, by first | rfl | trivial⟩⟩
        case measure => simp [intOf]; omega
    · have HE : Hid (R = false) := Lib.hid (by
        have := hg.out.1
        rw [show k = xs.length by omega, List.take_length] at this
        rw [HR.out, this])
      go_wp2
      go_ret
      exact ⟨by rw [HE.out]; rfl, Below.refl _ _⟩
set_option maxRecDepth 20000 in
set_option maxHeartbeats 1000000 in
theorem sums_walk (n : Int) (a b : ByteArray) (w : World) (hE : EnvB w) (n1 : -9223372036854775808 ≤ n) (n2 : n ≤ 9223372036854775807) (ha : a.size ≤ 9223372036854775807) (hb : b.size ≤ 9223372036854775807) :
    Calls Tryz.prog 3 #[.int .i64 n, .string a, .string b] w fun e w' => e = .returned (.bool true) ∧ Below w.heap.size w w' := by
  have HE := Lib.hid hE
  have SA := Lib.hid (fun W hW => sane_any W hW)
  have la := len_size a
  have lb := len_size b
  have hB := BlockAt.new w #[.string a, .string b] 9
  have hw0 := below_alloc (Below.refl w.heap.size w) (.cells #[.string a, .string b] 9)
  have LG := Lib.hid (long_any w.heap.size 2 [a.data.toList, b.data.toList] (w.alloc (.cells #[.string a, .string b] 9)) (fun k hk => by
    refine (hB.cell k).trans ?_
    match k, hk with
    | 0, _ => show some (Value.string a) = some (.string ⟨a.data.toList.toArray⟩); rw [mk_list]
    | 1, _ => show some (Value.string b) = some (.string ⟨b.data.toList.toArray⟩); rw [mk_list]) (by simp) (by simp) (fun k hk => by
    match k, hk with
    | 0, _ => show a.data.toList.length ≤ _; omega
    | 1, _ => show b.data.toList.length ≤ _; omega))
  have hlen : ([a.data.toList, b.data.toList] : List (List UInt8)).length = 2 := rfl
  rw [hlen] at LG
  have hlg : Bk.longB [a.data.toList, b.data.toList] = (decide (30000 < a.size) || decide (30000 < b.size)) := by
    unfold Bk.longB
    simp only [List.any_cons, List.any_nil, Bool.or_false, la, lb]
  rw [hlg] at LG
  clear hE hlen hlg
  by_cases hs : a.size ≤ 30000 ∧ b.size ≤ 30000
  · obtain ⟨s1, s2⟩ := hs
    rw [decide_eq_false (show ¬ 30000 < a.size by omega), decide_eq_false (show ¬ 30000 < b.size by omega)] at LG
    have P := Lib.hid (fun (m : Int) (s : ByteArray) W hW h1 h2 h3 => sum_any m s W hW h1 h2 h3)
    have Q := Lib.hid (fun W => refSum_any n a W (by omega) n1 n2)
    have hin := Bk.sum_in n a.data.toList
    have happ : (a ++ b).data.toList = a.data.toList ++ b.data.toList := by simp
    have hab : (a ++ b).size ≤ 100000 := by rw [← len_size, happ, List.length_append]; omega
    have P1 := Lib.hid (fun W hW => P.out n a W hW (by omega) n1 n2)
    have P2 := Lib.hid (fun W hW => P.out (Bk.sum n a.data.toList) b W hW (by omega) (by omega) (by omega))
    have P3 := Lib.hid (fun W hW => P.out n (a ++ b) W hW hab n1 n2)
    rw [Bk.sum_app] at P2
    rw [happ] at P3
    clear P happ la lb hab
    generalize Bk.sum n a.data.toList = S1 at *
    generalize Bk.sum n (a.data.toList ++ b.data.toList) = S2 at *
    go_enter Tryz.func3, Tryz.ntmps3
    go_wp2_with fail
    refine LG.out.mono ?_
    rintro e w1 ⟨rfl, hb1⟩
    have hw1 := below_step hw0 hb1
    clear hb1 hw0 hB LG
    go_wp2_with fail
    refine (P1.out _ (HE.out.all hw1)).mono ?_
    rintro e w2 ⟨rfl, hb2⟩
    have hw2 := below_step hw1 hb2
    clear hb2 hw1
    go_wp2_with fail
    refine (Q.out _).mono ?_
    rintro e w3 ⟨rfl, hb3⟩
    have hw3 := below_step hw2 hb3
    clear hb3 hw2
    go_wp2_with fail
    refine (P1.out _ (HE.out.all hw3)).mono ?_
    rintro e w4 ⟨rfl, hb4⟩
    have hw4 := below_step hw3 hb4
    clear hb4 hw3
    go_wp2_with fail
    refine (P2.out _ (HE.out.all hw4)).mono ?_
    rintro e w5 ⟨rfl, hb5⟩
    have hw5 := below_step hw4 hb5
    clear hb5 hw4
    go_wp2_with fail
    refine (P3.out _ (HE.out.all hw5)).mono ?_
    rintro e w6 ⟨rfl, hb6⟩
    have hw6 := below_step hw5 hb6
    clear hb6 hw5
    go_wp2_with fail
    refine (SA.out _ (HE.out.all hw6)).mono ?_
    rintro e w7 ⟨rfl, hb7⟩
    have hw7 := below_step hw6 hb7
    clear hb7 hw6
    go_wp2
    go_ret
    exact ⟨rfl, hw7⟩
  · have hT : (decide (30000 < a.size) || decide (30000 < b.size)) = true := by
      rw [Bool.or_eq_true, decide_eq_true_eq, decide_eq_true_eq]; omega
    rw [hT] at LG
    clear hs hT
    go_enter Tryz.func3, Tryz.ntmps3
    go_wp2_with fail
    refine LG.out.mono ?_
    rintro e w1 ⟨rfl, hb1⟩
    have hw1 := below_step hw0 hb1
    clear hb1 hw0 hB LG
    go_wp2_with fail
    refine (SA.out _ (HE.out.all hw1)).mono ?_
    rintro e w2 ⟨rfl, hb2⟩
    have hw2 := below_step hw1 hb2
    clear hb2 hw1
    go_wp2
    go_ret
    exact ⟨rfl, hw2⟩
end Go.Proofs.YtcljpklgpedolaaGreatDoor
namespace Go.Proofs.YtcljpklgpedolaaGreatDoor
open Go.RowKit Go.Sort

/-- One text, and whether it is too long. -/
theorem long_one (a : ByteArray) (w : World) (ha : a.size ≤ 9223372036854775807) :
    Calls Tryz.prog 15 #[.slice (some ⟨w.heap.size, 0, none⟩) 1 1] (w.alloc (.cells #[.string a] 9)) fun e w' => e = .returned (.bool (decide (30000 < a.size))) ∧ Below (w.alloc (.cells #[.string a] 9)).heap.size (w.alloc (.cells #[.string a] 9)) w' := by
  have la := len_size a
  have hB := BlockAt.new w #[.string a] 9
  have h := long_any w.heap.size 1 [a.data.toList] (w.alloc (.cells #[.string a] 9)) (fun k hk => by
    obtain rfl : k = 0 := by simp at hk; exact hk
    refine (hB.cell 0).trans ?_
    show some (Value.string a) = some (.string ⟨a.data.toList.toArray⟩); rw [mk_list]) (by simp) (by simp) (fun k hk => by
    obtain rfl : k = 0 := by simp at hk; exact hk
    show a.data.toList.length ≤ _; omega)
  have hlg : Bk.longB [a.data.toList] = decide (30000 < a.size) := by
    unfold Bk.longB
    simp only [List.any_cons, List.any_nil, Bool.or_false, la]
  rw [hlg] at h
  exact h
theorem long_two (a b : ByteArray) (w : World) (ha : a.size ≤ 9223372036854775807) (hb : b.size ≤ 9223372036854775807) :
    Calls Tryz.prog 15 #[.slice (some ⟨w.heap.size, 0, none⟩) 2 2] (w.alloc (.cells #[.string a, .string b] 9)) fun e w' => e = .returned (.bool (decide (30000 < a.size) || decide (30000 < b.size))) ∧ Below (w.alloc (.cells #[.string a, .string b] 9)).heap.size (w.alloc (.cells #[.string a, .string b] 9)) w' := by
  have la := len_size a
  have lb := len_size b
  have hB := BlockAt.new w #[.string a, .string b] 9
  have h := long_any w.heap.size 2 [a.data.toList, b.data.toList] (w.alloc (.cells #[.string a, .string b] 9)) (fun k hk => by
    refine (hB.cell k).trans ?_
    match k, hk with
    | 0, _ => show some (Value.string a) = some (.string ⟨a.data.toList.toArray⟩); rw [mk_list]
    | 1, _ => show some (Value.string b) = some (.string ⟨b.data.toList.toArray⟩); rw [mk_list]) (by simp) (by simp) (fun k hk => by
    match k, hk with
    | 0, _ => show a.data.toList.length ≤ _; omega
    | 1, _ => show b.data.toList.length ≤ _; omega)
  have hlg : Bk.longB [a.data.toList, b.data.toList] = (decide (30000 < a.size) || decide (30000 < b.size)) := by
    unfold Bk.longB
    simp only [List.any_cons, List.any_nil, Bool.or_false, la, lb]
  rw [hlg] at h
  exact h
theorem str_list (a : ByteArray) : Value.string a = sv a.data.toList := by show _ = Value.string ⟨a.data.toList.toArray⟩; rw [mk_list]
set_option maxRecDepth 20000 in
set_option maxHeartbeats 1000000 in
theorem appends_walk (a b : ByteArray) (w : World) (hE : EnvB w) (ha : a.size ≤ 9223372036854775807) (hb : b.size ≤ 9223372036854775807) :
    Calls Tryz.prog 5 #[.string a, .string b] w fun e w' => e = .returned (.bool true) ∧ Below w.heap.size w w' := by
  have HE := Lib.hid hE
  have SA := Lib.hid (fun W hW => sane_any W hW)
  have hw0 := below_alloc (Below.refl w.heap.size w) (.cells #[.string a, .string b] 9)
  have LG := Lib.hid (long_two a b w ha hb)
  clear hE
  by_cases hs : a.size ≤ 30000 ∧ b.size ≤ 30000
  · obtain ⟨s1, s2⟩ := hs
    rw [decide_eq_false (show ¬ 30000 < a.size by omega), decide_eq_false (show ¬ 30000 < b.size by omega)] at LG
    have hbl := len_size b
    have P := Lib.hid (fun W hW => append_any a b.data.toList W hW (by omega) (by omega))
    have Q := Lib.hid (fun W hW => refAppend_any a b.data.toList W hW (by omega) (by omega))
    rw [← str_list b] at P Q
    clear hbl
    generalize Bk.appS a.data.toList b.data.toList = S at *
    generalize Bk.appE a.data.toList b.data.toList = E at *
    go_enter Tryz.func5, Tryz.ntmps5
    go_wp2_with fail
    refine LG.out.mono ?_
    rintro e w1 ⟨rfl, hb1⟩
    have hw1 := below_step hw0 hb1
    clear hb1 hw0 LG
    go_wp2_with fail
    refine (P.out _ (HE.out.all hw1)).mono ?_
    rintro e w2 ⟨rfl, hb2⟩
    have hw2 := below_step hw1 hb2
    clear hb2 hw1
    go_wp2_with fail
    refine (Q.out _ (HE.out.all hw2)).mono ?_
    rintro e w3 ⟨rfl, hb3⟩
    have hw3 := below_step hw2 hb3
    clear hb3 hw2
    go_wp2_with fail
    refine (SA.out _ (HE.out.all hw3)).mono ?_
    rintro e w4 ⟨rfl, hb4⟩
    have hw4 := below_step hw3 hb4
    clear hb4 hw3
    go_wp2
    go_ret
    exact ⟨rfl, hw4⟩
  · have hT : (decide (30000 < a.size) || decide (30000 < b.size)) = true := by
      rw [Bool.or_eq_true, decide_eq_true_eq, decide_eq_true_eq]; omega
    rw [hT] at LG
    clear hs hT
    go_enter Tryz.func5, Tryz.ntmps5
    go_wp2_with fail
    refine LG.out.mono ?_
    rintro e w1 ⟨rfl, hb1⟩
    have hw1 := below_step hw0 hb1
    clear hb1 hw0 LG
    go_wp2_with fail
    refine (SA.out _ (HE.out.all hw1)).mono ?_
    rintro e w2 ⟨rfl, hb2⟩
    have hw2 := below_step hw1 hb2
    clear hb2 hw1
    go_wp2
    go_ret
    exact ⟨rfl, hw2⟩
end Go.Proofs.YtcljpklgpedolaaGreatDoor
