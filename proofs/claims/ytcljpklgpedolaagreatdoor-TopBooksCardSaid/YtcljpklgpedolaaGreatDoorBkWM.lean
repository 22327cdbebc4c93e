/- The postings of a book add up to nothing: the law's own function. Whether the relation of two books is right: the law's own function. The statement on books at the top. -/
import Derived.Test.YtcljpklgpedolaaGreatDoorBkWL
import Derived.Test.YtcljpklgpedolaaGreatDoorBkWF
import Derived.Test.YtcljpklgpedolaaGreatDoorBkWD
import Derived.Test.YtcljpklgpedolaaGreatDoorBkWH
namespace Go.Proofs.YtcljpklgpedolaaGreatDoor
open Go.RowKit Go.Sort

theorem Bk.got_fit {ts : List (List UInt8)} : ∀ x ∈ Bk.got ts, Bk.valE [x] = 0 := by
  intro x hx
  unfold Bk.got at hx
  obtain ⟨t, _, h⟩ := List.mem_filterMap.1 hx
  split at h
  · unfold Bk.prs at h
    split at h
    · rename_i hc
      injection h with h
      rw [← h]; exact hc.2.2.2
    · cases h
  · cases h
theorem Bk.val_all {l : List Bk.Po} (h64 : l.length ≤ 64) (h : ∀ x ∈ l, Bk.valE [x] = 0) : Bk.valE l = 0 := by
  have h1 : l.all Bk.nms = true := List.all_eq_true.2 fun x hx => by
    obtain ⟨a1, a2, _⟩ := Bk.val_one (h x hx)
    unfold Bk.nms; rw [a1, a2]; rfl
  have h2 : l.all Bk.fit = true := List.all_eq_true.2 fun x hx => by
    obtain ⟨_, _, a3, a4, a5⟩ := Bk.val_one (h x hx)
    unfold Bk.fit
    simp only [Bool.and_eq_true, decide_eq_true_eq]
    exact ⟨a3, a4, a5⟩
  unfold Bk.valE
  rw [if_neg (by omega), h1, h2]; rfl
theorem Bk.val_wide {x : Bk.Po} (h : Bk.valE [x] = 0) : Bk.wide x := by
  obtain ⟨a1, a2, _, a4, a5⟩ := Bk.val_one h
  have e : ∀ {l : List UInt8}, Bk.name l = true → l.length ≤ 8 := fun h => by
    unfold Bk.name at h
    simp only [Bool.and_eq_true, decide_eq_true_eq] at h
    exact h.2.1
  have l1 := e a1
  have l2 := e a2
  exact ⟨by omega, by omega, by omega, by omega⟩
theorem Bk.pg_val {k : List UInt8} (h : Bk.pgE k = 0) : Bk.valE (Bk.pgL k) = 0 ∧ (Bk.pgL k).length ≤ 64 ∧ ∀ j (hj : j < (Bk.pgL k).length), Bk.wide (Bk.pgL k)[j] := by
  have hL : Bk.pgL k = Bk.got (Bk.tx k) := by unfold Bk.pgL; rw [if_pos h]
  have h64 : (Bk.got (Bk.tx k)).length ≤ 64 := by
    unfold Bk.pgE at h
    by_cases h1 : Bk.rest k ≠ []
    · rw [if_pos h1] at h; cases h
    · rw [if_neg h1] at h
      by_cases h2 : Bk.okP (Bk.tx k) = false
      · rw [if_pos h2] at h; cases h
      · rw [if_neg h2] at h
        by_cases h3 : 64 < (Bk.got (Bk.tx k)).length
        · rw [if_pos h3] at h; cases h
        · omega
  rw [hL]
  exact ⟨Bk.val_all h64 Bk.got_fit, h64, fun j hj => Bk.val_wide (Bk.got_fit _ (List.getElem_mem hj))⟩
set_option maxRecDepth 20000 in
set_option maxHeartbeats 1000000 in
theorem nothing_any (a : ByteArray) (w : World) (hE : EnvB w) (hs : a.size ≤ 80000) :
    Calls Tryz.prog 56 #[.string a] w fun e w' => e = .returned (.bool true) ∧ Below w.heap.size w w' := by
  have C := Lib.hid (postings_any a w hE hs)
  unfold PgSays at C
  by_cases h0 : Bk.pgE a.data.toList = 0
  case neg =>
    have q1 : (Bk.pgE a.data.toList == 0) = false := by simpa using h0
    have q2 : (Bk.pgE a.data.toList != 0) = true := by simpa using h0
    clear h0
    generalize Bk.pgE a.data.toList = E at *
    generalize Bk.pgL a.data.toList = L at *
    go_enter Tryz.func56, Tryz.ntmps56
    go_wp2_with fail
    refine C.out.mono ?_
    rintro e w1 ⟨u, rfl, ho, hb1⟩
    obtain ⟨ua, uc, rfl⟩ := (ho.rows poC_len).form
    clear ho C
    go_wp2
    go_ret
    exact ⟨rfl, hb1⟩
  obtain ⟨hv, h64, hwd⟩ := Bk.pg_val h0
  rw [h0] at C
  generalize Bk.pgL a.data.toList = L at *
  have TR := Lib.hid (fun u W hu => trial_any u L W hu (by omega) hwd)
  rw [hv] at TR
  have hT := Bk.tri_sum L
  have hIn := Bk.tri_in (l := L)
  obtain ⟨hTl, _⟩ := Bk.tri_len (l := L)
  clear hv h64 hwd h0 hE
  generalize Bk.tri L = T at *
  have HSN := Lib.hid (fun k (h : k < T.length) => sum_next h)
  have HSB := Lib.hid (fun k => sum_bound (L := T.take k) fun q hq => hIn q (List.mem_of_mem_take hq))
  have HIN := Lib.hid (fun k (h : k < T.length) => hIn T[k] (List.getElem_mem h))
  have HSE : Hid ((T.take T.length).sum = 0) := Lib.hid (by rw [List.take_length]; exact hT)
  clear hIn hT
  go_enter Tryz.func56, Tryz.ntmps56
  go_wp2_with fail
  refine C.out.mono ?_
  rintro e w1 ⟨u, rfl, ho, hb1⟩
  have hr := ho.rows poC_len
  obtain ⟨ua, uc, rfl⟩ := hr.form
  have HT := Lib.hid (TR.out _ _ hr)
  clear ho C hr TR
  go_wp2_with fail
  refine HT.out.mono ?_
  rintro e w2 ⟨u2, rfl, hr2, hb2⟩
  have HW2 := Lib.hid (below_step hb1 hb2)
  obtain ⟨ta, tc, rfl, _, hx⟩ := hr2
  have HX := Lib.hid hx
  clear hb1 hb2 HT hx
  go_wp2
  go_loopw [7, 8] (fun q t wr => ∃ k : Nat, k ≤ T.length ∧ q = .int .i64 (T.take k).sum ∧ t = .int .i64 (k : Int) ∧ Hid (w2 = wr)) (fun _ t _ => T.length - (intOf t).toNat)
  case atStart => exact ⟨0, Nat.zero_le _, rfl, rfl, Lib.hid rfl⟩
  case round =>
    obtain ⟨k, hk, rfl, rfl, hg⟩ := hrel
    obtain rfl := hg.out
    by_cases hlt : k < T.length
    · obtain ⟨b, off, rfl, hb, hr⟩ := HX.out k hlt
      have c0 := intJ_at hr
      simp only [Nat.mul_one] at c0
      have HN := Lib.hid (HSN.out k hlt)
      have hbd := HSB.out k
      have hin := HIN.out k hlt
      have htl : (T.take k).length ≤ 128 := by rw [List.length_take]; omega
      clear hr
      generalize T[k] = x at *
      have hwr : IntKind.i64.wrap ((T.take k).sum + x) = (T.take k).sum + x := IntWalk.i64_in _ ⟨by omega, by omega⟩
      clear hbd hin htl
      generalize (T.take k).sum = q at *
      go_wp2
      go_roundw
      case rel => exact ⟨k + 1, by omega, by rw [HN.out], by go_num, Lib.hid (by first | rfl | trivial)⟩
      case measure => simp [intOf]; omega
    · obtain rfl : k = T.length := by omega
      have hz := HSE.out
      generalize (T.take T.length).sum = q at *
      subst hz
      go_wp2
      go_ret
      exact ⟨rfl, HW2.out⟩
end Go.Proofs.YtcljpklgpedolaaGreatDoor
namespace Go.Proofs.YtcljpklgpedolaaGreatDoor
open Go.RowKit Go.Sort

theorem Bk.first_diff : ∀ (L M : List Bk.Ln), (∃ (i : Nat) (x y : Bk.Ln), L[i]? = some x ∧ M[i]? = some y ∧ x ≠ y ∧ L.take i = M.take i) ∨ L.take (min L.length M.length) = M.take (min L.length M.length)
  | [], M => .inr (by simp)
  | x :: L, [] => .inr (by simp)
  | x :: L, y :: M => by
    by_cases h : x = y
    · subst h
      rcases Bk.first_diff L M with ⟨i, a, b, h1, h2, h3, h4⟩ | h
      · exact .inl ⟨i + 1, a, b, by simpa using h1, by simpa using h2, h3, by simp [h4]⟩
      · right
        rw [List.length_cons, List.length_cons, show min (L.length + 1) (M.length + 1) = min L.length M.length + 1 by omega, List.take_succ_cons, List.take_succ_cons, h]
    · exact .inl ⟨0, x, y, rfl, rfl, h, rfl⟩
set_option maxRecDepth 20000 in
set_option maxHeartbeats 4000000 in
theorem parted_any (a b : ByteArray) (w : World) (hE : EnvB w) (ha : a.size ≤ 40000) (hb : b.size ≤ 40000) (ra : Bk.rest a.data.toList = []) (rb : Bk.rest b.data.toList = []) :
    Calls Tryz.prog 55 #[.string a, .string b] w fun e w' => e = .returned (.bool true) ∧ Below w.heap.size w w' := by
  have HE := Lib.hid hE
  have RL := Lib.hid (fun W hW => relation_any a b W hW (by omega) (by omega))
  have RA := Lib.hid (fun W hW => read_any a W hW (by omega))
  have RB := Lib.hid (fun W hW => read_any b W hW (by omega))
  unfold RelSays at RL
  unfold BookSays at RA RB
  have hbo : Bk.both a.data.toList b.data.toList := ⟨ra, rb⟩
  have hER : Bk.relE a.data.toList b.data.toList = 0 := by unfold Bk.relE; rw [if_pos hbo]
  have hK : Bk.relK a.data.toList b.data.toList = (Bk.cmp (Bk.ln a.data.toList) (Bk.ln b.data.toList) 0).1 := by unfold Bk.relK; rw [if_pos hbo]
  have hN : Bk.relN a.data.toList b.data.toList = (Bk.cmp (Bk.ln a.data.toList) (Bk.ln b.data.toList) 0).2 := by unfold Bk.relN; rw [if_pos hbo]
  have hab : Bk.ln a.data.toList = Bk.ln b.data.toList ↔ a.data.toList = b.data.toList := by
    constructor
    · intro h
      have h2 := Bk.lns_inj _ _ 1 0 h
      rw [Bk.rest_nil.1 ra, Bk.rest_nil.1 rb, h2]
    · intro h; rw [h]
  have la : (Bk.ln a.data.toList).length ≤ 200 := by rw [Bk.ln_len]; exact Bk.tx_len _
  have lb : (Bk.ln b.data.toList).length ≤ 200 := by rw [Bk.ln_len]; exact Bk.tx_len _
  have na : ∀ i x, (Bk.ln a.data.toList)[i]? = some x → x.1 = 1 + i := fun i x h => Bk.lns_num _ 1 0 i x h
  have nb : ∀ i x, (Bk.ln b.data.toList)[i]? = some x → x.1 = 1 + i := fun i x h => Bk.lns_num _ 1 0 i x h
  rw [hER] at RL
  rw [hK, hN] at RL
  have hls : ∀ s : ByteArray, s.toList = s.data.toList := fun s => toList_data s
  have hea : a.toList = a.data.toList := hls a
  have heb : b.toList = b.data.toList := hls b
  have hq : (a.toList == b.toList) = decide (Bk.ln a.data.toList = Bk.ln b.data.toList) := by
    rw [hea, heb]
    by_cases h : a.data.toList = b.data.toList
    · rw [decide_eq_true (hab.2 h), h]; exact beq_self_eq_true _
    · rw [decide_eq_false (fun e => h (hab.1 e))]; exact beq_eq_false_iff_ne.2 h
  clear hab hls hea heb hK hN hER hbo ra rb hE
  generalize Bk.ln a.data.toList = L at *
  generalize Bk.ln b.data.toList = M at *
  generalize Bk.rest a.data.toList = R1 at *
  generalize Bk.rest b.data.toList = R2 at *
  rcases Bk.first_diff L M with ⟨i, x, y, h1, h2, h3, h4⟩ | h
  case inr =>
    rw [Bk.cmp_end L M 0 h] at RL
    by_cases c1 : L.length < M.length
    · rw [if_pos c1] at RL
      rw [decide_eq_false (fun e => by rw [e] at c1; omega)] at hq
      clear h na nb
      dsimp only at RL
      go_enter Tryz.func55, Tryz.ntmps55
      go_wp2_with fail
      refine (RL.out _ HE.out).mono ?_
      rintro e w1 ⟨rfl, hb1⟩
      clear RL
      go_wp2_with fail
      refine (RA.out _ (HE.out.all hb1)).mono ?_
      rintro e w2 ⟨u, rfl, ho, hb2⟩
      have hw2 := below_step hb1 hb2
      have hr := ho.rows lnC_len
      obtain ⟨ua, uc, rfl, _, hxu⟩ := hr
      clear hb1 ho RA
      go_wp2_with fail
      refine (RB.out _ (HE.out.all hw2)).mono ?_
      rintro e w3 ⟨v, rfl, ho, hb3⟩
      have hw3 := below_step hw2 hb3
      have hr := ho.rows lnC_len
      obtain ⟨va, vc, rfl, _, hxv⟩ := hr
      clear hw2 ho RB
      clear hxu hxv hb2 hb3
      go_wp2
      go_ret
      exact ⟨rfl, hw3⟩
    · rw [if_neg c1] at RL
      by_cases c2 : M.length < L.length
      · rw [if_pos c2] at RL
        rw [decide_eq_false (fun e => by rw [e] at c2; omega)] at hq
        clear h na nb
        dsimp only at RL
        go_enter Tryz.func55, Tryz.ntmps55
        go_wp2_with fail
        refine (RL.out _ HE.out).mono ?_
        rintro e w1 ⟨rfl, hb1⟩
        clear RL
        go_wp2_with fail
        refine (RA.out _ (HE.out.all hb1)).mono ?_
        rintro e w2 ⟨u, rfl, ho, hb2⟩
        have hw2 := below_step hb1 hb2
        have hr := ho.rows lnC_len
        obtain ⟨ua, uc, rfl, _, hxu⟩ := hr
        clear hb1 ho RA
        go_wp2_with fail
        refine (RB.out _ (HE.out.all hw2)).mono ?_
        rintro e w3 ⟨v, rfl, ho, hb3⟩
        have hw3 := below_step hw2 hb3
        have hr := ho.rows lnC_len
        obtain ⟨va, vc, rfl, _, hxv⟩ := hr
        clear hw2 ho RB
        clear hxu hxv hb2 hb3
        go_wp2
        go_ret
        exact ⟨rfl, hw3⟩
      · rw [if_neg c2] at RL
        have e : L = M := by
          have e1 : min L.length M.length = L.length := by omega
          have e2 : L.length = M.length := by omega
          rw [e1, List.take_length, e2, List.take_length] at h
          exact h
        rw [decide_eq_true e] at hq
        clear h na nb
        dsimp only at RL
        go_enter Tryz.func55, Tryz.ntmps55
        go_wp2_with fail
        refine (RL.out _ HE.out).mono ?_
        rintro e w1 ⟨rfl, hb1⟩
        clear RL
        go_wp2_with fail
        refine (RA.out _ (HE.out.all hb1)).mono ?_
        rintro e w2 ⟨u, rfl, ho, hb2⟩
        have hw2 := below_step hb1 hb2
        have hr := ho.rows lnC_len
        obtain ⟨ua, uc, rfl, _, hxu⟩ := hr
        clear hb1 ho RA
        go_wp2_with fail
        refine (RB.out _ (HE.out.all hw2)).mono ?_
        rintro e w3 ⟨v, rfl, ho, hb3⟩
        have hw3 := below_step hw2 hb3
        have hr := ho.rows lnC_len
        obtain ⟨va, vc, rfl, _, hxv⟩ := hr
        clear hw2 ho RB
        clear hxu hxv hb2 hb3
        go_wp2
        go_ret
        exact ⟨rfl, hw3⟩
  case inl =>
    rw [Bk.cmp_part L M i 0 x y h1 h2 h4 h3] at RL
    rw [decide_eq_false (fun e => by rw [e, h2] at h1; exact h3 (Option.some.inj h1).symm)] at hq
    have hi1 : i < L.length := (List.getElem?_eq_some_iff.1 h1).1
    have hi2 : i < M.length := (List.getElem?_eq_some_iff.1 h2).1
    have m1 := na i x h1
    have m2 := nb i y h2
    have ex : L[i] = x := (List.getElem?_eq_some_iff.1 h1).2
    have ey : M[i] = y := (List.getElem?_eq_some_iff.1 h2).2
    dsimp only at RL
    rw [Nat.zero_add] at RL
    obtain ⟨xn, xt, xs⟩ := x
    obtain ⟨yn, yt, ys⟩ := y
    have m1 : xn = 1 + i := m1
    have m2 : yn = 1 + i := m2
    subst m1 m2
    have hne : ((xt == yt) && (xs == ys)) = false := by
      by_cases e1 : xt = yt
      · have e2 : xs ≠ ys := fun e2 => h3 (by rw [e1, e2])
        rw [beq_eq_false_iff_ne.2 e2, Bool.and_false]
      · rw [beq_eq_false_iff_ne.2 e1, Bool.false_and]
    have he0 : 0 < i → L[i - 1]'(by omega) = M[i - 1]'(by omega) := fun h0 => by
      have e1 : (L.take i)[i - 1]? = (M.take i)[i - 1]? := by rw [h4]
      rw [List.getElem?_take_of_lt (by omega), List.getElem?_take_of_lt (by omega), List.getElem?_eq_getElem (by omega), List.getElem?_eq_getElem (by omega)] at e1
      exact Option.some.inj e1
    obtain ⟨N, hNe⟩ : ∃ N : Int, N = ((i + 1 : Nat) : Int) := ⟨_, rfl⟩
    rw [← hNe] at RL
    have g1 : (1 : Int) ≤ N := by omega
    have g2 : N ≤ (L.length : Int) := by omega
    have g3 : N ≤ (M.length : Int) := by omega
    have g4 : IntKind.i64.wrap (N - 1) = (i : Int) := by rw [show N - 1 = (i : Int) by omega]; exact IntWalk.i64_in _ ⟨by omega, by omega⟩
    have hi3 : (i : Int) < (L.length : Int) := by omega
    have hxy : (xt = yt ∧ xs ≠ ys) ∨ xt ≠ yt := by
      by_cases e1 : xt = yt
      · exact .inl ⟨e1, fun e2 => h3 (by rw [e1, e2])⟩
      · exact .inr e1
    clear h3 hne
    rcases Nat.eq_zero_or_pos i with h0 | h0
    · have g5 : (N == 1) = true := by rw [beq_iff_eq]; omega
      clear h1 h2 h4 na nb hNe he0 h0
      rcases hxy with ⟨rfl, hs⟩ | hs
      · have q9 : (xs == ys) = false := beq_eq_false_iff_ne.2 hs
        clear hs
        go_enter Tryz.func55, Tryz.ntmps55
        go_wp2_with fail
        refine (RL.out _ HE.out).mono ?_
        rintro e w1 ⟨rfl, hb1⟩
        clear RL
        go_wp2_with fail
        refine (RA.out _ (HE.out.all hb1)).mono ?_
        rintro e w2 ⟨u, rfl, ho, hb2⟩
        have hw2 := below_step hb1 hb2
        have hr := ho.rows lnC_len
        obtain ⟨ua, uc, rfl, _, hxu⟩ := hr
        clear hb1 ho RA
        go_wp2_with fail
        refine (RB.out _ (HE.out.all hw2)).mono ?_
        rintro e w3 ⟨v, rfl, ho, hb3⟩
        have hw3 := below_step hw2 hb3
        have hr := ho.rows lnC_len
        obtain ⟨va, vc, rfl, _, hxv⟩ := hr
        clear hw2 ho RB
        obtain ⟨bL0, oL0, hu0, hl0, hc0⟩ := hxu (i) (by omega)
        obtain ⟨bM0, oM0, hv0, hm0, hd0⟩ := hxv (i) (by omega)
        rw [ex] at hc0
        rw [ey] at hd0
        have hc9 := hc0.below hb3 hl0
        clear hxu hxv hb2 hb3 hc0 ex ey
        subst hu0
        subst hv0
        obtain ⟨c0, c1, c2⟩ := ln_at hc9
        obtain ⟨d0, d1, d2⟩ := ln_at hd0
        go_wp2
        go_quiet (fail)
        go_wp2
        go_ret
        exact ⟨rfl, below_drewN hw3 _⟩
      · have q9 : (xt == yt) = false := beq_eq_false_iff_ne.2 hs
        clear hs
        go_enter Tryz.func55, Tryz.ntmps55
        go_wp2_with fail
        refine (RL.out _ HE.out).mono ?_
        rintro e w1 ⟨rfl, hb1⟩
        clear RL
        go_wp2_with fail
        refine (RA.out _ (HE.out.all hb1)).mono ?_
        rintro e w2 ⟨u, rfl, ho, hb2⟩
        have hw2 := below_step hb1 hb2
        have hr := ho.rows lnC_len
        obtain ⟨ua, uc, rfl, _, hxu⟩ := hr
        clear hb1 ho RA
        go_wp2_with fail
        refine (RB.out _ (HE.out.all hw2)).mono ?_
        rintro e w3 ⟨v, rfl, ho, hb3⟩
        have hw3 := below_step hw2 hb3
        have hr := ho.rows lnC_len
        obtain ⟨va, vc, rfl, _, hxv⟩ := hr
        clear hw2 ho RB
        obtain ⟨bL0, oL0, hu0, hl0, hc0⟩ := hxu (i) (by omega)
        obtain ⟨bM0, oM0, hv0, hm0, hd0⟩ := hxv (i) (by omega)
        rw [ex] at hc0
        rw [ey] at hd0
        have hc9 := hc0.below hb3 hl0
        clear hxu hxv hb2 hb3 hc0 ex ey
        subst hu0
        subst hv0
        obtain ⟨c0, c1, c2⟩ := ln_at hc9
        obtain ⟨d0, d1, d2⟩ := ln_at hd0
        go_wp2
        go_quiet (fail)
        go_wp2
        go_ret
        exact ⟨rfl, below_drewN hw3 _⟩
    · have g5 : (N == 1) = false := by rw [beq_eq_false_iff_ne]; omega
      have g6 : IntKind.i64.wrap (N - 2) = ((i - 1 : Nat) : Int) := by rw [show N - 2 = ((i - 1 : Nat) : Int) by omega]; exact IntWalk.i64_in _ ⟨by omega, by omega⟩
      have he1 := he0 h0
      have hi4 : ((i - 1 : Nat) : Int) < (L.length : Int) := by omega
      have hi5 : i - 1 < L.length := by omega
      have hi6 : i - 1 < M.length := by omega
      clear h1 h2 h4 na nb hNe he0
      rcases hxy with ⟨rfl, hs⟩ | hs
      · have q9 : (xs == ys) = false := beq_eq_false_iff_ne.2 hs
        clear hs
        go_enter Tryz.func55, Tryz.ntmps55
        go_wp2_with fail
        refine (RL.out _ HE.out).mono ?_
        rintro e w1 ⟨rfl, hb1⟩
        clear RL
        go_wp2_with fail
        refine (RA.out _ (HE.out.all hb1)).mono ?_
        rintro e w2 ⟨u, rfl, ho, hb2⟩
        have hw2 := below_step hb1 hb2
        have hr := ho.rows lnC_len
        obtain ⟨ua, uc, rfl, _, hxu⟩ := hr
        clear hb1 ho RA
        go_wp2_with fail
        refine (RB.out _ (HE.out.all hw2)).mono ?_
        rintro e w3 ⟨v, rfl, ho, hb3⟩
        have hw3 := below_step hw2 hb3
        have hr := ho.rows lnC_len
        obtain ⟨va, vc, rfl, _, hxv⟩ := hr
        clear hw2 ho RB
        obtain ⟨bL0, oL0, hu0, hl0, hc0⟩ := hxu (i) (by omega)
        obtain ⟨bM0, oM0, hv0, hm0, hd0⟩ := hxv (i) (by omega)
        obtain ⟨bL1, oL1, hu1, hl1, hc1⟩ := hxu (i - 1) (by omega)
        obtain ⟨bM1, oM1, hv1, hm1, hd1⟩ := hxv (i - 1) (by omega)
        rw [ex] at hc0
        rw [ey] at hd0
        rw [← he1] at hd1
        have hc9 := hc0.below hb3 hl0
        have hc8 := hc1.below hb3 hl1
        clear hxu hxv hb2 hb3 hc0 hc1 ex ey
        subst hu0
        subst hv0
        injection hu1 with hu1
        injection hu1 with hu1 hu1o
        subst hu1 hu1o
        injection hv1 with hv1
        injection hv1 with hv1 hv1o
        subst hv1 hv1o
        clear he1
        generalize L[i - 1] = z at *
        obtain ⟨zn, zt, zs⟩ := z
        obtain ⟨c0, c1, c2⟩ := ln_at hc9
        obtain ⟨d0, d1, d2⟩ := ln_at hd0
        obtain ⟨c3, c4, c5⟩ := ln_at hc8
        obtain ⟨d3, d4, d5⟩ := ln_at hd1
        go_wp2
        go_quiet (fail)
        go_wp2
        go_ret
        exact ⟨rfl, below_drewN hw3 _⟩
      · have q9 : (xt == yt) = false := beq_eq_false_iff_ne.2 hs
        clear hs
        go_enter Tryz.func55, Tryz.ntmps55
        go_wp2_with fail
        refine (RL.out _ HE.out).mono ?_
        rintro e w1 ⟨rfl, hb1⟩
        clear RL
        go_wp2_with fail
        refine (RA.out _ (HE.out.all hb1)).mono ?_
        rintro e w2 ⟨u, rfl, ho, hb2⟩
        have hw2 := below_step hb1 hb2
        have hr := ho.rows lnC_len
        obtain ⟨ua, uc, rfl, _, hxu⟩ := hr
        clear hb1 ho RA
        go_wp2_with fail
        refine (RB.out _ (HE.out.all hw2)).mono ?_
        rintro e w3 ⟨v, rfl, ho, hb3⟩
        have hw3 := below_step hw2 hb3
        have hr := ho.rows lnC_len
        obtain ⟨va, vc, rfl, _, hxv⟩ := hr
        clear hw2 ho RB
        obtain ⟨bL0, oL0, hu0, hl0, hc0⟩ := hxu (i) (by omega)
        obtain ⟨bM0, oM0, hv0, hm0, hd0⟩ := hxv (i) (by omega)
        obtain ⟨bL1, oL1, hu1, hl1, hc1⟩ := hxu (i - 1) (by omega)
        obtain ⟨bM1, oM1, hv1, hm1, hd1⟩ := hxv (i - 1) (by omega)
        rw [ex] at hc0
        rw [ey] at hd0
        rw [← he1] at hd1
        have hc9 := hc0.below hb3 hl0
        have hc8 := hc1.below hb3 hl1
        clear hxu hxv hb2 hb3 hc0 hc1 ex ey
        subst hu0
        subst hv0
        injection hu1 with hu1
        injection hu1 with hu1 hu1o
        subst hu1 hu1o
        injection hv1 with hv1
        injection hv1 with hv1 hv1o
        subst hv1 hv1o
        clear he1
        generalize L[i - 1] = z at *
        obtain ⟨zn, zt, zs⟩ := z
        obtain ⟨c0, c1, c2⟩ := ln_at hc9
        obtain ⟨d0, d1, d2⟩ := ln_at hd0
        obtain ⟨c3, c4, c5⟩ := ln_at hc8
        obtain ⟨d3, d4, d5⟩ := ln_at hd1
        go_wp2
        go_quiet (fail)
        go_wp2
        go_ret
        exact ⟨rfl, below_drewN hw3 _⟩
end Go.Proofs.YtcljpklgpedolaaGreatDoor
namespace Go.Proofs.YtcljpklgpedolaaGreatDoor
open Go.RowKit Go.Sort

set_option maxRecDepth 20000 in
set_option maxHeartbeats 4000000 in
theorem topBooks_walk (v u : Value) (xs ys : List (List UInt8)) (n : Int) (w : World) (hE : EnvB w) (hV : RowsOf 1 strL w v xs) (hU : RowsOf 1 strL w u ys) (hz : ∀ k (hk : k < xs.length), xs[k].length ≤ 9223372036854775807) (hy : ∀ k (hk : k < ys.length), ys[k].length ≤ 9223372036854775807) (n1 : -9223372036854775808 ≤ n) (n2 : n ≤ 9223372036854775807) :
    Calls Tryz.prog 14 #[v, u, .int .i64 n] w fun e w' => e = .returned (.bool true) ∧ Below w.heap.size w w' := by
  have HE := Lib.hid hE
  have HWX := Lib.hid (write_any v xs w hE hV hz)
  have HWY := Lib.hid (fun W (hb : Below w.heap.size w W) => write_any u ys W (hE.all hb) (hU.all hb) hy)
  have hkr : ∀ t ∈ Bk.kept xs 40, Bk.right t = true := Bk.kept_right
  have hkl := Bk.kept_len xs 40
  have hts := Bk.txt_short (Bk.kept xs 40) 1 0 hkr (by omega)
  have hkr2 : ∀ t ∈ Bk.kept ys 40, Bk.right t = true := Bk.kept_right
  have hkl2 := Bk.kept_len ys 40
  have hus := Bk.txt_short (Bk.kept ys 40) 1 0 hkr2 (by omega)
  generalize Bk.kept xs 40 = ts at *
  generalize Bk.kept ys 40 = us at *
  clear hV hU hz hy hE
  obtain ⟨K, hK⟩ : ∃ K : Nat, (K : Int) = n % 18446744073709551616 % ((Bk.txt 1 0 ts).length + 1) := ⟨(n % 18446744073709551616 % ((Bk.txt 1 0 ts).length + 1)).toNat, by have := Int.emod_nonneg (n % 18446744073709551616) (b := (((Bk.txt 1 0 ts).length : Int) + 1)) (by omega); omega⟩
  have hK2 : (K : Int) < ((Bk.txt 1 0 ts).length : Int) + 1 := by rw [hK]; exact Int.emod_lt_of_pos _ (by omega)
  have hmod : (n % 18446744073709551616).tmod (((Bk.txt 1 0 ts).length : Int) + 1) = (K : Int) := by rw [hK]; exact Int.tmod_eq_emod_of_nonneg (by omega)
  clear hK
  have hpre : (Bk.txt 1 0 ts).take K <+: Bk.txt 1 0 ts := List.take_prefix _ _
  have hcut := Bk.tx_cut hkr (by omega) hpre
  obtain ⟨m, hm, hmt⟩ : ∃ m, m ≤ ts.length ∧ Bk.tx ((Bk.txt 1 0 ts).take K) = ts.take m := ⟨_, hcut.length_le, List.prefix_iff_eq_take.1 hcut⟩
  obtain ⟨s1, s2⟩ := Bk.sin_txt hkr (by omega) hm
  obtain ⟨_, _, _, r4, r5⟩ := Bk.head_rel hkr (by omega) hm
  have hr2 : ∀ t ∈ ts.take m, Bk.right t = true := fun t ht => hkr t (List.mem_of_mem_take ht)
  have hl2 : (ts.take m).length ≤ 200 := by rw [List.length_take]; omega
  have hrT := Bk.rest_txt hkr (by omega)
  have hrU := Bk.rest_txt hkr2 (by omega)
  obtain ⟨x1, x2⟩ := Bk.ext_of s2 (Bk.rest_txt hr2 hl2) hrT
  have hlF : (Bk.ln (Bk.txt 1 0 (ts.take m))).length = m := by rw [Bk.ln_len, Bk.tx_txt hr2 hl2, List.length_take]; omega
  have zz : ∀ l : List UInt8, (⟨l.toArray⟩ : ByteArray).size = l.length := fun l => by show l.toArray.size = _; rw [List.size_toArray]
  have dd : ∀ l : List UInt8, (⟨l.toArray⟩ : ByteArray).data.toList = l := fun l => rfl
  have hlen := congrArg List.length s2
  rw [List.length_append] at hlen
  have hkb : ((⟨(Bk.txt 1 0 ts).toArray⟩ : ByteArray).extract 0 K) = ⟨((Bk.txt 1 0 ts).take K).toArray⟩ := by rw [extract_is, dd, List.drop_zero]
  have hkz : ((Bk.txt 1 0 ts).take K).length ≤ 4000 := by rw [List.length_take]; omega
  have SU := Lib.hid (fun W hW => sum_any 0 ⟨#[97]⟩ W hW (by decide) (by omega) (by omega))
  have hsum : Bk.sum 0 (⟨#[97]⟩ : ByteArray).data.toList = 98 := by decide
  rw [hsum] at SU
  have W1 := Lib.hid (fun W hW => isWhole_any ⟨(Bk.txt 1 0 ts).toArray⟩ W hW (by rw [zz]; omega))
  have W2 := Lib.hid (fun W hW => isWhole_any ⟨(Bk.txt 1 0 us).toArray⟩ W hW (by rw [zz]; omega))
  rw [dd, decide_eq_true hrT] at W1
  rw [dd, decide_eq_true hrU] at W2
  have RP := Lib.hid (fun W hW => repair_any ⟨((Bk.txt 1 0 ts).take K).toArray⟩ W hW (by rw [zz]; omega))
  rw [dd, hmt] at RP
  have RD := Lib.hid (fun W hW => read_any ⟨(Bk.txt 1 0 (ts.take m)).toArray⟩ W hW (by rw [zz]; omega))
  unfold BookSays at RD
  rw [dd] at RD
  have SI := Lib.hid (fun W hW => since_any ⟨(Bk.txt 1 0 ts).toArray⟩ ((m : Int) + 1) W hW (by rw [zz]; omega) (by omega) (by omega))
  unfold SinSays at SI
  rw [dd, s1] at SI
  have EX := Lib.hid (fun W hW => extend_any ⟨(Bk.txt 1 0 (ts.take m)).toArray⟩ ⟨(Bk.sinS (Bk.txt 1 0 ts) ((m : Int) + 1)).toArray⟩ W hW (by rw [zz]; omega) (by rw [zz]; omega))
  rw [dd, dd, x1, x2] at EX
  have MG := Lib.hid (fun W hW => merge_any ⟨(Bk.txt 1 0 (ts.take m)).toArray⟩ ⟨(Bk.txt 1 0 ts).toArray⟩ W hW (by rw [zz]; omega) (by rw [zz]; omega))
  rw [dd, dd, r4, r5] at MG
  have PT := Lib.hid (fun W hW => parted_any ⟨(Bk.txt 1 0 ts).toArray⟩ ⟨(Bk.txt 1 0 us).toArray⟩ W hW (by rw [zz]; omega) (by rw [zz]; omega) hrT hrU)
  have NT := Lib.hid (fun W hW => nothing_any ⟨(Bk.txt 1 0 ts).toArray⟩ W hW (by rw [zz]; omega))
  have hT4 : (Bk.txt 1 0 ts).length ≤ 4000 := by omega
  have hm200 : m ≤ 200 := by omega
  clear hkr hkr2 hr2 hl2 hrT hrU s1 s2 r4 r5 x1 x2 zz dd hsum hpre hcut hmt hts hus hkl hkl2 hm hlen hkz
  generalize Bk.sinS (Bk.txt 1 0 ts) ((m : Int) + 1) = Q at *
  have HLF := Lib.hid hlF
  clear hlF
  generalize Bk.rest (Bk.txt 1 0 (ts.take m)) = RS at *
  obtain ⟨LF, hLF⟩ : ∃ LF, LF = Bk.ln (Bk.txt 1 0 (ts.take m)) := ⟨_, rfl⟩
  rw [← hLF] at RD HLF
  clear hLF
  generalize Bk.txt 1 0 (ts.take m) = F at *
  generalize (Bk.txt 1 0 ts).take K = TK at *
  generalize Bk.txt 1 0 ts = T at *
  generalize Bk.txt 1 0 us = U at *
  have hwU : IntKind.u64.wrap n = n % 18446744073709551616 := wrapU n
  have hwM : IntKind.u64.wrap ((T.length : Int) + 1) = (T.length : Int) + 1 := by rw [wrapU]; omega
  have hwK : IntKind.u64.wrap (K : Int) = (K : Int) := by rw [wrapU]; omega
  have hm0 : (((T.length : Int) + 1 == 0)) = false := by rw [beq_eq_false_iff_ne]; omega
  have hiM : IntKind.i64.wrap ((T.length : Int) + 1) = (T.length : Int) + 1 := IntWalk.i64_in _ ⟨by omega, by omega⟩
  have hiK : IntKind.i64.wrap (K : Int) = (K : Int) := IntWalk.i64_in _ ⟨by omega, by omega⟩
  have him : IntKind.i64.wrap ((m : Int) + 1) = (m : Int) + 1 := IntWalk.i64_in _ ⟨by omega, by omega⟩
  go_enter Tryz.func14, Tryz.ntmps14
  go_wp2_with fail
  refine HWX.out.mono ?_
  rintro e w1 ⟨rfl, hw1⟩
  clear HWX
  go_wp2_with fail
  refine (HWY.out _ hw1).mono ?_
  rintro e w2 ⟨rfl, hb2⟩
  have hw2 := below_step hw1 hb2
  clear hb2 hw1 HWY
  go_wp2_with fail
  refine (SU.out _ (HE.out.all hw2)).mono ?_
  rintro e w3 ⟨rfl, hb3⟩
  have hw3 := below_step hw2 hb3
  clear hb3 hw2 SU
  go_wp2_with fail
  refine (W1.out _ (HE.out.all hw3)).mono ?_
  rintro e w4 ⟨rfl, hb4⟩
  have hw4 := below_step hw3 hb4
  clear hb4 hw3 W1
  go_wp2_with fail
  refine (W2.out _ (HE.out.all hw4)).mono ?_
  rintro e w5 ⟨rfl, hb5⟩
  have hw5 := below_step hw4 hb5
  clear hb5 hw4 W2
  go_wp2_with fail
  refine (RP.out _ (HE.out.all hw5)).mono ?_
  rintro e w6 ⟨rfl, hb6⟩
  have hw6 := below_step hw5 hb6
  clear hb6 hw5 RP
  go_wp2_with fail
  refine (RD.out _ (HE.out.all hw6)).mono ?_
  rintro e w7 ⟨q, rfl, ho, hb7⟩
  have hw7 := below_step hw6 hb7
  obtain ⟨qa, qc, rfl⟩ := (ho.rows lnC_len).form
  rw [HLF.out]
  clear hb7 hw6 RD ho HLF
  go_wp2_with fail
  refine (SI.out _ (HE.out.all hw7)).mono ?_
  rintro e w8 ⟨rfl, hb8⟩
  have hw8 := below_step hw7 hb8
  clear hb8 hw7 SI
  go_wp2_with fail
  refine (EX.out _ (HE.out.all hw8)).mono ?_
  rintro e w9 ⟨rfl, hb9⟩
  have hw9 := below_step hw8 hb9
  clear hb9 hw8 EX
  go_wp2_with fail
  refine (MG.out _ (HE.out.all hw9)).mono ?_
  rintro e w10 ⟨rfl, hb10⟩
  have hw10 := below_step hw9 hb10
  clear hb10 hw9 MG
  go_wp2_with fail
  refine (PT.out _ (HE.out.all hw10)).mono ?_
  rintro e w11 ⟨rfl, hb11⟩
  have hw11 := below_step hw10 hb11
  clear hb11 hw10 PT
  go_wp2_with fail
  refine (NT.out _ (HE.out.all hw11)).mono ?_
  rintro e w12 ⟨rfl, hb12⟩
  have hw12 := below_step hw11 hb12
  clear hb12 hw11 NT
  go_wp2
  go_ret
  exact ⟨rfl, hw12⟩
end Go.Proofs.YtcljpklgpedolaaGreatDoor
