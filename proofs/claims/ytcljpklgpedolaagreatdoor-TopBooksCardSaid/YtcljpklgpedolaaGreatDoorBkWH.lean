/- The law on copies. -/
import Derived.Test.YtcljpklgpedolaaGreatDoorBkWG
import Derived.Test.YtcljpklgpedolaaGreatDoorBkQH
namespace Go.Proofs.YtcljpklgpedolaaGreatDoor
open Go.RowKit Go.Sort

theorem Bk.sin_txt {ts : List (List UInt8)} (hr : ∀ t ∈ ts, Bk.right t = true) (hl : ts.length ≤ 200) {m : Nat} (hm : m ≤ ts.length) :
    Bk.sinE (Bk.txt 1 0 ts) ((m : Int) + 1) = 0 ∧ Bk.txt 1 0 (ts.take m) ++ Bk.sinS (Bk.txt 1 0 ts) ((m : Int) + 1) = Bk.txt 1 0 ts := by
  have hln : Bk.ln (Bk.txt 1 0 ts) = Bk.lns 1 0 ts := by unfold Bk.ln; rw [Bk.tx_txt hr hl]
  have hE : Bk.sinE (Bk.txt 1 0 ts) ((m : Int) + 1) = 0 := by
    unfold Bk.sinE
    rw [if_neg (by simp [Bk.rest_txt hr hl]), hln, Bk.lns_len, if_neg (by omega)]
  refine ⟨hE, ?_⟩
  have e1 : (((m : Int) + 1) - 1).toNat = m := by omega
  unfold Bk.sinS
  rw [if_pos hE, hln, e1]
  have h := Bk.lns_app (ts.take m) (ts.drop m) 1 0
  rw [List.take_append_drop] at h
  have hlen : (Bk.lns 1 0 (ts.take m)).length = m := by rw [Bk.lns_len, List.length_take]; omega
  rw [h, List.drop_left' hlen, Bk.fmts_lns, ← Bk.txt_app, List.take_append_drop]
theorem Bk.mrg_of {a b : List UInt8} (hE : Bk.relE a b = 0) (hK : Bk.relK a b = 0 ∨ Bk.relK a b = 1) : Bk.mrgE a b = 0 ∧ Bk.mrgS a b = if Bk.relK a b = 1 then b else a := by
  have h : Bk.mrgE a b = 0 := by unfold Bk.mrgE; rw [if_neg (by simp [hE]), if_neg (by omega)]
  refine ⟨h, ?_⟩
  unfold Bk.mrgS
  rw [if_neg (by simp [h])]
/-- A beginning of a book's lines, and the book. -/
theorem Bk.head_rel {ts : List (List UInt8)} (hr : ∀ t ∈ ts, Bk.right t = true) (hl : ts.length ≤ 200) {m : Nat} (hm : m ≤ ts.length) :
    Bk.relE (Bk.txt 1 0 (ts.take m)) (Bk.txt 1 0 ts) = 0 ∧ Bk.relN (Bk.txt 1 0 (ts.take m)) (Bk.txt 1 0 ts) = 0 ∧ Bk.relK (Bk.txt 1 0 (ts.take m)) (Bk.txt 1 0 ts) = (if m = ts.length then 0 else 1) ∧
    Bk.mrgE (Bk.txt 1 0 (ts.take m)) (Bk.txt 1 0 ts) = 0 ∧ Bk.mrgS (Bk.txt 1 0 (ts.take m)) (Bk.txt 1 0 ts) = Bk.txt 1 0 ts := by
  have hr2 : ∀ t ∈ ts.take m, Bk.right t = true := fun t ht => hr t (List.mem_of_mem_take ht)
  have hl2 : (ts.take m).length ≤ 200 := by rw [List.length_take]; omega
  have hln : Bk.ln (Bk.txt 1 0 ts) = Bk.lns 1 0 ts := by unfold Bk.ln; rw [Bk.tx_txt hr hl]
  have hln2 : Bk.ln (Bk.txt 1 0 (ts.take m)) = (Bk.lns 1 0 ts).take m := by unfold Bk.ln; rw [Bk.tx_txt hr2 hl2, Bk.lns_take]
  have hb : Bk.both (Bk.txt 1 0 (ts.take m)) (Bk.txt 1 0 ts) := ⟨Bk.rest_txt hr2 hl2, Bk.rest_txt hr hl⟩
  have hll := Bk.lns_len ts 1 0
  have hc : Bk.cmp ((Bk.lns 1 0 ts).take m) (Bk.lns 1 0 ts) 0 = ((if m = ts.length then 0 else 1), 0) := by
    rw [Bk.cmp_end _ _ 0 (by rw [List.length_take, List.take_take, show min (min (min m (Bk.lns 1 0 ts).length) (Bk.lns 1 0 ts).length) m = min (min m (Bk.lns 1 0 ts).length) (Bk.lns 1 0 ts).length by omega]), List.length_take, hll]
    by_cases h : m = ts.length
    · rw [if_neg (by omega), if_neg (by omega), if_pos h]
    · rw [if_pos (by omega), if_neg h]
  have hE : Bk.relE (Bk.txt 1 0 (ts.take m)) (Bk.txt 1 0 ts) = 0 := by unfold Bk.relE; rw [if_pos hb]
  have hK : Bk.relK (Bk.txt 1 0 (ts.take m)) (Bk.txt 1 0 ts) = (if m = ts.length then 0 else 1) := by unfold Bk.relK; rw [if_pos hb, hln, hln2, hc]
  have hN : Bk.relN (Bk.txt 1 0 (ts.take m)) (Bk.txt 1 0 ts) = 0 := by unfold Bk.relN; rw [if_pos hb, hln, hln2, hc]
  obtain ⟨m1, m2⟩ := Bk.mrg_of hE (by rw [hK]; split <;> simp)
  refine ⟨hE, hN, hK, m1, ?_⟩
  rw [m2, hK]
  by_cases h : m = ts.length
  · rw [if_pos h, if_neg (by omega), h, List.take_length]
  · rw [if_neg h, if_pos rfl]
theorem Bk.ext_of {a b c : List UInt8} (h : a ++ b = c) (h1 : Bk.rest a = []) (h2 : Bk.rest c = []) : Bk.extE a b = 0 ∧ Bk.extS a b = c := by
  have ho : Bk.extOk a b := ⟨h1, by rw [h]; exact h2⟩
  unfold Bk.extE Bk.extS
  rw [if_pos ho, if_pos ho]; exact ⟨rfl, h⟩
set_option maxRecDepth 20000 in
set_option maxHeartbeats 2000000 in
theorem copies_walk (v : Value) (xs : List (List UInt8)) (n : Int) (w : World) (hE : EnvB w) (hV : RowsOf 1 strL w v xs) (hz : ∀ k (hk : k < xs.length), xs[k].length ≤ 9223372036854775807) (n1 : -9223372036854775808 ≤ n) (n2 : n ≤ 9223372036854775807) :
    Calls Tryz.prog 9 #[v, .int .i64 n] w fun e w' => e = .returned (.bool true) ∧ Below w.heap.size w w' := by
  have HE := Lib.hid hE
  have SA := Lib.hid (fun W hW => sane_any W hW)
  have HW := Lib.hid (write_any v xs w hE hV hz)
  have hkr : ∀ t ∈ Bk.kept xs 40, Bk.right t = true := Bk.kept_right
  have hkl := Bk.kept_len xs 40
  have hts := Bk.txt_short (Bk.kept xs 40) 1 0 hkr (by omega)
  generalize Bk.kept xs 40 = ts at *
  clear hV hz hE
  obtain ⟨K, hK⟩ : ∃ K : Nat, (K : Int) = n % 18446744073709551616 % ((ts.length : Int) + 1) := ⟨(n % 18446744073709551616 % ((ts.length : Int) + 1)).toNat, by have := Int.emod_nonneg (n % 18446744073709551616) (b := ((ts.length : Int) + 1)) (by omega); omega⟩
  have hK2 : (K : Int) < (ts.length : Int) + 1 := by rw [hK]; exact Int.emod_lt_of_pos _ (by omega)
  have hKl : K ≤ ts.length := by omega
  have hmod : (n % 18446744073709551616).tmod ((ts.length : Int) + 1) = (K : Int) := by rw [hK]; exact Int.tmod_eq_emod_of_nonneg (by omega)
  clear hK
  obtain ⟨s1, s2⟩ := Bk.sin_txt hkr (by omega) hKl
  obtain ⟨r1, r2, r3, r4, r5⟩ := Bk.head_rel hkr (by omega) hKl
  have hr2 : ∀ t ∈ ts.take K, Bk.right t = true := fun t ht => hkr t (List.mem_of_mem_take ht)
  obtain ⟨x1, x2⟩ := Bk.ext_of s2 (Bk.rest_txt hr2 (by rw [List.length_take]; omega)) (Bk.rest_txt hkr (by omega))
  have hTz : (⟨(Bk.txt 1 0 ts).toArray⟩ : ByteArray).size = (Bk.txt 1 0 ts).length := by show (Bk.txt 1 0 ts).toArray.size = _; rw [List.size_toArray]
  have hTd : (⟨(Bk.txt 1 0 ts).toArray⟩ : ByteArray).data.toList = Bk.txt 1 0 ts := rfl
  have hHz : (⟨(Bk.txt 1 0 (ts.take K)).toArray⟩ : ByteArray).size = (Bk.txt 1 0 (ts.take K)).length := by show (Bk.txt 1 0 (ts.take K)).toArray.size = _; rw [List.size_toArray]
  have hHd : (⟨(Bk.txt 1 0 (ts.take K)).toArray⟩ : ByteArray).data.toList = Bk.txt 1 0 (ts.take K) := rfl
  have hQz : (⟨(Bk.sinS (Bk.txt 1 0 ts) ((K : Int) + 1)).toArray⟩ : ByteArray).size = (Bk.sinS (Bk.txt 1 0 ts) ((K : Int) + 1)).length := by show (Bk.sinS (Bk.txt 1 0 ts) ((K : Int) + 1)).toArray.size = _; rw [List.size_toArray]
  have hQd : (⟨(Bk.sinS (Bk.txt 1 0 ts) ((K : Int) + 1)).toArray⟩ : ByteArray).data.toList = Bk.sinS (Bk.txt 1 0 ts) ((K : Int) + 1) := rfl
  have hlen := congrArg List.length s2
  rw [List.length_append] at hlen
  have HEX : Hid ((⟨(Bk.txt 1 0 ts).toArray⟩ : ByteArray).extract 0 (Bk.txt 1 0 (ts.take K)).length = ⟨(Bk.txt 1 0 (ts.take K)).toArray⟩) := Lib.hid (by
    rw [extract_is, hTd, List.drop_zero]
    conv => lhs; rw [← s2]
    rw [List.take_left' rfl])
  have RD := Lib.hid (fun W hW => read_any ⟨(Bk.txt 1 0 ts).toArray⟩ W hW (by omega))
  have SI := Lib.hid (fun W hW => since_any ⟨(Bk.txt 1 0 ts).toArray⟩ ((K : Int) + 1) W hW (by omega) (by omega) (by omega))
  have EX := Lib.hid (fun W hW => extend_any ⟨(Bk.txt 1 0 (ts.take K)).toArray⟩ ⟨(Bk.sinS (Bk.txt 1 0 ts) ((K : Int) + 1)).toArray⟩ W hW (by omega) (by omega))
  have RL := Lib.hid (fun W hW => relation_any ⟨(Bk.txt 1 0 (ts.take K)).toArray⟩ ⟨(Bk.txt 1 0 ts).toArray⟩ W hW (by omega) (by omega))
  have MG := Lib.hid (fun W hW => merge_any ⟨(Bk.txt 1 0 (ts.take K)).toArray⟩ ⟨(Bk.txt 1 0 ts).toArray⟩ W hW (by omega) (by omega))
  unfold BookSays at RD
  unfold SinSays at SI
  unfold RelSays at RL
  rw [hTd] at RD SI
  rw [hHd, hQd, x1, x2] at EX
  rw [hHd, hTd, r1, r2, r3] at RL
  rw [hHd, hTd, r4, r5] at MG
  rw [s1] at SI
  have hll : (Bk.ln (Bk.txt 1 0 ts)).length = ts.length := by rw [Bk.ln_len, Bk.tx_txt hkr (by omega)]
  clear hkr hr2 s1 s2 r1 r2 r3 r4 r5 x1 x2 hTz hTd hHz hHd hQz hQd
  have hT4 : (Bk.txt 1 0 ts).length ≤ 4000 := by omega
  rw [← hll] at hmod hK2 hKl RL hkl
  clear hll hts
  generalize Bk.sinS (Bk.txt 1 0 ts) ((K : Int) + 1) = Q at *
  generalize Bk.txt 1 0 (ts.take K) = H at *
  generalize Bk.ln (Bk.txt 1 0 ts) = L at *
  generalize Bk.rest (Bk.txt 1 0 ts) = RS at *
  generalize Bk.txt 1 0 ts = T at *
  have hwU : IntKind.u64.wrap n = n % 18446744073709551616 := wrapU n
  have hwM : IntKind.u64.wrap ((L.length : Int) + 1) = (L.length : Int) + 1 := by rw [wrapU]; omega
  have hwK : IntKind.u64.wrap (K : Int) = (K : Int) := by rw [wrapU]; omega
  have hm0 : (((L.length : Int) + 1 == 0)) = false := by rw [beq_eq_false_iff_ne]; omega
  have hiM : IntKind.i64.wrap ((L.length : Int) + 1) = (L.length : Int) + 1 := IntWalk.i64_in _ ⟨by omega, by omega⟩
  have hiK : IntKind.i64.wrap (K : Int) = (K : Int) := IntWalk.i64_in _ ⟨by omega, by omega⟩
  have hiK1 : IntKind.i64.wrap ((K : Int) + 1) = (K : Int) + 1 := IntWalk.i64_in _ ⟨by omega, by omega⟩
  have hiS : IntKind.i64.wrap ((T.length : Int) - (Q.length : Int)) = (H.length : Int) := by
    rw [show (T.length : Int) - (Q.length : Int) = (H.length : Int) by omega]; exact IntWalk.i64_in _ ⟨by omega, by omega⟩
  have hQT : ¬ T.length < Q.length := by omega
  have hkb := HEX.out
  by_cases hKe : K = L.length
  · rw [if_pos hKe] at RL
    have q1 : ((K : Int) == (L.length : Int)) = true := by rw [beq_iff_eq]; omega
    clear hKe
    go_enter Tryz.func9, Tryz.ntmps9
    go_wp2_with fail
    refine HW.out.mono ?_
    rintro e w1 ⟨rfl, hb1⟩
    clear HW
    go_wp2_with fail
    refine (RD.out _ (HE.out.all hb1)).mono ?_
    rintro e w2 ⟨u, rfl, ho, hb2⟩
    have hw2 := below_step hb1 hb2
    have hr := ho.rows lnC_len
    obtain ⟨ua, uc, rfl⟩ := hr.form
    clear hb2 hb1 ho RD hr
    go_wp2_with fail
    refine (SI.out _ (HE.out.all hw2)).mono ?_
    rintro e w3 ⟨rfl, hb3⟩
    have hw3 := below_step hw2 hb3
    clear hb3 hw2 SI
    go_wp2_with fail
    refine (EX.out _ (HE.out.all hw3)).mono ?_
    rintro e w4 ⟨rfl, hb4⟩
    have hw4 := below_step hw3 hb4
    clear hb4 hw3 EX
    go_wp2_with fail
    refine (RL.out _ (HE.out.all hw4)).mono ?_
    rintro e w5 ⟨rfl, hb5⟩
    have hw5 := below_step hw4 hb5
    clear hb5 hw4 RL
    go_wp2_with fail
    refine (MG.out _ (HE.out.all hw5)).mono ?_
    rintro e w6 ⟨rfl, hb6⟩
    have hw6 := below_step hw5 hb6
    clear hb6 hw5 MG
    go_wp2_with fail
    refine (SA.out _ (HE.out.all hw6)).mono ?_
    rintro e w7 ⟨rfl, hb7⟩
    have hw7 := below_step hw6 hb7
    clear hb7 hw6 SA
    go_wp2
    go_ret
    exact ⟨rfl, hw7⟩
  · rw [if_neg hKe] at RL
    have q1 : ((K : Int) == (L.length : Int)) = false := by rw [beq_eq_false_iff_ne]; omega
    clear hKe
    go_enter Tryz.func9, Tryz.ntmps9
    go_wp2_with fail
    refine HW.out.mono ?_
    rintro e w1 ⟨rfl, hb1⟩
    clear HW
    go_wp2_with fail
    refine (RD.out _ (HE.out.all hb1)).mono ?_
    rintro e w2 ⟨u, rfl, ho, hb2⟩
    have hw2 := below_step hb1 hb2
    have hr := ho.rows lnC_len
    obtain ⟨ua, uc, rfl⟩ := hr.form
    clear hb2 hb1 ho RD hr
    go_wp2_with fail
    refine (SI.out _ (HE.out.all hw2)).mono ?_
    rintro e w3 ⟨rfl, hb3⟩
    have hw3 := below_step hw2 hb3
    clear hb3 hw2 SI
    go_wp2_with fail
    refine (EX.out _ (HE.out.all hw3)).mono ?_
    rintro e w4 ⟨rfl, hb4⟩
    have hw4 := below_step hw3 hb4
    clear hb4 hw3 EX
    go_wp2_with fail
    refine (RL.out _ (HE.out.all hw4)).mono ?_
    rintro e w5 ⟨rfl, hb5⟩
    have hw5 := below_step hw4 hb5
    clear hb5 hw4 RL
    go_wp2_with fail
    refine (MG.out _ (HE.out.all hw5)).mono ?_
    rintro e w6 ⟨rfl, hb6⟩
    have hw6 := below_step hw5 hb6
    clear hb6 hw5 MG
    go_wp2_with fail
    refine (SA.out _ (HE.out.all hw6)).mono ?_
    rintro e w7 ⟨rfl, hb7⟩
    have hw7 := below_step hw6 hb7
    clear hb7 hw6 SA
    go_wp2
    go_ret
    exact ⟨rfl, hw7⟩
end Go.Proofs.YtcljpklgpedolaaGreatDoor
