/- The book of some texts: what the law's Write tells. The law on crashes. -/
import Derived.Test.YtcljpklgpedolaaGreatDoorBkQG
namespace Go.Proofs.YtcljpklgpedolaaGreatDoor
open Go.RowKit Go.Sort

/-- The texts that are written, of the first k. -/
def Bk.kept (xs : List (List UInt8)) (k : Nat) : List (List UInt8) := (xs.take k).filter Bk.right
theorem Bk.kept_right {xs : List (List UInt8)} {k : Nat} : ∀ t ∈ Bk.kept xs k, Bk.right t = true := fun t h => (List.mem_filter.1 h).2
theorem Bk.kept_len (xs : List (List UInt8)) (k : Nat) : (Bk.kept xs k).length ≤ k := by
  unfold Bk.kept
  refine Nat.le_trans (List.length_filter_le _ _) ?_
  rw [List.length_take]; omega
theorem Bk.kept_next {xs : List (List UInt8)} {k : Nat} (h : k < xs.length) : Bk.kept xs (k + 1) = if Bk.right xs[k] = true then Bk.kept xs k ++ [xs[k]] else Bk.kept xs k := by
  unfold Bk.kept
  rw [List.take_succ_eq_append_getElem h, List.filter_append]
  by_cases hr : Bk.right xs[k] = true
  · rw [if_pos hr]; simp [hr]
  · rw [if_neg hr]; simp [hr]
theorem Bk.kept_all {xs : List (List UInt8)} {k : Nat} (h : xs.length ≤ k) (hk : k ≤ 40) : Bk.kept xs k = Bk.kept xs 40 := by
  unfold Bk.kept
  rw [List.take_of_length_le h, List.take_of_length_le (by omega)]
theorem Bk.txt_short : ∀ (ts : List (List UInt8)) (n : Nat) (b : Int), (∀ t ∈ ts, Bk.right t = true) → n + ts.length ≤ 1000000 → (Bk.txt n b ts).length ≤ 97 * ts.length
  | [], _, _, _, _ => by simp [Bk.txt]
  | t :: r, n, b, hr, hl => by
    rw [List.length_cons] at hl
    have h1 := Bk.wr_short (n := n) b (by omega) (hr t (by simp))
    have h2 := Bk.txt_short r (n + 1) (Bk.nxt n b t) (fun u hu => hr u (List.mem_cons_of_mem _ hu)) (by omega)
    rw [Bk.txt, List.length_append, List.length_cons]; omega
theorem Bk.app_kept {ts : List (List UInt8)} {t : List UInt8} (hr : ∀ t ∈ ts, Bk.right t = true) (hl : ts.length < 200) :
    Bk.appE (Bk.txt 1 0 ts) t = (if Bk.right t = true then 0 else 1) ∧ (Bk.right t = true → Bk.appS (Bk.txt 1 0 ts) t = Bk.txt 1 0 (ts ++ [t])) := by
  have h1 := Bk.tx_txt hr (by omega)
  have h2 := Bk.rest_txt hr (by omega)
  have hA : Bk.appE (Bk.txt 1 0 ts) t = (if Bk.right t = true then 0 else 1) := by
    unfold Bk.appE
    rw [if_neg (by simp [h2]), h1]
    by_cases h : Bk.right t = true
    · rw [if_neg (by simp [h]), if_neg (by omega), if_pos h]
    · rw [if_pos (by simpa using h), if_neg h]
  refine ⟨hA, fun h => ?_⟩
  unfold Bk.appS
  rw [hA, if_pos h, if_pos rfl, h1, Bk.txt_app, Bk.txt, Bk.txt, List.append_nil, show ts.length + 1 = 1 + ts.length by omega]
set_option maxRecDepth 20000 in
set_option maxHeartbeats 1000000 in
theorem write_any (v : Value) (xs : List (List UInt8)) (w : World) (hE : EnvB w) (hV : RowsOf 1 strL w v xs) (hz : ∀ k (hk : k < xs.length), xs[k].length ≤ 9223372036854775807) :
    Calls Tryz.prog 36 #[v] w fun e w' => e = .returned (sv (Bk.txt 1 0 (Bk.kept xs 40))) ∧ Below w.heap.size w w' := by
  obtain ⟨va, vc, rfl, _, hvk⟩ := hV
  have HV := Lib.hid hvk
  have HZ := Lib.hid hz
  have HE := Lib.hid hE
  have hw0 := Lib.hid (Below.refl w.heap.size w)
  have HS : Hid (∀ k, k ≤ 40 → ((⟨(Bk.txt 1 0 (Bk.kept xs k)).toArray⟩ : ByteArray).size ≤ 80000)) := Lib.hid (fun k hk => by
    show (Bk.txt 1 0 (Bk.kept xs k)).toArray.size ≤ _
    rw [List.size_toArray]
    have h1 := Bk.kept_len xs k
    have h2 := Bk.txt_short (Bk.kept xs k) 1 0 Bk.kept_right (by omega)
    omega)
  have HN : Hid (∀ k (hk : k < xs.length), k < 40 → Bk.appE (Bk.txt 1 0 (Bk.kept xs k)) xs[k] = (if Bk.right xs[k] = true then 0 else 1) ∧ (Bk.right xs[k] = true → Bk.appS (Bk.txt 1 0 (Bk.kept xs k)) xs[k] = Bk.txt 1 0 (Bk.kept xs (k + 1))) ∧ (Bk.right xs[k] = false → Bk.txt 1 0 (Bk.kept xs (k + 1)) = Bk.txt 1 0 (Bk.kept xs k))) := Lib.hid (fun k hk h40 => by
    have h1 := Bk.kept_len xs k
    obtain ⟨a1, a2⟩ := Bk.app_kept (ts := Bk.kept xs k) (t := xs[k]) Bk.kept_right (by omega)
    refine ⟨a1, fun h => ?_, fun h => ?_⟩
    · rw [a2 h, Bk.kept_next hk, if_pos h]
    · rw [Bk.kept_next hk, if_neg (by simp [h])])
  have HA : Hid (∀ k, xs.length ≤ k → k ≤ 40 → Bk.txt 1 0 (Bk.kept xs k) = Bk.txt 1 0 (Bk.kept xs 40)) := Lib.hid (fun k h1 h2 => by rw [Bk.kept_all h1 h2])
  have hF : ∃ F : Nat → List UInt8, F = fun k => Bk.txt 1 0 (Bk.kept xs k) := ⟨_, rfl⟩
  obtain ⟨F, hF⟩ := hF
  have hFk : ∀ k, Bk.txt 1 0 (Bk.kept xs k) = F k := fun k => by rw [hF]
  simp only [hFk] at HS HN HA ⊢
  have h00 : F 0 = [] := by rw [← hFk]; rfl
  have HAP := Lib.hid (fun k (hk : k ≤ 40) t (ht : t.length ≤ 9223372036854775807) W hW => append_any ⟨(F k).toArray⟩ t W hW (HS.out k hk) ht)
  clear hvk hz hE hF hFk
  go_enter Tryz.func36, Tryz.ntmps36
  go_wp2
  go_loopw [3, 4] (fun u t wr => ∃ k : Nat, k ≤ xs.length ∧ k ≤ 40 ∧ u = .string ⟨(F k).toArray⟩ ∧ t = .int .i64 (k : Int) ∧ Hid (Below w.heap.size w wr)) (fun _ t _ => xs.length - (intOf t).toNat)
  case atStart => exact ⟨0, Nat.zero_le _, by omega, by rw [h00], rfl, hw0⟩
  case round =>
    obtain ⟨k, hk, hk40, rfl, rfl, hg⟩ := hrel
    by_cases hlt : k < xs.length
    · by_cases h40 : k < 40
      · obtain ⟨b, off, rfl, hb, hr⟩ := HV.out k hlt
        have c0 : _ = some (Value.string _) := (hr.below hg.out hb) 0 _ rfl
        have hzk := HZ.out k hlt
        obtain ⟨a1, a2, a3⟩ := HN.out k hlt h40
        have HC := Lib.hid (HAP.out k hk40 xs[k] hzk)
        clear hr
        simp only [Nat.mul_one, Nat.add_zero] at c0
        generalize xs[k] = x at *
        rw [a1] at HC
        clear a1
        cases hR : Bk.right x with
        | true =>
          rw [if_pos hR, a2 hR] at HC
          clear a2 a3
          go_wp2_with fail
          refine (HC.out _ (HE.out.all hg.out)).mono ?_
          rintro e w1 ⟨rfl, hb1⟩
          have hw1 := below_step hg.out hb1
          clear hb1 HC
          go_wp2
          go_roundw
          case rel => exact ⟨k + 1, by omega, by omega, rfl, by go_num, Lib.hid hw1⟩
          case measure => simp [intOf]; omega
        | false =>
          rw [if_neg (by simp [hR])] at HC
          have H3 := Lib.hid (a3 hR)
          clear a2 a3
          go_wp2_with fail
          refine (HC.out _ (HE.out.all hg.out)).mono ?_
          rintro e w1 ⟨rfl, hb1⟩
          have hw1 := below_step hg.out hb1
          clear hb1 HC
          go_wp2
          go_roundw
          case rel => exact ⟨k + 1, by omega, by omega, by rw [H3.out], by go_num, Lib.hid hw1⟩
          case measure => simp [intOf]; omega
      · have h4 := HA.out
        obtain rfl : k = 40 := by omega
        go_wp2
        go_ret
        exact ⟨rfl, hg.out⟩
    · have H4 := Lib.hid (HA.out k (by omega) hk40)
      go_wp2
      go_ret
      exact ⟨by rw [← H4.out]; rfl, hg.out⟩
end Go.Proofs.YtcljpklgpedolaaGreatDoor
namespace Go.Proofs.YtcljpklgpedolaaGreatDoor
open Go.RowKit Go.Sort

theorem wrapU (a : Int) : IntKind.u64.wrap a = a % 18446744073709551616 := by simp [IntKind.wrap, IntKind.bits, IntKind.signed]
/-- A list's first lines can be read. -/
theorem RowsOf.first {α : Type} {c : Nat} {cs : α → List Value} {w : World} {a : Option Addr} {l cap m : Nat} {xs : List α} (h : RowsOf c cs w (.slice a l cap) xs) (hm : m ≤ xs.length) : RowsOf c cs w (.slice a m cap) (xs.take m) := by
  obtain ⟨a', cap', e, h0, h1⟩ := h
  injection e with e1 e2 e3
  subst e1 e3
  have hl : (xs.take m).length = m := by rw [List.length_take]; omega
  refine ⟨a, cap, by rw [hl], by omega, fun k hk => ?_⟩
  obtain ⟨b, off, q1, q2, q3⟩ := h1 k (by omega)
  refine ⟨b, off, q1, q2, ?_⟩
  rwa [List.getElem_take]
/-- What is left of a book of right lines. -/
theorem Bk.left_facts {ts : List (List UInt8)} (hr : ∀ t ∈ ts, Bk.right t = true) (hl : ts.length ≤ 200) (K : Nat) :
    Bk.ln ((Bk.txt 1 0 ts).take K) = (Bk.lns 1 0 ts).take (Bk.ln ((Bk.txt 1 0 ts).take K)).length ∧ (Bk.ln ((Bk.txt 1 0 ts).take K)).length ≤ (Bk.lns 1 0 ts).length ∧ (Bk.rest ((Bk.txt 1 0 ts).take K)).length ≤ 97 ∧ (Bk.rest ((Bk.txt 1 0 ts).take K) = [] ∨ (Bk.ln ((Bk.txt 1 0 ts).take K)).length < (Bk.lns 1 0 ts).length) ∧
    Bk.txt 1 0 (Bk.tx ((Bk.txt 1 0 ts).take K)) ++ Bk.rest ((Bk.txt 1 0 ts).take K) = (Bk.txt 1 0 ts).take K ∧ Bk.rest (Bk.txt 1 0 (Bk.tx ((Bk.txt 1 0 ts).take K))) = [] := by
  have hk : (Bk.txt 1 0 ts).take K <+: Bk.txt 1 0 ts := List.take_prefix _ _
  obtain ⟨h1, h2⟩ := Bk.torn_short hr hl hk
  obtain ⟨q, hq⟩ := Bk.tx_cut hr hl hk
  have hn := Bk.ln_len ((Bk.txt 1 0 ts).take K)
  have hle := congrArg List.length hq
  rw [List.length_append] at hle
  rw [Bk.lns_len, hn]
  refine ⟨?_, by omega, h1, h2, (Bk.book_eq _).symm, Bk.rest_txt (fun t ht => Bk.tx_right ht) (Bk.tx_len _)⟩
  unfold Bk.ln
  have h9 : Bk.lns 1 0 ts = Bk.lns 1 0 (Bk.tx ((Bk.txt 1 0 ts).take K)) ++ Bk.lns (1 + (Bk.tx ((Bk.txt 1 0 ts).take K)).length) (Bk.lst 1 0 (Bk.tx ((Bk.txt 1 0 ts).take K))) q := by rw [← Bk.lns_app, hq]
  rw [h9, List.take_left' (Bk.lns_len _ _ _)]
set_option maxRecDepth 20000 in
set_option maxHeartbeats 2000000 in
theorem crashes_walk (v : Value) (xs : List (List UInt8)) (n : Int) (w : World) (hE : EnvB w) (hV : RowsOf 1 strL w v xs) (hz : ∀ k (hk : k < xs.length), xs[k].length ≤ 9223372036854775807) (n1 : -9223372036854775808 ≤ n) (n2 : n ≤ 9223372036854775807) :
    Calls Tryz.prog 8 #[v, .int .i64 n] w fun e w' => e = .returned (.bool true) ∧ Below w.heap.size w w' := by
  have HE := Lib.hid hE
  have SA := Lib.hid (fun W hW => sane_any W hW)
  have HW := Lib.hid (write_any v xs w hE hV hz)
  have hkr : ∀ t ∈ Bk.kept xs 40, Bk.right t = true := Bk.kept_right
  have hkl := Bk.kept_len xs 40
  have hts := Bk.txt_short (Bk.kept xs 40) 1 0 hkr (by omega)
  generalize Bk.kept xs 40 = ts at *
  clear hV hz
  obtain ⟨a, c, hc⟩ : ∃ a c, True := ⟨0, 0, trivial⟩
  clear a c hc
  obtain ⟨K, hK⟩ : ∃ K : Nat, (K : Int) = n % 18446744073709551616 % ((Bk.txt 1 0 ts).length + 1) := ⟨(n % 18446744073709551616 % ((Bk.txt 1 0 ts).length + 1)).toNat, by have := Int.emod_nonneg (n % 18446744073709551616) (b := (((Bk.txt 1 0 ts).length : Int) + 1)) (by omega); omega⟩
  have hK2 : (K : Int) < ((Bk.txt 1 0 ts).length : Int) + 1 := by rw [hK]; exact Int.emod_lt_of_pos _ (by omega)
  have hTL : ((⟨(Bk.txt 1 0 ts).toArray⟩ : ByteArray)).size = (Bk.txt 1 0 ts).length := by show (Bk.txt 1 0 ts).toArray.size = _; rw [List.size_toArray]
  have hTD : ((⟨(Bk.txt 1 0 ts).toArray⟩ : ByteArray)).data.toList = Bk.txt 1 0 ts := rfl
  obtain ⟨f1, f2, f3, f4, f5, f6⟩ := Bk.left_facts hkr (by omega) K
  have P := Lib.hid (fun W hW => read_any ⟨(Bk.txt 1 0 ts).toArray⟩ W hW (by omega))
  have hkb : ((⟨(Bk.txt 1 0 ts).toArray⟩ : ByteArray).extract 0 K) = ⟨((Bk.txt 1 0 ts).take K).toArray⟩ := by rw [extract_is, hTD, List.drop_zero]
  have hkz : (⟨((Bk.txt 1 0 ts).take K).toArray⟩ : ByteArray).size ≤ 80000 := by show ((Bk.txt 1 0 ts).take K).toArray.size ≤ _; rw [List.size_toArray, List.length_take]; omega
  have P2 := Lib.hid (fun W hW => read_any ⟨((Bk.txt 1 0 ts).take K).toArray⟩ W hW hkz)
  have RP := Lib.hid (fun W hW => repair_any ⟨((Bk.txt 1 0 ts).take K).toArray⟩ W hW hkz)
  have hwz : (⟨(Bk.txt 1 0 (Bk.tx ((Bk.txt 1 0 ts).take K))).toArray⟩ : ByteArray).size ≤ 80000 := by
    show (Bk.txt 1 0 (Bk.tx ((Bk.txt 1 0 ts).take K))).toArray.size ≤ _
    rw [List.size_toArray]
    have := congrArg List.length f5
    rw [List.length_append, List.length_take] at this; omega
  have WH := Lib.hid (fun W hW => isWhole_any ⟨(Bk.txt 1 0 (Bk.tx ((Bk.txt 1 0 ts).take K))).toArray⟩ W hW hwz)
  unfold BookSays at P P2
  have d1 : ((⟨((Bk.txt 1 0 ts).take K).toArray⟩ : ByteArray)).data.toList = (Bk.txt 1 0 ts).take K := rfl
  have d2 : ((⟨(Bk.txt 1 0 (Bk.tx ((Bk.txt 1 0 ts).take K))).toArray⟩ : ByteArray)).data.toList = Bk.txt 1 0 (Bk.tx ((Bk.txt 1 0 ts).take K)) := rfl
  rw [hTD, Bk.rest_txt hkr (by omega), show Bk.ln (Bk.txt 1 0 ts) = Bk.lns 1 0 ts by unfold Bk.ln; rw [Bk.tx_txt hkr (by omega)]] at P
  rw [d1] at P2 RP
  rw [d2, decide_eq_true f6] at WH
  have hll : (Bk.lns 1 0 ts).length ≤ 40 := by rw [Bk.lns_len]; exact hkl
  have HCAT : Hid ((⟨(Bk.txt 1 0 (Bk.tx ((Bk.txt 1 0 ts).take K))).toArray⟩ : ByteArray) ++ ⟨(Bk.rest ((Bk.txt 1 0 ts).take K)).toArray⟩ = ⟨((Bk.txt 1 0 ts).take K).toArray⟩) := Lib.hid (by rw [bytes_append, f5])
  have hFL : (Bk.txt 1 0 (Bk.tx ((Bk.txt 1 0 ts).take K))).length ≤ 80000 := by
    have h9 : (⟨(Bk.txt 1 0 (Bk.tx ((Bk.txt 1 0 ts).take K))).toArray⟩ : ByteArray).size = (Bk.txt 1 0 (Bk.tx ((Bk.txt 1 0 ts).take K))).length := by show (Bk.txt 1 0 (Bk.tx ((Bk.txt 1 0 ts).take K))).toArray.size = _; rw [List.size_toArray]
    omega
  clear hkr f5 f6 hwz hkz d1 d2 hTD
  generalize Bk.txt 1 0 (Bk.tx ((Bk.txt 1 0 ts).take K)) = FX at *
  generalize Bk.rest ((Bk.txt 1 0 ts).take K) = R at *
  generalize Bk.ln ((Bk.txt 1 0 ts).take K) = L2 at *
  generalize Bk.lns 1 0 ts = L at *
  generalize (Bk.txt 1 0 ts).take K = TK at *
  generalize Bk.txt 1 0 ts = T at *
  have hT4 : T.length ≤ 4000 := by omega
  clear hts
  have HF1 := Lib.hid f1
  have HSM := Lib.hid (fun u v W hu hv => sameLines_any u v L2 W hu hv (by omega))
  have hwU : IntKind.u64.wrap n = n % 18446744073709551616 := wrapU n
  have hwM : IntKind.u64.wrap ((T.length : Int) + 1) = (T.length : Int) + 1 := by rw [wrapU]; omega
  have hmod : (n % 18446744073709551616).tmod ((T.length : Int) + 1) = (K : Int) := by rw [hK]; exact Int.tmod_eq_emod_of_nonneg (by omega)
  have hwK : IntKind.u64.wrap (K : Int) = (K : Int) := by rw [wrapU]; omega
  have hm0 : (((T.length : Int) + 1 == 0)) = false := by rw [beq_eq_false_iff_ne]; omega
  have hiM : IntKind.i64.wrap ((T.length : Int) + 1) = (T.length : Int) + 1 := IntWalk.i64_in _ ⟨by omega, by omega⟩
  have hiK : IntKind.i64.wrap (K : Int) = (K : Int) := IntWalk.i64_in _ ⟨by omega, by omega⟩
  have q9 : ((({ data := FX.toArray } : ByteArray) ++ ({ data := R.toArray } : ByteArray)).toList == TK) = true := by rw [HCAT.out, toList_data]; simp
  clear f1 hE hK hkl
  by_cases h0 : R = []
  · subst h0
    have q8 : ((({ data := FX.toArray } : ByteArray) ++ ({ data := #[] } : ByteArray)).toList == TK) = true := q9
    clear q9
    go_enter Tryz.func8, Tryz.ntmps8
    go_wp2_with fail
    refine HW.out.mono ?_
    rintro e w1 ⟨rfl, hb1⟩
    clear HW
    go_wp2_with fail
    refine (P.out _ (HE.out.all hb1)).mono ?_
    rintro e w2 ⟨u, rfl, ho, hb2⟩
    have hw2 := below_step hb1 hb2
    have hr := ho.rows lnC_len
    obtain ⟨ua, uc, rfl⟩ := hr.form
    have HR1 := Lib.hid hr
    clear hb2 hb1 ho P hr
    go_wp2_with fail
    refine (P2.out _ (HE.out.all hw2)).mono ?_
    rintro e w3 ⟨v2, rfl, ho, hb3⟩
    have hw3 := below_step hw2 hb3
    have hr := ho.rows lnC_len
    obtain ⟨va, vc, rfl⟩ := hr.form
    have HSE := Lib.hid (HSM.out _ _ w3 hr (by rw [HF1.out]; exact (HR1.out.all hb3).first f2))
    have hcap : L.length ≤ uc := by
      obtain ⟨_, _, e9, hc, _⟩ := HR1.out
      injection e9 with _ _ e8
      rw [e8]; exact hc
    clear hb3 hw2 ho P2 HR1 hr HSM
    go_wp2_with fail
    refine HSE.out.mono ?_
    rintro e w4 ⟨rfl, hb4⟩
    have hw4 := below_step hw3 hb4
    clear hb4 hw3 HSE
    go_wp2_with fail
    refine (RP.out _ (HE.out.all hw4)).mono ?_
    rintro e w5 ⟨rfl, hb5⟩
    have hw5 := below_step hw4 hb5
    clear hb5 hw4 RP
    go_wp2_with fail
    refine (WH.out _ (HE.out.all hw5)).mono ?_
    rintro e w6 ⟨rfl, hb6⟩
    have hw6 := below_step hw5 hb6
    clear hb6 hw5 WH
    go_wp2_with fail
    refine (SA.out _ (HE.out.all hw6)).mono ?_
    rintro e w7 ⟨rfl, hb7⟩
    have hw7 := below_step hw6 hb7
    clear hb7 hw6 SA
    go_wp2
    go_ret
    exact ⟨rfl, hw7⟩
  · have q2 : (R == []) = decide (R = []) := by cases R <;> simp
    have q3 : R.isEmpty = decide (R = []) := by cases R <;> simp
    rw [decide_eq_false h0] at q2 q3
    have h1 := f4.resolve_left h0
    have q1 : decide ((L2.length : Int) < (L.length : Int)) = true := by rw [decide_eq_true_eq]; omega
    go_enter Tryz.func8, Tryz.ntmps8
    go_wp2_with fail
    refine HW.out.mono ?_
    rintro e w1 ⟨rfl, hb1⟩
    clear HW
    go_wp2_with fail
    refine (P.out _ (HE.out.all hb1)).mono ?_
    rintro e w2 ⟨u, rfl, ho, hb2⟩
    have hw2 := below_step hb1 hb2
    have hr := ho.rows lnC_len
    obtain ⟨ua, uc, rfl⟩ := hr.form
    have HR1 := Lib.hid hr
    clear hb2 hb1 ho P hr
    go_wp2_with fail
    refine (P2.out _ (HE.out.all hw2)).mono ?_
    rintro e w3 ⟨v2, rfl, ho, hb3⟩
    have hw3 := below_step hw2 hb3
    have hr := ho.rows lnC_len
    obtain ⟨va, vc, rfl⟩ := hr.form
    have HSE := Lib.hid (HSM.out _ _ w3 hr (by rw [HF1.out]; exact (HR1.out.all hb3).first f2))
    have hcap : L.length ≤ uc := by
      obtain ⟨_, _, e9, hc, _⟩ := HR1.out
      injection e9 with _ _ e8
      rw [e8]; exact hc
    clear hb3 hw2 ho P2 HR1 hr HSM
    go_wp2_with fail
    refine HSE.out.mono ?_
    rintro e w4 ⟨rfl, hb4⟩
    have hw4 := below_step hw3 hb4
    clear hb4 hw3 HSE
    go_wp2_with fail
    refine (RP.out _ (HE.out.all hw4)).mono ?_
    rintro e w5 ⟨rfl, hb5⟩
    have hw5 := below_step hw4 hb5
    clear hb5 hw4 RP
    go_wp2_with fail
    refine (WH.out _ (HE.out.all hw5)).mono ?_
    rintro e w6 ⟨rfl, hb6⟩
    have hw6 := below_step hw5 hb6
    clear hb6 hw5 WH
    go_wp2_with fail
    refine (SA.out _ (HE.out.all hw6)).mono ?_
    rintro e w7 ⟨rfl, hb7⟩
    have hw7 := below_step hw6 hb7
    clear hb7 hw6 SA
    go_wp2
    go_ret
    exact ⟨rfl, hw7⟩

end Go.Proofs.YtcljpklgpedolaaGreatDoor
