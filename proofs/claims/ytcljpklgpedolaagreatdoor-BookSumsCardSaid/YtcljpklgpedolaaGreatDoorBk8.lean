/- A line more: of the program. -/
import Derived.Test.YtcljpklgpedolaaGreatDoorBk7
namespace Go.Proofs.YtcljpklgpedolaaGreatDoor
open Go.RowKit Go.Sort

def Bk.appE (k t : List UInt8) : Int := if Bk.rest k ≠ [] then 15 else if Bk.right t = false then 1 else if (Bk.tx k).length = 200 then 4 else 0
def Bk.appS (k t : List UInt8) : List UInt8 := if Bk.appE k t = 0 then k ++ Bk.wr ((Bk.tx k).length + 1) (Bk.lst 1 0 (Bk.tx k)) t else []
theorem Bk.app_of {k t : List UInt8} {q : Int} (h : Bk.appE k t = q) (hq : q ≠ 0) : Bk.appS k t = [] := by
  unfold Bk.appS; rw [h, if_neg hq]
theorem Bk.last_sum {k : List UInt8} {x : Bk.Ln} (h : (Bk.ln k)[(Bk.ln k).length - 1]? = some x) : x.2.2 = Bk.lst 1 0 (Bk.tx k) := by
  rw [Bk.lst_last]
  show _ = ((Bk.ln k).getLast?.map fun x => x.2.2).getD 0
  rw [List.getLast?_eq_getElem?, h]
  rfl
theorem append_one (k : ByteArray) (l : List UInt8) : k ++ (⟨l.toArray⟩ : ByteArray) = ⟨(k.data.toList ++ l).toArray⟩ := by
  conv => lhs; rw [← mk_list k]
  rw [bytes_append]
set_option maxRecDepth 20000 in
set_option maxHeartbeats 1000000 in
theorem append_any (k : ByteArray) (t : List UInt8) (w : World) (hE : EnvB w) (hs : k.size ≤ 80000) (ht : t.length ≤ 9223372036854775807) :
    Calls Tryz.prog 24 #[.string k, sv t] w fun e w' => e = .returned (.tuple #[sv (Bk.appS k.data.toList t), .int .i64 (Bk.appE k.data.toList t)]) ∧ Below w.heap.size w w' := by
  by_cases hr : Bk.rest k.data.toList = []
  case neg =>
    have hA : Bk.appE k.data.toList t = 15 := by unfold Bk.appE; rw [if_pos hr]
    rw [Bk.app_of hA (by decide), hA]
    have C := Lib.hid (linesOf_bad k w hE hs hr)
    clear hE hr hA
    go_enter Tryz.func24, Tryz.ntmps24
    go_wp2_with fail
    refine C.out.mono ?_
    rintro e w1 ⟨rfl, hb⟩
    go_wp2
    go_ret2
    exact ⟨rfl, hb⟩
  have C := Lib.hid (linesOf_ok k w hE hs hr)
  have HRT := Lib.hid (fun W => isRight_any ⟨t.toArray⟩ W (by show t.toArray.size ≤ _; rw [List.size_toArray]; omega))
  have hrt : (⟨t.toArray⟩ : ByteArray).data.toList = t := rfl
  rw [hrt] at HRT
  have hll := Bk.ln_len k.data.toList
  have hl2 := Bk.tx_len k.data.toList
  cases ht2 : Bk.right t with
  | false =>
    have hA : Bk.appE k.data.toList t = 1 := by unfold Bk.appE; rw [if_neg (by simp [hr]), if_pos ht2]
    rw [Bk.app_of hA (by decide), hA]
    rw [ht2] at HRT
    clear hE hr hA hrt ht2 hll hl2
    generalize Bk.ln k.data.toList = L at *
    go_enter Tryz.func24, Tryz.ntmps24
    go_wp2_with fail
    refine C.out.mono ?_
    rintro e w1 ⟨v, rfl, ho, hb⟩
    obtain ⟨va, vc, rfl⟩ := (ho.rows lnC_len).form
    clear ho C
    go_wp2_with fail
    refine (HRT.out _).mono ?_
    rintro e w2 ⟨rfl, hb2⟩
    have hw := below_step hb hb2
    clear hb hb2 HRT
    go_wp2
    go_ret2
    exact ⟨rfl, hw⟩
  | true =>
    have ht80 := Bk.right_len ht2
    rw [ht2] at HRT
    by_cases h200 : (Bk.tx k.data.toList).length = 200
    · have hA : Bk.appE k.data.toList t = 4 := by unfold Bk.appE; rw [if_neg (by simp [hr]), if_neg (by simp [ht2]), if_pos h200]
      rw [Bk.app_of hA (by decide), hA]
      have hl3 : (Bk.ln k.data.toList).length = 200 := by omega
      clear hE hr hA hrt ht2 hll hl2 h200
      generalize Bk.ln k.data.toList = L at *
      have q1 : ((L.length : Int) == 200) = true := by rw [hl3]; rfl
      clear hl3
      go_enter Tryz.func24, Tryz.ntmps24
      go_wp2_with fail
      refine C.out.mono ?_
      rintro e w1 ⟨v, rfl, ho, hb⟩
      obtain ⟨va, vc, rfl⟩ := (ho.rows lnC_len).form
      clear ho C
      go_wp2_with fail
      refine (HRT.out _).mono ?_
      rintro e w2 ⟨rfl, hb2⟩
      have hw := below_step hb hb2
      clear hb hb2 HRT
      go_wp2
      go_ret2
      exact ⟨rfl, hw⟩
    · have hA : Bk.appE k.data.toList t = 0 := by unfold Bk.appE; rw [if_neg (by simp [hr]), if_neg (by simp [ht2]), if_neg h200]
      have hS : Bk.appS k.data.toList t = k.data.toList ++ Bk.wr ((Bk.tx k.data.toList).length + 1) (Bk.lst 1 0 (Bk.tx k.data.toList)) t := by unfold Bk.appS; rw [if_pos hA]
      have hlast := fun x h => Bk.last_sum (k := k.data.toList) (x := x) h
      have hin := Bk.lst_in (Bk.tx k.data.toList) 1 0 (by omega) (by omega)
      have hzero : (Bk.ln k.data.toList).length = 0 → Bk.lst 1 0 (Bk.tx k.data.toList) = 0 := fun h => by
        rw [hll] at h
        rw [List.length_eq_zero_iff.1 h]; rfl
      rw [hA, hS, ← hll]
      rw [← hll] at h200 hl2
      generalize Bk.lst 1 0 (Bk.tx k.data.toList) = B at *
      have hl9 : (Bk.ln k.data.toList).length < 200 := by omega
      have HX := Lib.hid (append_one k (Bk.wr ((Bk.ln k.data.toList).length + 1) B t))
      have hnx := Bk.nxt_in ((Bk.ln k.data.toList).length + 1) B t
      have HNL := Lib.hid (fun W hW => newLine_any ((Bk.ln k.data.toList).length + 1) B t W hW (by omega) (by omega) (by omega) (by omega))
      have HFM := Lib.hid (fun W hW => format_any ((Bk.ln k.data.toList).length + 1, t, Bk.nxt ((Bk.ln k.data.toList).length + 1) B t) W hW (by show (Bk.ln k.data.toList).length + 1 ≤ _; omega) (by show t.length ≤ _; omega) hnx.1 hnx.2)
      rw [← Bk.wr_fmt] at HFM
      have hwl := Bk.wr_short (n := (Bk.ln k.data.toList).length + 1) B (by omega) ht2
      have HE := Lib.hid hE
      have hsv : sv (k.data.toList ++ Bk.wr ((Bk.ln k.data.toList).length + 1) B t) = .string ⟨(k.data.toList ++ Bk.wr ((Bk.ln k.data.toList).length + 1) B t).toArray⟩ := rfl
      rw [hsv]
      clear hE hr hA hrt ht2 hll hl2 h200 hS hnx hsv
      generalize Bk.nxt ((Bk.ln k.data.toList).length + 1) B t = S at *
      generalize Bk.wr ((Bk.ln k.data.toList).length + 1) B t = WR at *
      generalize k.data.toList ++ WR = KW at *
      generalize Bk.ln k.data.toList = L at *
      by_cases h0 : L.length = 0
      · obtain rfl := hzero h0
        have q1 : ((L.length : Int) == 200) = false := by rw [h0]; rfl
        obtain rfl := List.length_eq_zero_iff.1 h0
        clear hlast hzero h0
        go_enter Tryz.func24, Tryz.ntmps24
        go_wp2_with fail
        refine C.out.mono ?_
        rintro e w1 ⟨v, rfl, ho, hb⟩
        obtain ⟨va, vc, rfl⟩ := (ho.rows lnC_len).form
        clear ho C
        go_wp2_with fail
        refine (HRT.out _).mono ?_
        rintro e w2 ⟨rfl, hb2⟩
        have hw := below_step hb hb2
        clear hb hb2 HRT
        go_wp2_with fail
        refine (HNL.out _ (HE.out.all hw)).mono ?_
        rintro e w3 ⟨rfl, hb3⟩
        have hw3 := below_step hw hb3
        clear hw hb3 HNL
        go_wp2_with fail
        refine (HFM.out _ (HE.out.all hw3)).mono ?_
        rintro e w4 ⟨rfl, hb4⟩
        have hw4 := below_step hw3 hb4
        clear hw3 hb4 HFM
        go_wp2
        go_ret2
        exact ⟨by rw [← HX.out]; rfl, hw4⟩
      · have q1 : ((L.length : Int) == 200) = false := by rw [beq_eq_false_iff_ne]; omega
        have q2 : (0 : Int) ≤ (L.length : Int) - 1 := by omega
        have hls := hlast _ (List.getElem?_eq_getElem (show L.length - 1 < L.length by omega))
        have HK := Lib.hid (show L.length - 1 < L.length by omega)
        have e1 : ((L.length : Int) - 1).toNat = L.length - 1 := by omega
        clear hlast hzero
        go_enter Tryz.func24, Tryz.ntmps24
        go_wp2_with fail
        refine C.out.mono ?_
        rintro e w1 ⟨v, rfl, ho, hb⟩
        obtain ⟨va, vc, e, hvc, hcells⟩ := ho.rows lnC_len
        subst e
        obtain ⟨bb, off, rfl, hbl, hc⟩ := hcells (L.length - 1) (by omega)
        obtain ⟨_, _, hc2⟩ := ln_at hc
        rw [hls] at hc2
        clear ho C hcells hc
        go_wp2_with fail
        refine (HRT.out _).mono ?_
        rintro e w2 ⟨rfl, hb2⟩
        have hw := below_step hb hb2
        have hc3 : w2.cell? ⟨bb, off + (L.length - 1) * 3 + 2, none⟩ = some (.int .i64 B) := (hb2.cell (p := ⟨bb, off + (L.length - 1) * 3 + 2, none⟩) hbl).trans hc2
        clear hb hb2 HRT hc2
        go_wp2_with fail
        refine (HNL.out _ (HE.out.all hw)).mono ?_
        rintro e w3 ⟨rfl, hb3⟩
        have hw3 := below_step hw hb3
        clear hw hb3 HNL
        go_wp2_with fail
        refine (HFM.out _ (HE.out.all hw3)).mono ?_
        rintro e w4 ⟨rfl, hb4⟩
        have hw4 := below_step hw3 hb4
        clear hw3 hb4 HFM
        go_wp2
        go_ret2
        exact ⟨by rw [← HX.out]; rfl, hw4⟩
end Go.Proofs.YtcljpklgpedolaaGreatDoor
