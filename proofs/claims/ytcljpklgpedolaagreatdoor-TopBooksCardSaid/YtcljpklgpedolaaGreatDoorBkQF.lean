/- The reference's reading of a book. The same lines, the last sum, a line more: of the reference. -/
import Derived.Test.YtcljpklgpedolaaGreatDoorBkQE
import Derived.Test.YtcljpklgpedolaaGreatDoorBkQB
namespace Go.Proofs.YtcljpklgpedolaaGreatDoor
open Go.RowKit Go.Sort

def sliceLen : Value → Nat
  | .slice _ n _ => n
  | _ => 0
theorem extract_drop (s : ByteArray) (a : Nat) : s.extract a s.size = ⟨(s.data.toList.drop a).toArray⟩ := by
  rw [extract_is, ← len_size, List.take_length]
theorem Bk.wr_len (n : Nat) (b : Int) (t : List UInt8) : (Bk.wr n b t).length = (Lib.itoa n).length + (Lib.itoa (Bk.nxt n b t)).length + t.length + 3 := by
  unfold Bk.wr Bk.body Bk.nxt
  simp only [List.length_append, List.length_cons, List.length_nil]; omega
set_option maxRecDepth 20000 in
set_option maxHeartbeats 1000000 in
theorem refRead_any (k : ByteArray) (w : World) (hE : EnvB w) (hs : k.size ≤ 80000) :
    Calls Tryz.prog 20 #[.string k] w (BookSays k.data.toList w) := by
  obtain ⟨i0, hi, hz0, hz1, hz2⟩ := info_parts infoLine
  have HE := Lib.hid hE
  have HC := Lib.hid (fun (kb : ByteArray) (n : Nat) (b : Int) W hW h1 h2 h3 h4 => first_any kb n b W hW h1 h2 h3 h4)
  have HST := Lib.hid (RdAt.start k.data.toList)
  have HNX := Lib.hid (fun q n b ts t h1 h2 h3 => RdAt.next (k := k.data.toList) (q := q) (n := n) (b := b) (ts := ts) (t := t) h1 h2 h3)
  have HSP := Lib.hid (fun q n b ts h1 h2 => RdAt.stop (k := k.data.toList) (q := q) (n := n) (b := b) (ts := ts) h1 h2)
  unfold BookSays
  clear hE
  generalize Bk.ln k.data.toList = LN at *
  generalize Bk.rest k.data.toList = RS at *
  go_enter Tryz.func20, Tryz.ntmps20
  go_wp2
  go_loopw [0, 4, 5] (fun bk ls bf wr => ∃ (kb : ByteArray) (b : Int) (L : List Bk.Ln) (a : Option Addr) (c : Nat), L.length ≤ 200 ∧ kb.size ≤ 80000 ∧ (0 ≤ b ∧ b < 1000003) ∧ bk = .string kb ∧ ls = .slice a L.length c ∧ bf = .int .i64 b ∧ Hid ((∃ ts, RdAt k.data.toList (L.length + 1) b kb.data.toList ts ∧ L = Bk.lns 1 0 ts) ∧ OwnL w.heap.size wr (.slice a L.length c) L ∧ Below w.heap.size w wr)) (fun _ ls _ _ => 200 - sliceLen ls)
  case atStart => exact ⟨k, 0, [], none, 0, by simp, hs, ⟨by omega, by omega⟩, rfl, rfl, rfl, Lib.hid ⟨⟨[], HST.out, rfl⟩, OwnG.nil _ _, Below.refl _ _⟩⟩
  case round =>
    obtain ⟨kb, b, L, a, c, hL, hkb, ⟨hb0, hb1⟩, rfl, rfl, rfl, hg⟩ := hrel
    by_cases hlt : L.length < 200
    · have C := Lib.hid (HC.out kb (L.length + 1) b wr (HE.out.all hg.out.2.2) hkb (by omega) (by omega) (by omega))
      unfold FstSays at C
      cases hf : Bk.fst (L.length + 1) b kb.data.toList with
      | none =>
        rw [hf] at C
        dsimp only at C
        have HF : Hid (LN = L ∧ RS = kb.data.toList) := Lib.hid (by
          obtain ⟨ts, h1, h2⟩ := hg.out.1
          obtain ⟨h3, h4⟩ := HSP.out _ _ _ _ h1 (.inr hf)
          exact ⟨by rw [h3, h2], h4⟩)
        have HG := Lib.hid hg.out.2
        clear hf hg HNX HSP HC
        go_wp2_with fail
        refine C.out.mono ?_
        rintro e w2 ⟨rfl, hb2⟩
        have H2 := Lib.hid (And.intro (HG.out.1.all hb2) (below_step HG.out.2 hb2))
        clear C HG hb2
        go_wp2
        go_ret2
        exact ⟨_, by rw [HF.out.2]; show Ending.returned (.tuple #[_, .string kb]) = .returned (.tuple #[_, .string ⟨kb.data.toList.toArray⟩]); rw [mk_list], by rw [HF.out.1]; exact H2.out.1, H2.out.2⟩
      | some t =>
        rw [hf] at C
        dsimp only at C
        have ht80 := Bk.right_len (Bk.fst_some.1 hf).1
        have hnx := Bk.nxt_in (L.length + 1) b t
        have hdr := (Bk.fst_rst hf).1
        have hpl := (Bk.fst_some.1 hf).2.length_le
        rw [len_size] at hpl
        have hwl := Bk.wr_len (L.length + 1) b t
        rw [hwl] at hdr hpl
        have HXD : Hid (kb.extract ((Lib.itoa ((L.length + 1 : Nat) : Int)).length + (Lib.itoa (Bk.nxt (L.length + 1) b t)).length + t.length + 3) kb.size = ⟨(Bk.rst kb.data.toList).toArray⟩) := Lib.hid (by rw [extract_drop, hdr])
        obtain ⟨l1, l2⟩ := Bk.lin_len kb.data.toList
        rw [len_size] at l2
        have HF : Hid (∃ ts, RdAt k.data.toList (L.length + 1 + 1) (Bk.nxt (L.length + 1) b t) (Bk.rst kb.data.toList) ts ∧ L ++ [(L.length + 1, t, Bk.nxt (L.length + 1) b t)] = Bk.lns 1 0 ts) := Lib.hid (by
          obtain ⟨ts, h1, h2⟩ := hg.out.1
          obtain ⟨h3, h4⟩ := HNX.out _ _ _ _ _ h1 (by omega) hf
          exact ⟨_, h3, by rw [h4, h2]⟩)
        have HG := Lib.hid hg.out.2
        have HI := Lib.hid (fun W hW => itoa_any ((L.length + 1 : Nat) : Int) W hW (by omega) (by omega))
        have HI2 := Lib.hid (fun W hW => itoa_any (Bk.nxt (L.length + 1) b t) W hW (by omega) (by omega))
        have k1 := Bk.itoa_short (n := ((L.length + 1 : Nat) : Int)) (by omega) (by omega)
        have k2 := Bk.itoa_short (n := Bk.nxt (L.length + 1) b t) (by omega) (by omega)
        have HC2 : Hid ((⟨(Lib.itoa ((L.length + 1 : Nat) : Int)).toArray⟩ : ByteArray) ++ (⟨#[32]⟩ : ByteArray) ++ (⟨t.toArray⟩ : ByteArray) = ⟨(Bk.told (L.length + 1) t).toArray⟩) := Lib.hid (by
          rw [show (⟨#[32]⟩ : ByteArray) = ⟨[(32 : UInt8)].toArray⟩ from rfl, bytes_append, bytes_append]; unfold Bk.told; simp)
        have HS := Lib.hid (fun W => refSum_any b ⟨(Bk.told (L.length + 1) t).toArray⟩ W (by show (Bk.told (L.length + 1) t).toArray.size ≤ _; rw [List.size_toArray]; unfold Bk.told; rw [List.length_append, List.length_cons]; omega) (by omega) (by omega))
        have hs0 : Bk.sum b (⟨(Bk.told (L.length + 1) t).toArray⟩ : ByteArray).data.toList = Bk.nxt (L.length + 1) b t := rfl
        rw [hs0] at HS
        have hcast : ((L.length + 1 : Nat) : Int) = (L.length : Int) + 1 := by omega
        rw [hcast] at k1 HI HC2 HXD hpl
        clear hf hg HNX HSP HC l1 hdr hwl hs0 hcast
        generalize Bk.told (L.length + 1) t = tl at *
        generalize Bk.nxt (L.length + 1) b t = S at *
        generalize Bk.rst kb.data.toList = Q at *
        go_wp2_with fail
        refine C.out.mono ?_
        rintro e w2 ⟨rfl, hb2⟩
        have hown2 := HG.out.1.all hb2
        have hw2 := below_step HG.out.2 hb2
        clear C HG hb2
        go_wp2_with fail
        refine (HI.out _ (HE.out.all hw2).1).mono ?_
        rintro e w3 ⟨rfl, hb3⟩
        have hown3 := hown2.all hb3
        have hw3 := below_step hw2 hb3
        clear hb3 hown2 hw2
        go_wp2_with fail
        rw [HC2.out]
        refine (HS.out _).mono ?_
        rintro e w4 ⟨rfl, hb4⟩
        have hown4 := hown3.all hb4
        have hw4 := below_step hw3 hb4
        have hca := cells_new (cs := lnC (L.length + 1, t, S)) w4 LineT
        have hsz := hw4.size
        clear hb4 hown3 hw3 HS
        go_wp2_with (at_builtin; refine wpList_append_own _ rfl _ _ 26 rfl w.heap.size LineT i0 (.agg #[.int .i64 0, .string ⟨#[]⟩, .int .i64 0]) 3 32 ul_lines hi hz0 hz1 hz2 rfl (by decide) _ _ _ rfl (hown4.alloc _) ⟨w4.heap.size, 0, none⟩ 1 1 (lnC (L.length + 1, t, S)) rfl rfl ?c1 (lnC_one _) ?c3 ?c4 ?c5 ?_)
        case c1 => first | exact hca | exact fun j u h => h
        case c3 => unfold maxLen; omega
        case c4 => omega
        case c5 => first | omega | (simp; omega)
        intro v' w9 hr9 hg9 _
        have hw9 := (below_alloc hw4 (.cells (lnA (L.length + 1, t, S)) LineT)).grown hg9 (by simp; omega) (fun j e => (World.ownsRow.lt hown4 j e).1)
        have hp9 : OwnL w.heap.size w9 v' (L ++ [(L.length + 1, t, S)]) := OwnG.pushed hr9
        have hl9 : (L ++ [((L.length + 1, t, S) : Bk.Ln)]).length = L.length + 1 := by simp
        generalize hL2 : L ++ [((L.length + 1, t, S) : Bk.Ln)] = L2 at *
        obtain ⟨a9, c9, e9⟩ := (hp9.rows lnC_len).form
        subst e9
        have HP9 := Lib.hid hp9
        have HL9 := Lib.hid hl9
        have hl10 : L2.length ≤ 200 := by omega
        clear hown4 hw4 hca hr9 hg9 hp9 hL2
        go_wp2_with fail
        refine (HI.out _ (HE.out.all hw9).1).mono ?_
        rintro e w10 ⟨rfl, hb10⟩
        have hw10 := below_step hw9 hb10
        go_wp2_with fail
        refine (HI2.out _ (HE.out.all hw10).1).mono ?_
        rintro e w11 ⟨rfl, hb11⟩
        have HO := Lib.hid ((HP9.out.all hb10).all hb11)
        have hw11 := below_step hw10 hb11
        clear hb10 hb11 hw9 hw10 HI HI2 HP9
        go_wp2
        go_roundw
        case rel => exact ⟨⟨Q.toArray⟩, S, L2, a9, c9, hl10, by show Q.toArray.size ≤ _; rw [List.size_toArray]; omega, hnx, by rw [← HXD.out], by first | rfl | rw [HL9.out], rfl, Lib.hid ⟨by have := HF.out; rwa [← HL9.out] at this, HO.out, hw11⟩⟩
        case measure => simp [sliceLen]; omega
    · have HF : Hid (LN = L ∧ RS = kb.data.toList) := Lib.hid (by
        obtain ⟨ts, h1, h2⟩ := hg.out.1
        obtain ⟨h3, h4⟩ := HSP.out _ _ _ _ h1 (.inl (by omega))
        exact ⟨by rw [h3, h2], h4⟩)
      go_wp2
      go_ret2
      exact ⟨_, by rw [HF.out.2]; show Ending.returned (.tuple #[_, .string kb]) = .returned (.tuple #[_, .string ⟨kb.data.toList.toArray⟩]); rw [mk_list], by rw [HF.out.1]; exact hg.out.2.1, hg.out.2.2⟩
end Go.Proofs.YtcljpklgpedolaaGreatDoor
namespace Go.Proofs.YtcljpklgpedolaaGreatDoor
open Go.RowKit Go.Sort

set_option maxRecDepth 20000 in
set_option maxHeartbeats 1000000 in
theorem sameLines_any (u v : Value) (xs : List Bk.Ln) (w : World) (hu : Lines w u xs) (hv : Lines w v xs) (hl : xs.length ≤ 1000) :
    Calls Tryz.prog 21 #[u, v] w fun e w' => e = .returned (.bool true) ∧ Below w.heap.size w w' := by
  obtain ⟨ua, uc, rfl, _, huk⟩ := hu
  obtain ⟨va, vc, rfl, _, hvk⟩ := hv
  have HU := Lib.hid huk
  have HV := Lib.hid hvk
  have hw0 := Lib.hid (Below.refl w.heap.size w)
  clear huk hvk
  go_enter Tryz.func21, Tryz.ntmps21
  go_wp2
  go_loopw [5] (fun t wr => ∃ k : Nat, k ≤ xs.length ∧ t = .int .i64 k ∧ Hid (Below w.heap.size w wr)) (fun t _ => xs.length - (intOf t).toNat)
  case atStart => exact ⟨0, Nat.zero_le _, rfl, hw0⟩
  case round =>
    obtain ⟨k, hk, rfl, hg⟩ := hrel
    by_cases hlt : k < xs.length
    · obtain ⟨b, off, rfl, hb, hr⟩ := HU.out k hlt
      obtain ⟨b2, off2, rfl, hb2, hr2⟩ := HV.out k hlt
      obtain ⟨c0, c1, c2⟩ := ln_at (hr.below hg.out hb)
      obtain ⟨d0, d1, d2⟩ := ln_at (hr2.below hg.out hb2)
      clear hr hr2
      generalize xs[k] = x at *
      obtain ⟨n, t, s⟩ := x
      go_wp2
      go_quiet (fail)
      go_wp2
      go_roundw
      case rel => exact ⟨k + 1, by omega, by go_num, Lib.hid (below_drewN hg.out _)⟩
      case measure => simp [intOf]; omega
    · go_wp2
      go_ret
      exact ⟨rfl, hg.out⟩
def Bk.lastS (L : List Bk.Ln) : Int := (L.getLast?.map fun x => x.2.2).getD 0
theorem last_any (v : Value) (L : List Bk.Ln) (w : World) (hv : Lines w v L) (hl : L.length ≤ 100000) :
    Calls Tryz.prog 67 #[v] w fun e w' => e = .returned (.int .i64 (Bk.lastS L)) ∧ w' = w := by
  obtain ⟨va, vc, rfl, _, hk⟩ := hv
  by_cases h0 : L.length = 0
  · obtain rfl := List.length_eq_zero_iff.1 h0
    go_enter Tryz.func67, Tryz.ntmps67
    go_wp2
    go_ret
    exact ⟨rfl, rfl⟩
  · obtain ⟨b, off, rfl, hb, hr⟩ := hk (L.length - 1) (by omega)
    obtain ⟨_, _, c2⟩ := ln_at hr
    have HS : Hid (Bk.lastS L = (L[L.length - 1]'(by omega)).2.2) := Lib.hid (by
      unfold Bk.lastS
      rw [List.getLast?_eq_getElem?, List.getElem?_eq_getElem (by omega)]; rfl)
    have q1 : ((L.length : Int) == 0) = false := by rw [beq_eq_false_iff_ne]; omega
    have e1 : ((L.length : Int) - 1).toNat = L.length - 1 := by omega
    clear hr hk
    generalize Bk.lastS L = S at *
    generalize (L[L.length - 1]'(by omega)).2.2 = x at *
    go_enter Tryz.func67, Tryz.ntmps67
    go_wp2
    go_ret
    exact ⟨by rw [HS.out]; rfl, rfl⟩
theorem Bk.lastS_ln (k : List UInt8) : Bk.lastS (Bk.ln k) = Bk.lst 1 0 (Bk.tx k) := by rw [Bk.lst_last]; rfl
set_option maxRecDepth 20000 in
set_option maxHeartbeats 1000000 in
theorem refAppend_any (k : ByteArray) (t : List UInt8) (w : World) (hE : EnvB w) (hs : k.size ≤ 80000) (ht : t.length ≤ 9223372036854775807) :
    Calls Tryz.prog 25 #[.string k, sv t] w fun e w' => e = .returned (.tuple #[sv (Bk.appS k.data.toList t), .int .i64 (Bk.appE k.data.toList t)]) ∧ Below w.heap.size w w' := by
  have C := Lib.hid (refRead_any k w hE hs)
  unfold BookSays at C
  by_cases hr : Bk.rest k.data.toList = []
  case neg =>
    have hA : Bk.appE k.data.toList t = 15 := by unfold Bk.appE; rw [if_pos hr]
    rw [Bk.app_of hA (by decide), hA]
    generalize Bk.ln k.data.toList = L at *
    generalize Bk.rest k.data.toList = R at *
    have q1 : (R == []) = false := by simpa using hr
    have q2 : (R != []) = true := by simpa using hr
    have q3 : R.isEmpty = false := by simpa using hr
    clear hE hr hA
    go_enter Tryz.func25, Tryz.ntmps25
    go_wp2_with fail
    refine C.out.mono ?_
    rintro e w1 ⟨v, rfl, ho, hb⟩
    obtain ⟨va, vc, rfl⟩ := (ho.rows lnC_len).form
    clear ho
    go_wp2
    go_ret2
    exact ⟨rfl, hb⟩
  rw [hr] at C
  have HRT := Lib.hid (fun W => refRight_any ⟨t.toArray⟩ W (by show t.toArray.size ≤ _; rw [List.size_toArray]; omega))
  have hrt : (⟨t.toArray⟩ : ByteArray).data.toList = t := rfl
  rw [hrt] at HRT
  have hll := Bk.ln_len k.data.toList
  have hl2 := Bk.tx_len k.data.toList
  cases ht2 : Bk.right t with
  | false =>
    have hA : Bk.appE k.data.toList t = 1 := by unfold Bk.appE; rw [if_neg (by simp [hr]), if_pos ht2]
    rw [Bk.app_of hA (by decide), hA]
    rw [ht2] at HRT
    clear hE hr hA hrt ht2 hll hl2
    generalize Bk.ln k.data.toList = L at *
    go_enter Tryz.func25, Tryz.ntmps25
    go_wp2_with fail
    refine C.out.mono ?_
    rintro e w1 ⟨v, rfl, ho, hb⟩
    obtain ⟨va, vc, rfl⟩ := (ho.rows lnC_len).form
    clear ho C
    go_wp2_with fail
    refine (HRT.out _).mono ?_
    rintro e w2 ⟨rfl, rfl⟩
    clear HRT
    go_wp2
    go_ret2
    exact ⟨rfl, hb⟩
  | true =>
    have ht80 := Bk.right_len ht2
    rw [ht2] at HRT
    by_cases h200 : (Bk.tx k.data.toList).length = 200
    · have hA : Bk.appE k.data.toList t = 4 := by unfold Bk.appE; rw [if_neg (by simp [hr]), if_neg (by simp [ht2]), if_pos h200]
      rw [Bk.app_of hA (by decide), hA]
      have hl3 : (Bk.ln k.data.toList).length = 200 := by omega
      clear hE hr hA hrt ht2 hll hl2 h200
      generalize Bk.ln k.data.toList = L at *
      have q1 : decide ((200 : Int) ≤ (L.length : Int)) = true := by rw [decide_eq_true_eq]; omega
      clear hl3
      go_enter Tryz.func25, Tryz.ntmps25
      go_wp2_with fail
      refine C.out.mono ?_
      rintro e w1 ⟨v, rfl, ho, hb⟩
      obtain ⟨va, vc, rfl⟩ := (ho.rows lnC_len).form
      clear ho C
      go_wp2_with fail
      refine (HRT.out _).mono ?_
      rintro e w2 ⟨rfl, rfl⟩
      clear HRT
      go_wp2
      go_ret2
      exact ⟨rfl, hb⟩
    · have hA : Bk.appE k.data.toList t = 0 := by unfold Bk.appE; rw [if_neg (by simp [hr]), if_neg (by simp [ht2]), if_neg h200]
      have hS : Bk.appS k.data.toList t = k.data.toList ++ Bk.wr ((Bk.tx k.data.toList).length + 1) (Bk.lst 1 0 (Bk.tx k.data.toList)) t := by unfold Bk.appS; rw [if_pos hA]
      have hlast := Bk.lastS_ln k.data.toList
      have hin := Bk.lst_in (Bk.tx k.data.toList) 1 0 (by omega) (by omega)
      rw [hA, hS, ← hll]
      rw [← hll] at h200 hl2
      generalize Bk.lst 1 0 (Bk.tx k.data.toList) = B at *
      have hl9 : (Bk.ln k.data.toList).length < 200 := by omega
      have HX := Lib.hid (append_one k (Bk.wr ((Bk.ln k.data.toList).length + 1) B t))
      have HWR := Lib.hid (fun W hW => refWrite_any ((Bk.ln k.data.toList).length + 1) B t W hW (by omega) (by omega) (by omega) (by omega))
      have hwl := Bk.wr_short (n := (Bk.ln k.data.toList).length + 1) B (by omega) ht2
      have HE := Lib.hid hE
      have HLA := Lib.hid (fun v W h => last_any v (Bk.ln k.data.toList) W h (by omega))
      rw [hlast] at HLA
      have hsv : sv (k.data.toList ++ Bk.wr ((Bk.ln k.data.toList).length + 1) B t) = .string ⟨(k.data.toList ++ Bk.wr ((Bk.ln k.data.toList).length + 1) B t).toArray⟩ := rfl
      rw [hsv]
      clear hE hr hA hrt ht2 hll hl2 h200 hS hsv hlast
      generalize Bk.wr ((Bk.ln k.data.toList).length + 1) B t = WR at *
      generalize k.data.toList ++ WR = KW at *
      generalize Bk.ln k.data.toList = L at *
      go_enter Tryz.func25, Tryz.ntmps25
      go_wp2_with fail
      refine C.out.mono ?_
      rintro e w1 ⟨v, rfl, ho, hb⟩
      have hrows := ho.rows lnC_len
      obtain ⟨va, vc, rfl⟩ := hrows.form
      have HO := Lib.hid hrows
      clear ho C hrows
      go_wp2_with fail
      refine (HRT.out _).mono ?_
      rintro e w2 ⟨rfl, rfl⟩
      clear HRT
      go_wp2_with fail
      refine (HLA.out _ _ HO.out).mono ?_
      rintro e w3 ⟨rfl, rfl⟩
      clear HLA HO
      go_wp2_with fail
      refine (HWR.out _ (HE.out.all hb)).mono ?_
      rintro e w4 ⟨rfl, hb4⟩
      have hw4 := below_step hb hb4
      clear hb hb4 HWR
      go_wp2
      go_ret2
      exact ⟨by rw [← HX.out]; rfl, hw4⟩
end Go.Proofs.YtcljpklgpedolaaGreatDoor
