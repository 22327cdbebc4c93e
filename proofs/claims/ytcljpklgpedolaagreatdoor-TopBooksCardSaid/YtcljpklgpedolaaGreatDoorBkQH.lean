/- How two books are related: of the program and of the reference. Books that are put together: of both sides; the law on comparing. -/
import Derived.Test.YtcljpklgpedolaaGreatDoorBkQF
import Derived.Test.YtcljpklgpedolaaGreatDoorBkQG
namespace Go.Proofs.YtcljpklgpedolaaGreatDoor
open Go.RowKit Go.Sort

def Bk.cmp : List Bk.Ln → List Bk.Ln → Nat → Int × Int
  | [], [], _ => (0, 0)
  | [], _ :: _, _ => (1, 0)
  | _ :: _, [], _ => (2, 0)
  | x :: xs, y :: ys, i => if x = y then Bk.cmp xs ys (i + 1) else (3, ((i + 1 : Nat) : Int))
theorem Bk.cmp_part : ∀ (L M : List Bk.Ln) (i k : Nat) (x y : Bk.Ln), L[i]? = some x → M[i]? = some y → L.take i = M.take i → x ≠ y → Bk.cmp L M k = (3, ((k + i + 1 : Nat) : Int))
  | [], _, i, _, _, _, h, _, _, _ => by simp at h
  | _ :: _, [], i, _, _, _, _, h, _, _ => by simp at h
  | a :: xs, b :: ys, 0, k, x, y, h1, h2, _, hne => by
    have e1 : a = x := by simpa using h1
    have e2 : b = y := by simpa using h2
    subst e1 e2
    rw [Bk.cmp, if_neg hne]
  | a :: xs, b :: ys, i + 1, k, x, y, h1, h2, ht, hne => by
    rw [List.take_succ_cons, List.take_succ_cons] at ht
    have e := (List.cons.inj ht).1
    rw [Bk.cmp, if_pos e, Bk.cmp_part xs ys i (k + 1) x y (by simpa using h1) (by simpa using h2) (List.cons.inj ht).2 hne, show k + 1 + i + 1 = k + (i + 1) + 1 by omega]
theorem Bk.cmp_end : ∀ (L M : List Bk.Ln) (k : Nat), L.take (min L.length M.length) = M.take (min L.length M.length) → Bk.cmp L M k = if L.length < M.length then (1, 0) else if M.length < L.length then (2, 0) else (0, 0)
  | [], [], _, _ => rfl
  | [], _ :: _, _, _ => by rw [Bk.cmp, if_pos (by simp)]
  | _ :: _, [], _, _ => by rw [Bk.cmp, if_neg (by simp), if_pos (by simp)]
  | a :: xs, b :: ys, k, h => by
    rw [List.length_cons, List.length_cons, show min (xs.length + 1) (ys.length + 1) = min xs.length ys.length + 1 by omega, List.take_succ_cons, List.take_succ_cons] at h
    rw [Bk.cmp, if_pos (List.cons.inj h).1, Bk.cmp_end xs ys (k + 1) (List.cons.inj h).2]
    simp only [List.length_cons, Nat.add_lt_add_iff_right]
def Bk.both (a b : List UInt8) : Prop := Bk.rest a = [] ∧ Bk.rest b = []
instance (a b : List UInt8) : Decidable (Bk.both a b) := by unfold Bk.both; infer_instance
def Bk.relE (a b : List UInt8) : Int := if Bk.both a b then 0 else 15
def Bk.relK (a b : List UInt8) : Int := if Bk.both a b then (Bk.cmp (Bk.ln a) (Bk.ln b) 0).1 else 0
def Bk.relN (a b : List UInt8) : Int := if Bk.both a b then (Bk.cmp (Bk.ln a) (Bk.ln b) 0).2 else 0
theorem Bk.lns_num : ∀ (ts : List (List UInt8)) (n : Nat) (b : Int) (i : Nat) (x : Bk.Ln), (Bk.lns n b ts)[i]? = some x → x.1 = n + i
  | [], _, _, _, _, h => by simp [Bk.lns] at h
  | t :: r, n, b, 0, x, h => by
    have : (n, t, Bk.nxt n b t) = x := by simpa [Bk.lns] using h
    rw [← this]; rfl
  | t :: r, n, b, i + 1, x, h => by
    have h2 : (Bk.lns (n + 1) (Bk.nxt n b t) r)[i]? = some x := by simpa [Bk.lns] using h
    rw [Bk.lns_num r _ _ i x h2]; omega
/-- What a relation of two books says, the lines of both read. -/
def RelSays (a b : List UInt8) (w : World) (e : Ending) (w' : World) : Prop := e = .returned (.tuple #[.int .i64 (Bk.relK a b), .int .i64 (Bk.relN a b), .int .i64 (Bk.relE a b)]) ∧ Below w.heap.size w w'
set_option maxRecDepth 20000 in
set_option maxHeartbeats 2000000 in
theorem relation_any (a b : ByteArray) (w : World) (hE : EnvB w) (ha : a.size ≤ 80000) (hb : b.size ≤ 80000) :
    Calls Tryz.prog 30 #[.string a, .string b] w (RelSays a.data.toList b.data.toList w) := by
  have HE := Lib.hid hE
  unfold RelSays
  by_cases ha0 : Bk.rest a.data.toList = []
  case neg =>
    by_cases hb0 : Bk.rest b.data.toList = []
    case pos =>
      have Ca := Lib.hid (fun W hW => linesOf_bad a W hW (by omega) ha0)
      have Cb := Lib.hid (fun W hW => linesOf_ok b W hW (by omega) hb0)
      have hno : ¬ Bk.both a.data.toList b.data.toList := fun h => ha0 h.1
      have HK : Hid (Bk.relK a.data.toList b.data.toList = 0) := Lib.hid (by unfold Bk.relK; rw [if_neg hno])
      have HN : Hid (Bk.relN a.data.toList b.data.toList = 0) := Lib.hid (by unfold Bk.relN; rw [if_neg hno])
      have HER : Hid (Bk.relE a.data.toList b.data.toList = 15) := Lib.hid (by unfold Bk.relE; rw [if_neg hno])
      generalize Bk.relK a.data.toList b.data.toList = K at *
      generalize Bk.relN a.data.toList b.data.toList = N at *
      generalize Bk.relE a.data.toList b.data.toList = ER at *
      clear hno hE ha0 hb0
      go_enter Tryz.func30, Tryz.ntmps30
      go_wp2_with fail
      refine (Ca.out _ HE.out).mono ?_
      rintro e w1 ⟨rfl, hb1⟩
      have hw1 := hb1
      go_wp2_with fail
      refine (Cb.out _ (HE.out.all hw1)).mono ?_
      rintro e w2 ⟨ub, rfl, hob, hb2⟩
      have hrb := hob.rows lnC_len
      obtain ⟨ab, cb, e, hcb, hxb⟩ := id hrb
      subst e
      have hw2 := below_step hw1 hb2
      clear hob hrb hxb
      clear hb2 hb1 Ca Cb
      go_wp2
      exact bodyPost_ret (v := .tuple #[.int .i64 0, .int .i64 0, .int .i64 15]) (by simp [results, Tryz.results30, go_sem]) rfl ⟨by rw [HK.out, HN.out, HER.out], hw2⟩
    case neg =>
      have Ca := Lib.hid (fun W hW => linesOf_bad a W hW (by omega) ha0)
      have Cb := Lib.hid (fun W hW => linesOf_bad b W hW (by omega) hb0)
      have hno : ¬ Bk.both a.data.toList b.data.toList := fun h => ha0 h.1
      have HK : Hid (Bk.relK a.data.toList b.data.toList = 0) := Lib.hid (by unfold Bk.relK; rw [if_neg hno])
      have HN : Hid (Bk.relN a.data.toList b.data.toList = 0) := Lib.hid (by unfold Bk.relN; rw [if_neg hno])
      have HER : Hid (Bk.relE a.data.toList b.data.toList = 15) := Lib.hid (by unfold Bk.relE; rw [if_neg hno])
      generalize Bk.relK a.data.toList b.data.toList = K at *
      generalize Bk.relN a.data.toList b.data.toList = N at *
      generalize Bk.relE a.data.toList b.data.toList = ER at *
      clear hno hE ha0 hb0
      go_enter Tryz.func30, Tryz.ntmps30
      go_wp2_with fail
      refine (Ca.out _ HE.out).mono ?_
      rintro e w1 ⟨rfl, hb1⟩
      have hw1 := hb1
      go_wp2_with fail
      refine (Cb.out _ (HE.out.all hw1)).mono ?_
      rintro e w2 ⟨rfl, hb2⟩
      have hw2 := below_step hw1 hb2
      clear hb2 hb1 Ca Cb
      go_wp2
      exact bodyPost_ret (v := .tuple #[.int .i64 0, .int .i64 0, .int .i64 15]) (by simp [results, Tryz.results30, go_sem]) rfl ⟨by rw [HK.out, HN.out, HER.out], hw2⟩
  by_cases hb0 : Bk.rest b.data.toList = []
  case neg =>
    have Ca := Lib.hid (fun W hW => linesOf_ok a W hW (by omega) ha0)
    have Cb := Lib.hid (fun W hW => linesOf_bad b W hW (by omega) hb0)
    have hno : ¬ Bk.both a.data.toList b.data.toList := fun h => hb0 h.2
    have HK : Hid (Bk.relK a.data.toList b.data.toList = 0) := Lib.hid (by unfold Bk.relK; rw [if_neg hno])
    have HN : Hid (Bk.relN a.data.toList b.data.toList = 0) := Lib.hid (by unfold Bk.relN; rw [if_neg hno])
    have HER : Hid (Bk.relE a.data.toList b.data.toList = 15) := Lib.hid (by unfold Bk.relE; rw [if_neg hno])
    generalize Bk.relK a.data.toList b.data.toList = K at *
    generalize Bk.relN a.data.toList b.data.toList = N at *
    generalize Bk.relE a.data.toList b.data.toList = ER at *
    clear hno hE ha0 hb0
    go_enter Tryz.func30, Tryz.ntmps30
    go_wp2_with fail
    refine (Ca.out _ HE.out).mono ?_
    rintro e w1 ⟨ua, rfl, hoa, hb1⟩
    have hra := hoa.rows lnC_len
    obtain ⟨aa, ca, e, hca, hxa⟩ := id hra
    subst e
    have hw1 := hb1
    go_wp2_with fail
    refine (Cb.out _ (HE.out.all hw1)).mono ?_
    rintro e w2 ⟨rfl, hb2⟩
    have hw2 := below_step hw1 hb2
    clear hoa hra hxa
    clear hb2 hb1 Ca Cb
    go_wp2
    exact bodyPost_ret (v := .tuple #[.int .i64 0, .int .i64 0, .int .i64 15]) (by simp [results, Tryz.results30, go_sem]) rfl ⟨by rw [HK.out, HN.out, HER.out], hw2⟩
  have Ca := Lib.hid (fun W hW => linesOf_ok a W hW (by omega) ha0)
  have Cb := Lib.hid (fun W hW => linesOf_ok b W hW (by omega) hb0)
  have hyes : Bk.both a.data.toList b.data.toList := ⟨ha0, hb0⟩
  have HKx : Hid (Bk.relK a.data.toList b.data.toList = (Bk.cmp (Bk.ln a.data.toList) (Bk.ln b.data.toList) 0).1) := Lib.hid (by unfold Bk.relK; rw [if_pos hyes])
  have HNx : Hid (Bk.relN a.data.toList b.data.toList = (Bk.cmp (Bk.ln a.data.toList) (Bk.ln b.data.toList) 0).2) := Lib.hid (by unfold Bk.relN; rw [if_pos hyes])
  have HER : Hid (Bk.relE a.data.toList b.data.toList = 0) := Lib.hid (by unfold Bk.relE; rw [if_pos hyes])
  have la : (Bk.ln a.data.toList).length ≤ 200 := by rw [Bk.ln_len]; exact Bk.tx_len _
  have lb : (Bk.ln b.data.toList).length ≤ 200 := by rw [Bk.ln_len]; exact Bk.tx_len _
  have HNA : Hid (∀ i x, (Bk.ln a.data.toList)[i]? = some x → x.1 = 1 + i) := Lib.hid (fun i x h => Bk.lns_num _ 1 0 i x h)
  have HNB : Hid (∀ i x, (Bk.ln b.data.toList)[i]? = some x → x.1 = 1 + i) := Lib.hid (fun i x h => Bk.lns_num _ 1 0 i x h)
  clear hyes hE ha0 hb0
  generalize Bk.relK a.data.toList b.data.toList = K at *
  generalize Bk.relN a.data.toList b.data.toList = N at *
  generalize Bk.relE a.data.toList b.data.toList = ER at *
  generalize Bk.ln a.data.toList = L at *
  generalize Bk.ln b.data.toList = M at *
  have HPT : Hid (∀ (i : Nat) (x y : Bk.Ln), L[i]? = some x → M[i]? = some y → L.take i = M.take i → x ≠ y → K = 3 ∧ N = ((i + 1 : Nat) : Int)) := Lib.hid (fun i x y h1 h2 h3 h4 => by
    rw [HKx.out, HNx.out, Bk.cmp_part L M i 0 x y h1 h2 h3 h4, Nat.zero_add]; exact ⟨rfl, rfl⟩)
  have HEN : Hid (L.take (min L.length M.length) = M.take (min L.length M.length) → (L.length < M.length → K = 1 ∧ N = 0) ∧ (M.length < L.length → K = 2 ∧ N = 0) ∧ (L.length = M.length → K = 0 ∧ N = 0)) := Lib.hid (fun h => by
    rw [HKx.out, HNx.out, Bk.cmp_end L M 0 h]
    refine ⟨fun h => ?_, fun h => ?_, fun h => ?_⟩
    · rw [if_pos h]; exact ⟨rfl, rfl⟩
    · rw [if_neg (by omega), if_pos h]; exact ⟨rfl, rfl⟩
    · rw [if_neg (by omega), if_neg (by omega)]; exact ⟨rfl, rfl⟩)
  clear HKx HNx
  by_cases hlm : L.length < M.length
  · go_enter Tryz.func30, Tryz.ntmps30
    go_wp2_with fail
    refine (Ca.out _ HE.out).mono ?_
    rintro e w1 ⟨ua, rfl, hoa, hb1⟩
    have hra := hoa.rows lnC_len
    obtain ⟨aa, ca, e, hca, hxa⟩ := id hra
    subst e
    have hw1 := hb1
    go_wp2_with fail
    refine (Cb.out _ (HE.out.all hw1)).mono ?_
    rintro e w2 ⟨ub, rfl, hob, hb2⟩
    have hrb := hob.rows lnC_len
    obtain ⟨ab, cb, e, hcb, hxb⟩ := id hrb
    subst e
    have hw2 := below_step hw1 hb2
    have HA : Hid (∀ k (hk : k < L.length), ∃ b off, aa = some ⟨b, off, none⟩ ∧ b < w2.heap.size ∧ CellsAt (lnC L[k]) w2 b (off + k * 3)) := Lib.hid (fun k hk => by
      obtain ⟨bb, off, e1, e2, e3⟩ := hxa k hk
      exact ⟨bb, off, e1, Nat.lt_of_lt_of_le e2 hb2.size, e3.below hb2 e2⟩)
    have HB := Lib.hid hxb
    have HW2 := Lib.hid hw2
    clear hoa hob hra hrb hxa hxb hb1 hb2 hw1 hw2 Ca Cb
    go_wp2
    go_loopw [33] (fun t wr => ∃ k : Nat, k ≤ L.length ∧ t = .int .i64 (k : Int) ∧ Hid (L.take k = M.take k ∧ Below w2.heap.size w2 wr)) (fun t _ => L.length - (intOf t).toNat)
    case atStart => exact ⟨0, Nat.zero_le _, rfl, Lib.hid ⟨rfl, Below.refl _ _⟩⟩
    case round =>
      obtain ⟨k, hk, rfl, hg⟩ := hrel
      by_cases hlt : k < L.length
      · have hkl : k < L.length := by omega
        have hkm : k < M.length := by omega
        obtain ⟨b1, off1, rfl, hl1, hr1⟩ := HA.out k hkl
        obtain ⟨b2, off2, rfl, hl2, hr2⟩ := HB.out k hkm
        obtain ⟨c0, c1, c2⟩ := ln_at (hr1.below hg.out.2 hl1)
        obtain ⟨d0, d1, d2⟩ := ln_at (hr2.below hg.out.2 hl2)
        have hx : L[k]? = some L[k] := List.getElem?_eq_getElem hkl
        have hy : M[k]? = some M[k] := List.getElem?_eq_getElem hkm
        have n1 := HNA.out k _ hx
        have n2 := HNB.out k _ hy
        have HP := Lib.hid (HPT.out k _ _ hx hy hg.out.1)
        have HT : Hid (L[k] = M[k] → L.take (k + 1) = M.take (k + 1)) := Lib.hid (fun h => by rw [List.take_succ_eq_append_getElem hkl, List.take_succ_eq_append_getElem hkm, hg.out.1, h])
        have HG := Lib.hid hg.out.2
        clear hr1 hr2 hg hx hy
        generalize L[k] = x at *
        generalize M[k] = y at *
        obtain ⟨xn, xt, xs⟩ := x
        obtain ⟨yn, yt, ys⟩ := y
        obtain rfl : xn = 1 + k := n1
        obtain rfl : yn = 1 + k := n2
        by_cases hxt : xt = yt
        · subst hxt
          by_cases hxs : xs = ys
          · subst hxs
            have HT2 := Lib.hid (HT.out rfl)
            clear HT HP
            go_wp2
            go_quiet (fail)
            go_wp2
            go_roundw
            case rel => exact ⟨k + 1, by omega, by go_num, Lib.hid ⟨HT2.out, below_drewN HG.out _⟩⟩
            case measure => simp [intOf]; omega
          · have HK := Lib.hid (HP.out (fun e => hxs (by injection e with _ e; injection e))).1
            have HN := Lib.hid (HP.out (fun e => hxs (by injection e with _ e; injection e))).2
            have q1 : (xs == ys) = false := beq_eq_false_iff_ne.2 hxs
            clear HT HP hxs
            go_wp2
            go_quiet (fail)
            go_wp2
            exact bodyPost_ret (v := .tuple #[.int .i64 3, .int .i64 ((k + 1 : Nat) : Int), .int .i64 0]) (by simp [results, Tryz.results30, go_sem]) rfl ⟨by rw [HK.out, HN.out, HER.out], HW2.out.trans ((below_drewN HG.out _).mono HW2.out.size)⟩
        · have HK := Lib.hid (HP.out (fun e => hxt (by injection e with _ e; injection e))).1
          have HN := Lib.hid (HP.out (fun e => hxt (by injection e with _ e; injection e))).2
          have q1 : (xt == yt) = false := beq_eq_false_iff_ne.2 hxt
          clear HT HP hxt
          go_wp2
          go_quiet (fail)
          go_wp2
          exact bodyPost_ret (v := .tuple #[.int .i64 3, .int .i64 ((k + 1 : Nat) : Int), .int .i64 0]) (by simp [results, Tryz.results30, go_sem]) rfl ⟨by rw [HK.out, HN.out, HER.out], HW2.out.trans ((below_drewN HG.out _).mono HW2.out.size)⟩
      · have hen := HEN.out (by have := hg.out.1; rwa [show k = min L.length M.length by omega] at this)
        have HG := Lib.hid (HW2.out.trans (hg.out.2.mono HW2.out.size))
        clear hg
        have HK := Lib.hid (hen.1 hlm).1
        have HN := Lib.hid (hen.1 hlm).2
        clear hen
        go_wp2
        exact bodyPost_ret (v := .tuple #[.int .i64 1, .int .i64 0, .int .i64 0]) (by simp [results, Tryz.results30, go_sem]) rfl ⟨by rw [HK.out, HN.out, HER.out], HG.out⟩
  · go_enter Tryz.func30, Tryz.ntmps30
    go_wp2_with fail
    refine (Ca.out _ HE.out).mono ?_
    rintro e w1 ⟨ua, rfl, hoa, hb1⟩
    have hra := hoa.rows lnC_len
    obtain ⟨aa, ca, e, hca, hxa⟩ := id hra
    subst e
    have hw1 := hb1
    go_wp2_with fail
    refine (Cb.out _ (HE.out.all hw1)).mono ?_
    rintro e w2 ⟨ub, rfl, hob, hb2⟩
    have hrb := hob.rows lnC_len
    obtain ⟨ab, cb, e, hcb, hxb⟩ := id hrb
    subst e
    have hw2 := below_step hw1 hb2
    have HA : Hid (∀ k (hk : k < L.length), ∃ b off, aa = some ⟨b, off, none⟩ ∧ b < w2.heap.size ∧ CellsAt (lnC L[k]) w2 b (off + k * 3)) := Lib.hid (fun k hk => by
      obtain ⟨bb, off, e1, e2, e3⟩ := hxa k hk
      exact ⟨bb, off, e1, Nat.lt_of_lt_of_le e2 hb2.size, e3.below hb2 e2⟩)
    have HB := Lib.hid hxb
    have HW2 := Lib.hid hw2
    clear hoa hob hra hrb hxa hxb hb1 hb2 hw1 hw2 Ca Cb
    go_wp2
    go_loopw [33] (fun t wr => ∃ k : Nat, k ≤ M.length ∧ t = .int .i64 (k : Int) ∧ Hid (L.take k = M.take k ∧ Below w2.heap.size w2 wr)) (fun t _ => M.length - (intOf t).toNat)
    case atStart => exact ⟨0, Nat.zero_le _, rfl, Lib.hid ⟨rfl, Below.refl _ _⟩⟩
    case round =>
      obtain ⟨k, hk, rfl, hg⟩ := hrel
      by_cases hlt : k < M.length
      · have hkl : k < L.length := by omega
        have hkm : k < M.length := by omega
        obtain ⟨b1, off1, rfl, hl1, hr1⟩ := HA.out k hkl
        obtain ⟨b2, off2, rfl, hl2, hr2⟩ := HB.out k hkm
        obtain ⟨c0, c1, c2⟩ := ln_at (hr1.below hg.out.2 hl1)
        obtain ⟨d0, d1, d2⟩ := ln_at (hr2.below hg.out.2 hl2)
        have hx : L[k]? = some L[k] := List.getElem?_eq_getElem hkl
        have hy : M[k]? = some M[k] := List.getElem?_eq_getElem hkm
        have n1 := HNA.out k _ hx
        have n2 := HNB.out k _ hy
        have HP := Lib.hid (HPT.out k _ _ hx hy hg.out.1)
        have HT : Hid (L[k] = M[k] → L.take (k + 1) = M.take (k + 1)) := Lib.hid (fun h => by rw [List.take_succ_eq_append_getElem hkl, List.take_succ_eq_append_getElem hkm, hg.out.1, h])
        have HG := Lib.hid hg.out.2
        clear hr1 hr2 hg hx hy
        generalize L[k] = x at *
        generalize M[k] = y at *
        obtain ⟨xn, xt, xs⟩ := x
        obtain ⟨yn, yt, ys⟩ := y
        obtain rfl : xn = 1 + k := n1
        obtain rfl : yn = 1 + k := n2
        by_cases hxt : xt = yt
        · subst hxt
          by_cases hxs : xs = ys
          · subst hxs
            have HT2 := Lib.hid (HT.out rfl)
            clear HT HP
            go_wp2
            go_quiet (fail)
            go_wp2
            go_roundw
            case rel => exact ⟨k + 1, by omega, by go_num, Lib.hid ⟨HT2.out, below_drewN HG.out _⟩⟩
            case measure => simp [intOf]; omega
          · have HK := Lib.hid (HP.out (fun e => hxs (by injection e with _ e; injection e))).1
            have HN := Lib.hid (HP.out (fun e => hxs (by injection e with _ e; injection e))).2
            have q1 : (xs == ys) = false := beq_eq_false_iff_ne.2 hxs
            clear HT HP hxs
            go_wp2
            go_quiet (fail)
            go_wp2
            exact bodyPost_ret (v := .tuple #[.int .i64 3, .int .i64 ((k + 1 : Nat) : Int), .int .i64 0]) (by simp [results, Tryz.results30, go_sem]) rfl ⟨by rw [HK.out, HN.out, HER.out], HW2.out.trans ((below_drewN HG.out _).mono HW2.out.size)⟩
        · have HK := Lib.hid (HP.out (fun e => hxt (by injection e with _ e; injection e))).1
          have HN := Lib.hid (HP.out (fun e => hxt (by injection e with _ e; injection e))).2
          have q1 : (xt == yt) = false := beq_eq_false_iff_ne.2 hxt
          clear HT HP hxt
          go_wp2
          go_quiet (fail)
          go_wp2
          exact bodyPost_ret (v := .tuple #[.int .i64 3, .int .i64 ((k + 1 : Nat) : Int), .int .i64 0]) (by simp [results, Tryz.results30, go_sem]) rfl ⟨by rw [HK.out, HN.out, HER.out], HW2.out.trans ((below_drewN HG.out _).mono HW2.out.size)⟩
      · have hen := HEN.out (by have := hg.out.1; rwa [show k = min L.length M.length by omega] at this)
        have HG := Lib.hid (HW2.out.trans (hg.out.2.mono HW2.out.size))
        clear hg
        by_cases hml : M.length < L.length
        · have HK := Lib.hid (hen.2.1 hml).1
          have HN := Lib.hid (hen.2.1 hml).2
          clear hen
          go_wp2
          exact bodyPost_ret (v := .tuple #[.int .i64 2, .int .i64 0, .int .i64 0]) (by simp [results, Tryz.results30, go_sem]) rfl ⟨by rw [HK.out, HN.out, HER.out], HG.out⟩
        · have HK := Lib.hid (hen.2.2 (by omega)).1
          have HN := Lib.hid (hen.2.2 (by omega)).2
          clear hen
          go_wp2
          exact bodyPost_ret (v := .tuple #[.int .i64 0, .int .i64 0, .int .i64 0]) (by simp [results, Tryz.results30, go_sem]) rfl ⟨by rw [HK.out, HN.out, HER.out], HG.out⟩
set_option maxRecDepth 20000 in
set_option maxHeartbeats 2000000 in
theorem refRelation_any (a b : ByteArray) (w : World) (hE : EnvB w) (ha : a.size ≤ 80000) (hb : b.size ≤ 80000) :
    Calls Tryz.prog 31 #[.string a, .string b] w (RelSays a.data.toList b.data.toList w) := by
  have HE := Lib.hid hE
  unfold RelSays
  by_cases ha0 : Bk.rest a.data.toList = []
  case neg =>
    by_cases hb0 : Bk.rest b.data.toList = []
    case pos =>
      have Ca := Lib.hid (fun W hW => refRead_any a W hW (by omega))
      unfold BookSays at Ca
      have q1a : (Bk.rest a.data.toList == []) = false := by simpa using ha0
      have q2a : (Bk.rest a.data.toList != []) = true := by simpa using ha0
      have q3a : (Bk.rest a.data.toList).isEmpty = false := by simpa using ha0
      have Cb := Lib.hid (fun W hW => refRead_any b W hW (by omega))
      unfold BookSays at Cb
      rw [hb0] at Cb
      have hno : ¬ Bk.both a.data.toList b.data.toList := fun h => ha0 h.1
      have HK : Hid (Bk.relK a.data.toList b.data.toList = 0) := Lib.hid (by unfold Bk.relK; rw [if_neg hno])
      have HN : Hid (Bk.relN a.data.toList b.data.toList = 0) := Lib.hid (by unfold Bk.relN; rw [if_neg hno])
      have HER : Hid (Bk.relE a.data.toList b.data.toList = 15) := Lib.hid (by unfold Bk.relE; rw [if_neg hno])
      generalize Bk.relK a.data.toList b.data.toList = K at *
      generalize Bk.relN a.data.toList b.data.toList = N at *
      generalize Bk.relE a.data.toList b.data.toList = ER at *
      clear hno hE ha0 hb0
      generalize Bk.rest a.data.toList = Ra at *
      go_enter Tryz.func31, Tryz.ntmps31
      go_wp2_with fail
      refine (Ca.out _ HE.out).mono ?_
      rintro e w1 ⟨ua, rfl, hoa, hb1⟩
      have hra := hoa.rows lnC_len
      obtain ⟨aa, ca, e, hca, hxa⟩ := id hra
      subst e
      have hw1 := hb1
      go_wp2_with fail
      refine (Cb.out _ (HE.out.all hw1)).mono ?_
      rintro e w2 ⟨ub, rfl, hob, hb2⟩
      have hrb := hob.rows lnC_len
      obtain ⟨ab, cb, e, hcb, hxb⟩ := id hrb
      subst e
      have hw2 := below_step hw1 hb2
      clear hoa hra hxa
      clear hob hrb hxb
      clear hb2 hb1 Ca Cb
      go_wp2
      exact bodyPost_ret (v := .tuple #[.int .i64 0, .int .i64 0, .int .i64 15]) (by simp [results, Tryz.results31, go_sem]) rfl ⟨by rw [HK.out, HN.out, HER.out], hw2⟩
    case neg =>
      have Ca := Lib.hid (fun W hW => refRead_any a W hW (by omega))
      unfold BookSays at Ca
      have q1a : (Bk.rest a.data.toList == []) = false := by simpa using ha0
      have q2a : (Bk.rest a.data.toList != []) = true := by simpa using ha0
      have q3a : (Bk.rest a.data.toList).isEmpty = false := by simpa using ha0
      have Cb := Lib.hid (fun W hW => refRead_any b W hW (by omega))
      unfold BookSays at Cb
      have q1b : (Bk.rest b.data.toList == []) = false := by simpa using hb0
      have q2b : (Bk.rest b.data.toList != []) = true := by simpa using hb0
      have q3b : (Bk.rest b.data.toList).isEmpty = false := by simpa using hb0
      have hno : ¬ Bk.both a.data.toList b.data.toList := fun h => ha0 h.1
      have HK : Hid (Bk.relK a.data.toList b.data.toList = 0) := Lib.hid (by unfold Bk.relK; rw [if_neg hno])
      have HN : Hid (Bk.relN a.data.toList b.data.toList = 0) := Lib.hid (by unfold Bk.relN; rw [if_neg hno])
      have HER : Hid (Bk.relE a.data.toList b.data.toList = 15) := Lib.hid (by unfold Bk.relE; rw [if_neg hno])
      generalize Bk.relK a.data.toList b.data.toList = K at *
      generalize Bk.relN a.data.toList b.data.toList = N at *
      generalize Bk.relE a.data.toList b.data.toList = ER at *
      clear hno hE ha0 hb0
      generalize Bk.rest a.data.toList = Ra at *
      generalize Bk.rest b.data.toList = Rb at *
      go_enter Tryz.func31, Tryz.ntmps31
      go_wp2_with fail
      refine (Ca.out _ HE.out).mono ?_
      rintro e w1 ⟨ua, rfl, hoa, hb1⟩
      have hra := hoa.rows lnC_len
      obtain ⟨aa, ca, e, hca, hxa⟩ := id hra
      subst e
      have hw1 := hb1
      go_wp2_with fail
      refine (Cb.out _ (HE.out.all hw1)).mono ?_
      rintro e w2 ⟨ub, rfl, hob, hb2⟩
      have hrb := hob.rows lnC_len
      obtain ⟨ab, cb, e, hcb, hxb⟩ := id hrb
      subst e
      have hw2 := below_step hw1 hb2
      clear hoa hra hxa
      clear hob hrb hxb
      clear hb2 hb1 Ca Cb
      go_wp2
      exact bodyPost_ret (v := .tuple #[.int .i64 0, .int .i64 0, .int .i64 15]) (by simp [results, Tryz.results31, go_sem]) rfl ⟨by rw [HK.out, HN.out, HER.out], hw2⟩
  by_cases hb0 : Bk.rest b.data.toList = []
  case neg =>
    have Ca := Lib.hid (fun W hW => refRead_any a W hW (by omega))
    unfold BookSays at Ca
    rw [ha0] at Ca
    have Cb := Lib.hid (fun W hW => refRead_any b W hW (by omega))
    unfold BookSays at Cb
    have q1b : (Bk.rest b.data.toList == []) = false := by simpa using hb0
    have q2b : (Bk.rest b.data.toList != []) = true := by simpa using hb0
    have q3b : (Bk.rest b.data.toList).isEmpty = false := by simpa using hb0
    have hno : ¬ Bk.both a.data.toList b.data.toList := fun h => hb0 h.2
    have HK : Hid (Bk.relK a.data.toList b.data.toList = 0) := Lib.hid (by unfold Bk.relK; rw [if_neg hno])
    have HN : Hid (Bk.relN a.data.toList b.data.toList = 0) := Lib.hid (by unfold Bk.relN; rw [if_neg hno])
    have HER : Hid (Bk.relE a.data.toList b.data.toList = 15) := Lib.hid (by unfold Bk.relE; rw [if_neg hno])
    generalize Bk.relK a.data.toList b.data.toList = K at *
    generalize Bk.relN a.data.toList b.data.toList = N at *
    generalize Bk.relE a.data.toList b.data.toList = ER at *
    clear hno hE ha0 hb0
    generalize Bk.rest b.data.toList = Rb at *
    go_enter Tryz.func31, Tryz.ntmps31
    go_wp2_with fail
    refine (Ca.out _ HE.out).mono ?_
    rintro e w1 ⟨ua, rfl, hoa, hb1⟩
    have hra := hoa.rows lnC_len
    obtain ⟨aa, ca, e, hca, hxa⟩ := id hra
    subst e
    have hw1 := hb1
    go_wp2_with fail
    refine (Cb.out _ (HE.out.all hw1)).mono ?_
    rintro e w2 ⟨ub, rfl, hob, hb2⟩
    have hrb := hob.rows lnC_len
    obtain ⟨ab, cb, e, hcb, hxb⟩ := id hrb
    subst e
    have hw2 := below_step hw1 hb2
    clear hoa hra hxa
    clear hob hrb hxb
    clear hb2 hb1 Ca Cb
    go_wp2
    exact bodyPost_ret (v := .tuple #[.int .i64 0, .int .i64 0, .int .i64 15]) (by simp [results, Tryz.results31, go_sem]) rfl ⟨by rw [HK.out, HN.out, HER.out], hw2⟩
  have Ca := Lib.hid (fun W hW => refRead_any a W hW (by omega))
  unfold BookSays at Ca
  rw [ha0] at Ca
  have Cb := Lib.hid (fun W hW => refRead_any b W hW (by omega))
  unfold BookSays at Cb
  rw [hb0] at Cb
  have hyes : Bk.both a.data.toList b.data.toList := ⟨ha0, hb0⟩
  have HKx : Hid (Bk.relK a.data.toList b.data.toList = (Bk.cmp (Bk.ln a.data.toList) (Bk.ln b.data.toList) 0).1) := Lib.hid (by unfold Bk.relK; rw [if_pos hyes])
  have HNx : Hid (Bk.relN a.data.toList b.data.toList = (Bk.cmp (Bk.ln a.data.toList) (Bk.ln b.data.toList) 0).2) := Lib.hid (by unfold Bk.relN; rw [if_pos hyes])
  have HER : Hid (Bk.relE a.data.toList b.data.toList = 0) := Lib.hid (by unfold Bk.relE; rw [if_pos hyes])
  have la : (Bk.ln a.data.toList).length ≤ 200 := by rw [Bk.ln_len]; exact Bk.tx_len _
  have lb : (Bk.ln b.data.toList).length ≤ 200 := by rw [Bk.ln_len]; exact Bk.tx_len _
  have HNA : Hid (∀ i x, (Bk.ln a.data.toList)[i]? = some x → x.1 = 1 + i) := Lib.hid (fun i x h => Bk.lns_num _ 1 0 i x h)
  have HNB : Hid (∀ i x, (Bk.ln b.data.toList)[i]? = some x → x.1 = 1 + i) := Lib.hid (fun i x h => Bk.lns_num _ 1 0 i x h)
  clear hyes hE ha0 hb0
  generalize Bk.relK a.data.toList b.data.toList = K at *
  generalize Bk.relN a.data.toList b.data.toList = N at *
  generalize Bk.relE a.data.toList b.data.toList = ER at *
  generalize Bk.ln a.data.toList = L at *
  generalize Bk.ln b.data.toList = M at *
  have HPT : Hid (∀ (i : Nat) (x y : Bk.Ln), L[i]? = some x → M[i]? = some y → L.take i = M.take i → x ≠ y → K = 3 ∧ N = ((i + 1 : Nat) : Int)) := Lib.hid (fun i x y h1 h2 h3 h4 => by
    rw [HKx.out, HNx.out, Bk.cmp_part L M i 0 x y h1 h2 h3 h4, Nat.zero_add]; exact ⟨rfl, rfl⟩)
  have HEN : Hid (L.take (min L.length M.length) = M.take (min L.length M.length) → (L.length < M.length → K = 1 ∧ N = 0) ∧ (M.length < L.length → K = 2 ∧ N = 0) ∧ (L.length = M.length → K = 0 ∧ N = 0)) := Lib.hid (fun h => by
    rw [HKx.out, HNx.out, Bk.cmp_end L M 0 h]
    refine ⟨fun h => ?_, fun h => ?_, fun h => ?_⟩
    · rw [if_pos h]; exact ⟨rfl, rfl⟩
    · rw [if_neg (by omega), if_pos h]; exact ⟨rfl, rfl⟩
    · rw [if_neg (by omega), if_neg (by omega)]; exact ⟨rfl, rfl⟩)
  clear HKx HNx
  by_cases hlm : L.length < M.length
  · go_enter Tryz.func31, Tryz.ntmps31
    go_wp2_with fail
    refine (Ca.out _ HE.out).mono ?_
    rintro e w1 ⟨ua, rfl, hoa, hb1⟩
    have hra := hoa.rows lnC_len
    obtain ⟨aa, ca, e, hca, hxa⟩ := id hra
    subst e
    have hw1 := hb1
    go_wp2_with fail
    refine (Cb.out _ (HE.out.all hw1)).mono ?_
    rintro e w2 ⟨ub, rfl, hob, hb2⟩
    have hrb := hob.rows lnC_len
    obtain ⟨ab, cb, e, hcb, hxb⟩ := id hrb
    subst e
    have hw2 := below_step hw1 hb2
    have HA : Hid (∀ k (hk : k < L.length), ∃ b off, aa = some ⟨b, off, none⟩ ∧ b < w2.heap.size ∧ CellsAt (lnC L[k]) w2 b (off + k * 3)) := Lib.hid (fun k hk => by
      obtain ⟨bb, off, e1, e2, e3⟩ := hxa k hk
      exact ⟨bb, off, e1, Nat.lt_of_lt_of_le e2 hb2.size, e3.below hb2 e2⟩)
    have HB := Lib.hid hxb
    have HW2 := Lib.hid hw2
    clear hoa hob hra hrb hxa hxb hb1 hb2 hw1 hw2 Ca Cb
    go_wp2
    go_loopw [11] (fun t wr => ∃ k : Nat, k ≤ L.length ∧ t = .int .i64 (k : Int) ∧ Hid (L.take k = M.take k ∧ Below w2.heap.size w2 wr)) (fun t _ => L.length - (intOf t).toNat)
    case atStart => exact ⟨0, Nat.zero_le _, rfl, Lib.hid ⟨rfl, Below.refl _ _⟩⟩
    case round =>
      obtain ⟨k, hk, rfl, hg⟩ := hrel
      by_cases hlt : k < L.length
      · have hkl : k < L.length := by omega
        have hkm : k < M.length := by omega
        obtain ⟨b1, off1, rfl, hl1, hr1⟩ := HA.out k hkl
        obtain ⟨b2, off2, rfl, hl2, hr2⟩ := HB.out k hkm
        obtain ⟨c0, c1, c2⟩ := ln_at (hr1.below hg.out.2 hl1)
        obtain ⟨d0, d1, d2⟩ := ln_at (hr2.below hg.out.2 hl2)
        have hx : L[k]? = some L[k] := List.getElem?_eq_getElem hkl
        have hy : M[k]? = some M[k] := List.getElem?_eq_getElem hkm
        have n1 := HNA.out k _ hx
        have n2 := HNB.out k _ hy
        have HP := Lib.hid (HPT.out k _ _ hx hy hg.out.1)
        have HT : Hid (L[k] = M[k] → L.take (k + 1) = M.take (k + 1)) := Lib.hid (fun h => by rw [List.take_succ_eq_append_getElem hkl, List.take_succ_eq_append_getElem hkm, hg.out.1, h])
        have HG := Lib.hid hg.out.2
        clear hr1 hr2 hg hx hy
        generalize L[k] = x at *
        generalize M[k] = y at *
        obtain ⟨xn, xt, xs⟩ := x
        obtain ⟨yn, yt, ys⟩ := y
        obtain rfl : xn = 1 + k := n1
        obtain rfl : yn = 1 + k := n2
        by_cases hxt : xt = yt
        · subst hxt
          by_cases hxs : xs = ys
          · subst hxs
            have HT2 := Lib.hid (HT.out rfl)
            clear HT HP
            go_wp2
            go_quiet (fail)
            go_wp2
            go_roundw
            case rel => exact ⟨k + 1, by omega, by go_num, Lib.hid ⟨HT2.out, below_drewN HG.out _⟩⟩
            case measure => simp [intOf]; omega
          · have HK := Lib.hid (HP.out (fun e => hxs (by injection e with _ e; injection e))).1
            have HN := Lib.hid (HP.out (fun e => hxs (by injection e with _ e; injection e))).2
            have q1 : (xs == ys) = false := beq_eq_false_iff_ne.2 hxs
            clear HT HP hxs
            go_wp2
            go_quiet (fail)
            go_wp2
            exact bodyPost_ret (v := .tuple #[.int .i64 3, .int .i64 ((k + 1 : Nat) : Int), .int .i64 0]) (by simp [results, Tryz.results31, go_sem]) rfl ⟨by rw [HK.out, HN.out, HER.out], HW2.out.trans ((below_drewN HG.out _).mono HW2.out.size)⟩
        · have HK := Lib.hid (HP.out (fun e => hxt (by injection e with _ e; injection e))).1
          have HN := Lib.hid (HP.out (fun e => hxt (by injection e with _ e; injection e))).2
          have q1 : (xt == yt) = false := beq_eq_false_iff_ne.2 hxt
          clear HT HP hxt
          go_wp2
          go_quiet (fail)
          go_wp2
          exact bodyPost_ret (v := .tuple #[.int .i64 3, .int .i64 ((k + 1 : Nat) : Int), .int .i64 0]) (by simp [results, Tryz.results31, go_sem]) rfl ⟨by rw [HK.out, HN.out, HER.out], HW2.out.trans ((below_drewN HG.out _).mono HW2.out.size)⟩
      · have hen := HEN.out (by have := hg.out.1; rwa [show k = min L.length M.length by omega] at this)
        have HG := Lib.hid (HW2.out.trans (hg.out.2.mono HW2.out.size))
        clear hg
        have HK := Lib.hid (hen.1 hlm).1
        have HN := Lib.hid (hen.1 hlm).2
        clear hen
        go_wp2
        exact bodyPost_ret (v := .tuple #[.int .i64 1, .int .i64 0, .int .i64 0]) (by simp [results, Tryz.results31, go_sem]) rfl ⟨by rw [HK.out, HN.out, HER.out], HG.out⟩
  · go_enter Tryz.func31, Tryz.ntmps31
    go_wp2_with fail
    refine (Ca.out _ HE.out).mono ?_
    rintro e w1 ⟨ua, rfl, hoa, hb1⟩
    have hra := hoa.rows lnC_len
    obtain ⟨aa, ca, e, hca, hxa⟩ := id hra
    subst e
    have hw1 := hb1
    go_wp2_with fail
    refine (Cb.out _ (HE.out.all hw1)).mono ?_
    rintro e w2 ⟨ub, rfl, hob, hb2⟩
    have hrb := hob.rows lnC_len
    obtain ⟨ab, cb, e, hcb, hxb⟩ := id hrb
    subst e
    have hw2 := below_step hw1 hb2
    have HA : Hid (∀ k (hk : k < L.length), ∃ b off, aa = some ⟨b, off, none⟩ ∧ b < w2.heap.size ∧ CellsAt (lnC L[k]) w2 b (off + k * 3)) := Lib.hid (fun k hk => by
      obtain ⟨bb, off, e1, e2, e3⟩ := hxa k hk
      exact ⟨bb, off, e1, Nat.lt_of_lt_of_le e2 hb2.size, e3.below hb2 e2⟩)
    have HB := Lib.hid hxb
    have HW2 := Lib.hid hw2
    clear hoa hob hra hrb hxa hxb hb1 hb2 hw1 hw2 Ca Cb
    go_wp2
    go_loopw [11] (fun t wr => ∃ k : Nat, k ≤ M.length ∧ t = .int .i64 (k : Int) ∧ Hid (L.take k = M.take k ∧ Below w2.heap.size w2 wr)) (fun t _ => M.length - (intOf t).toNat)
    case atStart => exact ⟨0, Nat.zero_le _, rfl, Lib.hid ⟨rfl, Below.refl _ _⟩⟩
    case round =>
      obtain ⟨k, hk, rfl, hg⟩ := hrel
      by_cases hlt : k < M.length
      · have hkl : k < L.length := by omega
        have hkm : k < M.length := by omega
        obtain ⟨b1, off1, rfl, hl1, hr1⟩ := HA.out k hkl
        obtain ⟨b2, off2, rfl, hl2, hr2⟩ := HB.out k hkm
        obtain ⟨c0, c1, c2⟩ := ln_at (hr1.below hg.out.2 hl1)
        obtain ⟨d0, d1, d2⟩ := ln_at (hr2.below hg.out.2 hl2)
        have hx : L[k]? = some L[k] := List.getElem?_eq_getElem hkl
        have hy : M[k]? = some M[k] := List.getElem?_eq_getElem hkm
        have n1 := HNA.out k _ hx
        have n2 := HNB.out k _ hy
        have HP := Lib.hid (HPT.out k _ _ hx hy hg.out.1)
        have HT : Hid (L[k] = M[k] → L.take (k + 1) = M.take (k + 1)) := Lib.hid (fun h => by rw [List.take_succ_eq_append_getElem hkl, List.take_succ_eq_append_getElem hkm, hg.out.1, h])
        have HG := Lib.hid hg.out.2
        clear hr1 hr2 hg hx hy
        generalize L[k] = x at *
        generalize M[k] = y at *
        obtain ⟨xn, xt, xs⟩ := x
        obtain ⟨yn, yt, ys⟩ := y
        obtain rfl : xn = 1 + k := n1
        obtain rfl : yn = 1 + k := n2
        by_cases hxt : xt = yt
        · subst hxt
          by_cases hxs : xs = ys
          · subst hxs
            have HT2 := Lib.hid (HT.out rfl)
            clear HT HP
            go_wp2
            go_quiet (fail)
            go_wp2
            go_roundw
            case rel => exact ⟨k + 1, by omega, by go_num, Lib.hid ⟨HT2.out, below_drewN HG.out _⟩⟩
            case measure => simp [intOf]; omega
          · have HK := Lib.hid (HP.out (fun e => hxs (by injection e with _ e; injection e))).1
            have HN := Lib.hid (HP.out (fun e => hxs (by injection e with _ e; injection e))).2
            have q1 : (xs == ys) = false := beq_eq_false_iff_ne.2 hxs
            clear HT HP hxs
            go_wp2
            go_quiet (fail)
            go_wp2
            exact bodyPost_ret (v := .tuple #[.int .i64 3, .int .i64 ((k + 1 : Nat) : Int), .int .i64 0]) (by simp [results, Tryz.results31, go_sem]) rfl ⟨by rw [HK.out, HN.out, HER.out], HW2.out.trans ((below_drewN HG.out _).mono HW2.out.size)⟩
        · have HK := Lib.hid (HP.out (fun e => hxt (by injection e with _ e; injection e))).1
          have HN := Lib.hid (HP.out (fun e => hxt (by injection e with _ e; injection e))).2
          have q1 : (xt == yt) = false := beq_eq_false_iff_ne.2 hxt
          clear HT HP hxt
          go_wp2
          go_quiet (fail)
          go_wp2
          exact bodyPost_ret (v := .tuple #[.int .i64 3, .int .i64 ((k + 1 : Nat) : Int), .int .i64 0]) (by simp [results, Tryz.results31, go_sem]) rfl ⟨by rw [HK.out, HN.out, HER.out], HW2.out.trans ((below_drewN HG.out _).mono HW2.out.size)⟩
      · have hen := HEN.out (by have := hg.out.1; rwa [show k = min L.length M.length by omega] at this)
        have HG := Lib.hid (HW2.out.trans (hg.out.2.mono HW2.out.size))
        clear hg
        by_cases hml : M.length < L.length
        · have HK := Lib.hid (hen.2.1 hml).1
          have HN := Lib.hid (hen.2.1 hml).2
          clear hen
          go_wp2
          exact bodyPost_ret (v := .tuple #[.int .i64 2, .int .i64 0, .int .i64 0]) (by simp [results, Tryz.results31, go_sem]) rfl ⟨by rw [HK.out, HN.out, HER.out], HG.out⟩
        · have HK := Lib.hid (hen.2.2 (by omega)).1
          have HN := Lib.hid (hen.2.2 (by omega)).2
          clear hen
          go_wp2
          exact bodyPost_ret (v := .tuple #[.int .i64 0, .int .i64 0, .int .i64 0]) (by simp [results, Tryz.results31, go_sem]) rfl ⟨by rw [HK.out, HN.out, HER.out], HG.out⟩
end Go.Proofs.YtcljpklgpedolaaGreatDoor
namespace Go.Proofs.YtcljpklgpedolaaGreatDoor
open Go.RowKit Go.Sort

theorem refIsWhole_any (k : ByteArray) (w : World) (hE : EnvB w) (hs : k.size ≤ 80000) :
    Calls Tryz.prog 71 #[.string k] w fun e w' => e = .returned (.bool (decide (Bk.rest k.data.toList = []))) ∧ Below w.heap.size w w' := by
  have C := Lib.hid (refRead_any k w hE hs)
  unfold BookSays at C
  generalize Bk.rest k.data.toList = R at *
  generalize Bk.ln k.data.toList = L at *
  have hd : (R == []) = decide (R = []) := by cases R <;> simp
  have hd2 : R.isEmpty = decide (R = []) := by cases R <;> simp
  have HD := Lib.hid (And.intro hd hd2)
  clear hE hd hd2
  go_enter Tryz.func71, Tryz.ntmps71
  go_wp2_with fail
  refine C.out.mono ?_
  rintro e w1 ⟨v, rfl, _, hb⟩
  go_wp2
  go_ret
  refine ⟨?_, hb⟩
  first
    | (rw [← HD.out.1]; rfl)
    | (rw [← HD.out.2]; rfl)
/-- A book with a text behind it is whole. -/
def Bk.extOk (a b : List UInt8) : Prop := Bk.rest a = [] ∧ Bk.rest (a ++ b) = []
instance (a b : List UInt8) : Decidable (Bk.extOk a b) := by unfold Bk.extOk; infer_instance
def Bk.extS (a b : List UInt8) : List UInt8 := if Bk.extOk a b then a ++ b else []
def Bk.extE (a b : List UInt8) : Int := if Bk.extOk a b then 0 else 15
theorem ext_data (a b : ByteArray) : (a ++ b).data.toList = a.data.toList ++ b.data.toList := by simp
theorem ext_size (a b : ByteArray) : (a ++ b).size = a.size + b.size := by rw [← len_size, ext_data, List.length_append, len_size, len_size]
/-- What two books are together: the text, and the error. -/
def Bk.mrgE (a b : List UInt8) : Int := if Bk.relE a b ≠ 0 then Bk.relE a b else if Bk.relK a b = 3 then 8 else 0
def Bk.mrgS (a b : List UInt8) : List UInt8 := if Bk.mrgE a b ≠ 0 then [] else if Bk.relK a b = 1 then b else a
theorem Bk.relE_cases (a b : List UInt8) : Bk.relE a b = 0 ∨ Bk.relE a b = 15 := by unfold Bk.relE; split <;> simp
set_option maxRecDepth 20000 in
theorem extend_any (a b : ByteArray) (w : World) (hE : EnvB w) (ha : a.size ≤ 40000) (hb : b.size ≤ 40000) :
    Calls Tryz.prog 34 #[.string a, .string b] w fun e w' => e = .returned (.tuple #[sv (Bk.extS a.data.toList b.data.toList), .int .i64 (Bk.extE a.data.toList b.data.toList)]) ∧ Below w.heap.size w w' := by
  have W1 := Lib.hid (fun W hW => isWhole_any a W hW (by omega))
  have W2 := Lib.hid (fun W hW => isWhole_any (a ++ b) W hW (by rw [ext_size]; omega))
  rw [ext_data] at W2
  have HE := Lib.hid hE
  have hno : ¬ Bk.extOk a.data.toList b.data.toList → sv (Bk.extS a.data.toList b.data.toList) = sv [] ∧ Bk.extE a.data.toList b.data.toList = 15 := fun h => by
    unfold Bk.extS Bk.extE; rw [if_neg h, if_neg h]; exact ⟨rfl, rfl⟩
  have hyes : Bk.extOk a.data.toList b.data.toList → sv (Bk.extS a.data.toList b.data.toList) = .string (a ++ b) ∧ Bk.extE a.data.toList b.data.toList = 0 := fun h => by
    unfold Bk.extS Bk.extE; rw [if_pos h, if_pos h, str_list, ext_data]; exact ⟨rfl, rfl⟩
  clear hE
  generalize sv (Bk.extS a.data.toList b.data.toList) = S at *
  generalize Bk.extE a.data.toList b.data.toList = E at *
  by_cases h1 : Bk.rest a.data.toList = []
  case neg =>
    have HR := Lib.hid (hno fun h => h1 h.1)
    rw [decide_eq_false h1] at W1
    clear h1 hno hyes
    go_enter Tryz.func34, Tryz.ntmps34
    go_wp2_with fail
    refine (W1.out _ HE.out).mono ?_
    rintro e w1 ⟨rfl, hb1⟩
    clear W1
    go_wp2
    go_ret2
    exact ⟨by rw [HR.out.1, HR.out.2]; rfl, hb1⟩
  rw [decide_eq_true h1] at W1
  by_cases h2 : Bk.rest (a.data.toList ++ b.data.toList) = []
  case neg =>
    have HR := Lib.hid (hno fun h => h2 h.2)
    rw [decide_eq_false h2] at W2
    clear h1 h2 hno hyes
    go_enter Tryz.func34, Tryz.ntmps34
    go_wp2_with fail
    refine (W1.out _ HE.out).mono ?_
    rintro e w1 ⟨rfl, hb1⟩
    clear W1
    go_wp2_with fail
    refine (W2.out _ (HE.out.all hb1)).mono ?_
    rintro e w2 ⟨rfl, hb2⟩
    have hw2 := below_step hb1 hb2
    clear hb1 hb2 W2
    go_wp2
    go_ret2
    exact ⟨by rw [HR.out.1, HR.out.2]; rfl, hw2⟩
  rw [decide_eq_true h2] at W2
  have HR := Lib.hid (hyes ⟨h1, h2⟩)
  clear h1 h2 hno hyes
  go_enter Tryz.func34, Tryz.ntmps34
  go_wp2_with fail
  refine (W1.out _ HE.out).mono ?_
  rintro e w1 ⟨rfl, hb1⟩
  clear W1
  go_wp2_with fail
  refine (W2.out _ (HE.out.all hb1)).mono ?_
  rintro e w2 ⟨rfl, hb2⟩
  have hw2 := below_step hb1 hb2
  clear hb1 hb2 W2
  go_wp2
  go_ret2
  exact ⟨by rw [HR.out.1, HR.out.2]; rfl, hw2⟩
set_option maxRecDepth 20000 in
theorem refExtend_any (a b : ByteArray) (w : World) (hE : EnvB w) (ha : a.size ≤ 40000) (hb : b.size ≤ 40000) :
    Calls Tryz.prog 35 #[.string a, .string b] w fun e w' => e = .returned (.tuple #[sv (Bk.extS a.data.toList b.data.toList), .int .i64 (Bk.extE a.data.toList b.data.toList)]) ∧ Below w.heap.size w w' := by
  have W1 := Lib.hid (fun W hW => refIsWhole_any a W hW (by omega))
  have W2 := Lib.hid (fun W hW => refIsWhole_any (a ++ b) W hW (by rw [ext_size]; omega))
  rw [ext_data] at W2
  have HE := Lib.hid hE
  have hno : ¬ Bk.extOk a.data.toList b.data.toList → sv (Bk.extS a.data.toList b.data.toList) = sv [] ∧ Bk.extE a.data.toList b.data.toList = 15 := fun h => by
    unfold Bk.extS Bk.extE; rw [if_neg h, if_neg h]; exact ⟨rfl, rfl⟩
  have hyes : Bk.extOk a.data.toList b.data.toList → sv (Bk.extS a.data.toList b.data.toList) = .string (a ++ b) ∧ Bk.extE a.data.toList b.data.toList = 0 := fun h => by
    unfold Bk.extS Bk.extE; rw [if_pos h, if_pos h, str_list, ext_data]; exact ⟨rfl, rfl⟩
  clear hE
  generalize sv (Bk.extS a.data.toList b.data.toList) = S at *
  generalize Bk.extE a.data.toList b.data.toList = E at *
  by_cases h1 : Bk.rest a.data.toList = []
  case neg =>
    have HR := Lib.hid (hno fun h => h1 h.1)
    rw [decide_eq_false h1] at W1
    clear h1 hno hyes
    go_enter Tryz.func35, Tryz.ntmps35
    go_wp2_with fail
    refine (W1.out _ HE.out).mono ?_
    rintro e w1 ⟨rfl, hb1⟩
    clear W1
    go_wp2
    go_ret2
    exact ⟨by rw [HR.out.1, HR.out.2]; rfl, hb1⟩
  rw [decide_eq_true h1] at W1
  by_cases h2 : Bk.rest (a.data.toList ++ b.data.toList) = []
  case neg =>
    have HR := Lib.hid (hno fun h => h2 h.2)
    rw [decide_eq_false h2] at W2
    clear h1 h2 hno hyes
    go_enter Tryz.func35, Tryz.ntmps35
    go_wp2_with fail
    refine (W1.out _ HE.out).mono ?_
    rintro e w1 ⟨rfl, hb1⟩
    clear W1
    go_wp2_with fail
    refine (W2.out _ (HE.out.all hb1)).mono ?_
    rintro e w2 ⟨rfl, hb2⟩
    have hw2 := below_step hb1 hb2
    clear hb1 hb2 W2
    go_wp2
    go_ret2
    exact ⟨by rw [HR.out.1, HR.out.2]; rfl, hw2⟩
  rw [decide_eq_true h2] at W2
  have HR := Lib.hid (hyes ⟨h1, h2⟩)
  clear h1 h2 hno hyes
  go_enter Tryz.func35, Tryz.ntmps35
  go_wp2_with fail
  refine (W1.out _ HE.out).mono ?_
  rintro e w1 ⟨rfl, hb1⟩
  clear W1
  go_wp2_with fail
  refine (W2.out _ (HE.out.all hb1)).mono ?_
  rintro e w2 ⟨rfl, hb2⟩
  have hw2 := below_step hb1 hb2
  clear hb1 hb2 W2
  go_wp2
  go_ret2
  exact ⟨by rw [HR.out.1, HR.out.2]; rfl, hw2⟩
set_option maxRecDepth 20000 in
theorem merge_any (a b : ByteArray) (w : World) (hE : EnvB w) (ha : a.size ≤ 80000) (hb : b.size ≤ 80000) :
    Calls Tryz.prog 32 #[.string a, .string b] w fun e w' => e = .returned (.tuple #[sv (Bk.mrgS a.data.toList b.data.toList), .int .i64 (Bk.mrgE a.data.toList b.data.toList)]) ∧ Below w.heap.size w w' := by
  have C := Lib.hid (fun W hW => relation_any a b W hW ha hb)
  unfold RelSays at C
  have HE := Lib.hid hE
  have hcs := Bk.relE_cases a.data.toList b.data.toList
  have hE1 : ∀ q, Bk.relE a.data.toList b.data.toList = q → q ≠ 0 → sv (Bk.mrgS a.data.toList b.data.toList) = sv [] ∧ Bk.mrgE a.data.toList b.data.toList = q := fun q h hq => by
    have : Bk.mrgE a.data.toList b.data.toList = q := by unfold Bk.mrgE; rw [h, if_pos hq]
    exact ⟨by unfold Bk.mrgS; rw [this, if_pos hq], this⟩
  have hE2 : Bk.relE a.data.toList b.data.toList = 0 → Bk.relK a.data.toList b.data.toList = 3 → sv (Bk.mrgS a.data.toList b.data.toList) = sv [] ∧ Bk.mrgE a.data.toList b.data.toList = 8 := fun h hk => by
    have : Bk.mrgE a.data.toList b.data.toList = 8 := by unfold Bk.mrgE; rw [h, if_neg (by simp), if_pos hk]
    exact ⟨by unfold Bk.mrgS; rw [this, if_pos (by decide)], this⟩
  have hE3 : Bk.relE a.data.toList b.data.toList = 0 → Bk.relK a.data.toList b.data.toList ≠ 3 → sv (Bk.mrgS a.data.toList b.data.toList) = (if Bk.relK a.data.toList b.data.toList = 1 then .string b else .string a) ∧ Bk.mrgE a.data.toList b.data.toList = 0 := fun h hk => by
    have : Bk.mrgE a.data.toList b.data.toList = 0 := by unfold Bk.mrgE; rw [h, if_neg (by simp), if_neg hk]
    refine ⟨?_, this⟩
    unfold Bk.mrgS
    rw [this, if_neg (by simp)]
    by_cases h1 : Bk.relK a.data.toList b.data.toList = 1
    · rw [if_pos h1, if_pos h1, str_list]
    · rw [if_neg h1, if_neg h1, str_list]
  clear hE
  generalize sv (Bk.mrgS a.data.toList b.data.toList) = S at *
  generalize Bk.mrgE a.data.toList b.data.toList = E at *
  generalize Bk.relE a.data.toList b.data.toList = q at *
  generalize Bk.relN a.data.toList b.data.toList = n at *
  generalize Bk.relK a.data.toList b.data.toList = k at *
  rcases hcs with rfl | rfl
  case inr =>
    have HR := Lib.hid (hE1 15 rfl (by decide))
    clear hE1 hE2 hE3
    go_enter Tryz.func32, Tryz.ntmps32
    go_wp2_with fail
    refine (C.out _ HE.out).mono ?_
    rintro e w1 ⟨rfl, hb1⟩
    clear C
    go_wp2
    go_ret2
    exact ⟨by rw [HR.out.1, HR.out.2]; rfl, hb1⟩
  by_cases h3 : k = 3
  · subst h3
    have HR := Lib.hid (hE2 rfl rfl)
    clear hE1 hE2 hE3
    go_enter Tryz.func32, Tryz.ntmps32
    go_wp2_with fail
    refine (C.out _ HE.out).mono ?_
    rintro e w1 ⟨rfl, hb1⟩
    clear C
    go_wp2
    go_ret2
    exact ⟨by rw [HR.out.1, HR.out.2]; rfl, hb1⟩
  have hr := hE3 rfl h3
  have q3 : (k == 3) = false := beq_eq_false_iff_ne.2 h3
  by_cases h1 : k = 1
  · subst h1
    rw [if_pos rfl] at hr
    have HR := Lib.hid hr
    clear hE1 hE2 hE3 h3 hr
    go_enter Tryz.func32, Tryz.ntmps32
    go_wp2_with fail
    refine (C.out _ HE.out).mono ?_
    rintro e w1 ⟨rfl, hb1⟩
    clear C
    go_wp2
    go_ret2
    exact ⟨by rw [HR.out.1, HR.out.2]; rfl, hb1⟩
  · rw [if_neg h1] at hr
    have HR := Lib.hid hr
    have q1 : (k == 1) = false := beq_eq_false_iff_ne.2 h1
    clear hE1 hE2 hE3 h3 h1 hr
    go_enter Tryz.func32, Tryz.ntmps32
    go_wp2_with fail
    refine (C.out _ HE.out).mono ?_
    rintro e w1 ⟨rfl, hb1⟩
    clear C
    go_wp2
    go_ret2
    exact ⟨by rw [HR.out.1, HR.out.2]; rfl, hb1⟩
set_option maxRecDepth 20000 in
theorem refMerge_any (a b : ByteArray) (w : World) (hE : EnvB w) (ha : a.size ≤ 80000) (hb : b.size ≤ 80000) :
    Calls Tryz.prog 33 #[.string a, .string b] w fun e w' => e = .returned (.tuple #[sv (Bk.mrgS a.data.toList b.data.toList), .int .i64 (Bk.mrgE a.data.toList b.data.toList)]) ∧ Below w.heap.size w w' := by
  have C := Lib.hid (fun W hW => refRelation_any a b W hW ha hb)
  unfold RelSays at C
  have HE := Lib.hid hE
  have hcs := Bk.relE_cases a.data.toList b.data.toList
  have hE1 : ∀ q, Bk.relE a.data.toList b.data.toList = q → q ≠ 0 → sv (Bk.mrgS a.data.toList b.data.toList) = sv [] ∧ Bk.mrgE a.data.toList b.data.toList = q := fun q h hq => by
    have : Bk.mrgE a.data.toList b.data.toList = q := by unfold Bk.mrgE; rw [h, if_pos hq]
    exact ⟨by unfold Bk.mrgS; rw [this, if_pos hq], this⟩
  have hE2 : Bk.relE a.data.toList b.data.toList = 0 → Bk.relK a.data.toList b.data.toList = 3 → sv (Bk.mrgS a.data.toList b.data.toList) = sv [] ∧ Bk.mrgE a.data.toList b.data.toList = 8 := fun h hk => by
    have : Bk.mrgE a.data.toList b.data.toList = 8 := by unfold Bk.mrgE; rw [h, if_neg (by simp), if_pos hk]
    exact ⟨by unfold Bk.mrgS; rw [this, if_pos (by decide)], this⟩
  have hE3 : Bk.relE a.data.toList b.data.toList = 0 → Bk.relK a.data.toList b.data.toList ≠ 3 → sv (Bk.mrgS a.data.toList b.data.toList) = (if Bk.relK a.data.toList b.data.toList = 1 then .string b else .string a) ∧ Bk.mrgE a.data.toList b.data.toList = 0 := fun h hk => by
    have : Bk.mrgE a.data.toList b.data.toList = 0 := by unfold Bk.mrgE; rw [h, if_neg (by simp), if_neg hk]
    refine ⟨?_, this⟩
    unfold Bk.mrgS
    rw [this, if_neg (by simp)]
    by_cases h1 : Bk.relK a.data.toList b.data.toList = 1
    · rw [if_pos h1, if_pos h1, str_list]
    · rw [if_neg h1, if_neg h1, str_list]
  clear hE
  generalize sv (Bk.mrgS a.data.toList b.data.toList) = S at *
  generalize Bk.mrgE a.data.toList b.data.toList = E at *
  generalize Bk.relE a.data.toList b.data.toList = q at *
  generalize Bk.relN a.data.toList b.data.toList = n at *
  generalize Bk.relK a.data.toList b.data.toList = k at *
  rcases hcs with rfl | rfl
  case inr =>
    have HR := Lib.hid (hE1 15 rfl (by decide))
    clear hE1 hE2 hE3
    go_enter Tryz.func33, Tryz.ntmps33
    go_wp2_with fail
    refine (C.out _ HE.out).mono ?_
    rintro e w1 ⟨rfl, hb1⟩
    clear C
    go_wp2
    go_ret2
    exact ⟨by rw [HR.out.1, HR.out.2]; rfl, hb1⟩
  by_cases h3 : k = 3
  · subst h3
    have HR := Lib.hid (hE2 rfl rfl)
    clear hE1 hE2 hE3
    go_enter Tryz.func33, Tryz.ntmps33
    go_wp2_with fail
    refine (C.out _ HE.out).mono ?_
    rintro e w1 ⟨rfl, hb1⟩
    clear C
    go_wp2
    go_ret2
    exact ⟨by rw [HR.out.1, HR.out.2]; rfl, hb1⟩
  have hr := hE3 rfl h3
  have q3 : (k == 3) = false := beq_eq_false_iff_ne.2 h3
  by_cases h1 : k = 1
  · subst h1
    rw [if_pos rfl] at hr
    have HR := Lib.hid hr
    clear hE1 hE2 hE3 h3 hr
    go_enter Tryz.func33, Tryz.ntmps33
    go_wp2_with fail
    refine (C.out _ HE.out).mono ?_
    rintro e w1 ⟨rfl, hb1⟩
    clear C
    go_wp2
    go_ret2
    exact ⟨by rw [HR.out.1, HR.out.2]; rfl, hb1⟩
  · rw [if_neg h1] at hr
    have HR := Lib.hid hr
    have q1 : (k == 1) = false := beq_eq_false_iff_ne.2 h1
    clear hE1 hE2 hE3 h3 h1 hr
    go_enter Tryz.func33, Tryz.ntmps33
    go_wp2_with fail
    refine (C.out _ HE.out).mono ?_
    rintro e w1 ⟨rfl, hb1⟩
    clear C
    go_wp2
    go_ret2
    exact ⟨by rw [HR.out.1, HR.out.2]; rfl, hb1⟩
end Go.Proofs.YtcljpklgpedolaaGreatDoor
