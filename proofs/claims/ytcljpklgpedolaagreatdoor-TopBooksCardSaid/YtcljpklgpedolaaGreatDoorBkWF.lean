/- The postings of a book: of the program. The postings of a book: of the reference; the same postings; the law on postings. The law on the postings of a book. -/
import Derived.Test.YtcljpklgpedolaaGreatDoorBkQC
import Derived.Test.YtcljpklgpedolaaGreatDoorBkQJ
import Derived.Test.YtcljpklgpedolaaGreatDoorBkWE
import Derived.Test.YtcljpklgpedolaaGreatDoorBkQG
namespace Go.Proofs.YtcljpklgpedolaaGreatDoor
open Go.RowKit Go.Sort

def Bk.postB : List UInt8 := [112, 111, 115, 116, 32]
def Bk.isP (t : List UInt8) : Bool := Lib.hasPrefix t [112, 111, 115, 116, 32]
/-- The postings of some texts. -/
def Bk.got (ts : List (List UInt8)) : List Bk.Po := ts.filterMap fun t => if Bk.isP t = true then Bk.prs t else none
def Bk.okP (ts : List (List UInt8)) : Bool := ts.all fun t => !Bk.isP t || (Bk.prs t).isSome
def Bk.pgE (k : List UInt8) : Int := if Bk.rest k ≠ [] then 15 else if Bk.okP (Bk.tx k) = false then 3 else if 64 < (Bk.got (Bk.tx k)).length then 4 else 0
def Bk.pgL (k : List UInt8) : List Bk.Po := if Bk.pgE k = 0 then Bk.got (Bk.tx k) else []
theorem Bk.got_len (ts : List (List UInt8)) : (Bk.got ts).length ≤ ts.length := List.length_filterMap_le _ _
theorem Bk.pg_of {k : List UInt8} {q : Int} (h : Bk.pgE k = q) (hq : q ≠ 0) : Bk.pgL k = [] := by unfold Bk.pgL; rw [h, if_neg hq]
theorem Bk.got_next {ts : List (List UInt8)} {k : Nat} (h : k < ts.length) :
    (Bk.isP ts[k] = false → Bk.got (ts.take (k + 1)) = Bk.got (ts.take k) ∧ (Bk.okP (ts.take k) = true → Bk.okP (ts.take (k + 1)) = true)) ∧
    (Bk.isP ts[k] = true → Bk.prs ts[k] = none → Bk.okP ts = false) ∧
    (∀ x, Bk.isP ts[k] = true → Bk.prs ts[k] = some x → Bk.got (ts.take (k + 1)) = Bk.got (ts.take k) ++ [x] ∧ (Bk.okP (ts.take k) = true → Bk.okP (ts.take (k + 1)) = true)) := by
  have e := List.take_succ_eq_append_getElem h
  refine ⟨fun h1 => ⟨?_, fun h2 => ?_⟩, fun h1 h2 => ?_, fun x h1 h2 => ⟨?_, fun h3 => ?_⟩⟩
  · rw [e]; unfold Bk.got; rw [List.filterMap_append]; simp [h1]
  · rw [e]; unfold Bk.okP at h2 ⊢; rw [List.all_append, h2]; simp [h1]
  · rw [← Bool.not_eq_true]
    intro h3
    unfold Bk.okP at h3
    have := List.all_eq_true.1 h3 _ (List.getElem_mem h)
    rw [h1, h2] at this; simp at this
  · rw [e]; unfold Bk.got; rw [List.filterMap_append]; simp [h1, h2]
  · rw [e]; unfold Bk.okP at h3 ⊢; rw [List.all_append, h3]; simp [h2]
theorem Bk.lns_txt : ∀ (ts : List (List UInt8)) (n : Nat) (b : Int), (Bk.lns n b ts).map (fun x => x.2.1) = ts
  | [], _, _ => rfl
  | t :: r, n, b => by rw [Bk.lns, List.map_cons, Bk.lns_txt r]
theorem Bk.ln_txt (k : List UInt8) {i : Nat} (h : i < (Bk.ln k).length) : ((Bk.ln k)[i]).2.1 = (Bk.tx k)[i]'(by rw [← Bk.ln_len]; exact h) := by
  have e := Bk.lns_txt (Bk.tx k) 1 0
  have h2 : ((Bk.lns 1 0 (Bk.tx k)).map (fun x => x.2.1))[i]? = (Bk.tx k)[i]? := by rw [e]
  have h3 : i < (Bk.lns 1 0 (Bk.tx k)).length := h
  have h4 : i < (Bk.tx k).length := by rw [← Bk.ln_len]; exact h
  rw [List.getElem?_map, List.getElem?_eq_getElem h3, List.getElem?_eq_getElem h4] at h2
  exact Option.some.inj h2
theorem prs_none {t : List UInt8} {w : World} {e : Ending} {w' : World} (h : Bk.prs t = none) (hp : PrsSays t w e w') : e = .returned (.tuple #[poV ([], [], 0), .int .i64 3]) ∧ Below w.heap.size w w' := by
  unfold PrsSays at hp; rw [h] at hp; exact hp
theorem prs_some {t : List UInt8} {w : World} {e : Ending} {w' : World} {x : Bk.Po} (h : Bk.prs t = some x) (hp : PrsSays t w e w') : e = .returned (.tuple #[poV x, .int .i64 0]) ∧ Below w.heap.size w w' := by
  unfold PrsSays at hp; rw [h] at hp; exact hp
theorem ul_posts : Tryz.prog.underlying 48 = some (.slice PostT) := Tryz.underlying48
/-- What is told of the postings of a book. -/
def PgSays (k : List UInt8) (w : World) (e : Ending) (w' : World) : Prop := ∃ v, e = .returned (.tuple #[v, .int .i64 (Bk.pgE k)]) ∧ OwnP w.heap.size w' v (Bk.pgL k) ∧ Below w.heap.size w w'
set_option maxRecDepth 20000 in
set_option maxHeartbeats 2000000 in
theorem postings_any (k : ByteArray) (w : World) (hE : EnvB w) (hs : k.size ≤ 80000) :
    Calls Tryz.prog 50 #[.string k] w (PgSays k.data.toList w) := by
  unfold PgSays
  have HE := Lib.hid hE
  by_cases hr : Bk.rest k.data.toList = []
  case neg =>
    have hA : Bk.pgE k.data.toList = 15 := by unfold Bk.pgE; rw [if_pos hr]
    rw [Bk.pg_of hA (by decide), hA]
    have C := Lib.hid (linesOf_bad k w hE hs hr)
    clear hE hr hA
    go_enter Tryz.func50, Tryz.ntmps50
    go_wp2_with fail
    refine C.out.mono ?_
    rintro e w1 ⟨rfl, hb⟩
    go_wp2
    go_ret2
    exact ⟨_, rfl, OwnG.nil _ _, hb⟩
  have C := Lib.hid (linesOf_ok k w hE hs hr)
  obtain ⟨i0, hi, hz0, hz1, hz2⟩ := info_parts infoPost
  have hll := Bk.ln_len k.data.toList
  have hl2 := Bk.tx_len k.data.toList
  have hG : ∃ G : Nat → List Bk.Po, G = fun j => Bk.got ((Bk.tx k.data.toList).take j) := ⟨_, rfl⟩
  obtain ⟨G, hG⟩ := hG
  have hO : ∃ O : Nat → Prop, O = fun j => Bk.okP ((Bk.tx k.data.toList).take j) = true := ⟨_, rfl⟩
  obtain ⟨O, hO⟩ := hO
  have hGl : ∀ j, (G j).length ≤ 200 := fun j => by
    rw [hG]
    refine Nat.le_trans (Bk.got_len _) ?_
    rw [List.length_take]; omega
  have HGL := Lib.hid hGl
  have HN : Hid (∀ j (hj : j < (Bk.ln k.data.toList).length), (((Bk.ln k.data.toList)[j]).2.1).length ≤ 80 ∧
      (Bk.isP ((Bk.ln k.data.toList)[j]).2.1 = false → G (j + 1) = G j ∧ (O j → O (j + 1))) ∧
      (Bk.isP ((Bk.ln k.data.toList)[j]).2.1 = true → Bk.prs ((Bk.ln k.data.toList)[j]).2.1 = none → Bk.pgE k.data.toList = 3 ∧ Bk.pgL k.data.toList = []) ∧
      (∀ x, Bk.isP ((Bk.ln k.data.toList)[j]).2.1 = true → Bk.prs ((Bk.ln k.data.toList)[j]).2.1 = some x → G (j + 1) = G j ++ [x] ∧ (O j → O (j + 1)))) := Lib.hid (fun j hj => by
    have hj2 : j < (Bk.tx k.data.toList).length := by omega
    rw [Bk.ln_txt k.data.toList hj]
    obtain ⟨a1, a2, a3⟩ := Bk.got_next hj2
    refine ⟨Bk.right_len (Bk.tx_right (List.getElem_mem hj2)), by rw [hG, hO]; exact a1, fun h1 h2 => ?_, by rw [hG, hO]; exact a3⟩
    have h3 := a2 h1 h2
    have hA : Bk.pgE k.data.toList = 3 := by unfold Bk.pgE; rw [if_neg (by simp [hr]), if_pos h3]
    exact ⟨hA, Bk.pg_of hA (by decide)⟩)
  have HZ : Hid (O (Bk.ln k.data.toList).length → (64 < (G (Bk.ln k.data.toList).length).length → Bk.pgE k.data.toList = 4 ∧ Bk.pgL k.data.toList = []) ∧ (¬ 64 < (G (Bk.ln k.data.toList).length).length → Bk.pgE k.data.toList = 0 ∧ Bk.pgL k.data.toList = G (Bk.ln k.data.toList).length)) := Lib.hid (fun h => by
    have e1 : G (Bk.ln k.data.toList).length = Bk.got (Bk.tx k.data.toList) := by rw [hG]; show Bk.got (List.take _ _) = _; rw [hll, List.take_length]
    have h : Bk.okP (Bk.tx k.data.toList) = true := by
      rw [hO] at h
      have h : Bk.okP (List.take (Bk.ln k.data.toList).length (Bk.tx k.data.toList)) = true := h
      rw [hll, List.take_length] at h; exact h
    rw [e1]
    refine ⟨fun h1 => ?_, fun h1 => ?_⟩
    · have hA : Bk.pgE k.data.toList = 4 := by unfold Bk.pgE; rw [if_neg (by simp [hr]), if_neg (by rw [h]; simp), if_pos h1]
      exact ⟨hA, Bk.pg_of hA (by decide)⟩
    · have hA : Bk.pgE k.data.toList = 0 := by unfold Bk.pgE; rw [if_neg (by simp [hr]), if_neg (by rw [h]; simp), if_neg h1]
      exact ⟨hA, by unfold Bk.pgL; rw [if_pos hA]⟩)
  have hG0 : G 0 = [] := by rw [hG]; rfl
  have hO0 : O 0 := by rw [hO]; rfl
  rw [← hll] at hl2
  clear hG hO hE hr hll hGl
  generalize Bk.pgE k.data.toList = PE at *
  generalize Bk.pgL k.data.toList = PL at *
  generalize Bk.ln k.data.toList = L at *
  have HPP := Lib.hid (fun (t : List UInt8) (ht : t.length ≤ 80) W hW => parsePosting_any ⟨t.toArray⟩ W hW (by show t.toArray.size ≤ _; rw [List.size_toArray]; omega))
  go_enter Tryz.func50, Tryz.ntmps50
  go_wp2_with fail
  refine C.out.mono ?_
  rintro e w1 ⟨v, rfl, ho, hb⟩
  obtain ⟨va, vc, e, _, hx⟩ := ho.rows lnC_len
  subst e
  have HA := Lib.hid hx
  have HB1 := Lib.hid hb
  clear ho hx hb C
  go_wp2
  go_loopw [6, 21] (fun ls t wr => ∃ (j : Nat) (a : Option Addr) (c : Nat), j ≤ L.length ∧ ls = .slice a (G j).length c ∧ t = .int .i64 (j : Int) ∧ Hid (O j ∧ OwnP w1.heap.size wr (.slice a (G j).length c) (G j) ∧ Below w1.heap.size w1 wr)) (fun _ t _ => L.length - (intOf t).toNat)
  case atStart => exact ⟨0, none, 0, Nat.zero_le _, by rw [hG0]; rfl, rfl, Lib.hid ⟨hO0, by rw [hG0]; exact OwnG.nil _ _, Below.refl _ _⟩⟩
  case round =>
    obtain ⟨j, a, c, hj, rfl, rfl, hg⟩ := hrel
    by_cases hlt : j < L.length
    · obtain ⟨b, off, rfl, hbl, hr⟩ := HA.out j hlt
      obtain ⟨c0, c1, c2⟩ := ln_at (hr.below hg.out.2.2 hbl)
      obtain ⟨t80, f1, f2, f3⟩ := HN.out j hlt
      have hgl := HGL.out j
      clear hr
      generalize L[j] = x at *
      obtain ⟨xn, xt, xs⟩ := x
      dsimp only at t80 f1 f2 f3
      have hB := BlockAt.new wr (lnA (xn, xt, xs)) LineT
      have HHP := Lib.hid (fun W => Tryz.strings_HasPrefix ⟨xt.toArray⟩ ⟨#[112, 111, 115, 116, 32]⟩ W)
      have hwr : Lib.hasPrefix (⟨xt.toArray⟩ : ByteArray).data.toList (⟨#[112, 111, 115, 116, 32]⟩ : ByteArray).data.toList = Bk.isP xt := rfl
      rw [hwr] at HHP
      clear hwr
      have PP := Lib.hid (fun W hW => HPP.out xt t80 W hW)
      have hdt : (⟨xt.toArray⟩ : ByteArray).data.toList = xt := rfl
      obtain ⟨d0, d1, d2⟩ : _ ∧ _ ∧ _ := ⟨hB.cell 0, hB.cell 1, hB.cell 2⟩
      have HW1 : Hid (Below w1.heap.size w1 (wr.alloc (.cells (lnA (xn, xt, xs)) LineT)) ∧ OwnP w1.heap.size (wr.alloc (.cells (lnA (xn, xt, xs)) LineT)) (.slice a (G j).length c) (G j)) := Lib.hid ⟨below_alloc hg.out.2.2 _, hg.out.2.1.alloc _⟩
      cases hP : Bk.isP xt with
      | false =>
        rw [hP] at HHP
        have HF := Lib.hid (f1 hP)
        clear f1 f2 f3 PP hP
        go_wp2_with fail
        refine (HHP.out _).mono ?_
        rintro e w2 ⟨rfl, rfl⟩
        clear HHP
        go_wp2
        go_roundw
        case rel => exact ⟨j + 1, a, c, by omega, by rw [HF.out.1], by go_num, Lib.hid ⟨HF.out.2 hg.out.1, by rw [HF.out.1]; exact HW1.out.2, HW1.out.1⟩⟩
        case measure => simp [intOf]; omega
      | true =>
        rw [hP] at HHP
        cases hp : Bk.prs xt with
        | none =>
          have HF := Lib.hid (f2 hP hp)
          have PQ := Lib.hid (fun W hW => (PP.out W hW).mono (fun e w' h => prs_none hp h))
          clear f1 f2 f3 PP hP hp
          go_wp2_with fail
          refine (HHP.out _).mono ?_
          rintro e w2 ⟨rfl, rfl⟩
          clear HHP
          go_wp2_with fail
          refine (PQ.out _ (HE.out.all (HB1.out.trans (HW1.out.1.mono HB1.out.size)))).mono ?_
          rintro e w2 ⟨rfl, hb2⟩
          have hw2 := HB1.out.trans ((below_step HW1.out.1 hb2).mono HB1.out.size)
          have hw3 := below_alloc hw2 (.cells #[.string ⟨#[]⟩, .string ⟨#[]⟩, .int .i64 0] PostT)
          clear PQ hb2 hw2
          go_wp2
          go_ret2
          exact ⟨_, by rw [HF.out.1]; rfl, by rw [HF.out.2]; exact OwnG.nil _ _, hw3⟩
        | some y =>
          have HF := Lib.hid (f3 y hP hp)
          have PQ := Lib.hid (fun W hW => (PP.out W hW).mono (fun e w' h => prs_some hp h))
          clear f1 f2 f3 PP hP hp
          obtain ⟨yd, yc, yp⟩ := y
          go_wp2_with fail
          refine (HHP.out _).mono ?_
          rintro e w2 ⟨rfl, rfl⟩
          clear HHP
          go_wp2_with fail
          refine (PQ.out _ (HE.out.all (HB1.out.trans (HW1.out.1.mono HB1.out.size)))).mono ?_
          rintro e w2 ⟨rfl, hb2⟩
          have hown0 : OwnP w1.heap.size w2 (.slice a (G j).length c) (G j) := HW1.out.2.all hb2
          have hown := hown0.alloc (.cells (poA (yd, yc, yp)) PostT)
          have hw2 : Below w1.heap.size w1 w2 := below_step HW1.out.1 hb2
          have hw3 := below_alloc hw2 (.cells (poA (yd, yc, yp)) PostT)
          have hB2 := BlockAt.new w2 (poA (yd, yc, yp)) PostT
          obtain ⟨k0, k1, k2⟩ : _ ∧ _ ∧ _ := ⟨hB2.cell 0, hB2.cell 1, hB2.cell 2⟩
          have hca := cells_new (cs := poC (yd, yc, yp)) (w2.alloc (.cells (poA (yd, yc, yp)) PostT)) PostT
          simp only [World.size_alloc] at hca
          have hsz := hw2.size
          clear PQ hb2 d0 d1 d2 c0 c1 c2
          go_wp2_with (at_builtin; refine wpList_append_own _ rfl _ _ 48 rfl w1.heap.size PostT i0 (.agg #[.string ⟨#[]⟩, .string ⟨#[]⟩, .int .i64 0]) 3 40 ul_posts hi hz0 hz1 hz2 rfl (by decide) _ _ _ rfl (hown.alloc _) ⟨w2.heap.size + 1, 0, none⟩ 1 1 (poC (yd, yc, yp)) rfl rfl ?c1 (poC_one _) ?c3 ?c4 ?c5 ?_)
          case c1 => first | exact hca | exact fun j u h => h
          case c3 => unfold maxLen; omega
          case c4 => omega
          case c5 => first | omega | (simp; omega)
          intro v' w9 hr9 hg9 _
          have hw9 := (below_alloc hw3 (.cells (poA (yd, yc, yp)) PostT)).grown hg9 (by simp; omega) (fun j e => (World.ownsRow.lt hown j e).1)
          have hp9 : OwnP w1.heap.size w9 v' (G j ++ [(yd, yc, yp)]) := OwnG.pushed hr9
          rw [← HF.out.1] at hp9
          obtain ⟨a9, c9, e9⟩ := (hp9.rows poC_len).form
          subst e9
          have HG9 := Lib.hid (And.intro hp9 hw9)
          clear hown hown0 hB2 hw2 hw3 hca hr9 hg9 hw9 hp9 k0 k1 k2
          go_wp2
          go_roundw
          case rel => exact ⟨j + 1, a9, c9, by omega, rfl, by go_num, Lib.hid ⟨HF.out.2 hg.out.1, HG9.out⟩⟩
          case measure => simp [intOf]; omega
    · obtain rfl : j = L.length := by omega
      have HZ1 := Lib.hid (HZ.out hg.out.1)
      by_cases h64 : 64 < (G L.length).length
      · have HR := Lib.hid (HZ1.out.1 h64)
        go_wp2
        go_ret2
        exact ⟨_, by rw [HR.out.1]; rfl, by rw [HR.out.2]; exact OwnG.nil _ _, HB1.out.trans (hg.out.2.2.mono HB1.out.size)⟩
      · have HR := Lib.hid (HZ1.out.2 h64)
        go_wp2
        go_ret2
        exact ⟨_, by rw [HR.out.1]; rfl, by rw [HR.out.2]; exact hg.out.2.1.mono HB1.out.size, HB1.out.trans (hg.out.2.2.mono HB1.out.size)⟩
end Go.Proofs.YtcljpklgpedolaaGreatDoor
namespace Go.Proofs.YtcljpklgpedolaaGreatDoor
open Go.RowKit Go.Sort

theorem Bk.isP_short {t : List UInt8} (h : t.length < 5) : Bk.isP t = false := by
  rw [← Bool.not_eq_true]
  intro e
  have := (List.isPrefixOf_iff_prefix.1 e).length_le
  simp at this; omega
theorem Bk.isP_take {t : List UInt8} (h : ¬ t.length < 5) : (((⟨t.toArray⟩ : ByteArray).extract 0 5).toList == [112, 111, 115, 116, 32]) = Bk.isP t := by
  have e : ((⟨t.toArray⟩ : ByteArray).extract 0 5).toList = t.take 5 := by
    rw [extract_is, toList_data]
    show ((t.take 5).drop 0) = _
    rw [List.drop_zero]
  rw [e]
  have h2 : ([112, 111, 115, 116, 32] : List UInt8) <+: t ↔ [112, 111, 115, 116, 32] = t.take 5 := List.prefix_iff_eq_take
  cases hP : Bk.isP t with
  | true =>
    have h3 := h2.1 (List.isPrefixOf_iff_prefix.1 hP)
    rw [← h3]; rfl
  | false =>
    rw [beq_eq_false_iff_ne]
    intro h3
    have h4 : Bk.isP t = true := List.isPrefixOf_iff_prefix.2 (h2.2 h3.symm)
    rw [hP] at h4; cases h4
set_option maxRecDepth 20000 in
set_option maxHeartbeats 1000000 in
theorem samePostings_any (u v : Value) (xs : List Bk.Po) (w : World) (hu : Posts w u xs) (hv : Posts w v xs) (hl : xs.length ≤ 1000) :
    Calls Tryz.prog 52 #[u, v] w fun e w' => e = .returned (.bool true) ∧ Below w.heap.size w w' := by
  obtain ⟨ua, uc, rfl, _, huk⟩ := hu
  obtain ⟨va, vc, rfl, _, hvk⟩ := hv
  have HU := Lib.hid huk
  have HV := Lib.hid hvk
  have hw0 := Lib.hid (Below.refl w.heap.size w)
  clear huk hvk
  go_enter Tryz.func52, Tryz.ntmps52
  go_wp2
  go_loopw [5] (fun t wr => ∃ k : Nat, k ≤ xs.length ∧ t = .int .i64 k ∧ Hid (Below w.heap.size w wr)) (fun t _ => xs.length - (intOf t).toNat)
  case atStart => exact ⟨0, Nat.zero_le _, rfl, hw0⟩
  case round =>
    obtain ⟨k, hk, rfl, hg⟩ := hrel
    by_cases hlt : k < xs.length
    · obtain ⟨b, off, rfl, hb, hr⟩ := HU.out k hlt
      obtain ⟨b2, off2, rfl, hb2, hr2⟩ := HV.out k hlt
      obtain ⟨c0, c1, c2⟩ := po_at (hr.below hg.out hb)
      obtain ⟨d0, d1, d2⟩ := po_at (hr2.below hg.out hb2)
      clear hr hr2
      generalize xs[k] = x at *
      obtain ⟨n, t, s⟩ := x
      go_wp2
      go_quiet (fail)
      go_wp2
      go_roundw
      case rel => exact ⟨k + 1, by omega, by go_num, Lib.hid (below_drewN hg.out _)⟩
      case measure => simp [intOf]; omega
    · go_wp2
      go_ret
      exact ⟨rfl, hg.out⟩
set_option maxRecDepth 20000 in
set_option maxHeartbeats 2000000 in
theorem refPostings_any (k : ByteArray) (w : World) (hE : EnvB w) (hs : k.size ≤ 80000) :
    Calls Tryz.prog 51 #[.string k] w (PgSays k.data.toList w) := by
  unfold PgSays
  have HE := Lib.hid hE
  by_cases hr : Bk.rest k.data.toList = []
  case neg =>
    have hA : Bk.pgE k.data.toList = 15 := by unfold Bk.pgE; rw [if_pos hr]
    rw [Bk.pg_of hA (by decide), hA]
    have C := Lib.hid (refRead_any k w hE hs)
    unfold BookSays at C
    generalize Bk.ln k.data.toList = L at *
    generalize Bk.rest k.data.toList = R at *
    have q1 : (R == []) = false := by simpa using hr
    have q2 : (R != []) = true := by simpa using hr
    have q3 : R.isEmpty = false := by simpa using hr
    clear hE hr hA
    go_enter Tryz.func51, Tryz.ntmps51
    go_wp2_with fail
    refine C.out.mono ?_
    rintro e w1 ⟨v, rfl, ho, hb⟩
    obtain ⟨va, vc, rfl⟩ := (ho.rows lnC_len).form
    clear ho
    go_wp2
    go_ret2
    exact ⟨_, rfl, OwnG.nil _ _, hb⟩
  have C := Lib.hid (refRead_any k w hE hs)
  unfold BookSays at C
  rw [hr] at C
  obtain ⟨i0, hi, hz0, hz1, hz2⟩ := info_parts infoPost
  have hll := Bk.ln_len k.data.toList
  have hl2 := Bk.tx_len k.data.toList
  have hG : ∃ G : Nat → List Bk.Po, G = fun j => Bk.got ((Bk.tx k.data.toList).take j) := ⟨_, rfl⟩
  obtain ⟨G, hG⟩ := hG
  have hO : ∃ O : Nat → Prop, O = fun j => Bk.okP ((Bk.tx k.data.toList).take j) = true := ⟨_, rfl⟩
  obtain ⟨O, hO⟩ := hO
  have hGl : ∀ j, (G j).length ≤ 200 := fun j => by
    rw [hG]
    refine Nat.le_trans (Bk.got_len _) ?_
    rw [List.length_take]; omega
  have HGL := Lib.hid hGl
  have HN : Hid (∀ j (hj : j < (Bk.ln k.data.toList).length), (((Bk.ln k.data.toList)[j]).2.1).length ≤ 80 ∧
      (Bk.isP ((Bk.ln k.data.toList)[j]).2.1 = false → G (j + 1) = G j ∧ (O j → O (j + 1))) ∧
      (Bk.isP ((Bk.ln k.data.toList)[j]).2.1 = true → Bk.prs ((Bk.ln k.data.toList)[j]).2.1 = none → Bk.pgE k.data.toList = 3 ∧ Bk.pgL k.data.toList = []) ∧
      (∀ x, Bk.isP ((Bk.ln k.data.toList)[j]).2.1 = true → Bk.prs ((Bk.ln k.data.toList)[j]).2.1 = some x → G (j + 1) = G j ++ [x] ∧ (O j → O (j + 1)))) := Lib.hid (fun j hj => by
    have hj2 : j < (Bk.tx k.data.toList).length := by omega
    rw [Bk.ln_txt k.data.toList hj]
    obtain ⟨a1, a2, a3⟩ := Bk.got_next hj2
    refine ⟨Bk.right_len (Bk.tx_right (List.getElem_mem hj2)), by rw [hG, hO]; exact a1, fun h1 h2 => ?_, by rw [hG, hO]; exact a3⟩
    have h3 := a2 h1 h2
    have hA : Bk.pgE k.data.toList = 3 := by unfold Bk.pgE; rw [if_neg (by simp [hr]), if_pos h3]
    exact ⟨hA, Bk.pg_of hA (by decide)⟩)
  have HZ : Hid (O (Bk.ln k.data.toList).length → (64 < (G (Bk.ln k.data.toList).length).length → Bk.pgE k.data.toList = 4 ∧ Bk.pgL k.data.toList = []) ∧ (¬ 64 < (G (Bk.ln k.data.toList).length).length → Bk.pgE k.data.toList = 0 ∧ Bk.pgL k.data.toList = G (Bk.ln k.data.toList).length)) := Lib.hid (fun h => by
    have e1 : G (Bk.ln k.data.toList).length = Bk.got (Bk.tx k.data.toList) := by rw [hG]; show Bk.got (List.take _ _) = _; rw [hll, List.take_length]
    have h : Bk.okP (Bk.tx k.data.toList) = true := by
      rw [hO] at h
      have h : Bk.okP (List.take (Bk.ln k.data.toList).length (Bk.tx k.data.toList)) = true := h
      rw [hll, List.take_length] at h; exact h
    rw [e1]
    refine ⟨fun h1 => ?_, fun h1 => ?_⟩
    · have hA : Bk.pgE k.data.toList = 4 := by unfold Bk.pgE; rw [if_neg (by simp [hr]), if_neg (by rw [h]; simp), if_pos h1]
      exact ⟨hA, Bk.pg_of hA (by decide)⟩
    · have hA : Bk.pgE k.data.toList = 0 := by unfold Bk.pgE; rw [if_neg (by simp [hr]), if_neg (by rw [h]; simp), if_neg h1]
      exact ⟨hA, by unfold Bk.pgL; rw [if_pos hA]⟩)
  have hG0 : G 0 = [] := by rw [hG]; rfl
  have hO0 : O 0 := by rw [hO]; rfl
  rw [← hll] at hl2
  clear hG hO hE hr hll hGl
  generalize Bk.pgE k.data.toList = PE at *
  generalize Bk.pgL k.data.toList = PL at *
  generalize Bk.ln k.data.toList = L at *
  have HPP := Lib.hid (fun (t : List UInt8) (ht : t.length ≤ 80) W => refParsePosting_any ⟨t.toArray⟩ W (by show t.toArray.size ≤ _; rw [List.size_toArray]; omega))
  go_enter Tryz.func51, Tryz.ntmps51
  go_wp2_with fail
  refine C.out.mono ?_
  rintro e w1 ⟨v, rfl, ho, hb⟩
  obtain ⟨va, vc, e, _, hx⟩ := ho.rows lnC_len
  subst e
  have HA := Lib.hid hx
  have HB1 := Lib.hid hb
  clear ho hx hb C
  go_wp2
  go_loopw [6, 7] (fun ls t wr => ∃ (j : Nat) (a : Option Addr) (c : Nat), j ≤ L.length ∧ ls = .slice a (G j).length c ∧ t = .int .i64 (j : Int) ∧ Hid (O j ∧ OwnP w1.heap.size wr (.slice a (G j).length c) (G j) ∧ Below w1.heap.size w1 wr)) (fun _ t _ => L.length - (intOf t).toNat)
  case atStart => exact ⟨0, none, 0, Nat.zero_le _, by rw [hG0]; rfl, rfl, Lib.hid ⟨hO0, by rw [hG0]; exact OwnG.nil _ _, Below.refl _ _⟩⟩
  case round =>
    obtain ⟨j, a, c, hj, rfl, rfl, hg⟩ := hrel
    by_cases hlt : j < L.length
    · obtain ⟨b, off, rfl, hbl, hr⟩ := HA.out j hlt
      obtain ⟨c0, c1, c2⟩ := ln_at (hr.below hg.out.2.2 hbl)
      obtain ⟨t80, f1, f2, f3⟩ := HN.out j hlt
      have hgl := HGL.out j
      clear hr
      generalize L[j] = x at *
      obtain ⟨xn, xt, xs⟩ := x
      dsimp only at t80 f1 f2 f3
      have PP := Lib.hid (fun W => HPP.out xt t80 W)
      by_cases h5 : xt.length < 5
      · have HF := Lib.hid (f1 (Bk.isP_short h5))
        clear f1 f2 f3 PP
        go_wp2
        go_roundw
        case rel => exact ⟨j + 1, a, c, by omega, by rw [HF.out.1], by go_num, Lib.hid ⟨HF.out.2 hg.out.1, by rw [HF.out.1]; exact hg.out.2.1, hg.out.2.2⟩⟩
        case measure => simp [intOf]; omega
      have hq := Bk.isP_take h5
      have hz : (⟨xt.toArray⟩ : ByteArray).size = xt.length := by show xt.toArray.size = _; rw [List.size_toArray]
      cases hP : Bk.isP xt with
      | false =>
        rw [hP] at hq
        have HF := Lib.hid (f1 hP)
        clear f1 f2 f3 PP hP
        go_wp2
        go_roundw
        case rel => exact ⟨j + 1, a, c, by omega, by rw [HF.out.1], by go_num, Lib.hid ⟨HF.out.2 hg.out.1, by rw [HF.out.1]; exact hg.out.2.1, hg.out.2.2⟩⟩
        case measure => simp [intOf]; omega
      | true =>
        rw [hP] at hq
        cases hp : Bk.prs xt with
        | none =>
          have HF := Lib.hid (f2 hP hp)
          have PQ := Lib.hid (fun W => (PP.out W).mono (fun e w' h => prs_none hp h))
          clear f1 f2 f3 PP hP hp
          go_wp2_with fail
          refine (PQ.out _).mono ?_
          rintro e w2 ⟨rfl, hb2⟩
          have hw2 := HB1.out.trans ((below_step hg.out.2.2 hb2).mono HB1.out.size)
          have hw3 := below_alloc hw2 (.cells #[.string ⟨#[]⟩, .string ⟨#[]⟩, .int .i64 0] PostT)
          clear PQ hb2 hw2
          go_wp2
          go_ret2
          exact ⟨_, by rw [HF.out.1]; rfl, by rw [HF.out.2]; exact OwnG.nil _ _, hw3⟩
        | some y =>
          have HF := Lib.hid (f3 y hP hp)
          have PQ := Lib.hid (fun W => (PP.out W).mono (fun e w' h => prs_some hp h))
          clear f1 f2 f3 PP hP hp
          obtain ⟨yd, yc, yp⟩ := y
          go_wp2_with fail
          refine (PQ.out _).mono ?_
          rintro e w2 ⟨rfl, hb2⟩
          have hown0 : OwnP w1.heap.size w2 (.slice a (G j).length c) (G j) := hg.out.2.1.all hb2
          have hown := hown0.alloc (.cells (poA (yd, yc, yp)) PostT)
          have hw2 : Below w1.heap.size w1 w2 := below_step hg.out.2.2 hb2
          have hw3 := below_alloc hw2 (.cells (poA (yd, yc, yp)) PostT)
          have hB2 := BlockAt.new w2 (poA (yd, yc, yp)) PostT
          obtain ⟨k0, k1, k2⟩ : _ ∧ _ ∧ _ := ⟨hB2.cell 0, hB2.cell 1, hB2.cell 2⟩
          have hca := cells_new (cs := poC (yd, yc, yp)) (w2.alloc (.cells (poA (yd, yc, yp)) PostT)) PostT
          simp only [World.size_alloc] at hca
          have hsz := hw2.size
          clear PQ hb2 c0 c1 c2
          go_wp2_with (at_builtin; refine wpList_append_own _ rfl _ _ 48 rfl w1.heap.size PostT i0 (.agg #[.string ⟨#[]⟩, .string ⟨#[]⟩, .int .i64 0]) 3 40 ul_posts hi hz0 hz1 hz2 rfl (by decide) _ _ _ rfl (hown.alloc _) ⟨w2.heap.size + 1, 0, none⟩ 1 1 (poC (yd, yc, yp)) rfl rfl ?c1 (poC_one _) ?c3 ?c4 ?c5 ?_)
          case c1 => first | exact hca | exact fun j u h => h
          case c3 => unfold maxLen; omega
          case c4 => omega
          case c5 => first | omega | (simp; omega)
          intro v' w9 hr9 hg9 _
          have hw9 := (below_alloc hw3 (.cells (poA (yd, yc, yp)) PostT)).grown hg9 (by simp; omega) (fun j e => (World.ownsRow.lt hown j e).1)
          have hp9 : OwnP w1.heap.size w9 v' (G j ++ [(yd, yc, yp)]) := OwnG.pushed hr9
          rw [← HF.out.1] at hp9
          obtain ⟨a9, c9, e9⟩ := (hp9.rows poC_len).form
          subst e9
          have HG9 := Lib.hid (And.intro hp9 hw9)
          clear hown hown0 hB2 hw2 hw3 hca hr9 hg9 hw9 hp9 k0 k1 k2
          go_wp2
          go_roundw
          case rel => exact ⟨j + 1, a9, c9, by omega, rfl, by go_num, Lib.hid ⟨HF.out.2 hg.out.1, HG9.out⟩⟩
          case measure => simp [intOf]; omega
    · obtain rfl : j = L.length := by omega
      have HZ1 := Lib.hid (HZ.out hg.out.1)
      by_cases h64 : 64 < (G L.length).length
      · have HR := Lib.hid (HZ1.out.1 h64)
        go_wp2
        go_ret2
        exact ⟨_, by rw [HR.out.1]; rfl, by rw [HR.out.2]; exact OwnG.nil _ _, HB1.out.trans (hg.out.2.2.mono HB1.out.size)⟩
      · have HR := Lib.hid (HZ1.out.2 h64)
        go_wp2
        go_ret2
        exact ⟨_, by rw [HR.out.1]; rfl, by rw [HR.out.2]; exact hg.out.2.1.mono HB1.out.size, HB1.out.trans (hg.out.2.2.mono HB1.out.size)⟩
end Go.Proofs.YtcljpklgpedolaaGreatDoor
namespace Go.Proofs.YtcljpklgpedolaaGreatDoor
open Go.RowKit Go.Sort

theorem Bk.pgL_len (k : List UInt8) : (Bk.pgL k).length ≤ 200 := by
  unfold Bk.pgL
  split
  · exact Nat.le_trans (Bk.got_len _) (Bk.tx_len k)
  · simp
set_option maxRecDepth 20000 in
set_option maxHeartbeats 2000000 in
theorem postings_walk (v : Value) (xs : List (List UInt8)) (a : ByteArray) (w : World) (hE : EnvB w) (hV : RowsOf 1 strL w v xs) (hz : ∀ k (hk : k < xs.length), xs[k].length ≤ 9223372036854775807) (ha : a.size ≤ 9223372036854775807) :
    Calls Tryz.prog 12 #[v, .string a] w fun e w' => e = .returned (.bool true) ∧ Below w.heap.size w w' := by
  have HE := Lib.hid hE
  have SA := Lib.hid (fun W hW => sane_any W hW)
  have hw0 := below_alloc (Below.refl w.heap.size w) (.cells #[.string a] 9)
  have LG := Lib.hid (long_one a w ha)
  have HWR := Lib.hid (fun W (hb : Below w.heap.size w W) => write_any v xs W (hE.all hb) (hV.all hb) hz)
  clear hE hV hz
  by_cases hs : a.size ≤ 30000
  · rw [decide_eq_false (show ¬ 30000 < a.size by omega)] at LG
    have hkl := Bk.kept_len xs 40
    have hts := Bk.txt_short (Bk.kept xs 40) 1 0 Bk.kept_right (by omega)
    have hTz : (⟨(Bk.txt 1 0 (Bk.kept xs 40)).toArray⟩ : ByteArray).size ≤ 80000 := by show (Bk.txt 1 0 (Bk.kept xs 40)).toArray.size ≤ _; rw [List.size_toArray]; omega
    have hTd : (⟨(Bk.txt 1 0 (Bk.kept xs 40)).toArray⟩ : ByteArray).data.toList = Bk.txt 1 0 (Bk.kept xs 40) := rfl
    have P1 := Lib.hid (fun W hW => postings_any ⟨(Bk.txt 1 0 (Bk.kept xs 40)).toArray⟩ W hW hTz)
    have Q1 := Lib.hid (fun W hW => refPostings_any ⟨(Bk.txt 1 0 (Bk.kept xs 40)).toArray⟩ W hW hTz)
    have P2 := Lib.hid (fun W hW => postings_any a W hW (by omega))
    have Q2 := Lib.hid (fun W hW => refPostings_any a W hW (by omega))
    rw [hTd] at P1 Q1
    unfold PgSays at P1 Q1 P2 Q2
    have S1 := Lib.hid (fun u v W hu hv => samePostings_any u v (Bk.pgL (Bk.txt 1 0 (Bk.kept xs 40))) W hu hv (by have := Bk.pgL_len (Bk.txt 1 0 (Bk.kept xs 40)); omega))
    have S2 := Lib.hid (fun u v W hu hv => samePostings_any u v (Bk.pgL a.data.toList) W hu hv (by have := Bk.pgL_len a.data.toList; omega))
    clear hkl hts hTz hTd
    generalize Bk.pgL (Bk.txt 1 0 (Bk.kept xs 40)) = L1 at *
    generalize Bk.pgE (Bk.txt 1 0 (Bk.kept xs 40)) = E1 at *
    generalize Bk.pgL a.data.toList = L2 at *
    generalize Bk.pgE a.data.toList = E2 at *
    generalize Bk.txt 1 0 (Bk.kept xs 40) = T at *
    go_enter Tryz.func12, Tryz.ntmps12
    go_wp2_with fail
    refine LG.out.mono ?_
    rintro e w1 ⟨rfl, hb1⟩
    have hw1 := below_step hw0 hb1
    clear hb1 hw0 LG
    go_wp2_with fail
    refine (HWR.out _ hw1).mono ?_
    rintro e w2 ⟨rfl, hb2⟩
    have hw2 := below_step hw1 hb2
    clear hb2 hw1 HWR
    go_wp2_with fail
    refine (P1.out _ (HE.out.all hw2)).mono ?_
    rintro e w3 ⟨u1, rfl, ho1, hb3⟩
    have hw3 := below_step hw2 hb3
    have hr1 := ho1.rows poC_len
    obtain ⟨a1, c1, rfl⟩ := hr1.form
    have HR1 := Lib.hid hr1
    clear hb3 hw2 ho1 P1 hr1
    go_wp2_with fail
    refine (Q1.out _ (HE.out.all hw3)).mono ?_
    rintro e w4 ⟨v1, rfl, ho2, hb4⟩
    have hw4 := below_step hw3 hb4
    have hr2 := ho2.rows poC_len
    obtain ⟨a2, c2, rfl⟩ := hr2.form
    have HB1 := Lib.hid (And.intro (HR1.out.all hb4) hr2)
    clear hb4 hw3 ho2 Q1 hr2 HR1
    go_wp2_with fail
    refine (P2.out _ (HE.out.all hw4)).mono ?_
    rintro e w5 ⟨u2, rfl, ho3, hb5⟩
    have hw5 := below_step hw4 hb5
    have hr3 := ho3.rows poC_len
    obtain ⟨a3, c3, rfl⟩ := hr3.form
    have HB2 := Lib.hid (And.intro hr3 (And.intro (HB1.out.1.all hb5) (HB1.out.2.all hb5)))
    clear hb5 hw4 ho3 P2 hr3 HB1
    go_wp2_with fail
    refine (Q2.out _ (HE.out.all hw5)).mono ?_
    rintro e w6 ⟨v2, rfl, ho4, hb6⟩
    have hw6 := below_step hw5 hb6
    have hr4 := ho4.rows poC_len
    obtain ⟨a4, c4, rfl⟩ := hr4.form
    have S1b := Lib.hid (S1.out _ _ w6 (HB2.out.2.1.all hb6) (HB2.out.2.2.all hb6))
    have HB3 := Lib.hid (And.intro (HB2.out.1.all hb6) hr4)
    clear hb6 hw5 ho4 Q2 hr4 HB2 S1
    go_wp2_with fail
    refine S1b.out.mono ?_
    rintro e w7 ⟨rfl, hb7⟩
    have hw7 := below_step hw6 hb7
    have S2b := Lib.hid (S2.out _ _ w7 (HB3.out.1.all hb7) (HB3.out.2.all hb7))
    clear hb7 hw6 S1b S2 HB3
    go_wp2_with fail
    refine S2b.out.mono ?_
    rintro e w8 ⟨rfl, hb8⟩
    have hw8 := below_step hw7 hb8
    clear hb8 hw7 S2b
    go_wp2_with fail
    refine (SA.out _ (HE.out.all hw8)).mono ?_
    rintro e w9 ⟨rfl, hb9⟩
    have hw9 := below_step hw8 hb9
    clear hb9 hw8 SA
    go_wp2
    go_ret
    exact ⟨rfl, hw9⟩
  · rw [decide_eq_true (show 30000 < a.size by omega)] at LG
    clear hs
    go_enter Tryz.func12, Tryz.ntmps12
    go_wp2_with fail
    refine LG.out.mono ?_
    rintro e w1 ⟨rfl, hb1⟩
    have hw1 := below_step hw0 hb1
    clear hb1 hw0 LG
    go_wp2_with fail
    refine (SA.out _ (HE.out.all hw1)).mono ?_
    rintro e w2 ⟨rfl, hb2⟩
    have hw2 := below_step hw1 hb2
    clear hb2 hw1
    go_wp2
    go_ret
    exact ⟨rfl, hw2⟩
end Go.Proofs.YtcljpklgpedolaaGreatDoor
