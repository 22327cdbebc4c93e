/- Accounts and trial balance: of both sides; the same texts. The law on balances. -/
import Derived.Test.YtcljpklgpedolaaGreatDoorBkWK
import Derived.Test.YtcljpklgpedolaaGreatDoorBkQJ
import Derived.Test.YtcljpklgpedolaaGreatDoorBkQG
namespace Go.Proofs.YtcljpklgpedolaaGreatDoor
open Go.RowKit Go.Sort

def Bk.acs (l : List Bk.Po) : List (List UInt8) := if Bk.valE l = 0 then Bk.acR (Bk.nmL l) else []
def Bk.tri (l : List Bk.Po) : List Int := if Bk.valE l = 0 then (Bk.acR (Bk.nmL l)).map (Bk.bal l) else []
theorem Bk.acs_no {l : List Bk.Po} (h : ¬ Bk.valE l = 0) : Bk.acs l = [] ∧ Bk.tri l = [] := by unfold Bk.acs Bk.tri; rw [if_neg h, if_neg h]; exact ⟨rfl, rfl⟩
theorem Bk.acs_yes {l : List Bk.Po} (h : Bk.valE l = 0) : Bk.acs l = Bk.acR (Bk.nmL l) ∧ Bk.tri l = (Bk.acR (Bk.nmL l)).map (Bk.bal l) := by unfold Bk.acs Bk.tri; rw [if_pos h, if_pos h]; exact ⟨rfl, rfl⟩
theorem rows_none {α : Type} {c : Nat} {cs : α → List Value} (w : World) : RowsOf c cs w (.slice none 0 0) ([] : List α) := ⟨none, 0, rfl, Nat.le_refl _, fun k hk => by simp at hk⟩
theorem refNames_any (v : Value) (l : List Bk.Po) (w : World) (hv : Posts w v l) (hl : l.length ≤ 100) :
    Calls Tryz.prog 75 #[v] w fun e w' => ∃ u, e = .returned u ∧ RowsOf 1 strL w' u (Bk.acR (Bk.nmL l)) ∧ Below w.heap.size w w' := by
  refine (refAccounts0_any v l w hv hl).mono ?_
  rintro e w1 ⟨u, rfl, ho, hb⟩
  exact ⟨u, rfl, ho.rows strL_len, hb⟩
set_option maxRecDepth 20000 in
theorem accounts_any (v : Value) (l : List Bk.Po) (w : World) (hv : Posts w v l) (hl : l.length ≤ 1000) (hw : ∀ k (hk : k < l.length), Bk.wide l[k]) :
    Calls Tryz.prog 39 #[v] w fun e w' => ∃ u, e = .returned (.tuple #[u, .int .i64 (Bk.valE l)]) ∧ RowsOf 1 strL w' u (Bk.acs l) ∧ Below w.heap.size w w' := by
  have C := Lib.hid (validate_any v l w hv (by omega) hw)
  have HV := Lib.hid hv
  obtain ⟨va, vc, rfl⟩ := hv.form
  by_cases h0 : Bk.valE l = 0
  · obtain ⟨h64, _, _⟩ := Bk.val_fine h0
    have B := Lib.hid (fun W (hb : Below w.heap.size w W) => namesOf_any (.slice va l.length vc) l W (HV.out.all hb) (by omega))
    rw [(Bk.acs_yes h0).1]
    rw [h0] at C ⊢
    clear hv h0 HV
    generalize Bk.acR (Bk.nmL l) = R at *
    go_enter Tryz.func39, Tryz.ntmps39
    go_wp2_with fail
    refine C.out.mono ?_
    rintro e w1 ⟨rfl, hb1⟩
    clear C
    go_wp2_with fail
    refine (B.out _ hb1).mono ?_
    rintro e w2 ⟨u, rfl, hr, hb2⟩
    have HR := Lib.hid (And.intro hr (below_step hb1 hb2))
    clear hb1 hb2 B hr
    go_wp2
    go_ret2
    exact ⟨_, rfl, HR.out.1, HR.out.2⟩
  · rw [(Bk.acs_no h0).1]
    have q1 : (Bk.valE l == 0) = false := by simpa using h0
    have q2 : (Bk.valE l != 0) = true := by simpa using h0
    clear hv h0 HV
    generalize Bk.valE l = R at *
    go_enter Tryz.func39, Tryz.ntmps39
    go_wp2_with fail
    refine C.out.mono ?_
    rintro e w1 ⟨rfl, hb1⟩
    clear C
    go_wp2
    go_ret2
    exact ⟨_, rfl, rows_none _, hb1⟩
set_option maxRecDepth 20000 in
theorem refAccounts_any (v : Value) (l : List Bk.Po) (w : World) (hv : Posts w v l) (hl : l.length ≤ 1000) (hw : ∀ k (hk : k < l.length), Bk.wide l[k]) :
    Calls Tryz.prog 40 #[v] w fun e w' => ∃ u, e = .returned (.tuple #[u, .int .i64 (Bk.valE l)]) ∧ RowsOf 1 strL w' u (Bk.acs l) ∧ Below w.heap.size w w' := by
  have C := Lib.hid (refValidate_any v l w hv (by omega) hw)
  have HV := Lib.hid hv
  obtain ⟨va, vc, rfl⟩ := hv.form
  by_cases h0 : Bk.valE l = 0
  · obtain ⟨h64, _, _⟩ := Bk.val_fine h0
    have B := Lib.hid (fun W (hb : Below w.heap.size w W) => refNames_any (.slice va l.length vc) l W (HV.out.all hb) (by omega))
    rw [(Bk.acs_yes h0).1]
    rw [h0] at C ⊢
    clear hv h0 HV
    generalize Bk.acR (Bk.nmL l) = R at *
    go_enter Tryz.func40, Tryz.ntmps40
    go_wp2_with fail
    refine C.out.mono ?_
    rintro e w1 ⟨rfl, hb1⟩
    clear C
    go_wp2_with fail
    refine (B.out _ hb1).mono ?_
    rintro e w2 ⟨u, rfl, hr, hb2⟩
    have HR := Lib.hid (And.intro hr (below_step hb1 hb2))
    clear hb1 hb2 B hr
    go_wp2
    go_ret2
    exact ⟨_, rfl, HR.out.1, HR.out.2⟩
  · rw [(Bk.acs_no h0).1]
    have q1 : (Bk.valE l == 0) = false := by simpa using h0
    have q2 : (Bk.valE l != 0) = true := by simpa using h0
    clear hv h0 HV
    generalize Bk.valE l = R at *
    go_enter Tryz.func40, Tryz.ntmps40
    go_wp2_with fail
    refine C.out.mono ?_
    rintro e w1 ⟨rfl, hb1⟩
    clear C
    go_wp2
    go_ret2
    exact ⟨_, rfl, rows_none _, hb1⟩
theorem trial_any_next {A : List (List UInt8)} {l : List Bk.Po} {j : Nat} (h : j < A.length) : (A.take (j + 1)).map (Bk.bal l) = (A.take j).map (Bk.bal l) ++ [Bk.bal l A[j]] := by
  rw [List.take_succ_eq_append_getElem h, List.map_append]; rfl
set_option maxRecDepth 20000 in
set_option maxHeartbeats 1000000 in
theorem trial_any (v : Value) (l : List Bk.Po) (w : World) (hv : Posts w v l) (hl : l.length ≤ 1000) (hw : ∀ k (hk : k < l.length), Bk.wide l[k]) :
    Calls Tryz.prog 41 #[v] w fun e w' => ∃ u, e = .returned (.tuple #[u, .int .i64 (Bk.valE l)]) ∧ RowsOf 1 intL w' u (Bk.tri l) ∧ Below w.heap.size w w' := by
  obtain ⟨i0, hi, hz0, hz1, hz2⟩ := info_parts infoInt
  have C := Lib.hid (validate_any v l w hv (by omega) hw)
  have HV := Lib.hid hv
  obtain ⟨va, vc, rfl⟩ := hv.form
  by_cases h0 : Bk.valE l = 0
  · obtain ⟨h64, hf, _⟩ := Bk.val_fine h0
    have B := Lib.hid (fun W (hb : Below w.heap.size w W) => namesOf_any (.slice va l.length vc) l W (HV.out.all hb) (by omega))
    have BL := Lib.hid (fun s W (hb : Below w.heap.size w W) => balanceOf_any (.slice va l.length vc) l s W (HV.out.all hb) (by omega) hf)
    have hAl := Bk.acR_len l
    rw [(Bk.acs_yes h0).2]
    rw [h0] at C ⊢
    clear hv h0 HV hf
    generalize Bk.acR (Bk.nmL l) = A at *
    have hA2 : A.length ≤ 200 := by omega
    obtain ⟨G, hG⟩ : ∃ G : Nat → List Int, G = fun j => (A.take j).map (Bk.bal l) := ⟨_, rfl⟩
    have HGN : Hid (∀ j (h : j < A.length), G (j + 1) = G j ++ [Bk.bal l A[j]]) := Lib.hid (fun j h => by rw [hG]; exact trial_any_next h)
    have HGL : Hid (∀ j, (G j).length ≤ 200) := Lib.hid (fun j => by rw [hG, List.length_map, List.length_take]; omega)
    have hg0 : G 0 = [] := by rw [hG]; rfl
    have HGE : Hid (A.map (Bk.bal l) = G A.length) := Lib.hid (by rw [hG]; show _ = (A.take A.length).map _; rw [List.take_length])
    rw [HGE.out]
    clear hG HGE hAl
    go_enter Tryz.func41, Tryz.ntmps41
    go_wp2_with fail
    refine C.out.mono ?_
    rintro e w1 ⟨rfl, hb1⟩
    clear C
    go_wp2_with fail
    refine (B.out _ hb1).mono ?_
    rintro e w2 ⟨u, rfl, hr, hb2⟩
    obtain ⟨ua, uc, rfl, hcap, hx⟩ := hr
    have HX := Lib.hid hx
    have HB2 := Lib.hid (below_step hb1 hb2)
    clear hb1 hb2 B hx
    go_wp2
    go_loopw [5, 16] (fun ls t wr => ∃ (j : Nat) (a : Option Addr) (c : Nat), j ≤ A.length ∧ ls = .slice a (G j).length c ∧ t = .int .i64 (j : Int) ∧ Hid (OwnJ w2.heap.size wr (.slice a (G j).length c) (G j) ∧ Below w2.heap.size w2 wr)) (fun _ t _ => A.length - (intOf t).toNat)
    case atStart => exact ⟨0, none, 0, Nat.zero_le _, by rw [hg0]; rfl, rfl, Lib.hid ⟨by rw [hg0]; exact OwnG.nil _ _, Below.refl _ _⟩⟩
    case round =>
      obtain ⟨j, a, c, hj, rfl, rfl, hg⟩ := hrel
      by_cases hlt : j < A.length
      · obtain ⟨b, off, rfl, hbl, hr⟩ := HX.out j hlt
        have c0 := (hr.below hg.out.2 hbl) 0 _ rfl
        have HN := Lib.hid (HGN.out j hlt)
        have hgl := HGL.out j
        simp only [Nat.mul_one, Nat.add_zero] at c0
        have HBL := Lib.hid (BL.out A[j] wr (HB2.out.trans (hg.out.2.mono HB2.out.size)))
        clear hr
        generalize A[j] = s at *
        generalize Bk.bal l s = q at *
        go_wp2_with fail
        refine HBL.out.mono ?_
        rintro e w3 ⟨rfl, hb3⟩
        have hw3 := below_step hg.out.2 hb3
        have hown := hg.out.1.all hb3
        have hca := cells_new (cs := intL q) w3 3
        have hsz := hw3.size
        clear hb3 HBL c0
        go_wp2_with (at_builtin; refine wpList_append_own _ rfl _ _ 53 rfl w2.heap.size 3 i0 (.int .i64 0) 1 8 Tryz.underlying53 hi hz0 hz1 hz2 rfl (by decide) _ _ _ rfl (OwnG.alloc hown _) ⟨w3.heap.size, 0, none⟩ 1 1 (intL q) rfl rfl ?c1 (intL_one _) ?c3 ?c4 ?c5 ?_)
        case c1 => first | exact hca | exact fun j u h => h
        case c3 => unfold maxLen; omega
        case c4 => omega
        case c5 => first | omega | (simp; omega)
        intro v' w9 hr9 hg9 _
        have hw9 := (below_alloc hw3 (.cells (intL q).toArray 3)).grown hg9 (by simp; omega) (fun j e => (World.ownsRow.lt hown j e).1)
        have hp9 : OwnJ w2.heap.size w9 v' (G j ++ [q]) := OwnG.pushed hr9
        rw [← HN.out] at hp9
        obtain ⟨a9, c9, e9⟩ := (hp9.rows intJ_len).form
        subst e9
        have HG9 := Lib.hid (And.intro hp9 hw9)
        clear hown hw3 hca hr9 hg9 hw9 hp9
        go_wp2
        go_roundw
        case rel => exact ⟨j + 1, a9, c9, by omega, rfl, by go_num, Lib.hid HG9.out⟩
        case measure => simp [intOf]; omega
      · obtain rfl : j = A.length := by omega
        go_wp2
        go_ret2
        exact ⟨_, rfl, hg.out.1.rows intJ_len, HB2.out.trans (hg.out.2.mono HB2.out.size)⟩
  · rw [(Bk.acs_no h0).2]
    have q1 : (Bk.valE l == 0) = false := by simpa using h0
    have q2 : (Bk.valE l != 0) = true := by simpa using h0
    clear hv h0 HV
    generalize Bk.valE l = R at *
    go_enter Tryz.func41, Tryz.ntmps41
    go_wp2_with fail
    refine C.out.mono ?_
    rintro e w1 ⟨rfl, hb1⟩
    clear C
    go_wp2
    go_ret2
    exact ⟨_, rfl, rows_none _, hb1⟩
theorem refTrial_any_next {A : List (List UInt8)} {l : List Bk.Po} {j : Nat} (h : j < A.length) : (A.take (j + 1)).map (Bk.bal l) = (A.take j).map (Bk.bal l) ++ [Bk.bal l A[j]] := by
  rw [List.take_succ_eq_append_getElem h, List.map_append]; rfl
set_option maxRecDepth 20000 in
set_option maxHeartbeats 1000000 in
theorem refTrial_any (v : Value) (l : List Bk.Po) (w : World) (hv : Posts w v l) (hl : l.length ≤ 1000) (hw : ∀ k (hk : k < l.length), Bk.wide l[k]) :
    Calls Tryz.prog 42 #[v] w fun e w' => ∃ u, e = .returned (.tuple #[u, .int .i64 (Bk.valE l)]) ∧ RowsOf 1 intL w' u (Bk.tri l) ∧ Below w.heap.size w w' := by
  obtain ⟨i0, hi, hz0, hz1, hz2⟩ := info_parts infoInt
  have C := Lib.hid (refValidate_any v l w hv (by omega) hw)
  have HV := Lib.hid hv
  obtain ⟨va, vc, rfl⟩ := hv.form
  by_cases h0 : Bk.valE l = 0
  · obtain ⟨h64, hf, _⟩ := Bk.val_fine h0
    have B := Lib.hid (fun W (hb : Below w.heap.size w W) => refNames_any (.slice va l.length vc) l W (HV.out.all hb) (by omega))
    have BL := Lib.hid (fun s W (hb : Below w.heap.size w W) => refBalance0_any (.slice va l.length vc) l s W (HV.out.all hb) (by omega) hf)
    have hAl := Bk.acR_len l
    rw [(Bk.acs_yes h0).2]
    rw [h0] at C ⊢
    clear hv h0 HV hf
    generalize Bk.acR (Bk.nmL l) = A at *
    have hA2 : A.length ≤ 200 := by omega
    obtain ⟨G, hG⟩ : ∃ G : Nat → List Int, G = fun j => (A.take j).map (Bk.bal l) := ⟨_, rfl⟩
    have HGN : Hid (∀ j (h : j < A.length), G (j + 1) = G j ++ [Bk.bal l A[j]]) := Lib.hid (fun j h => by rw [hG]; exact refTrial_any_next h)
    have HGL : Hid (∀ j, (G j).length ≤ 200) := Lib.hid (fun j => by rw [hG, List.length_map, List.length_take]; omega)
    have hg0 : G 0 = [] := by rw [hG]; rfl
    have HGE : Hid (A.map (Bk.bal l) = G A.length) := Lib.hid (by rw [hG]; show _ = (A.take A.length).map _; rw [List.take_length])
    rw [HGE.out]
    clear hG HGE hAl
    go_enter Tryz.func42, Tryz.ntmps42
    go_wp2_with fail
    refine C.out.mono ?_
    rintro e w1 ⟨rfl, hb1⟩
    clear C
    go_wp2_with fail
    refine (B.out _ hb1).mono ?_
    rintro e w2 ⟨u, rfl, hr, hb2⟩
    obtain ⟨ua, uc, rfl, hcap, hx⟩ := hr
    have HX := Lib.hid hx
    have HB2 := Lib.hid (below_step hb1 hb2)
    clear hb1 hb2 B hx
    go_wp2
    go_loopw [6, 7] (fun ls t wr => ∃ (j : Nat) (a : Option Addr) (c : Nat), j ≤ A.length ∧ ls = .slice a (G j).length c ∧ t = .int .i64 (j : Int) ∧ Hid (OwnJ w2.heap.size wr (.slice a (G j).length c) (G j) ∧ Below w2.heap.size w2 wr)) (fun _ t _ => A.length - (intOf t).toNat)
    case atStart => exact ⟨0, none, 0, Nat.zero_le _, by rw [hg0]; rfl, rfl, Lib.hid ⟨by rw [hg0]; exact OwnG.nil _ _, Below.refl _ _⟩⟩
    case round =>
      obtain ⟨j, a, c, hj, rfl, rfl, hg⟩ := hrel
      by_cases hlt : j < A.length
      · obtain ⟨b, off, rfl, hbl, hr⟩ := HX.out j hlt
        have c0 := (hr.below hg.out.2 hbl) 0 _ rfl
        have HN := Lib.hid (HGN.out j hlt)
        have hgl := HGL.out j
        simp only [Nat.mul_one, Nat.add_zero] at c0
        have HBL := Lib.hid (BL.out A[j] wr (HB2.out.trans (hg.out.2.mono HB2.out.size)))
        clear hr
        generalize A[j] = s at *
        generalize Bk.bal l s = q at *
        go_wp2_with fail
        refine HBL.out.mono ?_
        rintro e w3 ⟨rfl, hb3⟩
        have hw3 := below_step hg.out.2 hb3
        have hown := hg.out.1.all hb3
        have hca := cells_new (cs := intL q) w3 3
        have hsz := hw3.size
        clear hb3 HBL c0
        go_wp2_with (at_builtin; refine wpList_append_own _ rfl _ _ 53 rfl w2.heap.size 3 i0 (.int .i64 0) 1 8 Tryz.underlying53 hi hz0 hz1 hz2 rfl (by decide) _ _ _ rfl (OwnG.alloc hown _) ⟨w3.heap.size, 0, none⟩ 1 1 (intL q) rfl rfl ?c1 (intL_one _) ?c3 ?c4 ?c5 ?_)
        case c1 => first | exact hca | exact fun j u h => h
        case c3 => unfold maxLen; omega
        case c4 => omega
        case c5 => first | omega | (simp; omega)
        intro v' w9 hr9 hg9 _
        have hw9 := (below_alloc hw3 (.cells (intL q).toArray 3)).grown hg9 (by simp; omega) (fun j e => (World.ownsRow.lt hown j e).1)
        have hp9 : OwnJ w2.heap.size w9 v' (G j ++ [q]) := OwnG.pushed hr9
        rw [← HN.out] at hp9
        obtain ⟨a9, c9, e9⟩ := (hp9.rows intJ_len).form
        subst e9
        have HG9 := Lib.hid (And.intro hp9 hw9)
        clear hown hw3 hca hr9 hg9 hw9 hp9
        go_wp2
        go_roundw
        case rel => exact ⟨j + 1, a9, c9, by omega, rfl, by go_num, Lib.hid HG9.out⟩
        case measure => simp [intOf]; omega
      · obtain rfl : j = A.length := by omega
        go_wp2
        go_ret2
        exact ⟨_, rfl, hg.out.1.rows intJ_len, HB2.out.trans (hg.out.2.mono HB2.out.size)⟩
  · rw [(Bk.acs_no h0).2]
    have q1 : (Bk.valE l == 0) = false := by simpa using h0
    have q2 : (Bk.valE l != 0) = true := by simpa using h0
    clear hv h0 HV
    generalize Bk.valE l = R at *
    go_enter Tryz.func42, Tryz.ntmps42
    go_wp2_with fail
    refine C.out.mono ?_
    rintro e w1 ⟨rfl, hb1⟩
    clear C
    go_wp2
    go_ret2
    exact ⟨_, rfl, rows_none _, hb1⟩
set_option maxRecDepth 20000 in
set_option maxHeartbeats 1000000 in
theorem sameTexts_any (u v : Value) (xs : List (List UInt8)) (w : World) (hu : RowsOf 1 strL w u xs) (hv : RowsOf 1 strL w v xs) (hl : xs.length ≤ 1000) :
    Calls Tryz.prog 45 #[u, v] w fun e w' => e = .returned (.bool true) ∧ Below w.heap.size w w' := by
  obtain ⟨ua, uc, rfl, _, huk⟩ := hu
  obtain ⟨va, vc, rfl, _, hvk⟩ := hv
  have HU := Lib.hid huk
  have HV := Lib.hid hvk
  have hw0 := Lib.hid (Below.refl w.heap.size w)
  clear huk hvk
  go_enter Tryz.func45, Tryz.ntmps45
  go_wp2
  go_loopw [5] (fun t wr => ∃ k : Nat, k ≤ xs.length ∧ t = .int .i64 k ∧ Hid (Below w.heap.size w wr)) (fun t _ => xs.length - (intOf t).toNat)
  case atStart => exact ⟨0, Nat.zero_le _, rfl, hw0⟩
  case round =>
    obtain ⟨k, hk, rfl, hg⟩ := hrel
    by_cases hlt : k < xs.length
    · obtain ⟨b, off, rfl, hb, hr⟩ := HU.out k hlt
      obtain ⟨b2, off2, rfl, hb2, hr2⟩ := HV.out k hlt
      have c0 := (hr.below hg.out hb) 0 _ rfl
      have d0 := (hr2.below hg.out hb2) 0 _ rfl
      simp only [Nat.mul_one, Nat.add_zero] at c0 d0
      clear hr hr2
      generalize xs[k] = x at *
      go_wp2
      go_quiet (fail)
      go_wp2
      go_roundw
      case rel => exact ⟨k + 1, by omega, by go_num, Lib.hid (below_drewN hg.out _)⟩
      case measure => simp [intOf]; omega
    · go_wp2
      go_ret
      exact ⟨rfl, hg.out⟩
end Go.Proofs.YtcljpklgpedolaaGreatDoor
namespace Go.Proofs.YtcljpklgpedolaaGreatDoor
open Go.RowKit Go.Sort

theorem Bk.tri_sum (l : List Bk.Po) : (Bk.tri l).sum = 0 := by
  unfold Bk.tri
  split
  · exact Bk.trial_sum l
  · rfl
theorem Bk.tri_in {l : List Bk.Po} : ∀ q ∈ Bk.tri l, -140737488355328 ≤ q ∧ q ≤ 140737488355328 := by
  intro q hq
  unfold Bk.tri at hq
  split at hq
  · rename_i h
    obtain ⟨h64, hf, _⟩ := Bk.val_fine h
    obtain ⟨s, _, rfl⟩ := List.mem_map.1 hq
    have := Bk.bal_in s hf
    omega
  · simp at hq
theorem Bk.tri_len {l : List Bk.Po} : (Bk.tri l).length ≤ 128 ∧ (Bk.acs l).length ≤ 128 := by
  by_cases h : Bk.valE l = 0
  · obtain ⟨h64, _, _⟩ := Bk.val_fine h
    have := Bk.acR_len l
    rw [(Bk.acs_yes h).1, (Bk.acs_yes h).2, List.length_map]; omega
  · rw [(Bk.acs_no h).1, (Bk.acs_no h).2]; simp
theorem sum_bound : ∀ {L : List Int}, (∀ q ∈ L, -140737488355328 ≤ q ∧ q ≤ 140737488355328) → -(L.length * 140737488355328 : Int) ≤ L.sum ∧ L.sum ≤ L.length * 140737488355328
  | [], _ => by simp
  | q :: r, h => by
    have h1 := sum_bound (L := r) fun x hx => h x (List.mem_cons_of_mem _ hx)
    have h2 := h q (by simp)
    rw [List.sum_cons, List.length_cons]
    push_cast
    omega
theorem sum_next {L : List Int} {k : Nat} (h : k < L.length) : (L.take (k + 1)).sum = (L.take k).sum + L[k] := by
  rw [List.take_succ_eq_append_getElem h, List.sum_append]; simp
set_option maxRecDepth 20000 in
set_option maxHeartbeats 2000000 in
theorem balances_walk (v : Value) (l : List Bk.Po) (a : ByteArray) (w : World) (hE : EnvB w) (hv : Posts w v l) (hw : ∀ k (hk : k < l.length), Bk.wide l[k]) :
    Calls Tryz.prog 10 #[v, .string a] w fun e w' => e = .returned (.bool true) ∧ Below w.heap.size w w' := by
  rw [str_list]
  generalize a.data.toList = s
  have HE := Lib.hid hE
  have SA := Lib.hid (fun W hW => sane_any W hW)
  have HV := Lib.hid hv
  have hw0 := Below.refl w.heap.size w
  obtain ⟨va, vc, rfl⟩ := hv.form
  clear hE hv
  by_cases hl : l.length ≤ 200
  case neg =>
    have hq : (200 : Int) < (l.length : Int) := by omega
    clear hl HV hw
    go_enter Tryz.func10, Tryz.ntmps10
    go_wp2_with fail
    refine (SA.out _ HE.out).mono ?_
    rintro e w2 ⟨rfl, hb2⟩
    go_wp2
    go_ret
    exact ⟨rfl, hb2⟩
  have P1 := Lib.hid (fun W (hb : Below w.heap.size w W) => balance_any _ l s W (HV.out.all hb) (by omega) hw)
  have P2 := Lib.hid (fun W (hb : Below w.heap.size w W) => refBalance_any _ l s W (HV.out.all hb) (by omega) hw)
  have P3 := Lib.hid (fun W (hb : Below w.heap.size w W) => accounts_any _ l W (HV.out.all hb) (by omega) hw)
  have P4 := Lib.hid (fun W (hb : Below w.heap.size w W) => refAccounts_any _ l W (HV.out.all hb) (by omega) hw)
  have P5 := Lib.hid (fun W (hb : Below w.heap.size w W) => trial_any _ l W (HV.out.all hb) (by omega) hw)
  have P6 := Lib.hid (fun W (hb : Below w.heap.size w W) => refTrial_any _ l W (HV.out.all hb) (by omega) hw)
  have P7 := Lib.hid (fun W (hb : Below w.heap.size w W) => validate_any _ l W (HV.out.all hb) (by omega) hw)
  have P8 := Lib.hid (fun W (hb : Below w.heap.size w W) => refValidate_any _ l W (HV.out.all hb) (by omega) hw)
  have hT := Bk.tri_sum l
  have hIn := Bk.tri_in (l := l)
  obtain ⟨hTl, hAl⟩ := Bk.tri_len (l := l)
  have S9 := Lib.hid (fun u v W hu hv => sameTexts_any u v (Bk.acs l) W hu hv (by omega))
  clear hw HV
  generalize Bk.valE l = E at *
  generalize Bk.acs l = A at *
  generalize Bk.tri l = T at *
  have hB : ∃ B, B = (if E = 0 then Bk.bal l s else 0) := ⟨_, rfl⟩
  obtain ⟨B, hB⟩ := hB
  rw [← hB] at P1 P2
  have HSN := Lib.hid (fun k (h : k < T.length) => sum_next h)
  have HSB := Lib.hid (fun k => sum_bound (L := T.take k) fun q hq => hIn q (List.mem_of_mem_take hq))
  have HIN := Lib.hid (fun k (h : k < T.length) => hIn T[k] (List.getElem_mem h))
  have HSE : Hid ((T.take T.length).sum = 0) := Lib.hid (by rw [List.take_length]; exact hT)
  clear hB hIn hT
  go_enter Tryz.func10, Tryz.ntmps10
  go_wp2_with fail
  refine (P1.out _ hw0).mono ?_
  rintro e w1 ⟨rfl, hb1⟩
  have hw1 := below_step hw0 hb1
  clear hb1 hw0 P1
  go_wp2_with fail
  refine (P2.out _ hw1).mono ?_
  rintro e w2 ⟨rfl, hb2⟩
  have hw2 := below_step hw1 hb2
  clear hb2 hw1 P2
  go_wp2_with fail
  refine (P3.out _ hw2).mono ?_
  rintro e w3 ⟨u3, rfl, hr3, hb3⟩
  have hw3 := below_step hw2 hb3
  obtain ⟨a3, c3, rfl⟩ := hr3.form
  have HR3 := Lib.hid hr3
  clear hb3 hw2 P3 hr3
  go_wp2_with fail
  refine (P4.out _ hw3).mono ?_
  rintro e w4 ⟨u4, rfl, hr4, hb4⟩
  have hw4 := below_step hw3 hb4
  obtain ⟨a4, c4, rfl⟩ := hr4.form
  have HR4 := Lib.hid (And.intro (HR3.out.all hb4) hr4)
  clear hb4 hw3 P4 hr4 HR3
  go_wp2_with fail
  refine (P5.out _ hw4).mono ?_
  rintro e w5 ⟨u5, rfl, hr5, hb5⟩
  have hw5 := below_step hw4 hb5
  obtain ⟨a5, c5, rfl⟩ := hr5.form
  have HR5 := Lib.hid (And.intro hr5 (And.intro (HR4.out.1.all hb5) (HR4.out.2.all hb5)))
  clear hb5 hw4 P5 hr5 HR4
  go_wp2_with fail
  refine (P6.out _ hw5).mono ?_
  rintro e w6 ⟨u6, rfl, hr6, hb6⟩
  have hw6 := below_step hw5 hb6
  obtain ⟨a6, c6, rfl⟩ := hr6.form
  have HR6 := Lib.hid (And.intro hr6 (And.intro (HR5.out.1.all hb6) (And.intro (HR5.out.2.1.all hb6) (HR5.out.2.2.all hb6))))
  clear hb6 hw5 P6 hr6 HR5
  go_wp2_with fail
  refine (P7.out _ hw6).mono ?_
  rintro e w7 ⟨rfl, hb7⟩
  have hw7 := below_step hw6 hb7
  have HR7 := Lib.hid (And.intro (HR6.out.1.all hb7) (And.intro (HR6.out.2.1.all hb7) (And.intro (HR6.out.2.2.1.all hb7) (HR6.out.2.2.2.all hb7))))
  clear hb7 hw6 P7 HR6
  go_wp2_with fail
  refine (P8.out _ hw7).mono ?_
  rintro e w8 ⟨rfl, hb8⟩
  have hw8 := below_step hw7 hb8
  have S9b := Lib.hid (S9.out _ _ w8 (HR7.out.2.2.1.all hb8) (HR7.out.2.2.2.all hb8))
  have HR8 := Lib.hid (And.intro (HR7.out.1.all hb8) (HR7.out.2.1.all hb8))
  clear hb8 hw7 P8 HR7 S9
  go_wp2_with fail
  refine S9b.out.mono ?_
  rintro e w9 ⟨rfl, hb9⟩
  have hw9 := below_step hw8 hb9
  obtain ⟨_, _, e6, _, hx6⟩ := HR8.out.1.all hb9
  obtain ⟨_, _, e5, _, hx5⟩ := HR8.out.2.all hb9
  injection e6 with e6 _ _
  injection e5 with e5 _ _
  subst e6 e5
  have HX5 := Lib.hid hx5
  have HX6 := Lib.hid hx6
  have HW9 := Lib.hid hw9
  clear hb9 hw8 S9b HR8 hx5 hx6 hw9
  go_wp2
  go_loopw [17, 18] (fun q t wr => ∃ k : Nat, k ≤ T.length ∧ q = .int .i64 (T.take k).sum ∧ t = .int .i64 (k : Int) ∧ Hid (Below w9.heap.size w9 wr)) (fun _ t _ => T.length - (intOf t).toNat)
  case atStart => exact ⟨0, Nat.zero_le _, rfl, rfl, Lib.hid (Below.refl _ _)⟩
  case round =>
    obtain ⟨k, hk, rfl, rfl, hg⟩ := hrel
    by_cases hlt : k < T.length
    · obtain ⟨b, off, rfl, hb, hr⟩ := HX5.out k hlt
      obtain ⟨b2, off2, rfl, hb2, hr2⟩ := HX6.out k hlt
      have c0 := intJ_at (hr.below hg.out hb)
      have d0 := intJ_at (hr2.below hg.out hb2)
      simp only [Nat.mul_one] at c0 d0
      have HN := Lib.hid (HSN.out k hlt)
      have hbd := HSB.out k
      have hin := HIN.out k hlt
      have htl : (T.take k).length ≤ 128 := by rw [List.length_take]; omega
      clear hr hr2
      generalize T[k] = x at *
      have hwr : IntKind.i64.wrap ((T.take k).sum + x) = (T.take k).sum + x := IntWalk.i64_in _ ⟨by omega, by omega⟩
      clear hbd hin htl
      generalize (T.take k).sum = q at *
      go_wp2
      go_quiet (fail)
      go_wp2
      go_roundw
      case rel => exact ⟨k + 1, by omega, by rw [HN.out], by go_num, Lib.hid (below_drewN hg.out _)⟩
      case measure => simp [intOf]; omega
    · obtain rfl : k = T.length := by omega
      have hz := HSE.out
      generalize (T.take T.length).sum = q at *
      subst hz
      go_wp2_with fail
      refine (SA.out _ (HE.out.all (HW9.out.trans (hg.out.mono HW9.out.size)))).mono ?_
      rintro e w10 ⟨rfl, hb10⟩
      have hw10 := below_step (HW9.out.trans (hg.out.mono HW9.out.size)) hb10
      go_wp2
      go_ret
      exact ⟨rfl, hw10⟩
end Go.Proofs.YtcljpklgpedolaaGreatDoor
