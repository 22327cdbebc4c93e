/- The table of a band and its articles: roll.lay. -/
import Derived.Test.YtbmjjmpdlmbehaaRoll1
import Derived.Test.YtbmjjmpdlmbehaaBand6
namespace Go.Proofs.Ytbmjjmpdlmbehaa
open Go.RowKit

abbrev TabT : TypeId := 81
theorem Ro.layE_band {rs : List Bd.R} {al : List Ro.A} (h : Bd.valE rs ≠ 0) : Ro.layE rs al = Bd.valE rs := if_neg h
theorem Ro.layE_long {rs : List Bd.R} {al : List Ro.A} (h : Bd.valE rs = 0) (h2 : 300 < Bd.len rs) : Ro.layE rs al = 4 := (if_pos h).trans (if_pos h2)
theorem Ro.layE_arts {rs : List Bd.R} {al : List Ro.A} (h : Bd.valE rs = 0) (h2 : ¬ 300 < Bd.len rs) : Ro.layE rs al = Ro.valA al := (if_pos h).trans (if_neg h2)
theorem BlockAt.grown {W W9 : World} {B : Nat} {cs : Array Value} {t : TypeId} {o : Option Nat} (h : BlockAt W B cs t) (hg : W.grownBy W9 o) (hne : some B ≠ o) : BlockAt W9 B cs t := (hg.block B h.lt hne).trans h
theorem OwnO.setTab {base : Nat} {w : World} {v : Value} {rs : List Bd.R} {al : List Ro.A} {us : List Value} {B : Nat} {cs : Array Value} (h : OwnO base w v rs al us) (hB : BlockAt w B cs TabT) (hlt : B < base) (i : Nat) (x : Value) : OwnO base (w.setCell ⟨B, i, none⟩ x) v rs al us := by
  obtain ⟨g1, g2, g3⟩ := h
  refine ⟨g1, RowKit.ownsRow_setCell_below g2 hlt _, fun j hj => ?_⟩
  obtain ⟨z, e1, k0, k1 | ⟨g, cap, cur, k1, k2, k3, k4⟩⟩ := g3 j hj
  · exact ⟨z, e1, k0, .inl k1⟩
  · refine ⟨z, e1, k0, .inr ⟨g, cap, cur, k1, k2, ?_, k4⟩⟩
    rw [Below.heap_setCell _ _ _ _ (show g ≠ B by
      intro e; subst e
      have : w.heap[g]? = some (.cells cs TabT (0, 0)) := hB
      rw [k3] at this
      simp at this
      exact absurd this.2 (by decide))]
    exact k3
/-- What the call holds while it lays the offers. -/
def LaySt (w : World) (b9 : Nat) (bv : Value) (n : Int) (rs : List Bd.R) (al : List Ro.A) (k : Nat) (wr : World) : Prop :=
  ∃ ov us, BlockAt wr w.heap.size #[.slice none 0 0, .int .i64 0, .slice none 0 0] TabT ∧ BlockAt wr b9 #[bv, .int .i64 n, ov] TabT ∧ OwnO (b9 + 1) wr ov rs (al.take k) us ∧ Below w.heap.size w wr ∧ w.heap.size < b9
theorem LaySt.next {w W w9 : World} {b9 : Nat} {bv ov v' : Value} {n : Int} {rs : List Bd.R} {al : List Ro.A} {k : Nat} {us : List Value} {u : Value} (hk : k < al.length)
    (h4 : BlockAt W w.heap.size #[.slice none 0 0, .int .i64 0, .slice none 0 0] TabT) (h9 : BlockAt W b9 #[bv, .int .i64 n, ov] TabT) (ho : OwnO (b9 + 1) W ov rs (al.take k) us) (hw : Below w.heap.size w W) (hlt : w.heap.size < b9)
    (hu : OwnS 0 W u (spaA rs al[k])) (hg : W.grownBy w9 ov.ownBlock) (hr : w9.ownsRow (b9 + 1) 87 8 v' (k + 1) (offsC (al.take k) us 0 ++ offC al[k] (k : Int) u)) :
    LaySt w b9 bv n rs al (k + 1) (w9.setCell ⟨b9, 2, none⟩ v') := by
  have hlen : (al.take k).length = k := by simp; omega
  have hne : ∀ B, B < b9 + 1 → some B ≠ ov.ownBlock := fun B hB e => by have := (World.ownsRow.lt ho.2.1 B e.symm).1; omega
  have h1 := ho.push hu hg (by rw [hlen]; exact hr)
  rw [← List.take_succ_eq_append_getElem hk] at h1
  have hown := h1.setTab (h9.grown hg (hne _ (by omega))) (by omega) 2 v'
  refine ⟨v', us ++ [u], (h4.grown hg (hne _ (by omega))).other (by omega) _, (h9.grown hg (hne _ (by omega))).set 2 _, hown, ?_, hlt⟩
  exact (hw.grown hg hw.size (fun j e => by have := (World.ownsRow.lt ho.2.1 j e).1; omega)).setCell (by simp; omega) _

set_option maxRecDepth 20000 in
set_option maxHeartbeats 2000000 in
theorem lay_bad (v u : Value) (rs : List Bd.R) (al : List Ro.A) (w : World) (hv : Runs w v rs) (hu : Arts w u al) (hl : rs.length ≤ 1000) (hal : al.length ≤ 1000) (hne : Ro.layE rs al ≠ 0) :
    Calls Try.prog 29 #[v, u] w fun e w' => e = .returned (.tuple #[tabV (.slice none 0 0) 0 (.slice none 0 0), .int .i64 (Ro.layE rs al)]) ∧ Below w.heap.size w w' := by
  have LN := Lib.hid (fun W (hW : Below w.heap.size w W) => num_length_any v rs W (hv.all hW) hl)
  have VA := Lib.hid (fun W (hW : Below w.heap.size w W) => rollValidate_any u al W (hu.all hW) hal)
  obtain ⟨va, vc, rfl⟩ := hv.form
  obtain ⟨ua, uc, rfl, _⟩ := hu
  have b4 := BlockAt.new w #[.slice none 0 0, .int .i64 0, .slice none 0 0] TabT
  have hw0 := below_alloc2 (Below.refl w.heap.size w) (.cells #[.slice none 0 0, .int .i64 0, .slice none 0 0] TabT)
  have HB := Lib.hid (And.intro b4 hw0)
  clear b4 hw0
  by_cases h0 : Bd.valE rs = 0
  case neg =>
    rw [Ro.layE_band h0] at hne ⊢
    generalize Bd.valE rs = q at *
    generalize Bd.lenR rs = n at *
    have hd : (q == 0) = false := beq_eq_false_iff_ne.2 h0
    have hd2 : (q != 0) = true := by rw [bne, hd]; rfl
    clear hv VA hne h0
    go_enter Try.func29, Try.ntmps29
    go_wp2_with fail
    refine (LN.out _ HB.out.2).mono ?_
    rintro e w1 ⟨rfl, hb1⟩
    have H1 := Lib.hid (And.intro (HB.out.1.below hb1 HB.out.1.lt) (below_step HB.out.2 hb1))
    clear hb1 HB LN
    have c0 : World.cell? _ _ = some (.slice none 0 0) := H1.out.1.cell 0
    have c1 : World.cell? _ _ = some (.int .i64 0) := H1.out.1.cell 1
    have c2 : World.cell? _ _ = some (.slice none 0 0) := H1.out.1.cell 2
    have f0 := H1.out.1.frozen 0
    have f1 := H1.out.1.frozen 1
    have f2 := H1.out.1.frozen 2
    have hlt := H1.out.1.lt
    go_wp2
    refine bodyPost_ret (v := .tuple #[.agg #[.slice none 0 0, .int .i64 0, .slice none 0 0], .int .i64 q]) (by simp [results, Try.results29, go_sem, c0, c1, c2, hlt]) rfl ⟨rfl, ?_⟩
    iterate 3 (refine Below.setCell ?_ (by dsimp only; omega) _)
    exact H1.out.2
  rw [h0, Bd.lenR_zero h0] at LN
  by_cases h1 : 300 < Bd.len rs
  case pos =>
    rw [Ro.layE_long h0 h1] at hne ⊢
    generalize Bd.len rs = n at *
    have hd : decide (300 < n) = true := decide_eq_true h1
    clear hv VA hne h0
    go_enter Try.func29, Try.ntmps29
    go_wp2_with fail
    refine (LN.out _ HB.out.2).mono ?_
    rintro e w1 ⟨rfl, hb1⟩
    have H1 := Lib.hid (And.intro (HB.out.1.below hb1 HB.out.1.lt) (below_step HB.out.2 hb1))
    clear hb1 HB LN
    have c0 : World.cell? _ _ = some (.slice none 0 0) := H1.out.1.cell 0
    have c1 : World.cell? _ _ = some (.int .i64 0) := H1.out.1.cell 1
    have c2 : World.cell? _ _ = some (.slice none 0 0) := H1.out.1.cell 2
    have f0 := H1.out.1.frozen 0
    have f1 := H1.out.1.frozen 1
    have f2 := H1.out.1.frozen 2
    have hlt := H1.out.1.lt
    go_wp2
    refine bodyPost_ret (v := .tuple #[.agg #[.slice none 0 0, .int .i64 0, .slice none 0 0], .int .i64 4]) (by simp [results, Try.results29, go_sem, c0, c1, c2, hlt]) rfl ⟨rfl, ?_⟩
    iterate 3 (refine Below.setCell ?_ (by dsimp only; omega) _)
    exact H1.out.2
  rw [Ro.layE_arts h0 h1] at hne ⊢
  generalize Bd.len rs = n at *
  generalize Ro.valA al = q at *
  have hd0 : decide (300 < n) = false := decide_eq_false h1
  have hd : (q == 0) = false := beq_eq_false_iff_ne.2 hne
  have hd2 : (q != 0) = true := by rw [bne, hd]; rfl
  clear hv hne h0
  go_enter Try.func29, Try.ntmps29
  go_wp2_with fail
  refine (LN.out _ HB.out.2).mono ?_
  rintro e w1 ⟨rfl, hb1⟩
  have H1 := Lib.hid (And.intro (HB.out.1.below hb1 HB.out.1.lt) (below_step HB.out.2 hb1))
  clear hb1 HB LN
  go_wp2_with fail
  refine (VA.out _ H1.out.2).mono ?_
  rintro e w2 ⟨rfl, hb2⟩
  have H2 := Lib.hid (And.intro (H1.out.1.below hb2 H1.out.1.lt) (below_step H1.out.2 hb2))
  clear hb2 H1 VA
  have c0 : World.cell? _ _ = some (.slice none 0 0) := H2.out.1.cell 0
  have c1 : World.cell? _ _ = some (.int .i64 0) := H2.out.1.cell 1
  have c2 : World.cell? _ _ = some (.slice none 0 0) := H2.out.1.cell 2
  have f0 := H2.out.1.frozen 0
  have f1 := H2.out.1.frozen 1
  have f2 := H2.out.1.frozen 2
  have hlt := H2.out.1.lt
  go_wp2
  refine bodyPost_ret (v := .tuple #[.agg #[.slice none 0 0, .int .i64 0, .slice none 0 0], .int .i64 q]) (by simp [results, Try.results29, go_sem, c0, c1, c2, hlt]) rfl ⟨rfl, ?_⟩
  iterate 3 (refine Below.setCell ?_ (by dsimp only; omega) _)
  exact H2.out.2

set_option maxRecDepth 20000 in
set_option maxHeartbeats 4000000 in
theorem lay_ok (v u : Value) (rs : List Bd.R) (al : List Ro.A) (w : World) (hv : Runs w v rs) (hu : Arts w u al) (hl : rs.length ≤ 1000) (hal : al.length ≤ 1000) (hz : Ro.layE rs al = 0) :
    Calls Try.prog 29 #[v, u] w fun e w' => ∃ ov us, e = .returned (.tuple #[tabV v (Bd.len rs) ov, .int .i64 0]) ∧ OwnO w.heap.size w' ov rs al us ∧ Below w.heap.size w w' := by
  obtain ⟨hv0, hn, h5, hoks⟩ := Ro.layE_zero.1 hz
  have h0 : Ro.valA al = 0 := by rw [Ro.layE_arts hv0 (by omega)] at hz; exact hz
  have LN := Lib.hid (fun W (hW : Below w.heap.size w W) => num_length_any v rs W (hv.all hW) hl)
  have VA := Lib.hid (fun W (hW : Below w.heap.size w W) => rollValidate_any u al W (hu.all hW) hal)
  have WH := Lib.hid (fun la mo sh fl W (hW : Below w.heap.size w W) => num_where_any v rs la mo sh fl W (hv.all hW) hl)
  rw [hv0, Bd.lenR_zero hv0] at LN
  rw [h0] at VA
  rw [hv0] at WH
  simp only [Bd.whR, if_pos hv0] at WH
  obtain ⟨va, vc, rfl⟩ := hv.form
  obtain ⟨i0, hi, hz0, hz1, hz2⟩ := info_ofR infoOff
  obtain ⟨ua, uc, rfl, hk⟩ := hu
  have HK := Lib.hid hk
  have b4 := BlockAt.new w #[.slice none 0 0, .int .i64 0, .slice none 0 0] TabT
  have hw0 := below_alloc2 (Below.refl w.heap.size w) (.cells #[.slice none 0 0, .int .i64 0, .slice none 0 0] TabT)
  have HB := Lib.hid (And.intro b4 hw0)
  clear b4 hw0 hk hv hz hv0 h0 hoks
  generalize Bd.len rs = n at *
  have hd0 : decide (300 < n) = false := decide_eq_false (by omega)
  obtain ⟨vl, hvl⟩ : ∃ x, x = rs.length := ⟨_, rfl⟩
  rw [← hvl] at LN WH ⊢
  clear hvl hl
  go_enter Try.func29, Try.ntmps29
  go_wp2_with fail
  refine (LN.out _ HB.out.2).mono ?_
  rintro e w1 ⟨rfl, hb1⟩
  have H1 := Lib.hid (And.intro (HB.out.1.below hb1 HB.out.1.lt) (below_step HB.out.2 hb1))
  clear hb1 HB LN
  go_wp2_with fail
  refine (VA.out _ H1.out.2).mono ?_
  rintro e w2 ⟨rfl, hb2⟩
  have H2 := Lib.hid (And.intro (H1.out.1.below hb2 H1.out.1.lt) (below_step H1.out.2 hb2))
  have hlt2 := H2.out.1.lt
  clear hb2 H1 VA
  have HS0 : Hid (LaySt w w2.heap.size (.slice va vl vc) n rs al 0 (w2.alloc (.cells #[.slice va vl vc, .int .i64 n, .slice none 0 0] TabT))) := Lib.hid ⟨.slice none 0 0, [], H2.out.1.alloc _, BlockAt.new _ _ _, by rw [List.take_zero]; exact OwnO.nil _ _ _, below_alloc2 H2.out.2 _, hlt2⟩
  go_wp2
  clear H2
  go_loopw [37] (fun t wr => ∃ k : Nat, k ≤ al.length ∧ t = .int .i64 k ∧ Hid (LaySt w w2.heap.size (.slice va vl vc) n rs al k wr)) (fun t _ => al.length - (intOf t).toNat)
  case atStart => exact ⟨0, Nat.zero_le _, rfl, HS0⟩
  case round =>
    obtain ⟨k, hka, rfl, hg⟩ := hrel
    clear HS0
    by_cases hlt : k < al.length
    · obtain ⟨ov, us, g4, g9, go, gw, gl⟩ := hg.out
      obtain ⟨b, off, rfl, hb, hr⟩ := HK.out k hlt
      obtain ⟨c0, c1, c2, c3, c4, c5⟩ := hr.below gw hb
      have hbw : b < wr.heap.size := Nat.lt_of_lt_of_le hb gw.size
      have HA : Hid (BlockAt wr w.heap.size #[.slice none 0 0, .int .i64 0, .slice none 0 0] TabT ∧ BlockAt wr w2.heap.size #[.slice va vl vc, .int .i64 n, ov] TabT ∧ OwnO (w2.heap.size + 1) wr ov rs (al.take k) us ∧ Below w.heap.size w wr) := Lib.hid ⟨g4, g9, go, gw⟩
      have HNX := Lib.hid (fun (W w9 : World) (v' u : Value) g4 g9 go gw hu hg hr => LaySt.next (w := w) (W := W) (w9 := w9) (b9 := w2.heap.size) (bv := .slice va vl vc) (ov := ov) (v' := v') (n := n) (rs := rs) (al := al) (k := k) (us := us) (u := u) hlt g4 g9 go gw gl hu hg hr)
      have hform := go.form
      have htk : (al.take k).length = k := by simp; omega
      rw [htk] at hform
      clear hg g4 g9 go gw hr htk
      obtain ⟨oa, oc, rfl⟩ := hform
      generalize al[k] = a at *
      have WC := Lib.hid (fun W hW => WH.out a.la a.mo a.sh a.fl W hW)
      obtain ⟨wa, hwa⟩ : ∃ x, wr.alloc (.cells #[.int .i64 a.l, .int .i64 a.la, .int .i64 a.mo, .int .i64 a.sh, .int .i64 a.fl, .int .i64 a.p] 78) = x := ⟨_, rfl⟩
      have HX : Hid (BlockAt wa wr.heap.size #[.int .i64 a.l, .int .i64 a.la, .int .i64 a.mo, .int .i64 a.sh, .int .i64 a.fl, .int .i64 a.p] 78 ∧ BlockAt wa w.heap.size #[.slice none 0 0, .int .i64 0, .slice none 0 0] TabT ∧ BlockAt wa w2.heap.size #[.slice va vl vc, .int .i64 n, .slice oa k oc] TabT ∧ OwnO (w2.heap.size + 1) wa (.slice oa k oc) rs (al.take k) us ∧ Below w.heap.size w wa) := Lib.hid (by
        rw [← hwa]
        exact ⟨BlockAt.new _ _ _, HA.out.1.alloc _, HA.out.2.1.alloc _, HA.out.2.2.1.all ((Below.refl _ _).alloc (Nat.le_refl _) _), below_alloc2 HA.out.2.2.2 _⟩)
      clear HA
      have d1 : World.cell? wa ⟨wr.heap.size, 1, none⟩ = some (.int .i64 a.la) := HX.out.1.cell 1
      have d2 : World.cell? wa ⟨wr.heap.size, 2, none⟩ = some (.int .i64 a.mo) := HX.out.1.cell 2
      have d3 : World.cell? wa ⟨wr.heap.size, 3, none⟩ = some (.int .i64 a.sh) := HX.out.1.cell 3
      have d4 : World.cell? wa ⟨wr.heap.size, 4, none⟩ = some (.int .i64 a.fl) := HX.out.1.cell 4
      go_wp2_with (rw [hwa])
      go_wp2_with fail
      refine (WC.out _ HX.out.2.2.2.2).mono ?_
      rintro e w3 ⟨z, rfl, hzs, hb3⟩
      obtain ⟨za, zc, hz', _⟩ := hzs.spns
      subst hz'
      obtain ⟨zl, hzl⟩ : ∃ x, x = (Bd.spa a.la a.mo a.sh a.fl rs).length := ⟨_, rfl⟩
      rw [← hzl] at hzs ⊢
      have HY : Hid (BlockAt w3 w.heap.size #[.slice none 0 0, .int .i64 0, .slice none 0 0] TabT ∧ BlockAt w3 w2.heap.size #[.slice va vl vc, .int .i64 n, .slice oa k oc] TabT ∧ OwnO (w2.heap.size + 1) w3 (.slice oa k oc) rs (al.take k) us ∧ Below w.heap.size w w3 ∧ OwnS 0 w3 (.slice za zl zc) (spaA rs a)) :=
        Lib.hid ⟨HX.out.2.1.below hb3 HX.out.2.1.lt, HX.out.2.2.1.below hb3 HX.out.2.2.1.lt, HX.out.2.2.2.1.all hb3, below_step HX.out.2.2.2.2 hb3, hzs.mono (Nat.zero_le _)⟩
      have bA := HX.out.1.below hb3 HX.out.1.lt
      have e0 : World.cell? w3 ⟨wr.heap.size, 0, none⟩ = some (.int .i64 a.l) := bA.cell 0
      have e1 : World.cell? w3 ⟨wr.heap.size, 1, none⟩ = some (.int .i64 a.la) := bA.cell 1
      have e2 : World.cell? w3 ⟨wr.heap.size, 2, none⟩ = some (.int .i64 a.mo) := bA.cell 2
      have e3 : World.cell? w3 ⟨wr.heap.size, 3, none⟩ = some (.int .i64 a.sh) := bA.cell 3
      have e4 : World.cell? w3 ⟨wr.heap.size, 4, none⟩ = some (.int .i64 a.fl) := bA.cell 4
      have e5 : World.cell? w3 ⟨wr.heap.size, 5, none⟩ = some (.int .i64 a.p) := bA.cell 5
      have q2 : World.cell? w3 ⟨w2.heap.size, 2, none⟩ = some (.slice oa k oc) := HY.out.2.1.cell 2
      have hltA := bA.lt
      have hlt9 := HY.out.2.1.lt
      have hs3 := HY.out.2.2.2.1.size
      clear hb3 HX hwa bA d1 d2 d3 d4 WC hzs c0 c1 c2 c3 c4 c5 hzl
      have HR := Lib.hid HY.out.2.2.1.2.1
      go_wp2_with (at_builtin; refine wpList_append_own _ rfl _ _ 79 rfl (w2.heap.size + 1) 87 i0 zOff 8 80 ul_offs hi hz0 hz1 hz2 rfl (by decide) _ _ _ rfl (World.ownsRow.alloc HR.out _) ⟨w3.heap.size, 0, none⟩ 1 1 (offC a (k : Int) (.slice za zl zc)) rfl rfl ?c1 ?c2 ?c3 ?c4 ?c5 ?_)
      case c1 => exact offC_at w3 a (k : Int) _ _
      case c2 => exact offC_one rfl a _
      case c3 => unfold maxLen; simp; omega
      case c4 => simp; omega
      case c5 => simp; omega
      intro v' w9 hr9 hg9 _
      obtain ⟨g', cap', rfl⟩ := ownsRow_succ hr9
      have hne9 : ∀ B, B < w2.heap.size + 1 → some B ≠ (Value.slice oa k oc).ownBlock := fun B hB e => by have := (World.ownsRow.lt HR.out B e.symm).1; omega
      have b9n := (HY.out.2.1.alloc (.cells #[.int .i64 a.l, .int .i64 a.la, .int .i64 a.mo, .int .i64 a.sh, .int .i64 a.fl, .int .i64 a.p, .int .i64 k, .slice za zl zc] 87)).grown hg9 (hne9 _ (by omega))
      have hm2 : World.cell? w9 ⟨w2.heap.size, 2, none⟩ = some (.slice oa k oc) := b9n.cell 2
      have hf2 := b9n.frozen 2
      have HN := Lib.hid (HNX.out _ w9 (.slice (some ⟨g', 0, none⟩) (k + 1) cap') (.slice za zl zc) (HY.out.1.alloc _) (HY.out.2.1.alloc _) (HY.out.2.2.1.all ((Below.refl _ _).alloc (Nat.le_refl _) _)) (below_alloc2 HY.out.2.2.2.1 _) (OwnS.alloc HY.out.2.2.2.2 _) hg9 hr9)
      clear hr9 hg9 HR HY HNX b9n hne9 e0 e1 e2 e3 e4 e5 q2
      go_wp2
      go_roundw
      case rel => exact ⟨k + 1, by omega, by go_num, HN⟩
      case measure => simp [intOf]; omega
    · obtain rfl : k = al.length := by omega
      obtain ⟨ov, us, g4, g9, go, gw, gl⟩ := hg.out
      rw [List.take_length] at go
      have HO := Lib.hid go
      obtain ⟨oa, oc, rfl⟩ := go.form
      have q0 : World.cell? wr ⟨w2.heap.size, 0, none⟩ = some (.slice va vl vc) := g9.cell 0
      have q1 : World.cell? wr ⟨w2.heap.size, 1, none⟩ = some (.int .i64 n) := g9.cell 1
      have q2 : World.cell? wr ⟨w2.heap.size, 2, none⟩ = some (.slice oa al.length oc) := g9.cell 2
      have c0 : World.cell? wr ⟨w.heap.size, 0, none⟩ = some (.slice none 0 0) := g4.cell 0
      have c1 : World.cell? wr ⟨w.heap.size, 1, none⟩ = some (.int .i64 0) := g4.cell 1
      have c2 : World.cell? wr ⟨w.heap.size, 2, none⟩ = some (.slice none 0 0) := g4.cell 2
      have f0 := g4.frozen 0
      have f1 := g4.frozen 1
      have f2 := g4.frozen 2
      have hltw := g4.lt
      have HW := Lib.hid gw
      have G4 := Lib.hid g4
      clear hg go g4 g9 gw HK WH
      go_wp2
      refine bodyPost_ret (v := .tuple #[.agg #[.slice va vl vc, .int .i64 n, .slice oa al.length oc], .int .i64 0]) (by simp [results, Try.results29, go_sem, c0, c1, c2, hltw]) rfl ⟨_, us, rfl, ?_, ?_⟩
      · refine OwnO.mono (B := w.heap.size) ?_ (by omega : w.heap.size ≤ w2.heap.size + 1)
        exact ((HO.out.setTab G4.out (by omega) 0 _).setTab (G4.out.set 0 _) (by omega) 1 _).setTab ((G4.out.set 0 _).set 1 _) (by omega) 2 _
      · iterate 3 (refine Below.setCell ?_ (by dsimp only; omega) _)
        exact HW.out
end Go.Proofs.Ytbmjjmpdlmbehaa
