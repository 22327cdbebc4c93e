/- Whether an article can be cut at a place: of the program, by its spans. Whether an article can be cut at a place: of the reference, place by place. Whether an article can be cut at a place: of the reference, place by place. Which pieces can be cut: of both. -/
import Derived.Test.YtilpofmjkcjhdaaRwA
import Derived.Test.YtilpofmjkcjhdaaRbB
import Derived.Deep.QuietTactic
import Derived.BigQuiet
import Derived.Deep.Cut
namespace Go.Proofs.Ytilpofmjkcjhdaa
open Go.RowKit

abbrev OffT : TypeId := 100
abbrev offA (a : Ro.A) (n : Int) (u : Value) : Array Value := #[.int .i64 a.l, .int .i64 a.la, .int .i64 a.mo, .int .i64 a.sh, .int .i64 a.fl, .int .i64 a.p, .int .i64 n, u]
theorem Ro.inS_hit {l : Int} {ss : List Bd.S} {f : Int} {j : Nat} (hj : j < ss.length) (h : (decide (ss[j].f ≤ f) && decide (f ≤ ss[j].t - l)) = true) : Ro.inS l ss f = true :=
  List.any_eq_true.2 ⟨_, List.getElem_mem hj, h⟩
theorem Ro.inS_none {l : Int} {ss : List Bd.S} {f : Int} (h : ∀ j (hj : j < ss.length), (decide (ss[j].f ≤ f) && decide (f ≤ ss[j].t - l)) = false) : Ro.inS l ss f = false := by
  apply Bool.eq_false_iff.2
  intro hc
  obtain ⟨s, hs, h2⟩ := List.any_eq_true.1 hc
  obtain ⟨i, hi, rfl⟩ := List.mem_iff_getElem.1 hs
  rw [h i hi] at h2; cases h2
theorem ret_boolD {p : Prop} [Decidable p] {R : Bool} (h : decide p = R) : Ending.returned (.bool (decide p)) = Ending.returned (.bool R) := by rw [h]

set_option maxRecDepth 20000 in
set_option maxHeartbeats 1000000 in
theorem fitsAt1_any (a : Ro.A) (n : Int) (u : Value) (f : Int) (bo bf : Nat) (s : Bd.S) (w : World) (ho : BlockAt w bo (offA a n u) OffT) (hf : BlockAt w bf #[.int .i64 f] 3) (hl : 1 ≤ a.l ∧ a.l ≤ 300) (hs : Bd.okS s) :
    Calls Try.prog 84 #[spnV s, .pointer (some ⟨bo, 0, none⟩), .pointer (some ⟨bf, 0, none⟩)] w fun e w' => e = .returned (.bool (decide (s.f ≤ f) && decide (f ≤ s.t - a.l))) ∧ Below w.heap.size w w' := by
  have hw := below_alloc2 (Below.refl w.heap.size w) (.cells #[.int .i64 s.f, .int .i64 s.t] 57)
  have c0 : World.cell? w ⟨bo, 0, none⟩ = some (.int .i64 a.l) := ho.cell 0
  have c1 : World.cell? w ⟨bf, 0, none⟩ = some (.int .i64 f) := hf.cell 0
  have l0 := ho.lt
  have l1 := hf.lt
  obtain ⟨h1, h2, h3, h4⟩ := hs
  have g1 : IntKind.i64.wrap (s.t - a.l) = s.t - a.l := IntWalk.i64_in _ ⟨by omega, by omega⟩
  have C := Lib.hid (fun W => rollFrom_any s.f (s.t - a.l) f W)
  generalize (decide (s.f ≤ f) && decide (f ≤ s.t - a.l)) = r at *
  have HW := Lib.hid hw
  clear ho hf hw
  go_enter Try.func84, Try.ntmps84
  go_wp2_with fail
  refine (C.out _).mono ?_
  rintro e w1 ⟨rfl, rfl⟩
  go_wp2
  go_ret
  exact ⟨rfl, HW.out⟩

set_option maxRecDepth 20000 in
set_option maxHeartbeats 1000000 in
theorem indexSpan_any (a : Ro.A) (n : Int) (u : Value) (f : Int) (bo bf : Nat) (v : Value) (ss : List Bd.S) (w : World) (ho : BlockAt w bo (offA a n u) OffT) (hf : BlockAt w bf #[.int .i64 f] 3) (hl : 1 ≤ a.l ∧ a.l ≤ 300) (hv : Spns w v ss) (hss : ∀ s ∈ ss, Bd.okS s) (hn : ss.length ≤ 1000) :
    Calls Try.prog 99 #[v, .func (.func 84) #[] #[.pointer (some ⟨bo, 0, none⟩), .pointer (some ⟨bf, 0, none⟩)]] w fun e w' => ∃ z : Int, e = .returned (.int .i64 z) ∧ decide (0 ≤ z) = Ro.inS a.l ss f ∧ Below w.heap.size w w' := by
  obtain ⟨va, vc, rfl, hk⟩ := hv
  have HK := Lib.hid hk
  have CC := Lib.hid (fun (s : Bd.S) W (hW : Below w.heap.size w W) hs => fitsAt1_any a n u f bo bf s W (ho.below hW ho.lt) (hf.below hW hf.lt) hl hs)
  have HS := Lib.hid hss
  have HH := Lib.hid (fun j (hj : j < ss.length) h => Ro.inS_hit (l := a.l) (f := f) hj h)
  have HN := Lib.hid (fun h => Ro.inS_none (l := a.l) (ss := ss) (f := f) h)
  clear hk ho hf hss
  generalize Ro.inS a.l ss f = R at *
  go_enter Try.func99, Try.ntmps99
  go_wp2
  go_loopw [8] (fun t wr => ∃ j : Nat, j ≤ ss.length ∧ t = .int .i64 j ∧ Hid ((∀ q (hq : q < ss.length), q < j → (decide (ss[q].f ≤ f) && decide (f ≤ ss[q].t - a.l)) = false) ∧ Below w.heap.size w wr)) (fun t _ => ss.length - (intOf t).toNat)
  case atStart => exact ⟨0, Nat.zero_le _, rfl, Lib.hid ⟨fun j _ h => absurd h (Nat.not_lt_zero _), Below.refl _ _⟩⟩
  case round =>
    obtain ⟨j, hj, rfl, hg⟩ := hrel
    by_cases hlt : j < ss.length
    · obtain ⟨b, off, rfl, hb, hr⟩ := HK.out j hlt
      obtain ⟨c0, c1⟩ := hr.below hg.out.2 hb
      have C1 := Lib.hid (CC.out ss[j] _ hg.out.2 (HS.out _ (List.getElem_mem hlt)))
      have HJ := Lib.hid (HH.out j hlt)
      have HI : Hid ((decide (ss[j].f ≤ f) && decide (f ≤ ss[j].t - a.l)) = false → ∀ q (hq : q < ss.length), q < j + 1 → (decide (ss[q].f ≤ f) && decide (f ≤ ss[q].t - a.l)) = false) := Lib.hid fun h q hq hqj => by
        by_cases e : q = j
        · subst e; exact h
        · exact hg.out.1 q hq (by omega)
      have HG := Lib.hid hg.out.2
      clear hg hr
      generalize hx : (decide (ss[j].f ≤ f) && decide (f ≤ ss[j].t - a.l)) = r at *
      clear hx
      generalize ss[j] = s at *
      go_wp2_with fail
      refine C1.out.mono ?_
      rintro e w1 ⟨rfl, hb1⟩
      have HG1 := Lib.hid (below_step HG.out hb1)
      clear C1 c0 c1 HG hb1
      cases r
      · have HI2 := Lib.hid (HI.out rfl)
        clear HI HJ
        go_wp2
        go_roundw
        case rel => exact ⟨j + 1, by omega, by go_num, Lib.hid ⟨HI2.out, HG1.out⟩⟩
        case measure => simp [intOf]; omega
      · have HJ2 := Lib.hid (HJ.out rfl)
        clear HI HJ
        go_wp2
        go_ret
        exact ⟨(j : Int), rfl, by rw [HJ2.out]; simp, HG1.out⟩
    · obtain rfl : j = ss.length := by omega
      have HL := Lib.hid (HN.out fun q hq => hg.out.1 q hq hq)
      have hw := hg.out.2
      clear hg
      go_wp2
      go_ret
      exact ⟨-1, rfl, by rw [HL.out]; decide, hw⟩

set_option maxRecDepth 20000 in
set_option maxHeartbeats 1000000 in
theorem fitsAt_any (a : Ro.A) (n : Int) (v : Value) (f : Int) (ss : List Bd.S) (w : World) (hl : 1 ≤ a.l ∧ a.l ≤ 300) (hv : Spns w v ss) (hss : ∀ s ∈ ss, Bd.okS s) (hn : ss.length ≤ 1000) :
    Calls Try.prog 66 #[offV a n v, .int .i64 f] w fun e w' => e = .returned (.bool (Ro.inS a.l ss f)) ∧ Below w.heap.size w w' := by
  have CF : ∀ W bo bf, Below w.heap.size w W → BlockAt W bo (offA a n v) OffT → BlockAt W bf #[.int .i64 f] 3 → Calls Try.prog 83 #[v, .func (.func 84) #[] #[.pointer (some ⟨bo, 0, none⟩), .pointer (some ⟨bf, 0, none⟩)]] W fun e w' => e = .returned (.bool (Ro.inS a.l ss f)) ∧ Below W.heap.size W w' := by
    intro W bo bf hW ho hf
    have C := Lib.hid (indexSpan_any a n v f bo bf v ss W ho hf hl (hv.all hW) hss hn)
    obtain ⟨va, vc, rfl, _⟩ := hv
    clear hW ho hf
    generalize Ro.inS a.l ss f = R at *
    go_enter Try.func83, Try.ntmps83
    go_wp2_with fail
    refine C.out.mono ?_
    rintro e w1 ⟨z, rfl, hz, hb1⟩
    have HZ := Lib.hid hz
    clear hz
    go_wp2
    go_ret
    exact ⟨ret_boolD HZ.out, hb1⟩
  obtain ⟨va, vc, rfl, _⟩ := hv
  have b0 := (BlockAt.new w (offA a n (.slice va ss.length vc)) OffT).alloc (.cells #[.int .i64 f] 3)
  have b1 := BlockAt.new (w.alloc (.cells (offA a n (.slice va ss.length vc)) OffT)) #[.int .i64 f] 3
  simp only [World.size_alloc] at b1
  have hw := below_alloc2 (below_alloc2 (Below.refl w.heap.size w) (.cells (offA a n (.slice va ss.length vc)) OffT)) (.cells #[.int .i64 f] 3)
  have CC := Lib.hid (CF _ _ _ hw b0 b1)
  have q7 : World.cell? _ _ = some (.slice va ss.length vc) := b0.cell 7
  have HW := Lib.hid hw
  clear CF hw b0 b1 hss
  generalize Ro.inS a.l ss f = R at *
  go_enter Try.func66, Try.ntmps66
  go_wp2_with fail
  refine CC.out.mono ?_
  rintro e w1 ⟨rfl, hb1⟩
  have HB := Lib.hid (below_step HW.out hb1)
  clear hb1 q7 CC HW
  go_wp2
  go_ret
  exact ⟨rfl, HB.out⟩
end Go.Proofs.Ytilpofmjkcjhdaa
namespace Go.Proofs.Ytilpofmjkcjhdaa
open Go.RowKit

theorem Bd.exp_take_succ {rs : List Bd.R} {k : Nat} (hk : k < rs.length) : Bd.exp (rs.take (k + 1)) = Bd.exp (rs.take k) ++ List.replicate rs[k].l.toNat rs[k].m := by
  rw [List.take_succ_eq_append_getElem hk, Bd.exp_append]
  simp [Bd.exp]
theorem Bd.exp_take_le {rs : List Bd.R} (h : Bd.pos rs) {n : Nat} (hn : Bd.len rs ≤ n) (k : Nat) : (Bd.exp (rs.take k)).length ≤ n := by
  have h1 := Bd.exp_take_len h k
  have h2 : Bd.len (rs.take k) + Bd.len (rs.drop k) = Bd.len rs := by rw [← Bd.len_append, List.take_append_drop]
  have h3 := Bd.len_nonneg (fun r hr => h r (List.mem_of_mem_drop hr) : Bd.pos (rs.drop k))
  omega

set_option maxRecDepth 20000 in
set_option maxHeartbeats 2000000 in
theorem marks_bad (v u : Value) (rs : List Bd.R) (al : List Ro.A) (w : World) (hv : Runs w v rs) (hu : Arts w u al) (hl : rs.length ≤ 1000) (hal : al.length ≤ 1000) (hne : Ro.layE rs al ≠ 0) :
    Calls Try.prog 52 #[v, u] w fun e w' => e = .returned (.tuple #[.slice none 0 0, .int .i64 (Ro.layE rs al)]) ∧ Below w.heap.size w w' := by
  have LN := Lib.hid (fun W (hW : Below w.heap.size w W) => ref_length_any v rs W (hv.all hW) hl)
  have VA := Lib.hid (fun W (hW : Below w.heap.size w W) => rollRefValidate_any u al W (hu.all hW) hal)
  obtain ⟨va, vc, rfl⟩ := hv.form
  obtain ⟨ua, uc, rfl, _⟩ := hu
  have HB := Lib.hid (Below.refl w.heap.size w)
  by_cases h0 : Bd.valE rs = 0
  case neg =>
    rw [Ro.layE_band h0] at hne ⊢
    generalize Bd.valE rs = q at *
    generalize Bd.lenR rs = n at *
    have hd : (q == 0) = false := beq_eq_false_iff_ne.2 h0
    have hd2 : (q != 0) = true := by rw [bne, hd]; rfl
    clear hv VA hne h0
    go_enter Try.func52, Try.ntmps52
    go_wp2_with fail
    refine (LN.out _ HB.out).mono ?_
    rintro e w1 ⟨rfl, hb1⟩
    have H1 := Lib.hid hb1
    clear hb1 HB LN
    go_wp2
    go_ret2
    exact ⟨rfl, H1.out⟩
  rw [h0, Bd.lenR_zero h0] at LN
  by_cases h1 : 300 < Bd.len rs
  case pos =>
    rw [Ro.layE_long h0 h1] at hne ⊢
    generalize Bd.len rs = n at *
    have hd : decide (300 < n) = true := decide_eq_true h1
    clear hv VA hne h0
    go_enter Try.func52, Try.ntmps52
    go_wp2_with fail
    refine (LN.out _ HB.out).mono ?_
    rintro e w1 ⟨rfl, hb1⟩
    have H1 := Lib.hid hb1
    clear hb1 HB LN
    go_wp2
    go_ret2
    exact ⟨rfl, H1.out⟩
  rw [Ro.layE_arts h0 h1] at hne ⊢
  generalize Bd.len rs = n at *
  generalize Ro.valA al = q at *
  have hd0 : decide (300 < n) = false := decide_eq_false h1
  have hd : (q == 0) = false := beq_eq_false_iff_ne.2 hne
  have hd2 : (q != 0) = true := by rw [bne, hd]; rfl
  clear hv hne h0
  go_enter Try.func52, Try.ntmps52
  go_wp2_with fail
  refine (LN.out _ HB.out).mono ?_
  rintro e w1 ⟨rfl, hb1⟩
  have H1 := Lib.hid hb1
  clear hb1 HB LN
  go_wp2_with fail
  refine (VA.out _ H1.out).mono ?_
  rintro e w2 ⟨rfl, hb2⟩
  have H2 := Lib.hid (below_step H1.out hb2)
  clear hb2 H1 VA
  go_wp2
  go_ret2
  exact ⟨rfl, H2.out⟩

set_option maxRecDepth 20000 in
set_option maxHeartbeats 4000000 in
theorem marks_ok (v u : Value) (rs : List Bd.R) (al : List Ro.A) (w : World) (hv : Runs w v rs) (hu : Arts w u al) (hl : rs.length ≤ 1000) (hal : al.length ≤ 1000) (hz : Ro.layE rs al = 0) :
    Calls Try.prog 52 #[v, u] w fun e w' => ∃ mv, e = .returned (.tuple #[mv, .int .i64 0]) ∧ OwnM w.heap.size w' mv (Bd.exp rs) ∧ Below w.heap.size w w' := by
  obtain ⟨hv0, hn, h5, hoks⟩ := Ro.layE_zero.1 hz
  have h0 : Ro.valA al = 0 := by rw [Ro.layE_arts hv0 (by omega)] at hz; exact hz
  have LN := Lib.hid (fun W (hW : Below w.heap.size w W) => ref_length_any v rs W (hv.all hW) hl)
  have VA := Lib.hid (fun W (hW : Below w.heap.size w W) => rollRefValidate_any u al W (hu.all hW) hal)
  rw [hv0, Bd.lenR_zero hv0] at LN
  rw [h0] at VA
  have hpos := Bd.valE_pos hv0
  have EX := Lib.hid (fun k => Bd.exp_take_le hpos (n := 300) (by omega) k)
  have ES := Lib.hid (fun k (hk : k < rs.length) => Bd.exp_take_succ hk)
  have EP := Lib.hid (fun k (hk : k < rs.length) => hpos rs[k] (List.getElem_mem hk))
  obtain ⟨ao, c, rfl, hlk⟩ := hv.look
  obtain ⟨ua, uc, rfl, _⟩ := hu
  obtain ⟨i0, hi, hz0, hz1, hz2⟩ := info_parts infoMark
  have HK := Lib.hid hlk
  have HB := Lib.hid (Below.refl w.heap.size w)
  have EA : Hid (Bd.exp (rs.take rs.length) = Bd.exp rs) := Lib.hid (by rw [List.take_length])
  clear hlk hv hz hv0 h0 hoks hpos
  generalize Bd.len rs = n at *
  generalize Bd.exp rs = ms at *
  have hd0 : decide (300 < n) = false := decide_eq_false (by omega)
  go_enter Try.func52, Try.ntmps52
  go_wp2_with fail
  refine (LN.out _ HB.out).mono ?_
  rintro e w1 ⟨rfl, hb1⟩
  have H1 := Lib.hid hb1
  clear hb1 HB LN
  go_wp2_with fail
  refine (VA.out _ H1.out).mono ?_
  rintro e w2 ⟨rfl, hb2⟩
  have H2 := Lib.hid (below_step H1.out hb2)
  clear hb2 H1 VA
  go_wp2
  go_loopw [9, 10] (fun s t wr => ∃ k : Nat, k ≤ rs.length ∧ t = .int .i64 k ∧ Hid (OwnM w.heap.size wr s (Bd.exp (rs.take k)) ∧ Below w.heap.size w wr)) (fun _ t _ => rs.length - (intOf t).toNat)
  case atStart => exact ⟨0, Nat.zero_le _, rfl, Lib.hid ⟨by rw [List.take_zero]; exact OwnM.nil _ _, H2.out⟩⟩
  case round =>
    obtain ⟨k, hk, rfl, hg⟩ := hrel
    clear H2
    by_cases hlt : k < rs.length
    · obtain ⟨b, off, rfl, hb, hr⟩ := HK.out k hlt
      have hes := ES.out k hlt
      have hx1 := EX.out k
      have hx2 := EX.out (k + 1)
      have hp := EP.out k hlt
      rw [hes, List.length_append, List.length_replicate] at hx2
      have HES := Lib.hid hes
      clear hes
      obtain ⟨xs', hxs⟩ : ∃ x, x = Bd.exp (rs.take (k + 1)) := ⟨_, rfl⟩
      rw [← hxs] at HES
      have HXE := Lib.hid hxs
      clear hxs
      generalize Bd.exp (rs.take k) = xs at *
      have HR := Lib.hid hr
      have HG0 := Lib.hid hg.out
      clear hg hr
      generalize rs[k] = r at *
      go_wp2
      go_loopw [9, 11] (fun s t wx => ∃ j : Nat, (j : Int) ≤ r.l ∧ t = .int .i64 j ∧ Hid (OwnM w.heap.size wx s (xs ++ List.replicate j r.m) ∧ Below w.heap.size w wx)) (fun _ t _ => (r.l - intOf t).toNat)
      case atStart => exact ⟨0, by omega, rfl, Lib.hid (by rw [List.replicate_zero, List.append_nil]; exact HG0.out)⟩
      case round =>
        obtain ⟨j, hj, rfl, hg⟩ := hrel
        clear HG0
        obtain ⟨c0, c1, c2, c3⟩ := HR.out.below hg.out.2 hb
        by_cases hjl : (j : Int) < r.l
        · have hjd : decide ((j : Int) < r.l) = true := decide_eq_true hjl
          have hown := hg.out.1
          have hw := hg.out.2
          have hca := mkC_at wr r.m 71
          have hxl : (xs ++ List.replicate j r.m).length ≤ 300 := by rw [List.length_append, List.length_replicate]; omega
          have HT := Lib.hid (show xs ++ List.replicate (j + 1) r.m = (xs ++ List.replicate j r.m) ++ [r.m] by rw [List.replicate_succ', List.append_assoc])
          have hsz := hw.size
          have hrl : r.l ≤ 300 := by omega
          clear hg hx1 hx2
          generalize xs ++ List.replicate j r.m = ys at *
          go_wp2_with (at_builtin; refine wpList_append_own _ rfl _ _ 93 rfl w.heap.size 71 i0 (.agg #[.int .i64 0, .int .i64 0, .int .i64 0]) 3 24 Try.underlying93 hi hz0 hz1 hz2 rfl (by decide) _ _ _ rfl (hown.alloc _) ⟨wr.heap.size, 0, none⟩ 1 1 (mkC r.m) rfl rfl hca (mkC_one _) (by unfold maxLen; omega) (by omega) (by simp; omega) ?_; intro v' w9 hr9 hg9 _; have HN := Lib.hid (And.intro (OwnM.pushed hr9) ((below_alloc2 hw _).grown hg9 (by simp; omega) (fun j e => (World.ownsRow.lt hown j e).1))); clear hown hw hr9 hg9 c0 c1 c2 c3 hca)

          go_wp2
          go_roundw
          case rel => exact ⟨j + 1, by omega, by go_num, Lib.hid ⟨by rw [HT.out]; exact HN.out.1, HN.out.2⟩⟩
          case measure => simp [intOf]; omega
        · have hjd : decide ((j : Int) < r.l) = false := decide_eq_false hjl
          have HN := Lib.hid (show OwnM w.heap.size wr _ xs' ∧ Below w.heap.size w wr from ⟨by rw [HES.out, show r.l.toNat = j by omega]; exact hg.out.1, hg.out.2⟩)
          clear hg
          go_wp2
          go_roundw
          case rel => exact ⟨k + 1, by omega, by go_num, by rw [← HXE.out]; exact HN⟩
          case measure => simp [intOf]; omega
    · obtain rfl : k = rs.length := by omega
      have hown := hg.out.1
      have hw := hg.out.2
      rw [EA.out] at hown
      have HO := Lib.hid hown
      have HW := Lib.hid hw
      clear hg hown hw
      go_wp2
      go_ret2
      exact ⟨_, rfl, HO.out, HW.out⟩
end Go.Proofs.Ytilpofmjkcjhdaa
namespace Go.Proofs.Ytilpofmjkcjhdaa
open Go.RowKit

theorem Ro.fitX_in {ms : List Bd.M} {al : List Ro.A} {k : Nat} (hk : k < al.length) (f : Int) : Ro.fitX ms al ⟨f, k⟩ = Ro.fit ms al[k] f := by
  unfold Ro.fitX
  rw [decide_eq_true (show (0 : Int) ≤ k by omega), decide_eq_true (show (k : Int) < al.length by omega)]
  simp [hk]
theorem Ro.fitX_out {ms : List Bd.M} {al : List Ro.A} {x : Ro.X} (h : x.a < 0 ∨ al.length ≤ x.a) : Ro.fitX ms al x = false := by
  unfold Ro.fitX
  rcases h with h | h
  · rw [decide_eq_false (by omega : ¬ 0 ≤ x.a)]; rfl
  · rw [decide_eq_false (by omega : ¬ x.a < al.length)]; simp
theorem Ro.fit_out {ms : List Bd.M} {a : Ro.A} {f : Int} (h : f < 0 ∨ (ms.length : Int) - a.l < f) : Ro.fit ms a f = false := by
  apply Bool.eq_false_iff.2
  intro hc
  have := Ro.fit_iff.1 hc
  omega
theorem Ro.fit_miss {ms : List Bd.M} {a : Ro.A} {f : Nat} {j : Nat} (hj : (j : Int) < a.l) (hm : f + j < ms.length) (h : Bd.holds a.la a.mo a.sh a.fl ms[f + j] = false) : Ro.fit ms a f = false := by
  apply Bool.eq_false_iff.2
  intro hc
  have := (Ro.fit_iff.1 hc).2.2 j hj
  rw [Int.toNat_natCast] at this
  unfold Ro.hd Ro.mk at this
  rw [List.getD_eq_getElem?_getD, List.getElem?_eq_getElem hm, Option.getD_some, h] at this
  cases this
theorem Ro.fit_all {ms : List Bd.M} {a : Ro.A} {f : Nat} (hl : (f : Int) + a.l ≤ ms.length) (h : ∀ j : Nat, (j : Int) < a.l → ∀ hm : f + j < ms.length, Bd.holds a.la a.mo a.sh a.fl ms[f + j] = true) : Ro.fit ms a f = true := by
  refine Ro.fit_iff.2 ⟨by omega, hl, fun j hj => ?_⟩
  have hm : f + j < ms.length := by omega
  rw [Int.toNat_natCast]
  unfold Ro.hd Ro.mk
  rw [List.getD_eq_getElem?_getD, List.getElem?_eq_getElem hm, Option.getD_some]
  exact h j hj hm
abbrev PcT : TypeId := 25
def FitS (bx : Nat) (x : Ro.X) (b off : Nat) (a : Ro.A) (mb mo : Nat) (m : Bd.M) (W : World) : Prop := (BlockAt W bx #[.int .i64 x.f, .int .i64 x.a] PcT ∧ ArtAt W b off a ∧ MkAt W mb mo m) ∧ b < W.heap.size ∧ mb < W.heap.size
theorem FitS.below {bx : Nat} {x : Ro.X} {b off : Nat} {a : Ro.A} {mb mo : Nat} {m : Bd.M} {W W2 : World} (h : FitS bx x b off a mb mo m W) (hb : Below W.heap.size W W2) : FitS bx x b off a mb mo m W2 :=
  ⟨⟨h.1.1.below hb h.1.1.lt, h.1.2.1.below hb h.2.1, h.1.2.2.below hb h.2.2⟩, Nat.lt_of_lt_of_le h.2.1 hb.size, Nat.lt_of_lt_of_le h.2.2 hb.size⟩
theorem BlockAt.drew {W : World} {B : Nat} {cs : Array Value} {t : TypeId} (h : BlockAt W B cs t) : BlockAt W.drew B cs t := h

set_option maxRecDepth 20000 in
set_option maxHeartbeats 4000000 in
theorem refFits_any (mv av : Value) (ms : List Bd.M) (al : List Ro.A) (x : Ro.X) (w : World) (hm : Mks w mv ms) (ha : Arts w av al) (hok : Ro.okAs al) (hml : ms.length ≤ 300) (_hal : al.length ≤ 5) :
    Calls Try.prog 53 #[mv, av, pcV x] w fun e w' => e = .returned (.bool (Ro.fitX ms al x)) ∧ Below w.heap.size w w' := by
  obtain ⟨va, vc, rfl, hmk⟩ := hm
  obtain ⟨ua, uc, rfl, hak⟩ := ha
  obtain ⟨f, n⟩ := x
  have b0 := BlockAt.new w #[.int .i64 f, .int .i64 n] PcT
  have hw := below_alloc2 (Below.refl w.heap.size w) (.cells #[.int .i64 f, .int .i64 n] PcT)
  have HB := Lib.hid (And.intro b0 hw)
  have HM := Lib.hid hmk
  have HA := Lib.hid hak
  clear hmk hak b0 hw
  try dsimp only
  by_cases h1 : n < 0
  case pos =>
    have HE := Lib.hid (Ro.fitX_out (ms := ms) (al := al) (x := ⟨f, n⟩) (.inl h1))
    have hd1 : decide (n < 0) = true := decide_eq_true h1
    generalize Ro.fitX ms al ⟨f, n⟩ = r at *
    clear h1 hok
    go_enter Try.func53, Try.ntmps53
    go_wp2_with fail
    refine wp_region_seq [(0, true), (1, true), (2, true), (3, true), (4, true), (5, true), (6, true), (7, true), (8, true), (9, true), (10, true), (11, true), (12, true), (13, true), (14, true), (15, true), (16, true), (17, true), (18, true), (19, true), (20, true), (21, true), (22, true), (23, true), (24, true), (25, true), (26, true), (27, true), (28, true)] (fun W => W.cell? ⟨w.heap.size, 0, none⟩ = some (.int .i64 f) ∧ W.cell? ⟨w.heap.size, 1, none⟩ = some (.int .i64 n))
      (by kernel_rfl) (by kernel_rfl) (by kernel_rfl) (by kernel_rfl) (fun d _ _ _ _ h => by cases d <;> exact h) (⟨HB.out.1.cell 0, HB.out.1.cell 1⟩) (fun _ => ?_)
    repeat (first
      | (refine SeqH.take (v := ?_) rfl (by rfl) ?_ ?_; rotate_left; (· intro w hSw; (try dsimp only at hSw); obtain ⟨q0, q1⟩ := hSw; go_simp; (try with_reducible rfl)); simp only [Act.put, List.setIfInBounds_toArray, List.set_cons_zero, List.set_cons_succ])
      | (refine SeqH.skip rfl (by rfl) ?_; simp only [Act.put, List.setIfInBounds_toArray, List.set_cons_zero, List.set_cons_succ]))
    refine SeqH.done ?_
    go_wp2
    go_ret
    exact ⟨by rw [HE.out]; rfl, below_drewN HB.out.2 1⟩
  have hd1 : decide (n < 0) = false := decide_eq_false h1
  by_cases h2 : (al.length : Int) ≤ n
  case pos =>
    have HE := Lib.hid (Ro.fitX_out (ms := ms) (al := al) (x := ⟨f, n⟩) (.inr h2))
    have hd2 : decide ((al.length : Int) ≤ n) = true := decide_eq_true h2
    generalize Ro.fitX ms al ⟨f, n⟩ = r at *
    clear h1 h2 hok
    go_enter Try.func53, Try.ntmps53
    go_wp2_with fail
    refine wp_region_seq [(0, true), (1, true), (2, true), (3, true), (4, true), (5, true), (6, true), (7, true), (8, true), (9, true), (10, true), (11, true), (12, true), (13, true), (14, true), (15, true), (16, true), (17, true), (18, true), (19, true), (20, true), (21, true), (22, true), (23, true), (24, true), (25, true), (26, true), (27, true), (28, true)] (fun W => W.cell? ⟨w.heap.size, 0, none⟩ = some (.int .i64 f) ∧ W.cell? ⟨w.heap.size, 1, none⟩ = some (.int .i64 n))
      (by kernel_rfl) (by kernel_rfl) (by kernel_rfl) (by kernel_rfl) (fun d _ _ _ _ h => by cases d <;> exact h) (⟨HB.out.1.cell 0, HB.out.1.cell 1⟩) (fun _ => ?_)
    repeat (first
      | (refine SeqH.take (v := ?_) rfl (by rfl) ?_ ?_; rotate_left; (· intro w hSw; (try dsimp only at hSw); obtain ⟨q0, q1⟩ := hSw; go_simp; (try with_reducible rfl)); simp only [Act.put, List.setIfInBounds_toArray, List.set_cons_zero, List.set_cons_succ])
      | (refine SeqH.skip rfl (by rfl) ?_; simp only [Act.put, List.setIfInBounds_toArray, List.set_cons_zero, List.set_cons_succ]))
    refine SeqH.done ?_
    go_wp2
    go_ret
    exact ⟨by rw [HE.out]; rfl, below_drewN HB.out.2 1⟩
  obtain ⟨k, rfl⟩ : ∃ k : Nat, n = k := ⟨n.toNat, by omega⟩
  have hk : k < al.length := by omega
  have hd2 : decide ((al.length : Int) ≤ (k : Int)) = false := decide_eq_false h2
  have hd2' : decide (al.length ≤ k) = false := decide_eq_false (by omega)
  obtain ⟨b, off, rfl, hb, hr⟩ := HA.out k hk
  have hla := Ro.okA_iff.1 (hok _ (List.getElem_mem hk))
  rw [Ro.fitX_in hk]
  have HR := Lib.hid hr
  clear HA hr hok h1 h2
  generalize al[k] = a at *
  have HA := Lib.hid (HR.out.below HB.out.2 hb)
  have hla1 := hla.1.1
  have hla2 := hla.1.2
  clear hla
  by_cases h3 : f < 0
  case pos =>
    have HE := Lib.hid (Ro.fit_out (ms := ms) (a := a) (.inl h3))
    have hd3 : decide (f < 0) = true := decide_eq_true h3
    generalize Ro.fit ms a f = r at *
    clear h3
    go_enter Try.func53, Try.ntmps53
    go_wp2_with fail
    refine wp_region_seq [(0, true), (1, true), (2, true), (3, true), (4, true), (5, true), (6, true), (7, true), (8, true), (9, true), (10, true), (11, true), (12, true), (13, true), (14, true), (15, true), (16, true), (17, true), (18, true), (19, true), (20, true), (21, true), (22, true), (23, true), (24, true), (25, true), (26, true), (27, true), (28, true)] (fun W => (W.cell? ⟨w.heap.size, 0, none⟩ = some (.int .i64 f) ∧ W.cell? ⟨w.heap.size, 1, none⟩ = some (.int .i64 k)) ∧ ArtAt W b (off + k * 6) a)
      (by kernel_rfl) (by kernel_rfl) (by kernel_rfl) (by kernel_rfl) (fun d _ _ _ _ h => by cases d <;> exact h) (⟨⟨HB.out.1.cell 0, HB.out.1.cell 1⟩, HA.out⟩) (fun _ => ?_)
    repeat (first
      | (refine SeqH.take (v := ?_) rfl (by rfl) ?_ ?_; rotate_left; (· intro w hSw; (try dsimp only at hSw); obtain ⟨⟨q0, q1⟩, c0, c1, c2, c3, c4, c5⟩ := hSw; go_simp; (try with_reducible rfl)); simp only [Act.put, List.setIfInBounds_toArray, List.set_cons_zero, List.set_cons_succ])
      | (refine SeqH.skip rfl (by rfl) ?_; simp only [Act.put, List.setIfInBounds_toArray, List.set_cons_zero, List.set_cons_succ]))
    refine SeqH.done ?_
    go_wp2
    go_ret
    exact ⟨by rw [HE.out]; rfl, below_drewN HB.out.2 1⟩
  have hd3 : decide (f < 0) = false := decide_eq_false h3
  have hwr : IntKind.i64.wrap ((ms.length : Int) - a.l) = (ms.length : Int) - a.l := IntWalk.i64_in _ ⟨by omega, by omega⟩
  by_cases h4 : (ms.length : Int) - a.l < f
  case pos =>
    have HE := Lib.hid (Ro.fit_out (ms := ms) (a := a) (.inr h4))
    have hd4 : decide ((ms.length : Int) - a.l < f) = true := decide_eq_true h4
    generalize Ro.fit ms a f = r at *
    clear h3 h4
    go_enter Try.func53, Try.ntmps53
    go_wp2_with fail
    refine wp_region_seq [(0, true), (1, true), (2, true), (3, true), (4, true), (5, true), (6, true), (7, true), (8, true), (9, true), (10, true), (11, true), (12, true), (13, true), (14, true), (15, true), (16, true), (17, true), (18, true), (19, true), (20, true), (21, true), (22, true), (23, true), (24, true), (25, true), (26, true), (27, true), (28, true)] (fun W => (W.cell? ⟨w.heap.size, 0, none⟩ = some (.int .i64 f) ∧ W.cell? ⟨w.heap.size, 1, none⟩ = some (.int .i64 k)) ∧ ArtAt W b (off + k * 6) a)
      (by kernel_rfl) (by kernel_rfl) (by kernel_rfl) (by kernel_rfl) (fun d _ _ _ _ h => by cases d <;> exact h) (⟨⟨HB.out.1.cell 0, HB.out.1.cell 1⟩, HA.out⟩) (fun _ => ?_)
    repeat (first
      | (refine SeqH.take (v := ?_) rfl (by rfl) ?_ ?_; rotate_left; (· intro w hSw; (try dsimp only at hSw); obtain ⟨⟨q0, q1⟩, c0, c1, c2, c3, c4, c5⟩ := hSw; go_simp; (try with_reducible rfl)); simp only [Act.put, List.setIfInBounds_toArray, List.set_cons_zero, List.set_cons_succ])
      | (refine SeqH.skip rfl (by rfl) ?_; simp only [Act.put, List.setIfInBounds_toArray, List.set_cons_zero, List.set_cons_succ]))
    refine SeqH.done ?_
    go_wp2
    go_ret
    exact ⟨by rw [HE.out]; rfl, below_drewN HB.out.2 1⟩
  have hd4 : decide ((ms.length : Int) - a.l < f) = false := decide_eq_false h4
  obtain ⟨g, rfl⟩ : ∃ g : Nat, f = g := ⟨f.toNat, by omega⟩
  have HMISS := Lib.hid (fun j hj hm h => Ro.fit_miss (ms := ms) (a := a) (f := g) (j := j) hj hm h)
  have HALL := Lib.hid (fun h => Ro.fit_all (ms := ms) (a := a) (f := g) (by omega) h)
  have hgl : (g : Int) + a.l ≤ ms.length := by omega
  generalize Ro.fit ms a g = r at *
  clear h3 h4
  go_enter Try.func53, Try.ntmps53
  go_wp2_with fail
  refine wp_region_seq [(0, true), (1, true), (2, true), (3, true), (4, true), (5, true), (6, true), (7, true), (8, true), (9, true), (10, true), (11, true), (12, true), (13, true), (14, true), (15, true), (16, true), (17, true), (18, true), (19, true), (20, true), (21, true), (22, true), (23, true), (24, true), (25, true), (26, true), (27, true), (28, true)] (fun W => (W.cell? ⟨w.heap.size, 0, none⟩ = some (.int .i64 g) ∧ W.cell? ⟨w.heap.size, 1, none⟩ = some (.int .i64 k)) ∧ ArtAt W b (off + k * 6) a)
    (by kernel_rfl) (by kernel_rfl) (by kernel_rfl) (by kernel_rfl) (fun d _ _ _ _ h => by cases d <;> exact h) (⟨⟨HB.out.1.cell 0, HB.out.1.cell 1⟩, HA.out⟩) (fun _ => ?_)
  repeat (first
    | (refine SeqH.take (v := ?_) rfl (by rfl) ?_ ?_; rotate_left; (· intro w hSw; (try dsimp only at hSw); obtain ⟨⟨q0, q1⟩, c0, c1, c2, c3, c4, c5⟩ := hSw; go_simp; (try with_reducible rfl)); simp only [Act.put, List.setIfInBounds_toArray, List.set_cons_zero, List.set_cons_succ])
    | (refine SeqH.skip rfl (by rfl) ?_; simp only [Act.put, List.setIfInBounds_toArray, List.set_cons_zero, List.set_cons_succ]))
  refine SeqH.done ?_
  go_wp2
  clear hd1 hd2 hd2' hd3 hd4 hwr
  go_loopw [7] (fun t wr => ∃ j : Nat, (j : Int) ≤ a.l ∧ t = .int .i64 j ∧ Hid ((∀ i : Nat, i < j → ∀ hm : g + i < ms.length, Bd.holds a.la a.mo a.sh a.fl ms[g + i] = true) ∧ BlockAt wr w.heap.size #[.int .i64 g, .int .i64 k] PcT ∧ Below w.heap.size w wr)) (fun t _ => (a.l - intOf t).toNat)
  case atStart => exact ⟨0, by omega, rfl, Lib.hid ⟨fun i h => absurd h (Nat.not_lt_zero _), HB.out.1, below_drewN HB.out.2 1⟩⟩
  case round =>
    obtain ⟨j, hj, rfl, hg⟩ := hrel
    clear HB HA
    obtain ⟨c0, _, _, _, _, _⟩ := HR.out.below hg.out.2.2 hb
    have q0 : World.cell? _ _ = some (.int .i64 (g : Int)) := hg.out.2.1.cell 0
    have q1 : World.cell? _ _ = some (.int .i64 (k : Int)) := hg.out.2.1.cell 1
    by_cases hjl : (j : Int) < a.l
    · have hjd : decide ((j : Int) < a.l) = true := decide_eq_true hjl
      obtain ⟨p, hp⟩ : ∃ p, p = g + j := ⟨_, rfl⟩
      have hm : p < ms.length := by omega
      obtain ⟨mb, mo, rfl, hmb, hmr⟩ := HM.out p hm
      have HI : Hid (Bd.holds a.la a.mo a.sh a.fl ms[p] = true → ∀ i : Nat, i < j + 1 → ∀ hm : g + i < ms.length, Bd.holds a.la a.mo a.sh a.fl ms[g + i] = true) := Lib.hid fun h i hi hm => by
        by_cases e : i = j
        · subst e; subst hp; exact h
        · exact hg.out.1 i (by omega) hm
      have HMJ : Hid (Bd.holds a.la a.mo a.sh a.fl ms[p] = false → r = false) := Lib.hid (by subst hp; exact HMISS.out j hjl hm)
      have HG := Lib.hid hg.out.2
      have HS0 : Hid (FitS w.heap.size ⟨g, k⟩ b (off + k * 6) a mb (mo + p * 3) ms[p] wr.drew) := Lib.hid ⟨⟨hg.out.2.1, HR.out.below (below_drewN hg.out.2.2 1) hb, hmr.below (below_drewN hg.out.2.2 1) hmb⟩, Nat.lt_of_lt_of_le hb hg.out.2.2.size, Nat.lt_of_lt_of_le hmb hg.out.2.2.size⟩
      have HC := Lib.hid (fun W => ref_holds_any a.la a.mo a.sh a.fl ms[p] W)
      have hws : IntKind.i64.wrap ((g : Int) + (j : Int)) = (p : Int) := by rw [IntWalk.i64_in _ ⟨by omega, by omega⟩]; omega
      clear hg hmr hp
      generalize Bd.holds a.la a.mo a.sh a.fl ms[p] = hh at *
      generalize ms[p] = m at *
      go_upto_region 6 with fail
      clear c0 q0 q1
      refine wp_region_seq [(0, true), (1, true), (2, true), (3, true), (4, true), (5, true), (6, true), (7, true), (8, true), (9, true), (10, true), (11, true), (12, true), (13, false), (14, true)] (fun W => FitS w.heap.size ⟨g, k⟩ b (off + k * 6) a mb (mo + p * 3) m W)
        (by kernel_rfl) (by kernel_rfl) (by kernel_rfl) (by kernel_rfl) (fun d _ _ _ _ h => by cases d <;> exact h) HS0.out (fun _ => ?_)
      repeat (first
        | (refine SeqH.take (v := ?_) rfl (by rfl) ?_ ?_; rotate_left; (· intro w hSw; (try dsimp only at hSw); obtain ⟨⟨hbx, ⟨c0, c1, c2, c3, c4, c5⟩, d0, d1, d2⟩, _, _⟩ := hSw; have q0 := (hbx.cell 0).trans rfl; have q1 := (hbx.cell 1).trans rfl; go_simp; (try with_reducible rfl)); simp only [Act.put, List.setIfInBounds_toArray, List.set_cons_zero, List.set_cons_succ]))
      refine SeqH.step rfl (by rfl) (fun K hK => ?_)
      go_simp
      go_at_call 77
      refine (HC.out _).mono ?_
      rintro e w3 ⟨rfl, hb3⟩
      try dsimp only
      refine hK.out _ _ (HS0.out.below hb3) (fun _ => ?_)
      clear hK K
      have HG3 := Lib.hid (And.intro (HG.out.1.drew.below hb3 HG.out.1.drew.lt) (below_step (below_drewN HG.out.2 1) hb3))
      clear hb3 HS0 HG
      try simp only [Act.put, List.setIfInBounds_toArray, List.set_cons_zero, List.set_cons_succ]
      repeat (first
        | (refine SeqH.take (v := ?_) rfl (by rfl) ?_ ?_; rotate_left; (· intro w _; go_simp; (try with_reducible rfl)); simp only [Act.put, List.setIfInBounds_toArray, List.set_cons_zero, List.set_cons_succ]))
      refine SeqH.done ?_
      cases hh
      · have HE := Lib.hid (HMJ.out rfl)
        clear HMJ HI
        go_wp2
        go_ret
        exact ⟨by rw [HE.out]; rfl, HG3.out.2⟩
      · have HI2 := Lib.hid (HI.out rfl)
        clear HMJ HI
        go_wp2
        go_roundw
        case rel => exact ⟨j + 1, by omega, by go_num, Lib.hid ⟨HI2.out, HG3.out⟩⟩
        case measure => simp [intOf]; omega
    · have hjd : decide ((j : Int) < a.l) = false := decide_eq_false hjl
      have HE := Lib.hid (HALL.out fun i hi hm => hg.out.1 i (by omega) hm)
      have HW := Lib.hid hg.out.2.2
      clear hg
      go_wp2
      go_ret
      exact ⟨by rw [HE.out]; rfl, HW.out⟩
end Go.Proofs.Ytilpofmjkcjhdaa
namespace Go.Proofs.Ytilpofmjkcjhdaa
open Go.RowKit

abbrev tabA (bv : Value) (n : Int) (ov : Value) : Array Value := #[bv, .int .i64 n, ov]
set_option maxRecDepth 20000 in
set_option maxHeartbeats 1000000 in
theorem has_any (bv : Value) (n : Int) (oa : Option Addr) (m oc : Nat) (x : Int) (w : World) (hm : m ≤ 1000) :
    Calls Try.prog 56 #[tabV bv n (.slice oa m oc), .int .i64 x] w fun e w' => e = .returned (.bool (decide (0 ≤ x) && decide (x < m))) ∧ Below w.heap.size w w' := by
  have hw := below_alloc2 (Below.refl w.heap.size w) (.cells (tabA bv n (.slice oa m oc)) TabT)
  have c2 : World.cell? (w.alloc (.cells (tabA bv n (.slice oa m oc)) TabT)) ⟨w.heap.size, 2, none⟩ = some (.slice oa m oc) := (BlockAt.new w (tabA bv n (.slice oa m oc)) TabT).cell 2
  have hwr : IntKind.i64.wrap ((m : Int) - 1) = (m : Int) - 1 := IntWalk.i64_in _ ⟨by omega, by omega⟩
  have C := Lib.hid (fun W => rollFrom_any 0 ((m : Int) - 1) x W)
  rw [show decide (x ≤ (m : Int) - 1) = decide (x < m) from decide_eq_decide.2 (by omega)] at C
  generalize (decide (0 ≤ x) && decide (x < (m : Int))) = r at *
  have HW := Lib.hid hw
  clear hw
  go_enter Try.func56, Try.ntmps56
  go_wp2_with fail
  refine (C.out _).mono ?_
  rintro e w1 ⟨rfl, rfl⟩
  go_wp2
  go_ret
  exact ⟨rfl, HW.out⟩
/-- What the table tells of a piece. -/
def TfS (bt : Nat) (bv : Value) (n : Int) (ov : Value) (bx : Nat) (x : Ro.X) (W : World) : Prop := BlockAt W bt (tabA bv n ov) TabT ∧ BlockAt W bx #[.int .i64 x.f, .int .i64 x.a] PcT
theorem TfS.below {bt : Nat} {bv : Value} {n : Int} {ov : Value} {bx : Nat} {x : Ro.X} {W W2 : World} (h : TfS bt bv n ov bx x W) (hb : Below W.heap.size W W2) : TfS bt bv n ov bx x W2 := ⟨h.1.below hb h.1.lt, h.2.below hb h.2.lt⟩
theorem TfS.drew {bt : Nat} {bv : Value} {n : Int} {ov : Value} {bx : Nat} {x : Ro.X} {W : World} (h : TfS bt bv n ov bx x W) : TfS bt bv n ov bx x W.drew := h
def TfO (bt : Nat) (bv : Value) (n : Int) (ov : Value) (bx : Nat) (x : Ro.X) (b off : Nat) (a : Ro.A) (k : Nat) (u : Value) (W : World) : Prop := TfS bt bv n ov bx x W ∧ OffAt W b off a k u ∧ b < W.heap.size
theorem TfO.below {bt : Nat} {bv : Value} {n : Int} {ov : Value} {bx : Nat} {x : Ro.X} {b off : Nat} {a : Ro.A} {k : Nat} {u : Value} {W W2 : World} (h : TfO bt bv n ov bx x b off a k u W) (hb : Below W.heap.size W W2) : TfO bt bv n ov bx x b off a k u W2 :=
  ⟨h.1.below hb, h.2.1.below hb h.2.2, Nat.lt_of_lt_of_le h.2.2 hb.size⟩
theorem spaA_ok (rs : List Bd.R) (a : Ro.A) : ∀ s ∈ spaA rs a, Bd.okS s := Bd.spa_ok _ _ _ _ _
theorem spaA_len {rs : List Bd.R} (hf : Bd.fine rs) (a : Ro.A) : (spaA rs a).length ≤ 1000 := Nat.le_trans (Bd.spa_length _ _ _ _ rs) hf.1
theorem spaA_fit {rs : List Bd.R} (hf : Bd.fine rs) {a : Ro.A} (ha : 1 ≤ a.l) (f : Int) : Ro.inS a.l (spaA rs a) f = Ro.fit (Bd.exp rs) a f := Ro.fit_spa hf ha f

set_option maxRecDepth 20000 in
set_option maxHeartbeats 4000000 in
theorem tfits_any (bv ov : Value) (n : Int) (rs : List Bd.R) (al : List Ro.A) (x : Ro.X) (w : World) (ho : Offs w ov rs al) (hf : Bd.fine rs) (hok : Ro.okAs al) (hal : al.length ≤ 5) :
    Calls Try.prog 51 #[tabV bv n ov, pcV x] w fun e w' => e = .returned (.bool (Ro.fitX (Bd.exp rs) al x)) ∧ Below w.heap.size w w' := by
  obtain ⟨oa, oc, rfl, hok2⟩ := ho
  obtain ⟨f, n2⟩ := x
  have b0 := (BlockAt.new w (tabA bv n (.slice oa al.length oc)) TabT).alloc (.cells #[.int .i64 f, .int .i64 n2] PcT)
  have b1 := BlockAt.new (w.alloc (.cells (tabA bv n (.slice oa al.length oc)) TabT)) #[.int .i64 f, .int .i64 n2] PcT
  simp only [World.size_alloc] at b1
  have hw := below_alloc2 (below_alloc2 (Below.refl w.heap.size w) (.cells (tabA bv n (.slice oa al.length oc)) TabT)) (.cells #[.int .i64 f, .int .i64 n2] PcT)
  have HB : Hid (TfS w.heap.size bv n (.slice oa al.length oc) (w.heap.size + 1) ⟨f, n2⟩ ((w.alloc (.cells (tabA bv n (.slice oa al.length oc)) TabT)).alloc (.cells #[.int .i64 f, .int .i64 n2] PcT)) ∧ Below w.heap.size w ((w.alloc (.cells (tabA bv n (.slice oa al.length oc)) TabT)).alloc (.cells #[.int .i64 f, .int .i64 n2] PcT))) := Lib.hid ⟨⟨b0, b1⟩, hw⟩
  have HA := Lib.hid hok2
  have CH := Lib.hid (fun W => has_any bv n oa al.length oc n2 W (by omega))
  clear b0 b1 hw hok2
  by_cases h1 : 0 ≤ n2 ∧ n2 < al.length
  case neg =>
    have HE := Lib.hid (Ro.fitX_out (ms := Bd.exp rs) (al := al) (x := ⟨f, n2⟩) (by dsimp only; omega))
    have hh : (decide (0 ≤ n2) && decide (n2 < (al.length : Int))) = false := by
      apply Bool.eq_false_iff.2
      intro hc
      simp only [Bool.and_eq_true, decide_eq_true_eq] at hc
      exact h1 hc
    rw [hh] at CH
    generalize Ro.fitX (Bd.exp rs) al ⟨f, n2⟩ = r at *
    clear hok h1 hh HA
    go_enter Try.func51, Try.ntmps51
    go_upto_region 1 with fail
    refine wp_region_seq [(0, true), (1, true), (2, true), (3, false), (4, true), (5, true), (6, true), (7, true), (8, true), (9, true), (10, true), (11, true), (12, true), (13, false), (14, true), (15, true)] (TfS w.heap.size bv n (.slice oa al.length oc) (w.heap.size + 1) ⟨f, n2⟩)
      (by kernel_rfl) (by kernel_rfl) (by kernel_rfl) (by kernel_rfl) (fun d _ _ _ _ h => by cases d <;> exact h) HB.out.1 (fun _ => ?_)
    repeat (first | (refine SeqH.take (v := ?_) rfl (by rfl) ?_ ?_; rotate_left; (· intro w hSw; (try dsimp only at hSw); obtain ⟨hbt, hbx⟩ := hSw; have t0 := (hbt.cell 0).trans rfl; have t1 := (hbt.cell 1).trans rfl; have t2 := (hbt.cell 2).trans rfl; have x0 := (hbx.cell 0).trans rfl; have x1 := (hbx.cell 1).trans rfl; go_simp; (try with_reducible rfl)); simp only [Act.put, List.setIfInBounds_toArray, List.set_cons_zero, List.set_cons_succ]) | (refine SeqH.skip rfl (by rfl) ?_; simp only [Act.put, List.setIfInBounds_toArray, List.set_cons_zero, List.set_cons_succ]))
    refine SeqH.step rfl (by rfl) (fun K hK => ?_)
    go_simp
    go_at_call 56
    refine (CH.out _).mono ?_
    rintro e w3 ⟨rfl, hb3⟩
    try dsimp only
    have HW := Lib.hid (below_step (below_drewN HB.out.2 1) hb3)
    refine hK.out _ _ (TfS.below (TfS.drew HB.out.1) hb3) (fun _ => ?_)
    clear hK K hb3 HB
    try simp only [Act.put, List.setIfInBounds_toArray, List.set_cons_zero, List.set_cons_succ]
    repeat (first | (refine SeqH.take (v := ?_) rfl (by rfl) ?_ ?_; rotate_left; (· intro w hSw; (try dsimp only at hSw); obtain ⟨hbt, hbx⟩ := hSw; have t0 := (hbt.cell 0).trans rfl; have t1 := (hbt.cell 1).trans rfl; have t2 := (hbt.cell 2).trans rfl; have x0 := (hbx.cell 0).trans rfl; have x1 := (hbx.cell 1).trans rfl; go_simp; (try with_reducible rfl)); simp only [Act.put, List.setIfInBounds_toArray, List.set_cons_zero, List.set_cons_succ]) | (refine SeqH.skip rfl (by rfl) ?_; simp only [Act.put, List.setIfInBounds_toArray, List.set_cons_zero, List.set_cons_succ]))
    refine SeqH.pass rfl (by rfl) ‹_› ?_
    simp only [Act.put, List.setIfInBounds_toArray, List.set_cons_zero, List.set_cons_succ]
    repeat (first | (refine SeqH.take (v := ?_) rfl (by rfl) ?_ ?_; rotate_left; (· intro w hSw; (try dsimp only at hSw); obtain ⟨hbt, hbx⟩ := hSw; have t0 := (hbt.cell 0).trans rfl; have t1 := (hbt.cell 1).trans rfl; have t2 := (hbt.cell 2).trans rfl; have x0 := (hbx.cell 0).trans rfl; have x1 := (hbx.cell 1).trans rfl; go_simp; (try with_reducible rfl)); simp only [Act.put, List.setIfInBounds_toArray, List.set_cons_zero, List.set_cons_succ]) | (refine SeqH.skip rfl (by rfl) ?_; simp only [Act.put, List.setIfInBounds_toArray, List.set_cons_zero, List.set_cons_succ]))
    refine SeqH.done ?_
    go_wp2
    go_ret
    exact ⟨by rw [HE.out]; rfl, HW.out⟩
  obtain ⟨k, rfl⟩ : ∃ k : Nat, n2 = k := ⟨n2.toNat, by omega⟩
  have hk : k < al.length := by omega
  obtain ⟨b, off, u, rfl, hb, hr, hsp⟩ := HA.out k hk
  have hla := Ro.okA_iff.1 (hok _ (List.getElem_mem hk))
  rw [Ro.fitX_in hk]
  have hh : (decide (0 ≤ (k : Int)) && decide ((k : Int) < (al.length : Int))) = true := by
    rw [decide_eq_true h1.1, decide_eq_true h1.2]; rfl
  rw [hh] at CH
  have CF := Lib.hid (fun W (hW : Below w.heap.size w W) => fitsAt_any al[k] (k : Int) u f (spaA rs al[k]) W hla.1 (hsp.all hW) (spaA_ok rs _) (spaA_len hf _))
  rw [spaA_fit hf hla.1.1] at CF
  have HS0 : Hid (TfO w.heap.size bv n (.slice (some ⟨b, off, none⟩) al.length oc) (w.heap.size + 1) ⟨f, k⟩ b (off + k * 8) al[k] k u ((w.alloc (.cells (tabA bv n (.slice (some ⟨b, off, none⟩) al.length oc)) TabT)).alloc (.cells #[.int .i64 f, .int .i64 k] PcT)).drew) :=
    Lib.hid ⟨HB.out.1, hr.below (below_drewN HB.out.2 1) hb, Nat.lt_of_lt_of_le hb HB.out.2.size⟩
  obtain ⟨ua, uc, rfl, hsp2⟩ := hsp
  clear HA hok hsp2 h1 hh hr hf
  generalize Ro.fit (Bd.exp rs) al[k] f = r at *
  generalize (spaA rs al[k]).length = sl at *
  generalize al[k] = a at *
  go_enter Try.func51, Try.ntmps51
  go_upto_region 1 with fail
  refine wp_region_seq [(0, true), (1, true), (2, true), (3, false), (4, true), (5, true), (6, true), (7, true), (8, true), (9, true), (10, true), (11, true), (12, true), (13, false), (14, true), (15, true)] (TfO w.heap.size bv n (.slice (some ⟨b, off, none⟩) al.length oc) (w.heap.size + 1) ⟨f, k⟩ b (off + k * 8) a k (.slice ua sl uc))
    (by kernel_rfl) (by kernel_rfl) (by kernel_rfl) (by kernel_rfl) (fun d _ _ _ _ h => by cases d <;> exact h) HS0.out (fun _ => ?_)
  repeat (first | (refine SeqH.take (v := ?_) rfl (by rfl) ?_ ?_; rotate_left; (· intro w hSw; (try dsimp only at hSw); obtain ⟨⟨hbt, hbx⟩, ⟨⟨c0, c1, c2, c3, c4, c5⟩, c6, c7⟩, _⟩ := hSw; have t0 := (hbt.cell 0).trans rfl; have t1 := (hbt.cell 1).trans rfl; have t2 := (hbt.cell 2).trans rfl; have x0 := (hbx.cell 0).trans rfl; have x1 := (hbx.cell 1).trans rfl; go_simp; (try with_reducible rfl)); simp only [Act.put, List.setIfInBounds_toArray, List.set_cons_zero, List.set_cons_succ]) | (refine SeqH.skip rfl (by rfl) ?_; simp only [Act.put, List.setIfInBounds_toArray, List.set_cons_zero, List.set_cons_succ]))
  refine SeqH.step rfl (by rfl) (fun K hK => ?_)
  go_simp
  go_at_call 56
  refine (CH.out _).mono ?_
  rintro e w3 ⟨rfl, hb3⟩
  try dsimp only
  have HW := Lib.hid (below_step (below_drewN HB.out.2 1) hb3)
  have HS3 := Lib.hid (HS0.out.below hb3)
  refine hK.out _ _ HS3.out (fun _ => ?_)
  clear hK K hb3 HB HS0 CH
  try simp only [Act.put, List.setIfInBounds_toArray, List.set_cons_zero, List.set_cons_succ]
  repeat (first | (refine SeqH.take (v := ?_) rfl (by rfl) ?_ ?_; rotate_left; (· intro w hSw; (try dsimp only at hSw); obtain ⟨⟨hbt, hbx⟩, ⟨⟨c0, c1, c2, c3, c4, c5⟩, c6, c7⟩, _⟩ := hSw; have t0 := (hbt.cell 0).trans rfl; have t1 := (hbt.cell 1).trans rfl; have t2 := (hbt.cell 2).trans rfl; have x0 := (hbx.cell 0).trans rfl; have x1 := (hbx.cell 1).trans rfl; go_simp; (try with_reducible rfl)); simp only [Act.put, List.setIfInBounds_toArray, List.set_cons_zero, List.set_cons_succ]) | (refine SeqH.skip rfl (by rfl) ?_; simp only [Act.put, List.setIfInBounds_toArray, List.set_cons_zero, List.set_cons_succ]))
  refine SeqH.step rfl (by rfl) (fun K hK => ?_)
  go_simp
  go_at_call 66
  refine (CF.out _ HW.out).mono ?_
  rintro e w4 ⟨rfl, hb4⟩
  try dsimp only
  have HW4 := Lib.hid (below_step HW.out hb4)
  refine hK.out _ _ (HS3.out.below hb4) (fun _ => ?_)
  clear hK K hb4 HS3 HW CF
  try simp only [Act.put, List.setIfInBounds_toArray, List.set_cons_zero, List.set_cons_succ]
  repeat (first | (refine SeqH.take (v := ?_) rfl (by rfl) ?_ ?_; rotate_left; (· intro w hSw; (try dsimp only at hSw); obtain ⟨⟨hbt, hbx⟩, ⟨⟨c0, c1, c2, c3, c4, c5⟩, c6, c7⟩, _⟩ := hSw; have t0 := (hbt.cell 0).trans rfl; have t1 := (hbt.cell 1).trans rfl; have t2 := (hbt.cell 2).trans rfl; have x0 := (hbx.cell 0).trans rfl; have x1 := (hbx.cell 1).trans rfl; go_simp; (try with_reducible rfl)); simp only [Act.put, List.setIfInBounds_toArray, List.set_cons_zero, List.set_cons_succ]) | (refine SeqH.skip rfl (by rfl) ?_; simp only [Act.put, List.setIfInBounds_toArray, List.set_cons_zero, List.set_cons_succ]))
  refine SeqH.done ?_
  go_wp2
  go_ret
  exact ⟨rfl, HW4.out⟩
end Go.Proofs.Ytilpofmjkcjhdaa
