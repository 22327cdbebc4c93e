/- Whether an article can be cut at a place: of the reference, place by place. -/
import Derived.Test.YtbmjjmpdlmbehaaRoll3
import Derived.Test.YtbmjjmpdlmbehaaSeq
namespace Go.Proofs.Ytbmjjmpdlmbehaa
open Go.RowKit

theorem Bd.exp_take_succ {rs : List Bd.R} {k : Nat} (hk : k < rs.length) : Bd.exp (rs.take (k + 1)) = Bd.exp (rs.take k) ++ List.replicate rs[k].l.toNat rs[k].m := by
  rw [List.take_succ_eq_append_getElem hk, Bd.exp_append]
  simp [Bd.exp]
theorem Bd.exp_take_le {rs : List Bd.R} (h : Bd.pos rs) {n : Nat} (hn : Bd.len rs ≤ n) (k : Nat) : (Bd.exp (rs.take k)).length ≤ n := by
  have h1 := Bd.exp_take_len h k
  have h2 : Bd.len (rs.take k) + Bd.len (rs.drop k) = Bd.len rs := by rw [← Bd.len_append, List.take_append_drop]
  have h3 := Bd.len_nonneg (fun r hr => h r (List.mem_of_mem_drop hr) : Bd.pos (rs.drop k))
  omega

set_option maxRecDepth 20000 in
set_option maxHeartbeats 2000000 in
theorem marks_bad (v u : Value) (rs : List Bd.R) (al : List Ro.A) (w : World) (hv : Runs w v rs) (hu : Arts w u al) (hl : rs.length ≤ 1000) (hal : al.length ≤ 1000) (hne : Ro.layE rs al ≠ 0) :
    Calls Try.prog 34 #[v, u] w fun e w' => e = .returned (.tuple #[.slice none 0 0, .int .i64 (Ro.layE rs al)]) ∧ Below w.heap.size w w' := by
  have LN := Lib.hid (fun W (hW : Below w.heap.size w W) => ref_length_any v rs W (hv.all hW) hl)
  have VA := Lib.hid (fun W (hW : Below w.heap.size w W) => rollRefValidate_any u al W (hu.all hW) hal)
  obtain ⟨va, vc, rfl⟩ := hv.form
  obtain ⟨ua, uc, rfl, _⟩ := hu
  have HB := Lib.hid (Below.refl w.heap.size w)
  by_cases h0 : Bd.valE rs = 0
  case neg =>
    rw [Ro.layE_band h0] at hne ⊢
    generalize Bd.valE rs = q at *
    generalize Bd.lenR rs = n at *
    have hd : (q == 0) = false := beq_eq_false_iff_ne.2 h0
    have hd2 : (q != 0) = true := by rw [bne, hd]; rfl
    clear hv VA hne h0
    go_enter Try.func34, Try.ntmps34
    go_wp2_with fail
    refine (LN.out _ HB.out).mono ?_
    rintro e w1 ⟨rfl, hb1⟩
    have H1 := Lib.hid hb1
    clear hb1 HB LN
    go_wp2
    go_ret2
    exact ⟨rfl, H1.out⟩
  rw [h0, Bd.lenR_zero h0] at LN
  by_cases h1 : 300 < Bd.len rs
  case pos =>
    rw [Ro.layE_long h0 h1] at hne ⊢
    generalize Bd.len rs = n at *
    have hd : decide (300 < n) = true := decide_eq_true h1
    clear hv VA hne h0
    go_enter Try.func34, Try.ntmps34
    go_wp2_with fail
    refine (LN.out _ HB.out).mono ?_
    rintro e w1 ⟨rfl, hb1⟩
    have H1 := Lib.hid hb1
    clear hb1 HB LN
    go_wp2
    go_ret2
    exact ⟨rfl, H1.out⟩
  rw [Ro.layE_arts h0 h1] at hne ⊢
  generalize Bd.len rs = n at *
  generalize Ro.valA al = q at *
  have hd0 : decide (300 < n) = false := decide_eq_false h1
  have hd : (q == 0) = false := beq_eq_false_iff_ne.2 hne
  have hd2 : (q != 0) = true := by rw [bne, hd]; rfl
  clear hv hne h0
  go_enter Try.func34, Try.ntmps34
  go_wp2_with fail
  refine (LN.out _ HB.out).mono ?_
  rintro e w1 ⟨rfl, hb1⟩
  have H1 := Lib.hid hb1
  clear hb1 HB LN
  go_wp2_with fail
  refine (VA.out _ H1.out).mono ?_
  rintro e w2 ⟨rfl, hb2⟩
  have H2 := Lib.hid (below_step H1.out hb2)
  clear hb2 H1 VA
  go_wp2
  go_ret2
  exact ⟨rfl, H2.out⟩

set_option maxRecDepth 20000 in
set_option maxHeartbeats 4000000 in
theorem marks_ok (v u : Value) (rs : List Bd.R) (al : List Ro.A) (w : World) (hv : Runs w v rs) (hu : Arts w u al) (hl : rs.length ≤ 1000) (hal : al.length ≤ 1000) (hz : Ro.layE rs al = 0) :
    Calls Try.prog 34 #[v, u] w fun e w' => ∃ mv, e = .returned (.tuple #[mv, .int .i64 0]) ∧ OwnM w.heap.size w' mv (Bd.exp rs) ∧ Below w.heap.size w w' := by
  obtain ⟨hv0, hn, h5, hoks⟩ := Ro.layE_zero.1 hz
  have h0 : Ro.valA al = 0 := by rw [Ro.layE_arts hv0 (by omega)] at hz; exact hz
  have LN := Lib.hid (fun W (hW : Below w.heap.size w W) => ref_length_any v rs W (hv.all hW) hl)
  have VA := Lib.hid (fun W (hW : Below w.heap.size w W) => rollRefValidate_any u al W (hu.all hW) hal)
  rw [hv0, Bd.lenR_zero hv0] at LN
  rw [h0] at VA
  have hpos := Bd.valE_pos hv0
  have EX := Lib.hid (fun k => Bd.exp_take_le hpos (n := 300) (by omega) k)
  have ES := Lib.hid (fun k (hk : k < rs.length) => Bd.exp_take_succ hk)
  have EP := Lib.hid (fun k (hk : k < rs.length) => hpos rs[k] (List.getElem_mem hk))
  obtain ⟨ao, c, rfl, hlk⟩ := hv.look
  obtain ⟨ua, uc, rfl, _⟩ := hu
  obtain ⟨i0, hi, hz0, hz1, hz2⟩ := info_parts infoMark
  have HK := Lib.hid hlk
  have HB := Lib.hid (Below.refl w.heap.size w)
  have EA : Hid (Bd.exp (rs.take rs.length) = Bd.exp rs) := Lib.hid (by rw [List.take_length])
  clear hlk hv hz hv0 h0 hoks hpos
  generalize Bd.len rs = n at *
  generalize Bd.exp rs = ms at *
  have hd0 : decide (300 < n) = false := decide_eq_false (by omega)
  go_enter Try.func34, Try.ntmps34
  go_wp2_with fail
  refine (LN.out _ HB.out).mono ?_
  rintro e w1 ⟨rfl, hb1⟩
  have H1 := Lib.hid hb1
  clear hb1 HB LN
  go_wp2_with fail
  refine (VA.out _ H1.out).mono ?_
  rintro e w2 ⟨rfl, hb2⟩
  have H2 := Lib.hid (below_step H1.out hb2)
  clear hb2 H1 VA
  go_wp2
  go_loopw [9, 10] (fun s t wr => ∃ k : Nat, k ≤ rs.length ∧ t = .int .i64 k ∧ Hid (OwnM w.heap.size wr s (Bd.exp (rs.take k)) ∧ Below w.heap.size w wr)) (fun _ t _ => rs.length - (intOf t).toNat)
  case atStart => exact ⟨0, Nat.zero_le _, rfl, Lib.hid ⟨by rw [List.take_zero]; exact OwnM.nil _ _, H2.out⟩⟩
  case round =>
    obtain ⟨k, hk, rfl, hg⟩ := hrel
    clear H2
    by_cases hlt : k < rs.length
    · obtain ⟨b, off, rfl, hb, hr⟩ := HK.out k hlt
      have hes := ES.out k hlt
      have hx1 := EX.out k
      have hx2 := EX.out (k + 1)
      have hp := EP.out k hlt
      rw [hes, List.length_append, List.length_replicate] at hx2
      have HES := Lib.hid hes
      clear hes
      obtain ⟨xs', hxs⟩ : ∃ x, x = Bd.exp (rs.take (k + 1)) := ⟨_, rfl⟩
      rw [← hxs] at HES
      have HXE := Lib.hid hxs
      clear hxs
      generalize Bd.exp (rs.take k) = xs at *
      have HR := Lib.hid hr
      have HG0 := Lib.hid hg.out
      clear hg hr
      generalize rs[k] = r at *
      go_wp2
      go_loopw [9, 11] (fun s t wx => ∃ j : Nat, (j : Int) ≤ r.l ∧ t = .int .i64 j ∧ Hid (OwnM w.heap.size wx s (xs ++ List.replicate j r.m) ∧ Below w.heap.size w wx)) (fun _ t _ => (r.l - intOf t).toNat)
      case atStart => exact ⟨0, by omega, rfl, Lib.hid (by rw [List.replicate_zero, List.append_nil]; exact HG0.out)⟩
      case round =>
        obtain ⟨j, hj, rfl, hg⟩ := hrel
        clear HG0
        obtain ⟨c0, c1, c2, c3⟩ := HR.out.below hg.out.2 hb
        by_cases hjl : (j : Int) < r.l
        · have hjd : decide ((j : Int) < r.l) = true := decide_eq_true hjl
          have hown := hg.out.1
          have hw := hg.out.2
          have hca := mkC_at wr r.m 50
          have hxl : (xs ++ List.replicate j r.m).length ≤ 300 := by rw [List.length_append, List.length_replicate]; omega
          have HT := Lib.hid (show xs ++ List.replicate (j + 1) r.m = (xs ++ List.replicate j r.m) ++ [r.m] by rw [List.replicate_succ', List.append_assoc])
          have hsz := hw.size
          have hrl : r.l ≤ 300 := by omega
          clear hg hx1 hx2
          generalize xs ++ List.replicate j r.m = ys at *
          go_wp2_with (at_builtin; refine wpList_append_own _ rfl _ _ 90 rfl w.heap.size 50 i0 (.agg #[.int .i64 0, .int .i64 0, .int .i64 0]) 3 24 Try.underlying90 hi hz0 hz1 hz2 rfl (by decide) _ _ _ rfl (hown.alloc _) ⟨wr.heap.size, 0, none⟩ 1 1 (mkC r.m) rfl rfl hca (mkC_one _) (by unfold maxLen; omega) (by omega) (by simp; omega) ?_; intro v' w9 hr9 hg9 _; have HN := Lib.hid (And.intro (OwnM.pushed hr9) ((below_alloc2 hw _).grown hg9 (by simp; omega) (fun j e => (World.ownsRow.lt hown j e).1))); clear hown hw hr9 hg9 c0 c1 c2 c3 hca)

          go_wp2
          go_roundw
          case rel => exact ⟨j + 1, by omega, by go_num, Lib.hid ⟨by rw [HT.out]; exact HN.out.1, HN.out.2⟩⟩
          case measure => simp [intOf]; omega
        · have hjd : decide ((j : Int) < r.l) = false := decide_eq_false hjl
          have HN := Lib.hid (show OwnM w.heap.size wr _ xs' ∧ Below w.heap.size w wr from ⟨by rw [HES.out, show r.l.toNat = j by omega]; exact hg.out.1, hg.out.2⟩)
          clear hg
          go_wp2
          go_roundw
          case rel => exact ⟨k + 1, by omega, by go_num, by rw [← HXE.out]; exact HN⟩
          case measure => simp [intOf]; omega
    · obtain rfl : k = rs.length := by omega
      have hown := hg.out.1
      have hw := hg.out.2
      rw [EA.out] at hown
      have HO := Lib.hid hown
      have HW := Lib.hid hw
      clear hg hown hw
      go_wp2
      go_ret2
      exact ⟨_, rfl, HO.out, HW.out⟩
end Go.Proofs.Ytbmjjmpdlmbehaa
