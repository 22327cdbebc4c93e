/- FloorMoves returns true, whatever the room, the width, the offset and the way. -/
import Derived.Test.YtpobkdbnldogcaaFlMv2
import Derived.Test.YtpobkdbnldogcaaFlRooms
namespace Go.Proofs.Ytpobkdbnldogcaa
open Go.RowKit

def Fl.shR (d : Int) (r : Fl.R) : Fl.R := ⟨wrap64 (r.x + d), r.y, r.w, r.h⟩
theorem Fl.sh_mv {d : Int} (h0 : 0 ≤ d) (h1 : d ≤ 60) : ∀ {rs : List Fl.R}, (∀ k (hk : k < rs.length), Fl.okR rs[k] = true) → rs.map (Fl.shR d) = rs.map (Fl.mvR d)
  | [], _ => rfl
  | r :: rs, h => by
    have ih := Fl.sh_mv h0 h1 (rs := rs) (fun k hk => h (k + 1) (by simpa using hk))
    obtain ⟨⟨b1, b2, b3, b4⟩, _⟩ := Fl.okR_iff.1 (h 0 (by simp))
    have e : wrap64 (r.x + d) = r.x + d := by
      simp at b1 b2
      unfold wrap64; omega
    rw [List.map_cons, List.map_cons, ih]
    unfold Fl.shR Fl.mvR
    rw [e]
/-- What the law asks once both rooms are valid. -/
theorem Fl.moves {rs : List Fl.R} {ds : List Fl.D} {n o d : Int} (h0 : 0 ≤ d) (h1 : d ≤ 60) (hz : Fl.offE rs ds n o = 0) (hv : Fl.valE (rs.map (Fl.shR d)) [] = 0) :
    Fl.offE (rs.map (Fl.shR d)) [] n ((o + d) % n) = 0 ∧ Fl.stR (rs.map (Fl.shR d)) [] n ((o + d) % n) = (Fl.stR rs ds n o).map (Fl.mvS d) ∧ ∀ k (hk : k < (Fl.stR rs ds n o).length), -20 ≤ (Fl.stR rs ds n o)[k].x ∧ (Fl.stR rs ds n o)[k].x ≤ 59 := by
  obtain ⟨z1, z2, z3⟩ := Fl.offE_zero.1 hz
  have hok := Fl.val_ok z1
  have hok2 := Fl.val_ok hv
  obtain ⟨q, q1, q2, q3⟩ := Fl.off_mv (d := d) (w := n) (o := o) z2.1 z3.1 h0
  have e1 : Fl.offE (rs.map (Fl.shR d)) [] n ((o + d) % n) = 0 := Fl.offE_zero.2 ⟨hv, z2, q2, by omega⟩
  have e2 : Fl.stR rs ds n o = Fl.stL rs n o := if_pos hz
  refine ⟨e1, ?_, fun k hk => ?_⟩
  · rw [show Fl.stR (rs.map (Fl.shR d)) [] n ((o + d) % n) = Fl.stL (rs.map (Fl.shR d)) n ((o + d) % n) from if_pos e1, e2]
    have es := Fl.sh_mv h0 h1 hok
    rw [es] at hok2 ⊢
    exact Fl.stL_mv hok hok2 z2.1 (by omega) q3 h0 q1
  · have hm : (Fl.stR rs ds n o)[k] ∈ Fl.stL rs n o := by rw [← e2]; exact List.getElem_mem hk
    exact Fl.stL_x z2.1 z2.2 z3.1 (by omega) hm
set_option maxRecDepth 100000 in
set_option maxHeartbeats 4000000 in
theorem moves_walk (rv dv : Value) (rs : List Fl.R) (ds : List Fl.D) (n o d : Int) (w : World) (hr : Rects w rv rs) (hd : Doors w dv ds) :
    Calls Try.prog 7 #[roomV rv dv, linesV n o, .int .i64 d] w fun e w' => e = .returned (.bool true) ∧ Below w.heap.size w w' := by
  have HB0 := Lib.hid (show BlockAt ((w.alloc (.cells #[rv, dv] RoomT)).alloc (.cells #[.int .i64 n, .int .i64 o] LinesT)) w.heap.size #[rv, dv] RoomT ∧ BlockAt ((w.alloc (.cells #[rv, dv] RoomT)).alloc (.cells #[.int .i64 n, .int .i64 o] LinesT)) (w.heap.size + 1) #[.int .i64 n, .int .i64 o] LinesT ∧ Below w.heap.size w ((w.alloc (.cells #[rv, dv] RoomT)).alloc (.cells #[.int .i64 n, .int .i64 o] LinesT)) from
    ⟨(BlockAt.new w _ _).alloc _, by have := BlockAt.new (w.alloc (.cells #[rv, dv] RoomT)) #[.int .i64 n, .int .i64 o] LinesT; simpa using this, below_alloc2 (below_alloc2 (Below.refl w.heap.size w) _) _⟩)
  have CM := Lib.hid (many_any rv dv none 0 0 rs ds _ (hr.all HB0.out.2.2) (hd.all HB0.out.2.2))
  have HR := Lib.hid (And.intro hr hd)
  have FS := Lib.hid (fun W => sane_any W)
  obtain ⟨ra, rc, rfl, _, hrk⟩ := id hr
  have HRK := Lib.hid hrk
  obtain ⟨da, dc, rfl⟩ := hd.form
  have x0 : World.cell? _ _ = some (.slice ra rs.length rc) := HB0.out.1.cell 0
  have x1 : World.cell? _ _ = some (.slice da ds.length dc) := HB0.out.1.cell 1
  clear hr hd hrk
  cases hm : manyB rs ds 0
  case true =>
    rw [hm] at CM
    clear hm
    go_enter Try.func7, Try.ntmps7
    go_wp2_with fail
    refine CM.out.mono ?_
    rintro e w1 ⟨rfl, hb1⟩
    have HB1 := Lib.hid (below_step HB0.out.2.2 hb1)
    clear hb1 x0 x1
    go_wp2_with fail
    refine (FS.out _).mono ?_
    rintro e w2 ⟨rfl, hb2⟩
    have HB2 := Lib.hid (below_step HB1.out hb2)
    clear hb2
    go_wp2
    go_ret
    exact ⟨rfl, HB2.out⟩
  rw [hm] at CM
  obtain ⟨hl1, hl2, _⟩ := manyB_no hm
  clear hm
  by_cases hd0 : d < 0
  · go_enter Try.func7, Try.ntmps7
    go_wp2_with fail
    refine CM.out.mono ?_
    rintro e w1 ⟨rfl, hb1⟩
    have HB1 := Lib.hid (below_step HB0.out.2.2 hb1)
    clear hb1 x0 x1
    go_wp2_with fail
    refine (FS.out _).mono ?_
    rintro e w2 ⟨rfl, hb2⟩
    have HB2 := Lib.hid (below_step HB1.out hb2)
    clear hb2
    go_wp2
    go_ret
    exact ⟨rfl, HB2.out⟩
  by_cases hd6 : 60 < d
  · go_enter Try.func7, Try.ntmps7
    go_wp2_with fail
    refine CM.out.mono ?_
    rintro e w1 ⟨rfl, hb1⟩
    have HB1 := Lib.hid (below_step HB0.out.2.2 hb1)
    clear hb1 x0 x1
    go_wp2_with fail
    refine (FS.out _).mono ?_
    rintro e w2 ⟨rfl, hb2⟩
    have HB2 := Lib.hid (below_step HB1.out hb2)
    clear hb2
    go_wp2
    go_ret
    exact ⟨rfl, HB2.out⟩
  obtain ⟨i0, hi, hz0, hz1, hz2⟩ := info_parts infoRect
  have FA := Lib.hid (fun W (hW : Below w.heap.size w W) => stripsF_any _ _ rs ds n o W (HR.out.1.all hW) (HR.out.2.all hW) (by omega) (by omega))
  have HMV := Lib.hid (fun hz hv => Fl.moves (rs := rs) (ds := ds) (n := n) (o := o) (d := d) (by omega) (by omega) hz hv)
  have HLS := Lib.hid (Fl.stR_len rs ds n o)
  have HZE := Lib.hid (Fl.offE_zero (rs := rs) (ds := ds) (w := n) (o := o))
  generalize Fl.offE rs ds n o = E at *
  generalize Fl.stR rs ds n o = LS at *
  go_enter Try.func7, Try.ntmps7
  go_wp2_with fail
  refine CM.out.mono ?_
  rintro e w1 ⟨rfl, hb1⟩
  have HN1 := Lib.hid (And.intro (HB0.out.1.below hb1 HB0.out.1.lt) (And.intro (HB0.out.2.1.below hb1 HB0.out.2.1.lt) (below_step HB0.out.2.2 hb1)))
  clear hb1 x0 x1 CM HB0
  have C := Lib.hid (FA.out _ HN1.out.2.2)
  have x0 : World.cell? _ _ = some (.slice ra rs.length rc) := HN1.out.1.cell 0
  have x1 : World.cell? _ _ = some (.slice da ds.length dc) := HN1.out.1.cell 1
  have y0 : World.cell? _ _ = some (.int .i64 n) := HN1.out.2.1.cell 0
  have y1 : World.cell? _ _ = some (.int .i64 o) := HN1.out.2.1.cell 1
  go_wp2_with fail
  refine C.out.mono ?_
  rintro e w2 ⟨a1, c1, rfl, ho, hb⟩
  have HN2 := Lib.hid (And.intro (HN1.out.1.below hb HN1.out.1.lt) (And.intro (HN1.out.2.1.below hb HN1.out.2.1.lt) (below_step HN1.out.2.2 hb)))
  have HA := Lib.hid (ho.mono HN1.out.2.2.size)
  clear hb x0 x1 y0 y1 HN1 C FA ho
  have HM0 := Lib.hid (And.intro (BlockAt.new w2 #[.slice none 0 0, .slice none 0 0] RoomT) (below_alloc2 (Below.refl w2.heap.size w2) (.cells #[.slice none 0 0, .slice none 0 0] RoomT)))
  go_wp2
  go_loopw [10] (fun t wr => ∃ (k : Nat) (L : List Fl.R) (a : Option Addr) (c : Nat), (k ≤ rs.length ∧ L.length ≤ k) ∧ t = .int .i64 k ∧ Hid (L = (rs.map (Fl.shR d)).take k ∧ OwnR (w2.heap.size + 1) wr (.slice a L.length c) L ∧ BlockAt wr w2.heap.size #[.slice a L.length c, .slice none 0 0] RoomT ∧ Below w2.heap.size w2 wr)) (fun t _ => rs.length - (intOf t).toNat)
  case atStart => exact ⟨0, [], none, 0, ⟨Nat.zero_le _, Nat.le_refl _⟩, rfl, Lib.hid ⟨rfl, OwnG.nil _ _, HM0.out⟩⟩
  case round =>
    obtain ⟨k, L, a, c, ⟨hk, hll⟩, rfl, hg⟩ := hrel
    clear HM0
    by_cases hlt : k < rs.length
    · obtain ⟨b, off, rfl, hb, hcl⟩ := HRK.out k hlt
      have HE := Lib.hid (show (rs.map (Fl.shR d)).take (k + 1) = L ++ [Fl.shR d rs[k]] by rw [List.take_succ_eq_append_getElem (by simpa using hlt), List.getElem_map, hg.out.1])
      have hbw := HN2.out.2.2.size
      obtain ⟨q0, q1, q2, q3⟩ := rect_at ((hcl.below HN2.out.2.2 hb).below hg.out.2.2.2 (by omega))
      have x0 : World.cell? _ _ = some (.slice (some ⟨b, off, none⟩) rs.length rc) := (HN2.out.1.below hg.out.2.2.2 HN2.out.1.lt).cell 0
      have m0 : World.cell? _ _ = some (.slice a L.length c) := hg.out.2.2.1.cell 0
      have hown := hg.out.2.1
      have hBM := hg.out.2.2.1
      have hBl := hBM.lt
      have hBW := hg.out.2.2.2
      have m1 : World.cell? (wr.alloc (.cells #[.int .i64 (wrap64 (rs[k].x + d)), .int .i64 rs[k].y, .int .i64 rs[k].w, .int .i64 rs[k].h] RectT)) ⟨w2.heap.size, 0, none⟩ = some (.slice a L.length c) := (hBM.alloc _).cell 0
      clear hcl hg
      generalize rs[k] = r at *
      have hca := cells_new (cs := rectC (Fl.shR d r)) (wr.alloc (.cells #[.int .i64 (wrap64 (r.x + d)), .int .i64 r.y, .int .i64 r.w, .int .i64 r.h] RectT)) RectT
      simp only [World.size_alloc] at hca
      go_wp2_with (at_builtin; refine wpList_append_own _ rfl _ _ 22 rfl (w2.heap.size + 1) 52 i0 (.agg #[.int .i64 0, .int .i64 0, .int .i64 0, .int .i64 0]) 4 32 Try.underlying22 hi hz0 hz1 hz2 rfl (by decide) _ _ _ rfl ((hown.alloc _).alloc _) ⟨wr.heap.size + 1, 0, none⟩ 1 1 (rectC (Fl.shR d r)) rfl rfl ?p1 (rectC_one _) ?p3 ?p4 ?p5 ?_)
      case p1 => first | exact hca | exact fun j u h => h
      case p3 => unfold maxLen; omega
      case p4 => omega
      case p5 => first | omega | (simp; omega)
      intro v' w9 hr9 hg9 _
      have hw9 := (below_alloc2 (below_alloc2 hBW (.cells (rectA (Fl.shR d r)) RectT)) (.cells (rectA (Fl.shR d r)) RectT)).grown hg9 (by simp; omega) (fun j e => by have := (World.ownsRow.lt hown j e).1; omega)
      have hp9 : OwnR (w2.heap.size + 1) w9 v' (L ++ [Fl.shR d r]) := OwnG.pushed hr9
      have hB9 : BlockAt w9 w2.heap.size #[.slice a L.length c, .slice none 0 0] RoomT := ((hBM.alloc _).alloc _).kept hg9 (BlockAt.not_row hBM (by decide) hown)
      have hl9 : (L ++ [Fl.shR d r]).length ≤ k + 1 := by simp; omega
      have m9 : World.cell? _ _ = some (.slice a L.length c) := hB9.cell 0
      have f9 := hB9.frozen 0
      generalize L ++ [Fl.shR d r] = L2 at *
      obtain ⟨a9, c9, e9⟩ := (hp9.rows rectC_len).form
      subst e9
      have HG9 := Lib.hid (And.intro (hp9.set (Nat.lt_succ_self _) 0 (.slice a9 L2.length c9)) (And.intro (hB9.set 0 (.slice a9 L2.length c9)) (below_set hw9 (Nat.le_refl _) (j := 0) (.slice a9 L2.length c9))))
      clear hown hBM hBW hca hr9 hg9 hw9 hp9 q0 q1 q2 q3 x0 m0 m1
      go_wp2
      go_roundw
      case rel => exact ⟨k + 1, L2, a9, c9, ⟨by omega, hl9⟩, by go_num, Lib.hid ⟨HE.out.symm, HG9.out⟩⟩
      case measure => simp [intOf]; omega
    · have HLk := Lib.hid (show L = rs.map (Fl.shR d) by rw [hg.out.1, List.take_of_length_le (by simp; omega)])
      have hbw := HN2.out.2.2.size
      have HG := Lib.hid hg.out.2
      have x0 : World.cell? _ _ = some (.slice ra rs.length rc) := (HN2.out.1.below hg.out.2.2.2 HN2.out.1.lt).cell 0
      clear hg
      by_cases hE : E = 0
      case neg =>
        have hd1 : (E == 0) = false := beq_eq_false_iff_ne.2 hE
        have hd2 : (E != 0) = true := by rw [bne, hd1]; rfl
        have HB := Lib.hid (below_step HN2.out.2.2 HG.out.2.2)
        clear hE
        go_wp2_with fail
        refine (FS.out _).mono ?_
        rintro e w5 ⟨rfl, hb5⟩
        have HB5 := Lib.hid (below_step HB.out hb5)
        clear hb5
        go_wp2
        go_ret
        exact ⟨rfl, HB5.out⟩
      subst hE
      have hlL : L.length ≤ 20 := by omega
      have HMX := Lib.hid (HMV.out rfl)
      rw [← HLk.out] at HMX
      have HZ := Lib.hid (HZE.out.1 rfl)
      have HOW := Lib.hid (HG.out.1.rows rectC_len)
      have CV := Lib.hid (validate_any (.slice a L.length c) (.slice none 0 0) L [] wr HOW.out (RowsOf.nil _ _ _) (by omega) (by simp))
      have FT := Lib.hid (fun W (hW : Below wr.heap.size wr W) => stripsF_any (.slice a L.length c) (.slice none 0 0) L [] n ((o + d) % n) W (HOW.out.all hW) (RowsOf.nil _ _ _) (by omega) (by simp))
      generalize hVV : Fl.valE L [] = V at *
      clear hVV
      have m0 : World.cell? _ _ = some (.slice a L.length c) := HG.out.2.1.cell 0
      have m1 : World.cell? _ _ = some (.slice none 0 0) := HG.out.2.1.cell 1
      clear HMV HLk HZE
      go_wp2_with fail
      refine CV.out.mono ?_
      rintro e w5 ⟨rfl, hb5⟩
      have HW5 := Lib.hid (And.intro (HG.out.2.1.below hb5 HG.out.2.1.lt) (And.intro ((HN2.out.2.1.below HG.out.2.2 HN2.out.2.1.lt).below hb5 (Nat.lt_of_lt_of_le HN2.out.2.1.lt HG.out.2.2.size)) (And.intro (below_step HG.out.2.2 hb5) (And.intro hb5 (below_step (below_step HN2.out.2.2 HG.out.2.2) hb5)))))
      clear hb5 CV m0 m1 x0 HG
      by_cases hV : V = 0
      case neg =>
        have hd1 : (V == 0) = false := beq_eq_false_iff_ne.2 hV
        have hd2 : (V != 0) = true := by rw [bne, hd1]; rfl
        clear hV
        go_wp2_with fail
        refine (FS.out _).mono ?_
        rintro e w6 ⟨rfl, hb6⟩
        have HB6 := Lib.hid (below_step HW5.out.2.2.2.2 hb6)
        clear hb6
        go_wp2
        go_ret
        exact ⟨rfl, HB6.out⟩
      subst hV
      have HT := Lib.hid (HMX.out rfl)
      clear HMX
      have hFT := FT.out
      clear FT
      rw [HT.out.1, HT.out.2.1, List.length_map] at hFT
      have FT := Lib.hid hFT
      clear hFT
      obtain ⟨_, ⟨n1, n2⟩, o1, o2⟩ := HZ.out
      clear HZ
      have hnz : n ≠ 0 := by omega
      have hn0 : (n == 0) = false := beq_eq_false_iff_ne.2 hnz
      have hu0 := Int.emod_nonneg (o + d) hnz
      have hu1 := Int.emod_lt_of_pos (o + d) (show 0 < n by omega)
      have hws : IntKind.i64.wrap (o + d) = o + d := IntWalk.i64_in _ ⟨by omega, by omega⟩
      have htu : Int.tmod (o + d) n = (o + d) % n := Int.tmod_eq_emod_of_nonneg (by omega)
      have hwu : IntKind.i64.wrap ((o + d) % n) = (o + d) % n := IntWalk.i64_in _ ⟨by omega, by omega⟩
      have HS := Lib.hid (And.intro (RmB.of HW5.out.1.drew) (RmB.of HW5.out.2.1.drew))
      have HB := Lib.hid (And.intro (below_drewN HW5.out.2.2.1 1) (And.intro (below_drewN HW5.out.2.2.2.1 1) (below_drewN HW5.out.2.2.2.2 1)))
      clear HW5
      go_upto_region 13 with fail
      refine wp_region_seq [(0, true), (1, true), (2, true), (3, true), (4, true), (5, true), (6, true), (7, true), (8, true), (9, true), (10, false), (11, true), (12, true), (13, true), (14, true), (15, true)] (fun W => RmB w2.heap.size (.slice a L.length c) (.slice none 0 0) W ∧ RmB (w.heap.size + 1) (.int .i64 n) (.int .i64 o) W)
        (by kernel_rfl) (by kernel_rfl) (by kernel_rfl) (by kernel_rfl) (fun d _ _ _ _ h => by cases d <;> exact h) HS.out (fun _ => ?_)
      repeat (first | (refine SeqH.take (v := ?_) rfl (by rfl) ?_ ?_; rotate_left; (· intro w hSw; (try dsimp only at hSw); obtain ⟨⟨⟨b0, b1⟩, _⟩, ⟨⟨s0, s1⟩, _⟩⟩ := hSw; go_simp; (try with_reducible rfl)); simp only [Act.put, List.setIfInBounds_toArray, List.set_cons_zero, List.set_cons_succ]) | (refine SeqH.skip rfl (by rfl) ?_; simp only [Act.put, List.setIfInBounds_toArray, List.set_cons_zero, List.set_cons_succ]))
      refine SeqH.step rfl (by rfl) (fun K hK => ?_)
      go_simp
      go_at_call 23
      refine (FT.out _ HB.out.2.1).mono ?_
      rintro e w7 ⟨a2, c2, rfl, ho2, hb7⟩
      try dsimp only
      refine hK.out _ _ ⟨HS.out.1.below hb7 HS.out.1.2, HS.out.2.below hb7 HS.out.2.2⟩ (fun _ => ?_)
      have HI0 := Lib.hid (MvI.start (L := LS) (d := d) HA.out (show OwnS _ _ (.slice a2 (LS.map (Fl.mvS d)).length c2) (LS.map (Fl.mvS d)) by rw [List.length_map]; exact ho2) (below_step HB.out.1 hb7) HB.out.1.size (below_step HB.out.2.2 hb7))
      clear hK K hb7 HS HB ho2 FT HA
      try simp only [Act.put, List.setIfInBounds_toArray, List.set_cons_zero, List.set_cons_succ]
      repeat (first | (refine SeqH.take (v := ?_) rfl (by rfl) ?_ ?_; rotate_left; (· intro w hSw; (try dsimp only at hSw); obtain ⟨⟨⟨b0, b1⟩, _⟩, ⟨⟨s0, s1⟩, _⟩⟩ := hSw; go_simp; (try with_reducible rfl)); simp only [Act.put, List.setIfInBounds_toArray, List.set_cons_zero, List.set_cons_succ]) | (refine SeqH.skip rfl (by rfl) ?_; simp only [Act.put, List.setIfInBounds_toArray, List.set_cons_zero, List.set_cons_succ]))
      refine SeqH.done ?_
      clear hws htu hwu hu0 hu1 hnz hn0
      go_wp2
      go_loopw [14] (fun t wx => ∃ k : Nat, k ≤ LS.length ∧ t = .int .i64 k ∧ Hid (MvI LS d a1 a2 k w wx)) (fun t _ => LS.length - (intOf t).toNat)
      case atStart => exact ⟨0, Nat.zero_le _, rfl, HI0⟩
      case round =>
        obtain ⟨k2, hk2, rfl, hg⟩ := hrel
        clear HI0
        by_cases hlt2 : k2 < LS.length
        · obtain ⟨g, g2, e1, e2, c0, f0, hn⟩ := hg.out.at hlt2
          subst e1
          subst e2
          obtain ⟨⟨k0, k1, k2'⟩, ⟨j0, j1, j2⟩, hI⟩ := hn _ rfl
          obtain ⟨b1, b2⟩ := HT.out.2.2 k2 hlt2
          have HI := Lib.hid hI
          have hls := HLS.out
          clear hn hI hg HT
          generalize LS[k2] = s at *
          go_wp2
          go_quiet (fail)
          go_wp2
          go_roundw
          case rel => exact ⟨k2 + 1, by omega, by go_num, Lib.hid (HI.out.drew _)⟩
          case measure => simp [intOf]; omega
        · have HB := Lib.hid hg.out.2
          clear hg
          go_wp2_with fail
          refine (FS.out _).mono ?_
          rintro e w9 ⟨rfl, hb9⟩
          have HB9 := Lib.hid (below_step HB.out hb9)
          clear hb9
          go_wp2
          go_ret
          exact ⟨rfl, HB9.out⟩
end Go.Proofs.Ytpobkdbnldogcaa
