/- Seams and doorways: of the program. -/
import Derived.Test.YtpobkdbnldogcaaFl19
import Derived.Test.YtpobkdbnldogcaaFlN3
namespace Go.Proofs.Ytpobkdbnldogcaa
open Go.RowKit

theorem Fl.jn_split (rs : List Fl.R) (x y : Int) : Fl.jn rs x y = (Fl.hasB rs (x - 1) y && Fl.hasB rs x y) := rfl
set_option maxRecDepth 20000 in
set_option maxHeartbeats 1000000 in
theorem joins_any (rv dv : Value) (rs : List Fl.R) (x y : Int) (w : World) (hv : Rects w rv rs) (hl : rs.length ≤ 1000) (ho : ∀ k (hk : k < rs.length), Fl.okR rs[k] = true) (hx0 : -1000 ≤ x) (hx1 : x ≤ 1000) :
    Calls Try.prog 117 #[roomV rv dv, .int .i64 x, .int .i64 y] w fun e w' => e = .returned (.bool (Fl.jn rs x y)) ∧ Below w.heap.size w w' := by
  have F := Lib.hid (fun x W (hW : Below w.heap.size w W) => has_any rv dv rs x y W (hv.all hW) hl ho)
  have HW := Lib.hid (And.intro (BlockAt.new w #[rv, dv] RoomT) (below_alloc2 (Below.refl w.heap.size w) (.cells #[rv, dv] RoomT)))
  have HE := Lib.hid (Fl.jn_split rs x y)
  obtain ⟨ra, rc, rfl⟩ := hv.form
  have x0 : World.cell? _ _ = some (.slice ra rs.length rc) := HW.out.1.cell 0
  have x1 : World.cell? _ _ = some dv := HW.out.1.cell 1
  generalize Fl.jn rs x y = J at *
  have C1 := Lib.hid (F.out (x - 1) _ HW.out.2)
  have C2 := Lib.hid (F.out x)
  clear hv ho F
  cases h1 : Fl.hasB rs (x - 1) y
  · rw [h1] at C1 HE
    clear h1
    go_enter Try.func117, Try.ntmps117
    go_wp2_with fail
    refine C1.out.mono ?_
    rintro e w1 ⟨rfl, hb⟩
    have HB := Lib.hid (below_step HW.out.2 hb)
    clear hb x0 x1
    go_wp2
    go_ret
    exact ⟨by rw [HE.out]; rfl, HB.out⟩
  · rw [h1] at C1 HE
    clear h1
    generalize Fl.hasB rs x y = b at *
    go_enter Try.func117, Try.ntmps117
    go_wp2_with fail
    refine C1.out.mono ?_
    rintro e w1 ⟨rfl, hb⟩
    have HB := Lib.hid (below_step HW.out.2 hb)
    have bX := HW.out.1.below hb HW.out.1.lt
    have y0 : World.cell? _ _ = some (.slice ra rs.length rc) := bX.cell 0
    have y1 : World.cell? _ _ = some dv := bX.cell 1
    have C := Lib.hid (C2.out _ HB.out)
    clear hb x0 x1 bX
    go_wp2_with fail
    refine C.out.mono ?_
    rintro e w2 ⟨rfl, hb⟩
    have HB2 := Lib.hid (below_step HB.out hb)
    clear hb y0 y1
    go_wp2
    go_ret
    exact ⟨by rw [HE.out]; rfl, HB2.out⟩
set_option maxRecDepth 20000 in
set_option maxHeartbeats 1000000 in
theorem isSeam_any (rv dv : Value) (rs : List Fl.R) (x : Int) (w : World) (hv : Rects w rv rs) (hl : rs.length ≤ 1000) (ho : ∀ k (hk : k < rs.length), Fl.okR rs[k] = true) (hx0 : -1000 ≤ x) (hx1 : x ≤ 1000) :
    Calls Try.prog 115 #[roomV rv dv, .int .i64 x] w fun e w' => e = .returned (.bool (Fl.seam rs x)) ∧ Below w.heap.size w w' := by
  have F := Lib.hid (fun y W (hW : Below w.heap.size w W) => joins_any rv dv rs x y W (hv.all hW) hl ho hx0 hx1)
  have HW := Lib.hid (And.intro (BlockAt.new w #[rv, dv] RoomT) (below_alloc2 (Below.refl w.heap.size w) (.cells #[rv, dv] RoomT)))
  have HY := Lib.hid (fun (y : Nat) hy h => (Fl.seam_iff (rs := rs) (x := x)).2 ⟨y, hy, h⟩)
  have HN := Lib.hid (Fl.seam_no (rs := rs) (x := x))
  obtain ⟨ra, rc, rfl⟩ := hv.form
  generalize Fl.seam rs x = S at *
  clear hv ho
  go_enter Try.func115, Try.ntmps115
  go_wp2
  go_loopw [6] (fun t wr => ∃ y : Nat, y ≤ 60 ∧ t = .int .i64 y ∧ Hid ((∀ y' : Nat, y' < y → Fl.jn rs x y' = false) ∧ BlockAt wr w.heap.size #[.slice ra rs.length rc, dv] RoomT ∧ Below w.heap.size w wr)) (fun t _ => 60 - (intOf t).toNat)
  case atStart => exact ⟨0, Nat.zero_le _, rfl, Lib.hid ⟨fun j h => absurd h (Nat.not_lt_zero _), HW.out⟩⟩
  case round =>
    obtain ⟨y, hy, rfl, hg⟩ := hrel
    clear HW
    by_cases hyl : y < 60
    · have x0 : World.cell? _ _ = some (.slice ra rs.length rc) := hg.out.2.1.cell 0
      have x1 : World.cell? _ _ = some dv := hg.out.2.1.cell 1
      have C := Lib.hid (F.out (y : Int) _ hg.out.2.2)
      have HY1 := Lib.hid (HY.out y hyl)
      have HI : Hid (Fl.jn rs x y = false → ∀ y' : Nat, y' < y + 1 → Fl.jn rs x y' = false) := Lib.hid fun h y' h2 => by
        by_cases e : y' = y
        · subst e; exact h
        · exact hg.out.1 y' (by omega)
      have HG := Lib.hid hg.out.2
      clear hg
      generalize Fl.jn rs x (y : Int) = o at *
      have hoo : o = true ∨ o = false := by cases o <;> simp
      rcases hoo with h | h
      · have HE := Lib.hid (HY1.out h)
        rw [h] at C
        clear h HI HY1
        go_wp2_with fail
        refine C.out.mono ?_
        rintro e w1 ⟨rfl, hb⟩
        have HB := Lib.hid (below_step HG.out.2 hb)
        clear hb x0 x1
        go_wp2
        go_ret
        exact ⟨by rw [HE.out]; rfl, HB.out⟩
      · have HI := Lib.hid (HI.out h)
        rw [h] at C
        clear h HY1
        go_wp2_with fail
        refine C.out.mono ?_
        rintro e w1 ⟨rfl, hb⟩
        have HB := Lib.hid (And.intro (HG.out.1.below hb HG.out.1.lt) (below_step HG.out.2 hb))
        clear hb x0 x1
        go_wp2
        go_roundw
        case rel => exact ⟨y + 1, by omega, by go_num, Lib.hid ⟨HI.out, HB.out⟩⟩
        case measure => simp [intOf]; omega
    · have HE := Lib.hid (HN.out fun y' h => hg.out.1 y' (by omega))
      have HG := Lib.hid hg.out.2.2
      clear hg
      go_wp2
      go_ret
      exact ⟨by rw [HE.out]; rfl, HG.out⟩
theorem OwnI.form {base : Nat} {w : World} {v : Value} {xs : List Int} (h : OwnI base w v xs) : ∃ a c, v = .slice a xs.length c := (OwnG.rows (cs := intL) (fun _ => rfl) h).form
set_option maxRecDepth 20000 in
set_option maxHeartbeats 4000000 in
theorem seams_any (rv dv : Value) (rs : List Fl.R) (n o : Int) (w : World) (hv : Rects w rv rs) (hl : rs.length ≤ 1000) (hok : ∀ k (hk : k < rs.length), Fl.okR rs[k] = true) (hn0 : 1 ≤ n) (hn1 : n ≤ 20) (ho0 : 0 ≤ o) (ho1 : o < n) :
    Calls Try.prog 67 #[roomV rv dv, .int .i64 n, .int .i64 o] w fun e w' => ∃ a c, e = .returned (.slice a (Fl.smL rs n o).length c) ∧ OwnI w.heap.size w' (.slice a (Fl.smL rs n o).length c) (Fl.smL rs n o) ∧ Below w.heap.size w w' := by
  obtain ⟨i0, hi, hz0, hz1, hz2⟩ := info_parts infoInt
  have HW := Lib.hid (And.intro (BlockAt.new w #[rv, dv] RoomT) (below_alloc2 (Below.refl w.heap.size w) (.cells #[rv, dv] RoomT)))
  have CS := Lib.hid (strips_any rv dv rs n o _ (hv.all HW.out.2) hl hok hn0 hn1 ho0 ho1)
  have FI := Lib.hid (fun x W (hW : Below w.heap.size w W) h0 h1 => isSeam_any rv dv rs x W (hv.all hW) hl hok h0 h1)
  have HX := Lib.hid (fun k (hk : k < (Fl.stL rs n o).length) => Fl.stL_x (rs := rs) hn0 hn1 ho0 ho1 (List.getElem_mem hk))
  have hLL := Fl.stL_len (rs := rs) hn0 hn1 ho0 ho1
  have HEQ := Lib.hid (Fl.smOf_stL hok hn0 ho0 ho1)
  have HY := Lib.hid (fun k (hk : k < (Fl.stL rs n o).length) h => Fl.smOf_yes (rs := rs) (l := Fl.stL rs n o) hk h)
  have HN := Lib.hid (fun k (hk : k < (Fl.stL rs n o).length) h => Fl.smOf_no (rs := rs) (l := Fl.stL rs n o) hk h)
  have HLN := Lib.hid (fun k => Fl.smOf_len rs ((Fl.stL rs n o).take k))
  have HAL := Lib.hid (Fl.smOf_all rs (Fl.stL rs n o))
  have H0 : Hid (Fl.smOf rs ((Fl.stL rs n o).take 0) = []) := Lib.hid rfl
  obtain ⟨ra, rc, rfl⟩ := hv.form
  have x0 : World.cell? _ _ = some (.slice ra rs.length rc) := HW.out.1.cell 0
  have x1 : World.cell? _ _ = some dv := HW.out.1.cell 1
  generalize Fl.stL rs n o = L at *
  obtain ⟨R, hR⟩ : ∃ R, R = Fl.smL rs n o := ⟨_, rfl⟩
  rw [← hR] at HEQ ⊢
  clear hv hok hR
  go_enter Try.func67, Try.ntmps67
  go_wp2_with fail
  refine CS.out.mono ?_
  rintro e w1 ⟨u, rfl, ho, hb1⟩
  obtain ⟨ua, uc, hu, huc, huk⟩ := ho.rows stripC_len
  subst hu
  have HSK := Lib.hid huk
  have HB1 := Lib.hid (And.intro (HW.out.1.below hb1 HW.out.1.lt) (below_step HW.out.2 hb1))
  have HI1 := Lib.hid (Below.refl w1.heap.size w1)
  clear ho hb1 huk x0 x1 CS HW
  go_wp2
  go_loopw [7, 15] (fun s t wr => ∃ (k : Nat) (M : List Int) (a : Option Addr) (c : Nat), (k ≤ L.length ∧ M.length ≤ k) ∧ s = .slice a M.length c ∧ t = .int .i64 k ∧ Hid (M = Fl.smOf rs (L.take k) ∧ OwnI w1.heap.size wr (.slice a M.length c) M ∧ Below w1.heap.size w1 wr)) (fun _ t _ => L.length - (intOf t).toNat)
  case atStart => exact ⟨0, [], none, 0, ⟨Nat.zero_le _, Nat.le_refl _⟩, rfl, rfl, Lib.hid ⟨H0.out.symm, OwnG.nil _ _, HI1.out⟩⟩
  case round =>
    obtain ⟨k, M, a, c, ⟨hk, hMk⟩, rfl, rfl, hg⟩ := hrel
    clear HI1 H0
    by_cases hlt : k < L.length
    · obtain ⟨b, off, rfl, hb, hr⟩ := HSK.out k hlt
      obtain ⟨c0, c1, c2⟩ := strip_at (hr.below hg.out.2.2 hb)
      have hX := HX.out k hlt
      have HG := Lib.hid (And.intro (OwnG.alloc hg.out.2.1 (.cells (stripA L[k].x L[k].f L[k].t) StripT)) (below_alloc2 hg.out.2.2 (.cells (stripA L[k].x L[k].f L[k].t) StripT)))
      have HBS := Lib.hid (BlockAt.new wr (stripA L[k].x L[k].f L[k].t) StripT)
      have HRB := Lib.hid (HB1.out.1.below HG.out.2 HB1.out.1.lt)
      have HY1 := Lib.hid (HY.out k hlt)
      have HN1 := Lib.hid (HN.out k hlt)
      rw [← hg.out.1] at HY1 HN1
      have C := Lib.hid (FI.out L[k].x _ (below_step HB1.out.2 HG.out.2) (by omega) (by omega))
      have x0 : World.cell? _ _ = some (.slice ra rs.length rc) := HRB.out.cell 0
      have x1 : World.cell? _ _ = some dv := HRB.out.cell 1
      clear hr hg
      generalize L[k] = s at *
      generalize Fl.seam rs s.x = S at *
      have hoo : S = true ∨ S = false := by cases S <;> simp
      rcases hoo with h | h
      · have HE := Lib.hid (HY1.out h)
        rw [h] at C
        clear h HY1 HN1
        go_wp2_with fail
        refine C.out.mono ?_
        rintro e w2 ⟨rfl, hb2⟩
        have hown := OwnG.all HG.out.1 hb2
        have hw := below_step HG.out.2 hb2
        have s0 : World.cell? _ _ = some (.int .i64 s.x) := (HBS.out.below hb2 HBS.out.lt).cell 0
        have hca := cells_new (cs := intL s.x) w2 3
        have hsz := hw.size
        clear C HG HBS HRB x0 x1 hb2 c0 c1 c2
        go_wp2_with (at_builtin; refine wpList_append_own _ rfl _ _ 40 rfl w1.heap.size 3 i0 (.int .i64 0) 1 8 Try.underlying40 hi hz0 hz1 hz2 rfl (by decide) _ _ _ rfl (OwnG.alloc hown _) ⟨w2.heap.size, 0, none⟩ 1 1 (intL s.x) rfl rfl ?c1 (intL_one _) ?c3 ?c4 ?c5 ?_)
        case c1 => first | exact hca | exact fun j u h => h
        case c3 => unfold maxLen; omega
        case c4 => omega
        case c5 => first | omega | (simp; omega)
        intro v' w9 hr9 hg9 _
        have hw9 := (below_alloc2 hw (.cells #[.int .i64 s.x] 3)).grown hg9 (by simp; omega) (fun j e => (World.ownsRow.lt hown j e).1)
        have hp9 : OwnI w1.heap.size w9 v' (M ++ [s.x]) := OwnG.pushed hr9
        have hl9 : (M ++ [s.x]).length ≤ k + 1 := by simp; omega
        generalize M ++ [s.x] = M2 at *
        obtain ⟨a9, c9, e9⟩ := hp9.form
        subst e9
        have HG9 := Lib.hid (And.intro hp9 hw9)
        clear hown hw hca hr9 hg9 hw9 hp9 s0
        go_wp2
        go_roundw
        case rel => exact ⟨k + 1, M2, a9, c9, ⟨by omega, hl9⟩, rfl, by go_num, Lib.hid ⟨HE.out.symm, HG9.out⟩⟩
        case measure => simp [intOf]; omega
      · have HE := Lib.hid (HN1.out h)
        rw [h] at C
        clear h HY1 HN1
        go_wp2_with fail
        refine C.out.mono ?_
        rintro e w2 ⟨rfl, hb2⟩
        have HG9 := Lib.hid (And.intro (OwnG.all HG.out.1 hb2) (below_step HG.out.2 hb2))
        clear C HG HBS HRB x0 x1 hb2 c0 c1 c2
        go_wp2
        go_roundw
        case rel => exact ⟨k + 1, M, a, c, ⟨by omega, by omega⟩, rfl, by go_num, Lib.hid ⟨HE.out.symm, HG9.out⟩⟩
        case measure => simp [intOf]; omega
    · have hke : k = L.length := by omega
      have HM : Hid (M = R) := Lib.hid (by rw [hg.out.1, hke, HAL.out, HEQ.out])
      have HG := Lib.hid hg.out.2
      have HSZ := Lib.hid HB1.out.2.size
      clear hg hke
      go_wp2
      go_ret
      exact ⟨a, c, by rw [← HM.out]; rfl, by rw [← HM.out]; exact OwnG.mono HG.out.1 HSZ.out, below_step HB1.out.2 HG.out.2⟩
end Go.Proofs.Ytpobkdbnldogcaa
