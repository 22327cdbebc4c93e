/- The sums of rates that days can have: of the reference. -/
import Derived.Test.YtabfcnfddemblaaLf20
import Derived.Test.YtabfcnfddemblaaLfMb
namespace Go.Proofs.Ytabfcnfddemblaa.Lo
open Go.RowKit

abbrev BoolT : TypeId := 4
abbrev BsT : TypeId := 181
abbrev BssT : TypeId := 180
theorem infoBool : (Try.prog.info? BoolT).map (fun i => (i.zero, i.size, i.bytes)) = some (some (.bool false), 1, 1) := by kernel_rfl
theorem infoBs : (Try.prog.info? BsT).map (fun i => (i.zero, i.size, i.bytes)) = some (some (.slice none 0 0), 1, 24) := by kernel_rfl
theorem infoBss : (Try.prog.info? BssT).map (fun i => (i.zero, i.size, i.bytes)) = some (some (.slice none 0 0), 1, 24) := by kernel_rfl
abbrev bR (f : Nat → Bool) : Array Value := fnV 109 (fun s => .bool (f s))
theorem madeB : madeCells #[.bool false] 109 = bR (fun _ => false) := by
  show madeCells #[.bool false] 109 = fnV 109 (fun _ => .bool false)
  unfold fnV madeCells
  refine Array.ext (by simp) fun i h1 h2 => ?_
  simp [Nat.mod_one]
theorem made_row : ∀ W : World, (Instr.makeSlice BsT (.int .i64 109) (.int .i64 109)).run Try.prog W = .ok (.slice (some ⟨W.heap.size, 0, none⟩) 109 109) (W.alloc (.cells (bR (fun _ => false)) BoolT)) := by
  intro W
  obtain ⟨i0, hi, hz0, hz1, hz2⟩ := info_parts infoBool
  have := run_makeSlice (P := Try.prog) (w := W) BsT BoolT i0 (.bool false) Try.underlying181 hi hz0 .i64 .i64 109 109 (by omega) (by omega) (by rw [hz1]; omega) (by rw [hz2]; omega) (by omega)
  rw [this, hz1, Nat.mul_one, show ((109 : Int)).toNat = 109 by rfl, show (Value.bool false).cells = #[.bool false] from rfl, madeB]
def oneL (u : Value) : List Value := [u]
theorem oneL_len (u : Value) : (oneL u).length = 1 := rfl
/-- A row of flags in a block of its own. -/
def RowS (base : Nat) (W : World) (u : Value) (f : Nat → Bool) : Prop := ∃ B, base ≤ B ∧ u = .slice (some ⟨B, 0, none⟩) 109 109 ∧ BlockAt W B (bR f) BoolT
theorem RowS.all {base : Nat} {W W2 : World} {u : Value} {f : Nat → Bool} (h : RowS base W u f) (hb : Below W.heap.size W W2) : RowS base W2 u f := by
  obtain ⟨B, h1, h2, h3⟩ := h
  exact ⟨B, h1, h2, h3.below hb h3.lt⟩
theorem RowS.kept {base b2 sz n : Nat} {W W2 : World} {u v : Value} {f : Nat → Bool} {e : TypeId} {xs : List Value} (h : RowS base W u f) (hne : BoolT ≠ e) (hr : W.ownsRow b2 e sz v n xs) (hg : W.grownBy W2 v.ownBlock) : RowS base W2 u f := by
  obtain ⟨B, h1, h2, h3⟩ := h
  exact ⟨B, h1, h2, h3.kept hg (BlockAt.not_row h3 hne hr)⟩
theorem RowS.mono {base b2 : Nat} {W : World} {u : Value} {f : Nat → Bool} (h : RowS base W u f) (hb : b2 ≤ base) : RowS b2 W u f := by
  obtain ⟨B, h1, h2, h3⟩ := h
  exact ⟨B, by omega, h2, h3⟩
theorem RowS.congr {base : Nat} {W : World} {u : Value} {f g : Nat → Bool} (h : RowS base W u f) (hf : ∀ s, s < 109 → f s = g s) : RowS base W u g := by
  obtain ⟨B, h1, h2, h3⟩ := h
  refine ⟨B, h1, h2, ?_⟩
  rwa [show bR g = bR f from fnV_congr fun s hs => by rw [hf s hs]]
/-- Rows for the first heats. -/
def Lvl (base : Nat) (W : World) (v : Value) (rs : List Int) (d k : Nat) (us : List Value) : Prop :=
  us.length = k ∧ OwnG BsT 1 oneL base W v us ∧ ∀ h (hh : h < us.length), RowS base W us[h] (fun s => Lf.sm rs d h s)
theorem Lvl.all {base : Nat} {W W2 : World} {v : Value} {rs : List Int} {d k : Nat} {us : List Value} (h : Lvl base W v rs d k us) (hb : Below W.heap.size W W2) : Lvl base W2 v rs d k us :=
  ⟨h.1, h.2.1.all hb, fun i hi => (h.2.2 i hi).all hb⟩
theorem Lvl.mono {base b2 : Nat} {W : World} {v : Value} {rs : List Int} {d k : Nat} {us : List Value} (h : Lvl base W v rs d k us) (hb : b2 ≤ base) : Lvl b2 W v rs d k us :=
  ⟨h.1, h.2.1.mono hb, fun i hi => (h.2.2 i hi).mono hb⟩
theorem Lvl.kept {base b2 sz n : Nat} {W W2 : World} {v x : Value} {rs : List Int} {d k : Nat} {us xs : List Value} (h : Lvl base W v rs d k us) (hr : W.ownsRow b2 BssT sz x n xs) (hg : W.grownBy W2 x.ownBlock) : Lvl base W2 v rs d k us :=
  ⟨h.1, ownsRow_other (by decide) h.2.1 hr hg, fun i hi => (h.2.2 i hi).kept (by decide) hr hg⟩
/-- Levels for the first numbers of days. -/
def Lvs (base : Nat) (W : World) (v : Value) (rs : List Int) (d : Nat) (vs : List Value) : Prop :=
  vs.length = d ∧ OwnG BssT 1 oneL base W v vs ∧ ∀ j (hj : j < vs.length), ∃ us, Lvl base W vs[j] rs j 5 us
theorem Lvs.all {base : Nat} {W W2 : World} {v : Value} {rs : List Int} {d : Nat} {vs : List Value} (h : Lvs base W v rs d vs) (hb : Below W.heap.size W W2) : Lvs base W2 v rs d vs :=
  ⟨h.1, h.2.1.all hb, fun j hj => by obtain ⟨us, h3⟩ := h.2.2 j hj; exact ⟨us, h3.all hb⟩⟩
/-- Where a level and its rows can be read. -/
theorem Lvs.look {base : Nat} {W : World} {v : Value} {rs : List Int} {d : Nat} {vs : List Value} (h : Lvs base W v rs d vs) {j g : Nat} (hj : j < d) (hg : g < 5) :
    ∃ (b o : Nat) (b2 o2 c2 : Nat) (B : Nat) (c : Nat), v = .slice (some ⟨b, o, none⟩) d c ∧ (b < W.heap.size ∧ W.cell? ⟨b, o + j, none⟩ = some (.slice (some ⟨b2, o2, none⟩) 5 c2)) ∧ (b2 < W.heap.size ∧ W.cell? ⟨b2, o2 + g, none⟩ = some (.slice (some ⟨B, 0, none⟩) 109 109)) ∧ B < W.heap.size ∧ ∀ s, s < 109 → W.cell? ⟨B, s, none⟩ = some (.bool (Lf.sm rs j g s)) := by
  obtain ⟨h1, h2, h3⟩ := h
  obtain ⟨a, cap, e1, _, e3⟩ := h2.rows oneL_len
  obtain ⟨b, o, rfl, hb, hc⟩ := e3 j (by omega)
  obtain ⟨us, u1, u2, u3⟩ := h3 j (by omega)
  obtain ⟨a2, cap2, f1, _, f3⟩ := u2.rows oneL_len
  obtain ⟨b2, o2, rfl, hb2, hc2⟩ := f3 g (by omega)
  obtain ⟨B, _, g2, g3⟩ := u3 g (by omega)
  have k1 := hc 0 _ rfl
  have k2 := hc2 0 _ rfl
  rw [f1, u1] at k1
  rw [g2] at k2
  rw [h1] at e1
  refine ⟨b, o, b2, o2, cap2, B, cap, e1, ⟨hb, by simpa using k1⟩, ⟨hb2, by simpa using k2⟩, g3.lt, fun s hs => ?_⟩
  rw [g3.cell s, fnV_at hs]
theorem bR_set (f : Nat → Bool) (i : Nat) (x : Bool) : (bR f).setIfInBounds i (.bool x) = bR (fun s => if s = i then x else f s) := by
  unfold bR
  rw [fnV_set]
  congr 1
  funext s
  show (if s = i then Value.bool x else Value.bool (f s)) = Value.bool (if s = i then x else f s)
  split <;> rfl
theorem oneL_new (w : World) (u : Value) (t : TypeId) : ∀ (j : Nat) (x : Value), (oneL u)[j]? = some x → (w.alloc (.cells #[u] t)).cell? ((⟨w.heap.size, 0, none⟩ : Addr).add j) = some x := cells_new (cs := oneL u) w t
theorem oneL_one (a : Option Addr) (n c : Nat) : ∀ x ∈ oneL (.slice a n c), x.oneCell' = true := by
  intro x h; simp [oneL] at h; subst h; rfl
/-- Memory while a row is filled. -/
def SmR (W1 : World) (f : Nat → Bool) (wr : World) : Prop := BlockAt wr W1.heap.size (bR f) BoolT ∧ Below W1.heap.size W1 wr
theorem SmR.set {W1 wr : World} {f g : Nat → Bool} (h : SmR W1 f wr) (i : Nat) (x : Bool) (hg : ∀ s, s < 109 → (if s = i then x else f s) = g s) : SmR W1 g (wr.setCell ⟨W1.heap.size, i, none⟩ (.bool x)) := by
  refine ⟨?_, below_set h.2 (Nat.le_refl _) _⟩
  have := h.1.set i (.bool x)
  rw [bR_set] at this
  rwa [show bR g = bR (fun s => if s = i then x else f s) from fnV_congr fun s hs => by show Value.bool (g s) = Value.bool _; rw [← hg s hs]]
theorem SmR.congr {W1 wr : World} {f g : Nat → Bool} (h : SmR W1 f wr) (hg : ∀ s, s < 109 → f s = g s) : SmR W1 g wr :=
  ⟨by rw [show bR g = bR f from fnV_congr fun s hs => by rw [hg s hs]]; exact h.1, h.2⟩
theorem SmR.drew {W1 wr : World} {f : Nat → Bool} (h : SmR W1 f wr) : SmR W1 f wr.drew := ⟨h.1.drew, below_drewN h.2 1⟩
set_option maxRecDepth 100000 in
set_option maxHeartbeats 16000000 in
theorem rsums_any (p : Int) (u : Value) (rs : List Int) (w : World) (hu : Ints w u rs) (h5 : rs.length = 5) (hr : ∀ k, k < 5 → 0 ≤ rs.getD k 0 ∧ rs.getD k 0 ≤ 9) :
    Calls Try.prog 81 #[loftV p u, .int .i64 12] w fun e w' => ∃ a c vs, e = .returned (.slice a 13 c) ∧ Lvs w.heap.size w' (.slice a 13 c) rs 13 vs ∧ Below w.heap.size w w' := by
  obtain ⟨i0, hi0, hz0, hz1, hz2⟩ := info_parts infoBs
  obtain ⟨j0, hj0, jz0, jz1, jz2⟩ := info_parts infoBss
  obtain ⟨ua, uc, rfl⟩ := hu.form
  have HW := Lib.hid (loft_box w p (.slice ua rs.length uc))
  have HU := Lib.hid (fun (W : World) (hW : Below w.heap.size w W) => Ints.at (hu.all hW))
  have HRT := Lib.hid (fun k (hk : k < 5) => And.intro (rt_int (hr k hk).1) (show Lf.rt rs k ≤ 9 by have := hr k hk; unfold Lf.rt; omega))
  have HMK := made_row
  have H5 := Lib.hid h5
  have hl5 : rs.length ≤ 5 := by omega
  have hl5' : 5 ≤ rs.length := by omega
  clear hu h5 hr
  go_enter Try.func81, Try.ntmps81
  go_wp2
  go_loopw [5, 6] (fun s t wr => ∃ (d : Nat) (a : Option Addr) (c : Nat), d ≤ 13 ∧ s = .slice a d c ∧ t = .int .i64 d ∧ Hid ((∃ vs, Lvs w.heap.size wr (.slice a d c) rs d vs) ∧ BlockAt wr w.heap.size (loftA p (.slice ua rs.length uc)) LoftT ∧ Below w.heap.size w wr)) (fun _ t _ => 14 - (intOf t).toNat)
  case atStart => exact ⟨0, none, 0, by omega, rfl, rfl, Lib.hid ⟨⟨[], rfl, OwnG.nil _ _, fun j hj => absurd hj (Nat.not_lt_zero _)⟩, HW.out⟩⟩
  case round =>
    obtain ⟨d, a, c, hd13, rfl, rfl, hg⟩ := hrel
    obtain ⟨Wd, rfl⟩ : ∃ W, W = wr := ⟨_, rfl⟩
    by_cases hdl : d ≤ 12
    case neg =>
      obtain rfl : d = 13 := by omega
      have HG := Lib.hid hg.out
      clear hg
      go_wp2
      go_ret
      obtain ⟨⟨vs, h1⟩, _, h3⟩ := HG.out
      exact ⟨a, c, vs, rfl, h1, h3⟩
    have HO := Lib.hid hg.out
    clear hg
    have hdd : decide ((d : Int) ≤ 12) = true := decide_eq_true (by omega)
    go_wp2
    go_loopw [7, 8] (fun s t w1 => ∃ (h : Nat) (a2 : Option Addr) (c2 : Nat), h ≤ 5 ∧ s = .slice a2 h c2 ∧ t = .int .i64 h ∧ Hid ((∃ us, Lvl Wd.heap.size w1 (.slice a2 h c2) rs d h us) ∧ Below Wd.heap.size Wd w1)) (fun _ t _ => 6 - (intOf t).toNat)
    case atStart => exact ⟨0, none, 0, by omega, rfl, rfl, Lib.hid ⟨⟨[], rfl, OwnG.nil _ _, fun j hj => absurd hj (Nat.not_lt_zero _)⟩, Below.refl _ _⟩⟩
    case round =>
      obtain ⟨h, a2, c2, hh5, rfl, rfl, hg⟩ := hrel
      obtain ⟨W1, rfl⟩ : ∃ W, W = wr := ⟨_, rfl⟩
      by_cases hhl : h ≤ 4
      case neg =>
        obtain rfl : h = 5 := by omega
        obtain ⟨⟨us, hLv⟩, hb1⟩ := hg.out
        obtain ⟨⟨vs, hO⟩, hBx, hw⟩ := HO.out
        have hw1 := below_step hw hb1
        have hO1 := hO.all hb1
        have hB1 := hBx.below hb1 hBx.lt
        have hLv1 := hLv.mono hw.size
        have hown' : W1.ownsRow w.heap.size BssT 1 (.slice a d c) d (vs.flatMap oneL) := by have := hO1.2.1; unfold OwnG at this; rwa [hO1.1] at this
        have hsz := hw1.size
        have hca := oneL_new W1 (.slice a2 5 c2) BssT
        have HH := Lib.hid (And.intro hO1 (And.intro hB1 (And.intro hLv1 hw1)))
        clear hLv hb1 hO hBx hw hw1 hO1 hB1 hLv1 hg HO
        go_wp2_with (at_builtin; refine wpList_append_own _ rfl _ _ 125 rfl w.heap.size BssT j0 (.slice none 0 0) 1 24 Try.underlying125 hj0 jz0 jz1 jz2 rfl (by decide) _ _ _ rfl (World.ownsRow.alloc hown' _) ⟨W1.heap.size, 0, none⟩ 1 1 (oneL (.slice a2 5 c2)) rfl rfl ?d1 (oneL_one _ _ _) ?d3 ?d4 ?d5 ?_)
        case d1 => first | exact hca | exact fun j u h => h
        case d3 => unfold maxLen; omega
        case d4 => omega
        case d5 => first | omega | (simp; omega)
        intro v' w9 hr9 hg9 _
        obtain ⟨hO1, hB1, hLv1, hw1⟩ := HH.out
        have hal := below_alloc2 (Below.refl W1.heap.size W1) (.cells #[.slice a2 5 c2] BssT)
        have hw9 := (below_alloc2 hw1 (.cells #[.slice a2 5 c2] BssT)).grown hg9 (by simp; omega) (fun j e => (World.ownsRow.lt hown' j e).1)
        have hB9 : BlockAt w9 w.heap.size (loftA p (.slice ua rs.length uc)) LoftT := (hB1.below hal hB1.lt).kept hg9 (BlockAt.not_row (hB1.below hal hB1.lt) (by decide) (World.ownsRow.alloc hown' (.cells #[.slice a2 5 c2] BssT)))
        have hO9 : Lvs w.heap.size w9 v' rs (d + 1) (vs ++ [.slice a2 5 c2]) := by
          refine ⟨by simp [hO1.1], ?_, fun j hj => ?_⟩
          · have hp := OwnG.pushed (t := BssT) (c := 1) (cs := oneL) (base := w.heap.size) (w := w9) (v := v') (xs := vs) (x := .slice a2 5 c2) (by rw [hO1.1]; exact hr9)
            exact hp
          · by_cases e : j < vs.length
            · obtain ⟨us2, h2⟩ := hO1.2.2 j e
              refine ⟨us2, ?_⟩
              rw [List.getElem_append_left e]
              exact (h2.all hal).kept (World.ownsRow.alloc hown' (.cells #[.slice a2 5 c2] BssT)) hg9
            · have e2 : j = vs.length := by simp at hj; omega
              subst e2
              refine ⟨us, ?_⟩
              rw [List.getElem_concat_length rfl, hO1.1]
              exact (hLv1.all hal).kept (World.ownsRow.alloc hown' (.cells #[.slice a2 5 c2] BssT)) hg9
        obtain ⟨a9, c9, e9⟩ := (hO9.2.1.rows oneL_len).form
        rw [hO9.1] at e9
        subst e9
        have H9 := Lib.hid (And.intro (Exists.intro (vs ++ [.slice a2 5 c2]) hO9) (And.intro hB9 hw9))
        clear hO1 hB1 hLv1 hw1 hal hw9 hB9 hO9 hr9 hg9 hca hown' HH
        go_wp2
        go_roundw
        case rel => exact ⟨d + 1, a9, c9, by omega, rfl, by go_num, H9⟩
        case measure => simp [intOf]; omega
      have HL := Lib.hid hg.out
      clear hg
      generalize h = y at *
      have hhd : decide ((y : Int) ≤ 4) = true := decide_eq_true (by omega)
      obtain ⟨bd, hbd⟩ : ∃ bd, bd = decide (d = 0) := ⟨_, rfl⟩
      have hb1 : ((d : Int) == 0) = bd := by rw [hbd, Bool.eq_iff_iff]; simp
      have hb2 : decide ((d : Int) = 0) = bd := by rw [hbd]; exact decide_eq_decide.2 (by omega)
      have hb3 : decide (d = 0) = bd := hbd.symm
      have HR0 := Lib.hid (show SmR W1 (Lf.pF rs d y (y - 1)) (W1.alloc (.cells ((bR (fun _ => false)).setIfInBounds 0 (.bool bd)) BoolT)) from ⟨by
        rw [bR_set]
        rw [show bR (fun s => if s = 0 then bd else false) = bR (Lf.pF rs d y (y - 1)) from fnV_congr fun s hs => by
          show Value.bool (if s = 0 then bd else false) = Value.bool (Lf.pF rs d y (y - 1) s)
          congr 1
          unfold Lf.pF
          by_cases e : d = 0
          · rw [if_pos e, hbd, decide_eq_true e]
            by_cases e2 : s = 0
            · rw [if_pos e2, decide_eq_true e2]
            · rw [if_neg e2, decide_eq_false e2]
          · rw [if_neg e, hbd, decide_eq_false e, Lf.pr_start]; split <;> rfl]
        exact BlockAt.new _ _ _, below_alloc2 (Below.refl _ _) _⟩)
      clear hbd
      go_upto_region 11 with fail
      go_cut [10] from 26 to 28 (fun u X => u = .int .i64 ((y - 1 : Nat) : Int) ∧ Hid (X = W1.alloc (.cells ((bR (fun _ => false)).setIfInBounds 0 (.bool bd)) BoolT)))
      case first =>
        by_cases c1 : 1 ≤ y
        all_goals go_wp2
        all_goals
          go_meet
          exact ⟨congrArg (Value.int .i64) (by omega), Lib.hid rfl⟩
      case rest =>
        obtain ⟨rfl, hwx⟩ := hcut
        have hwx := hwx.out
        subst hwx
        clear hb1 hb2 hb3
        go_wp2
        go_loopw [10] (fun t w2 => ∃ G : Nat, (y - 1 ≤ G ∧ G ≤ min 4 (y + 1) + 1) ∧ t = .int .i64 G ∧ Hid (SmR W1 (Lf.pF rs d y G) w2)) (fun t _ => 7 - (intOf t).toNat)
        case atStart => exact ⟨y - 1, ⟨Nat.le_refl _, by omega⟩, rfl, HR0⟩
        case round =>
          obtain ⟨G, ⟨hG1, hG2⟩, rfl, hg⟩ := hrel
          clear HR0
          by_cases hgo : G ≤ min 4 (y + 1) ∧ 0 < d
          · obtain ⟨hgo1, hgo2⟩ := hgo
            obtain ⟨n, hn⟩ : ∃ n, d = n + 1 := ⟨d - 1, by omega⟩
            have HN1 := Lib.hid hn
            have hd12 : d ≤ 12 := hdl
            obtain ⟨⟨vs, hO⟩, hBx, hw⟩ := HO.out
            obtain ⟨_, hbd⟩ := HL.out
            have hw1 := below_step hw hbd
            have hB1 := hBx.below hbd hBx.lt
            obtain ⟨b, off, hua, hb, c0⟩ := HU.out W1 hw1 G (by omega)
            obtain ⟨e1, e2⟩ := HRT.out G (by omega)
            rw [e1] at c0
            obtain ⟨bo, oo, b2, o2, cc2, B3, cc, hv, ⟨hbo, k1⟩, ⟨hb2, k2⟩, hB3, k3⟩ := (hO.all hbd).look (j := n) (g := G) (by omega) (by omega)
            simp only [Value.slice.injEq] at hv
            obtain ⟨hva, hv2, hv3⟩ := hv
            clear hv2 hv3
            have hd1 : decide ((d : Int) > 0) = true := decide_eq_true (by omega)
            have gsub : IntKind.i64.wrap ((d : Int) - 1) = (n : Int) := by rw [show (d : Int) - 1 = (n : Int) by omega]; exact IntWalk.i64_in _ ⟨by omega, by omega⟩
            have GS := Lib.hid gsub
            have hnd : n < d := by omega
            have F1 := Lib.hid (show W1.cell? ⟨w.heap.size, 1, none⟩ = some (.slice ua rs.length uc) from hB1.cell 1)
            have F2 := Lib.hid c0
            have F3 := Lib.hid k1
            have F4 := Lib.hid k2
            have F6 := Lib.hid k3
            have L1 := hB1.lt
            have L2 := hb
            have L3 := hbo
            have L4 := hb2
            have L5 := hB3
            have HG := Lib.hid (show SmR W1 (Lf.pq rs n y G 0) wr from hg.out.congr fun s _ => by rw [hn, Lf.pF_succ, Lf.pq_zero])
            have hGy : y ≤ G + 1 := by omega
            have hG5 : G < 5 := by omega
            clear hn gsub
            clear hO hBx hw hbd hw1 hB1 hb c0 e1 hbo k1 hb2 k2 hB3 k3 hg
            subst hua
            subst hva
            have c5 := (HG.out.2.cell (p := ⟨w.heap.size, 1, none⟩) L1).trans F1.out
            have hrr : Lf.rt rs G ≤ 9 := e2
            go_upto_region 12 with fail
            go_cut [37] from 29 to 37 (fun u X => u = .bool true ∧ Hid (X = wr))
            case first =>
              by_cases c4 : 4 < y + 1
              all_goals go_wp2
              all_goals
                go_meet
                exact ⟨rfl, Lib.hid rfl⟩
            case rest =>
              obtain ⟨rfl, hwx⟩ := hcut
              have hwx := hwx.out.symm
              subst hwx
              go_wp2
              go_loopw [11] (fun s w2 => ∃ t : Nat, t ≤ 109 ∧ s = .int .i64 t ∧ Hid (SmR W1 (Lf.pq rs n y G t) w2)) (fun s _ => 110 - (intOf s).toNat)
              case atStart => exact ⟨0, by omega, rfl, HG⟩
              case round =>
                obtain ⟨t, ht, rfl, hg⟩ := hrel
                clear HG c5
                have c5 := (hg.out.2.cell (p := ⟨w.heap.size, 1, none⟩) L1).trans F1.out
                have c6 := (hg.out.2.cell (p := ⟨b, off + G, none⟩) L2).trans F2.out
                have hz : IntKind.i64.wrap ((t : Int) + ((Lf.rt rs G : Nat) : Int)) = ((t + Lf.rt rs G : Nat) : Int) := IntWalk.i64_in _ ⟨by omega, by omega⟩
                by_cases htl : t + Lf.rt rs G < 109
                · have F5 := Lib.hid (F6.out t (by omega))
                  have hAT := Lf.pq_at rs n y G t
                  have hOT := Lib.hid (fun s (hs : s ≠ t + Lf.rt rs G) => Lf.pq_other (rs := rs) (n := n) (h := y) (G := G) (t := t) hs)
                  have HST := Lib.hid (fun x (hx : x = Lf.pq rs n y G (t + 1) (t + Lf.rt rs G)) => SmR.set (g := Lf.pq rs n y G (t + 1)) hg.out (t + Lf.rt rs G) x (fun s _ => by
                    by_cases e : s = t + Lf.rt rs G
                    · rw [if_pos e, e, hx]
                    · rw [if_neg e, hOT.out s e]))
                  have d0 : wr.drew.cell? ⟨W1.heap.size, t + Lf.rt rs G, none⟩ = some (.bool (Lf.pq rs n y G t (t + Lf.rt rs G))) := by
                    have := hg.out.1.drew.cell (t + Lf.rt rs G)
                    rwa [fnV_at htl] at this
                  have f0 := hg.out.1.drew.frozen (t + Lf.rt rs G)
                  have hlr := hg.out.1.lt
                  have HSS := Lib.hid (show ∀ b o, b < W1.heap.size → wr.drew.cell? ⟨b, o, none⟩ = W1.cell? ⟨b, o, none⟩ from (bcell (below_drewN hg.out.2 1)).1)
                  have HSA := Lib.hid (fun x => (bcell (below_set (below_drewN hg.out.2 1) (Nat.le_refl W1.heap.size) (j := t + Lf.rt rs G) (.bool x))).1)
                  have gsub := GS.out
                  clear hg hOT
                  generalize Lf.sm rs n G t = x at *
                  generalize Lf.pq rs n y G t (t + Lf.rt rs G) = old at *
                  generalize Lf.pq rs n y G (t + 1) (t + Lf.rt rs G) = new at *
                  generalize hzz : t + Lf.rt rs G = z at *
                  generalize Lf.rt rs G = r at *
                  cases old
                  all_goals
                    have HN := Lib.hid (HST.out _ hAT.symm)
                    go_upto_region 17 with fail
                    refine wp_region_seq [(0, true), (1, true), (2, true), (3, true), (4, true), (5, true), (6, true), (7, true), (8, true), (9, true), (10, true), (11, true), (12, true), (13, true), (14, true), (15, true), (16, true), (17, false), (18, true), (19, true), (20, true), (21, true), (22, true), (23, true), (24, true), (25, true), (26, true), (27, true), (28, true), (29, true), (30, true), (31, true), (32, false)] (fun W => ∀ b o, b < W1.heap.size → W.cell? ⟨b, o, none⟩ = W1.cell? ⟨b, o, none⟩)
                      (by kernel_rfl) (by kernel_rfl) (by kernel_rfl) (by kernel_rfl) (fun d _ _ _ _ h => by cases d <;> exact h) HSS.out (fun _ => ?_)
                    repeat (first | (refine SeqH.take (v := ?_) rfl (by rfl) ?_ ?_; rotate_left; (· intro wq hSw; (try dsimp only at hSw); have e1 := (hSw _ _ L1).trans F1.out; have e2 := (hSw _ _ L2).trans F2.out; have e3 := (hSw _ _ L3).trans F3.out; have e4 := (hSw _ _ L4).trans F4.out; have e5 := (hSw _ _ L5).trans F5.out; clear hSw; go_simp; (try rw [if_pos (by omega)]); (try with_reducible rfl)); simp only [Act.put, List.setIfInBounds_toArray, List.set_cons_zero, List.set_cons_succ]) | (refine SeqH.skip rfl (by rfl) ?_; simp only [Act.put, List.setIfInBounds_toArray, List.set_cons_zero, List.set_cons_succ]))
                    refine SeqH.step rfl (by rfl) (fun K hK => ?_)
                    go_simp
                    refine hK.out _ _ HSS.out (fun _ => ?_)
                    clear hK K
                    try simp only [Act.put, List.setIfInBounds_toArray, List.set_cons_zero, List.set_cons_succ]
                    repeat (first | (refine SeqH.take (v := ?_) rfl (by rfl) ?_ ?_; rotate_left; (· intro wq hSw; (try dsimp only at hSw); have e1 := (hSw _ _ L1).trans F1.out; have e2 := (hSw _ _ L2).trans F2.out; have e3 := (hSw _ _ L3).trans F3.out; have e4 := (hSw _ _ L4).trans F4.out; have e5 := (hSw _ _ L5).trans F5.out; clear hSw; go_simp; (try rw [if_pos (by omega)]); (try with_reducible rfl)); simp only [Act.put, List.setIfInBounds_toArray, List.set_cons_zero, List.set_cons_succ]) | (refine SeqH.skip rfl (by rfl) ?_; simp only [Act.put, List.setIfInBounds_toArray, List.set_cons_zero, List.set_cons_succ]))
                    refine SeqH.step rfl (by rfl) (fun K hK => ?_)
                    go_simp
                    refine hK.out _ _ (HSA.out _) (fun _ => ?_)
                    clear hK K
                    try simp only [Act.put, List.setIfInBounds_toArray, List.set_cons_zero, List.set_cons_succ]
                    refine SeqH.done ?_
                    clear d0 f0 gsub hz hAT
                    go_wp2
                    go_roundw
                    case rel => exact ⟨t + 1, by omega, by go_num, Lib.hid (by first | exact HN.out.drew | exact HN.out)⟩
                    case measure => simp [intOf]; omega
                · have HE := Lib.hid (show SmR W1 (Lf.pF rs d y (G + 1)) wr from hg.out.congr fun s hs => by rw [HN1.out, Lf.pF_succ]; exact Lf.pq_end hGy (by omega) hs)
                  clear hg
                  go_wp2
                  go_roundw
                  case rel => exact ⟨G + 1, ⟨by omega, by omega⟩, by go_num, HE⟩
                  case measure => simp [intOf]; omega
          have HEX := Lib.hid (show ∀ s, Lf.pF rs d y G s = Lf.sm rs d y s from fun s => by
            by_cases e : d = 0
            · subst e; exact Lf.pF_zero rs y G s
            · obtain ⟨n, rfl⟩ : ∃ n, d = n + 1 := ⟨d - 1, by omega⟩
              have e2 : G = min 4 (y + 1) + 1 := by omega
              rw [Lf.pF_succ, e2]
              exact Lf.pr_end rs n y s (by omega))
          go_upto_region 12 with fail
          go_cut [37] from 29 to 37 (fun u X => u = .bool false ∧ Hid (X = wr))
          case first =>
            by_cases c4 : 4 < y + 1
            all_goals by_cases c6 : G ≤ min 4 (y + 1)
            all_goals
              (try (have c7 : d = 0 := by omega))
              (try subst c7)
              go_wp2
            all_goals
              go_meet
              exact ⟨rfl, Lib.hid rfl⟩
          case rest =>
            obtain ⟨rfl, hwx⟩ := hcut
            have hwx := hwx.out.symm
            subst hwx
            have HX := Lib.hid (show SmR W1 (fun s => Lf.sm rs d y s) wr from hg.out.congr fun s hs => HEX.out s)
            clear hg
            obtain ⟨⟨us, hLv⟩, hbd⟩ := HL.out
            have hLv1 := hLv.all HX.out.2
            have hb1 := below_step hbd HX.out.2
            have hown : wr.ownsRow Wd.heap.size BsT 1 (.slice a2 y c2) y (us.flatMap oneL) := by have := hLv1.2.1; unfold OwnG at this; rwa [hLv1.1] at this
            have hsz := hb1.size
            have hca := oneL_new wr (.slice (some ⟨W1.heap.size, 0, none⟩) 109 109) BsT
            have HH := Lib.hid (And.intro hLv1 (And.intro hbd hb1))
            have hsz1 := hbd.size
            clear hLv hbd hLv1 hb1
            go_wp2_with (at_builtin; refine wpList_append_own _ rfl _ _ 180 rfl Wd.heap.size BsT i0 (.slice none 0 0) 1 24 Try.underlying180 hi0 hz0 hz1 hz2 rfl (by decide) _ _ _ rfl (World.ownsRow.alloc hown _) ⟨wr.heap.size, 0, none⟩ 1 1 (oneL (.slice (some ⟨W1.heap.size, 0, none⟩) 109 109)) rfl rfl ?d1 (oneL_one _ _ _) ?d3 ?d4 ?d5 ?_)
            case d1 => first | exact hca | exact fun j u h => h
            case d3 => unfold maxLen; omega
            case d4 => omega
            case d5 => first | omega | (simp; omega)
            intro v' w9 hr9 hg9 _
            obtain ⟨hLv1, hbd, hb1⟩ := HH.out
            have hal := below_alloc2 (Below.refl wr.heap.size wr) (.cells #[.slice (some ⟨W1.heap.size, 0, none⟩) 109 109] BsT)
            have hw9 := (below_alloc2 hb1 (.cells #[.slice (some ⟨W1.heap.size, 0, none⟩) 109 109] BsT)).grown hg9 (by simp; omega) (fun j e => (World.ownsRow.lt hown j e).1)
            have hL9 : Lvl Wd.heap.size w9 v' rs d (y + 1) (us ++ [.slice (some ⟨W1.heap.size, 0, none⟩) 109 109]) := by
              refine ⟨by simp [hLv1.1], ?_, fun j hj => ?_⟩
              · exact OwnG.pushed (t := BsT) (c := 1) (cs := oneL) (base := Wd.heap.size) (w := w9) (v := v') (xs := us) (x := .slice (some ⟨W1.heap.size, 0, none⟩) 109 109) (by rw [hLv1.1]; exact hr9)
              · by_cases e : j < us.length
                · rw [List.getElem_append_left e]
                  exact ((hLv1.2.2 j e).all hal).kept (by decide) (World.ownsRow.alloc hown (.cells #[.slice (some ⟨W1.heap.size, 0, none⟩) 109 109] BsT)) hg9
                · have e2 : j = us.length := by simp at hj; omega
                  subst e2
                  rw [List.getElem_concat_length rfl, hLv1.1]
                  exact RowS.kept (RowS.all (show RowS Wd.heap.size wr (.slice (some ⟨W1.heap.size, 0, none⟩) 109 109) (fun s => Lf.sm rs d y s) from ⟨W1.heap.size, hsz1, rfl, HX.out.1⟩) hal) (by decide) (World.ownsRow.alloc hown (.cells #[.slice (some ⟨W1.heap.size, 0, none⟩) 109 109] BsT)) hg9
            obtain ⟨a9, c9, e9⟩ := (hL9.2.1.rows oneL_len).form
            rw [hL9.1] at e9
            subst e9
            have H9 := Lib.hid (And.intro (Exists.intro (us ++ [.slice (some ⟨W1.heap.size, 0, none⟩) 109 109]) hL9) hw9)
            clear hLv1 hbd hb1 hal hw9 hL9 hr9 hg9 hca hown HH HX hsz hsz1
            go_wp2
            go_roundw
            case rel => exact ⟨y + 1, a9, c9, by omega, rfl, by go_num, H9⟩
            case measure => simp [intOf]; omega
end Go.Proofs.Ytabfcnfddemblaa.Lo
