/- The least pattern of a plane: pattern.draw. -/
import Derived.Test.YtigigmjdockdeaaGreatDoorPat8
namespace Go.Proofs.YtigigmjdockdeaaGreatDoor
open Go.RowKit

theorem csF_fnL {n i : Nat} {F : Nat → Int} (h : i < n) : csF (fnL n F) i = F i := by simp [csF, fnL, h]
theorem csF_out {n i : Nat} {F : Nat → Int} (h : ¬ i < n) : csF (fnL n F) i = 0 := by simp [csF, fnL, h]
theorem own_patIn {base : Nat} {W : World} {v : Value} {k : Pt.Lat} {f : Int → Int → Int} (h : OwnF base W v (k.a * k.c).toNat (Pt.cellF k f)) (hs : small k) (hf : ∀ x y, 0 ≤ f x y ∧ f x y ≤ 1000) :
    ∃ cs, PatIn W k v cs ∧ ((∀ x y, Pt.inL k x y → Pt.Per f x y) → Pt.col k (csF cs) = f) := by
  have hp : 0 ≤ k.a * k.c := Int.mul_nonneg (by have := hs.1.1; omega) (by have := hs.1.2.2.2; omega)
  refine ⟨fnL (k.a * k.c).toNat (Pt.cellF k f), ⟨OwnI.ints (base := base) (by unfold OwnI; rw [fnL_len]; exact h), by rw [fnL_len]; omega, hs, fun i => ?_⟩, fun hper => ?_⟩
  · by_cases hi : i < (k.a * k.c).toNat
    · rw [csF_fnL hi]; exact hf _ _
    · rw [csF_out hi]; omega
  · exact Pt.col_cell hs.1 hper fun i hi => csF_fnL (by omega)
def DrawSays (l0 : Pt.Lat) (f : Int → Int → Int) (w : World) (e : Ending) (w' : World) : Prop :=
  (l0.a * l0.c ≤ 144 → ∃ v, e = .returned (.tuple #[patV l0 v, .int .i64 0]) ∧ OwnF w.heap.size w' v (l0.a * l0.c).toNat (Pt.cellF l0 f)) ∧ (¬ l0.a * l0.c ≤ 144 → e = .returned (.tuple #[patV ⟨0, 0, 0⟩ (.slice none 0 0), .int .i64 4])) ∧ Below w.heap.size w w'
theorem moved_per {k : Pt.Lat} (h : k.ok) {f : Int → Int → Int} (hper : ∀ x y, Pt.inL k x y → Pt.Per f x y) (dx dy : Int) : movedB k f f dx dy = true ↔ Pt.Per f dx dy := by
  rw [movedB_iff h]
  exact ⟨fun he => Pt.per_repeat h hper dx dy he, fun he x y _ _ _ _ => (he x y).symm⟩

set_option maxRecDepth 20000 in
set_option maxHeartbeats 4000000 in
theorem draw_plane (kk : Pt.Lat) (bp : Nat) (n : Int) (k l0 : Pt.Lat) (G : Int → Int → Prop) (gB : Int → Int → Bool) (f : Int → Int → Int) (w : World) (hG : Pt.Grp G) (hk : Pt.IsB G k) (hgB : ∀ x y, gB x y = true ↔ G x y) (hkn : k.a * k.c ≤ n) (hn1 : 1 ≤ n) (hn2 : n ≤ 30000) (hka : k.a ≤ 30000) (hkc : k.c ≤ 30000)
    (hper : ∀ x y, G x y → Pt.Per f x y) (hf : ∀ x y, 0 ≤ f x y ∧ f x y ≤ 1000) (h0 : Pt.IsB (Pt.Per f) l0) (hA : l0.a ≤ 30000) (hC : l0.c ≤ 30000)
    (HH : ∀ (dx dy : Int) W, 0 ≤ dx → dx ≤ 30000 → 0 ≤ dy → dy ≤ 30000 → Below w.heap.size w W → Calls Tryz.prog 109 #[latV kk, .int .i64 dx, .int .i64 dy] W fun e w' => e = .returned (.bool (gB dx dy)) ∧ Below W.heap.size W w')
    (HF : ∀ (x y : Int) W, 0 ≤ x → x ≤ 30000 → 0 ≤ y → y ≤ 30000 → Below w.heap.size w W → Calls Tryz.prog 110 #[.int .i64 x, .int .i64 y, .pointer (some ⟨bp, 0, none⟩)] W fun e w' => e = .returned (.int .i64 (f x y)) ∧ Below W.heap.size W w') :
    Calls Tryz.prog 71 #[.agg #[.int .i64 n, .func (.func 109) #[latV kk] #[], .func (.func 110) #[] #[.pointer (some ⟨bp, 0, none⟩)]]] w (DrawSays l0 f w) := by
  have F1 := Lib.hid (fun W (hW : Below w.heap.size w W) => find_has kk n k G gB W hG hk hgB hn1 hn2 hka hkc (fun dx dy X h1 h2 h3 h4 hX => HH dx dy X h1 h2 h3 h4 (below_step hW hX)))
  have hsk : small k := ⟨hk.ok, hka, hkc⟩
  have hs0 : small l0 := ⟨h0.ok, hA, hC⟩
  have P1 := Lib.hid (fun W (hW : Below w.heap.size w W) => paint_plane bp k f W hsk (fun x y X h1 h2 h3 h4 hX => HF x y X h1 h2 h3 h4 (below_step hW hX)))
  have P2 := Lib.hid (fun W (hW : Below w.heap.size w W) => paint_plane bp l0 f W hs0 (fun x y X h1 h2 h3 h4 hX => HF x y X h1 h2 h3 h4 (below_step hW hX)))
  have hperk : ∀ x y, Pt.inL k x y → Pt.Per f x y := fun x y h => hper x y ((hk.iff hG x y).2 h)
  have D1 := Lib.hid (fun W (v : Value) (cs : List Int) (bp : Nat) (hp : PatIn W k v cs) (hc : Pt.col k (csF cs) = f) (hb : PatAt W bp k v) => find_draw1 bp 144 l0 (Pt.Per f) (movedB k f f) W (Pt.per_grp f) h0 (fun x y => moved_per hk.ok hperk x y) (by omega) (by omega) hA hC (fun dx dy X h1 h2 h3 h4 hX => by
    have := draw1_any k v cs bp dx dy X (hp.all hX) (hb.all hX) (by omega) (by omega) (by omega) (by omega)
    rw [hc] at this
    exact this))
  have OP := Lib.hid (fun (base : Nat) (W : World) (v : Value) (h : OwnF base W v (k.a * k.c).toNat (Pt.cellF k f)) => own_patIn h hsk hf)
  have HPK := Lib.hid hperk
  have hpos : 0 < (k.a * k.c).toNat := by
    have := Int.mul_le_mul_of_nonneg_left hk.ok.2.2.2 (show 0 ≤ k.a by have := hk.ok.1; omega)
    have := hk.ok.1
    omega
  have hkk := Lib.hid hkn
  have hpos0 : 0 < (l0.a * l0.c).toNat := by
    have := Int.mul_le_mul_of_nonneg_left h0.ok.2.2.2 (show 0 ≤ l0.a by have := h0.ok.1; omega)
    have := h0.ok.1
    omega
  clear HH HF hG hk hgB hper hf h0 hperk hsk hs0 hkn
  have b0 := (BlockAt.new w #[.int .i64 n, .func (.func 109) #[latV kk] #[], .func (.func 110) #[] #[.pointer (some ⟨bp, 0, none⟩)]] 78).alloc (.cells #[.int .i64 0, .int .i64 0, .int .i64 0, .slice none 0 0] 24)
  have b1 := BlockAt.new (w.alloc (.cells #[.int .i64 n, .func (.func 109) #[latV kk] #[], .func (.func 110) #[] #[.pointer (some ⟨bp, 0, none⟩)]] 78)) #[.int .i64 0, .int .i64 0, .int .i64 0, .slice none 0 0] 24
  simp only [World.size_alloc] at b1
  have hw := below_alloc (below_alloc (Below.refl w.heap.size w) (.cells #[.int .i64 n, .func (.func 109) #[latV kk] #[], .func (.func 110) #[] #[.pointer (some ⟨bp, 0, none⟩)]] 78)) (.cells #[.int .i64 0, .int .i64 0, .int .i64 0, .slice none 0 0] 24)
  go_enter Tryz.func71, Tryz.ntmps71
  go_wp2_with fail
  refine (F1.out _ hw).mono ?_
  rintro e w1 ⟨hyes, hno, hb1⟩
  obtain rfl := hyes hkk.out
  clear hyes hno hkk F1
  have B0 := Lib.hid (b0.below hb1 b0.lt)
  have B1 := Lib.hid (b1.below hb1 b1.lt)
  have HW := Lib.hid (below_step hw hb1)
  clear b0 b1 hw hb1
  have c2 : World.cell? _ _ = some (.func (.func 110) #[] #[.pointer (some ⟨bp, 0, none⟩)]) := B0.out.cell 2
  have hlt0 := B0.out.lt
  have c2' : World.cell? (w1.alloc (.cells #[.int .i64 k.a, .int .i64 k.b, .int .i64 k.c] 70)) _ = some (.func (.func 110) #[] #[.pointer (some ⟨bp, 0, none⟩)]) := (B0.out.alloc _).cell 2
  go_wp2_with fail
  refine (P1.out _ (below_alloc HW.out _)).mono ?_
  rintro e w2 ⟨v, rfl, hown, hb2⟩
  obtain ⟨g, cp, rfl, _, _⟩ := hown.form hpos
  obtain ⟨cs, hpat, hcol⟩ := OP.out _ _ _ hown
  have hcol := hcol HPK.out
  have B0' := Lib.hid ((B0.out.alloc _).below hb2 (B0.out.alloc _).lt)
  have B1' := Lib.hid ((B1.out.alloc _).below hb2 (B1.out.alloc _).lt)
  have HW2 := Lib.hid (below_step (below_alloc HW.out _) hb2)
  have D := Lib.hid (D1.out (w2.alloc (.cells #[.int .i64 k.a, .int .i64 k.b, .int .i64 k.c, .slice (some ⟨g, 0, none⟩) (k.a * k.c).toNat cp] 24)) _ cs w2.heap.size (hpat.all ((Below.refl _ _).alloc (Nat.le_refl _) _)) hcol (PatAt.fresh _ _ _ _))
  clear hown hb2 hpat hcol c2 c2' hlt0 B0 B1 HW OP HPK D1 P1
  go_wp2_with fail
  refine D.out.mono ?_
  rintro e w4 ⟨hyes, hno, hb4⟩
  have B0 := Lib.hid ((B0'.out.alloc _).below hb4 (B0'.out.alloc _).lt)
  have B1 := Lib.hid ((B1'.out.alloc _).below hb4 (B1'.out.alloc _).lt)
  have HW := Lib.hid (below_step (below_alloc HW2.out _) hb4)
  clear B0' B1' HW2 hb4 D
  by_cases hsz : l0.a * l0.c ≤ 144
  · obtain rfl := hyes hsz
    have HSZ := Lib.hid hsz
    have c2 : World.cell? _ _ = some (.func (.func 110) #[] #[.pointer (some ⟨bp, 0, none⟩)]) := B0.out.cell 2
    have hlt0 := B0.out.lt
    have c2' : World.cell? (w4.alloc (.cells #[.int .i64 l0.a, .int .i64 l0.b, .int .i64 l0.c] 70)) _ = some (.func (.func 110) #[] #[.pointer (some ⟨bp, 0, none⟩)]) := (B0.out.alloc _).cell 2
    clear hyes hno hsz
    go_wp2_with fail
    refine (P2.out _ (below_alloc HW.out _)).mono ?_
    rintro e w5 ⟨u, rfl, hown, hb5⟩
    obtain ⟨g2, cp2, rfl, _, _⟩ := hown.form hpos0
    have B1' := Lib.hid ((B1.out.alloc _).below hb5 (B1.out.alloc _).lt)
    have HW2 := Lib.hid (below_step (below_alloc HW.out _) hb5)
    have hsz4 : w.heap.size + 2 ≤ w4.heap.size := by have := B1.out.lt; omega
    have HO := Lib.hid hown
    clear hown hb5 c2 c2' hlt0 B0 P2
    have c0 : World.cell? _ _ = some (.int .i64 0) := B1'.out.cell 0
    have c1 : World.cell? _ _ = some (.int .i64 0) := B1'.out.cell 1
    have c2 : World.cell? _ _ = some (.int .i64 0) := B1'.out.cell 2
    have c3 : World.cell? _ _ = some (.slice none 0 0) := B1'.out.cell 3
    have f0 := B1'.out.frozen 0
    have f1 := B1'.out.frozen 1
    have f2 := B1'.out.frozen 2
    have f3 := B1'.out.frozen 3
    go_wp2
    refine bodyPost_ret (v := .tuple #[.agg #[.int .i64 l0.a, .int .i64 l0.b, .int .i64 l0.c, .slice (some ⟨g2, 0, none⟩) (l0.a * l0.c).toNat cp2], .int .i64 0]) (by simp [results, Tryz.results71, go_sem, c0, c1, c2, c3]) rfl ⟨fun _ => ⟨_, rfl, ?_⟩, fun h => absurd HSZ.out h, ?_⟩
    · exact ((((HO.out.setOld (by simp; omega) _).setOld (by simp; omega) _).setOld (by simp; omega) _).setOld (by simp; omega) _).mono (by simp; omega)
    · exact (((HW2.out.setCell (by simp) _).setCell (by simp) _).setCell (by simp) _).setCell (by simp) _
  · obtain rfl := hno hsz
    have HSZ := Lib.hid hsz
    clear hyes hno hsz P2
    have c0 : World.cell? _ _ = some (.int .i64 0) := B1.out.cell 0
    have c1 : World.cell? _ _ = some (.int .i64 0) := B1.out.cell 1
    have c2 : World.cell? _ _ = some (.int .i64 0) := B1.out.cell 2
    have c3 : World.cell? _ _ = some (.slice none 0 0) := B1.out.cell 3
    have f0 := B1.out.frozen 0
    have f1 := B1.out.frozen 1
    have f2 := B1.out.frozen 2
    have f3 := B1.out.frozen 3
    have hlt := B1.out.lt
    go_wp2
    refine bodyPost_ret (v := .tuple #[.agg #[.int .i64 0, .int .i64 0, .int .i64 0, .slice none 0 0], .int .i64 4]) (by simp [results, Tryz.results71, go_sem, c0, c1, c2, c3, hlt]) rfl ⟨fun h => by have := HSZ.out; omega, fun _ => rfl, ?_⟩
    exact below_alloc ((((HW.out.setCell (by simp) _).setCell (by simp) _).setCell (by simp) _).setCell (by simp) _) _
end Go.Proofs.YtigigmjdockdeaaGreatDoor
