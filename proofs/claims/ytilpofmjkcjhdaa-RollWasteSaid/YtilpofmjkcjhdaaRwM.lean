/- The program's Waste. The reference's Waste. RollWaste returns true, whatever the band, the articles and the cutting. -/
import Derived.Test.YtilpofmjkcjhdaaRwF
import Derived.Test.YtilpofmjkcjhdaaRnA
import Derived.Test.YtilpofmjkcjhdaaRwE
import Derived.Test.YtilpofmjkcjhdaaRwC
import Derived.Test.YtilpofmjkcjhdaaRbE
namespace Go.Proofs.Ytilpofmjkcjhdaa
open Go.RowKit

def Ro.wasR (rs : List Bd.R) (al : List Ro.A) (xs : List Ro.X) : List Bd.S := if Ro.chkE rs al xs = 0 then Ro.wst al (Bd.exp rs).length 0 xs else []
theorem OwnS.all {base : Nat} {w w2 : World} {v : Value} {ss : List Bd.S} (h : OwnS base w v ss) (hb : Below w.heap.size w w2) : OwnS base w2 v ss := ownsRow_all h hb
theorem Ro.wst_step {al : List Ro.A} {N : Int} {R ss : List Bd.S} {f : Int} {xs : List Ro.X} {j : Nat} (hj : j < xs.length) (h : R = ss ++ Ro.wst al N f (xs.drop j)) : R = (ss ++ if f < xs[j].f then [⟨f, xs[j].f⟩] else []) ++ Ro.wst al N (xs[j].f + (Ro.art al xs[j].a).l) (xs.drop (j + 1)) := by
  rw [List.drop_eq_getElem_cons hj] at h
  rw [h, List.append_assoc]; rfl
theorem Ro.wst_last {al : List Ro.A} {N : Int} {R ss : List Bd.S} {f : Int} {xs : List Ro.X} (h : R = ss ++ Ro.wst al N f (xs.drop xs.length)) : R = ss ++ if f < N then [⟨f, N⟩] else [] := by
  rw [List.drop_length] at h
  exact h

set_option maxRecDepth 20000 in
set_option maxHeartbeats 4000000 in
theorem numWaste_any (v u x : Value) (rs : List Bd.R) (al : List Ro.A) (xs : List Ro.X) (w : World) (hv : Runs w v rs) (hu : Arts w u al) (hx : Pcs w x xs) (hl : rs.length ≤ 1000) (hal : al.length ≤ 1000) (hxl : xs.length ≤ 1000) :
    Calls Try.prog 37 #[v, u, x] w fun e w' => ∃ y, e = .returned (.tuple #[y, .int .i64 (Ro.chkE rs al xs)]) ∧ OwnS w.heap.size w' y (Ro.wasR rs al xs) ∧ (Ro.wasR rs al xs).length ≤ 1001 ∧ Below w.heap.size w w' := by
  obtain ⟨i0, hi, hz0, hz1, hz2⟩ := info_parts infoSpn
  by_cases hz : Ro.chkE rs al xs = 0
  · obtain ⟨hz1', hz2'⟩ := Ro.chkE_zero hz
    obtain ⟨h1, h2, h3, h4, h5, h6⟩ := Ro.lay_facts hz1'
    have LY := Lib.hid (layFor_ok v u x rs al xs w hv hu hx hl hal hxl hz)
    have HE := Lib.hid (Ro.chk_each hz2')
    have HOK := Lib.hid (fun (k : Nat) (hk : k < al.length) => (Ro.okA_iff.1 (h6 _ (List.getElem_mem hk))).1)
    have hR : Ro.wasR rs al xs = Ro.wst al (Bd.exp rs).length 0 xs := if_pos hz
    rw [hR, hz]
    obtain ⟨va, vc, rfl⟩ := hv.form
    obtain ⟨ua, uc, rfl, hka⟩ := hu
    obtain ⟨xa, xc, rfl, hkx⟩ := hx
    have HX := Lib.hid hkx
    have HS : Hid (∀ j (hj : j < xs.length), ∃ k : Nat, ∃ hk : k < al.length, xs[j].a = k ∧ 0 ≤ xs[j].f ∧ xs[j].f ≤ 300) := Lib.hid fun j hj => by
      obtain ⟨k, hk, h, g1, g2⟩ := Ro.fitX_split (HE.out j hj)
      have := HOK.out k hk
      exact ⟨k, hk, h, g1, by omega⟩
    have EN := Lib.hid (fun (bv ov : Value) (n : Int) (y : Ro.X) (k : Nat) (hk : k < al.length) hx W (ho : Offs W ov rs al) g1 g2 => end_any bv ov n rs al y k hk hx W ho g1 g2 (HOK.out k hk))
    clear hv hz hz1' hz2' h1 h2 h3 h6 hR hka hkx HE HOK
    obtain ⟨N, hN⟩ : ∃ N, N = (Bd.exp rs).length := ⟨_, rfl⟩
    rw [← hN] at LY h4 ⊢
    clear hN
    obtain ⟨R, hR⟩ : ∃ R, R = Ro.wst al N 0 xs := ⟨_, rfl⟩
    rw [← hR]
    have HR0 : Hid (R = [] ++ Ro.wst al N 0 (xs.drop 0)) := Lib.hid hR
    have HWS := Lib.hid (fun (ss : List Bd.S) (f : Int) (j : Nat) (hj : j < xs.length) h => Ro.wst_step (al := al) (N := (N : Int)) (R := R) (ss := ss) (f := f) hj h)
    have HWL := Lib.hid (fun (ss : List Bd.S) (f : Int) h => Ro.wst_last (al := al) (N := (N : Int)) (R := R) (ss := ss) (f := f) (xs := xs) h)
    clear hR
    obtain ⟨vl, hvl⟩ : ∃ y, y = rs.length := ⟨_, rfl⟩
    rw [← hvl] at LY ⊢
    clear hvl hl
    go_enter Try.func37, Try.ntmps37
    go_wp2_with fail
    refine LY.out.mono ?_
    rintro e w1 ⟨oa, oc, us, rfl, ho, hb1⟩
    have H1 : Hid (BlockAt (w1.alloc (.cells (tabA (.slice va vl vc) N (.slice oa al.length oc)) TabT)) w1.heap.size (tabA (.slice va vl vc) N (.slice oa al.length oc)) TabT ∧ Offs (w1.alloc (.cells (tabA (.slice va vl vc) N (.slice oa al.length oc)) TabT)) (.slice oa al.length oc) rs al ∧ Below w.heap.size w (w1.alloc (.cells (tabA (.slice va vl vc) N (.slice oa al.length oc)) TabT))) :=
      Lib.hid ⟨BlockAt.new _ _ _, ho.offs.all ((Below.refl _ _).alloc (Nat.le_refl _) _), below_alloc2 hb1 _⟩
    clear hb1 LY ho
    go_wp2
    obtain ⟨W0, hW0⟩ : ∃ W0, W0 = w1.alloc (.cells (tabA (.slice va vl vc) N (.slice oa al.length oc)) TabT) := ⟨_, rfl⟩
    rw [← hW0] at H1 ⊢
    clear hW0
    have HLT1 := Lib.hid H1.out.1.lt
    have HSZ := Lib.hid H1.out.2.2.size
    go_loopw [10, 11, 26] (fun s g t wr => ∃ (j : Nat) (ss : List Bd.S) (f : Int), j ≤ xs.length ∧ ss.length ≤ j ∧ t = .int .i64 j ∧ g = .int .i64 f ∧ Hid (R = ss ++ Ro.wst al N f (xs.drop j)) ∧ Hid (OwnS W0.heap.size wr s ss ∧ Below W0.heap.size W0 wr)) (fun _ _ t _ => xs.length - (intOf t).toNat)
    case atStart => exact ⟨0, [], 0, Nat.zero_le _, Nat.le_refl _, rfl, rfl, HR0, Lib.hid ⟨OwnS.nil _ _, Below.refl _ _⟩⟩
    case round =>
      obtain ⟨j, ss, f, hj, hss, rfl, rfl, hh, hg⟩ := hrel
      clear HR0
      have HT := Lib.hid (H1.out.1.below hg.out.2 HLT1.out)
      have t0 : World.cell? wr ⟨w1.heap.size, 0, none⟩ = some (.slice va vl vc) := HT.out.cell 0
      have t1 : World.cell? wr ⟨w1.heap.size, 1, none⟩ = some (.int .i64 (N : Int)) := HT.out.cell 1
      have t2 : World.cell? wr ⟨w1.heap.size, 2, none⟩ = some (.slice oa al.length oc) := HT.out.cell 2
      have l1 := HT.out.lt
      clear HT
      obtain ⟨ra, rc, hre, _⟩ := hg.out.1.spns
      subst hre
      by_cases hlt : j < xs.length
      · obtain ⟨b, off, rfl, hb, hr⟩ := HX.out j hlt
        obtain ⟨c0, c1⟩ := hr.below (below_step H1.out.2.2 hg.out.2) hb
        obtain ⟨k, hk, hxk, y1, y2⟩ := HS.out j hlt
        have hst := HWS.out ss f j hlt hh.out
        rw [hxk, Ro.art_at hk] at hst
        have hE := EN.out (.slice va vl vc) (.slice oa al.length oc) (N : Int) xs[j] k hk hxk
        have HST := Lib.hid hst
        have HEE := Lib.hid (fun W (hW : Below W0.heap.size W0 W) => hE W (H1.out.2.1.all hW) y1 y2)
        have HG : Hid (OwnS W0.heap.size (wr.alloc (.cells #[.int .i64 xs[j].f, .int .i64 xs[j].a] PcT)) (.slice ra ss.length rc) ss ∧ BlockAt (wr.alloc (.cells #[.int .i64 xs[j].f, .int .i64 xs[j].a] PcT)) wr.heap.size #[.int .i64 xs[j].f, .int .i64 xs[j].a] PcT ∧ Below W0.heap.size W0 (wr.alloc (.cells #[.int .i64 xs[j].f, .int .i64 xs[j].a] PcT))) :=
          Lib.hid ⟨hg.out.1.alloc _, BlockAt.new _ _ _, below_alloc2 hg.out.2 _⟩
        clear hst hh hE hr hg hxk y1 y2
        generalize al[k] = a at *
        generalize xs[j] = y at *
        by_cases hd : f < y.f
        · have hdd : decide (f < y.f) = true := decide_eq_true hd
          rw [if_pos hd] at HST
          have hown := HG.out.1
          have hca := spnC_at (wr.alloc (.cells #[.int .i64 y.f, .int .i64 y.a] PcT)) ⟨f, y.f⟩ 57 rfl
          simp only [World.size_alloc] at hca
          have hsz := HG.out.2.2.size
          simp only [World.size_alloc] at hsz
          go_wp2_with (at_builtin; refine wpList_append_own _ rfl _ _ 53 rfl W0.heap.size 57 i0 (.agg #[.int .i64 0, .int .i64 0]) 2 16 Try.underlying53 hi hz0 hz1 hz2 rfl (by decide) _ _ _ rfl (hown.alloc _) ⟨wr.heap.size + 1, 0, none⟩ 1 1 (spnC ⟨f, y.f⟩) rfl rfl ?c1 (spnC_one _) ?c3 ?c4 ?c5 ?_)
          case c1 => exact hca
          case c3 => unfold maxLen; omega
          case c4 => omega
          case c5 => simp; omega
          intro v' w9 hr9 hg9 _
          have hw9 := (below_alloc2 HG.out.2.2 (.cells #[.int .i64 f, .int .i64 y.f] 57)).grown hg9 (by simp; omega) (fun j e => (World.ownsRow.lt hown j e).1)
          have hp9 : OwnS W0.heap.size w9 v' (ss ++ [⟨f, y.f⟩]) := OwnS.pushed hr9
          have hy9 := (HG.out.2.1.alloc (.cells #[.int .i64 f, .int .i64 y.f] 57)).grown hg9 (BlockAt.not_row HG.out.2.1 (by decide) hown)
          have HN := Lib.hid (And.intro hp9 hw9)
          have C := Lib.hid (HEE.out _ hw9)
          clear t0 t1 t2
          have HT := Lib.hid (H1.out.1.below hw9 HLT1.out)
          have t0 : World.cell? w9 ⟨w1.heap.size, 0, none⟩ = some (.slice va vl vc) := HT.out.cell 0
          have t1 : World.cell? w9 ⟨w1.heap.size, 1, none⟩ = some (.int .i64 (N : Int)) := HT.out.cell 1
          have t2 : World.cell? w9 ⟨w1.heap.size, 2, none⟩ = some (.slice oa al.length oc) := HT.out.cell 2
          have p0 : World.cell? w9 ⟨wr.heap.size, 0, none⟩ = some (.int .i64 y.f) := hy9.cell 0
          have p1 : World.cell? w9 ⟨wr.heap.size, 1, none⟩ = some (.int .i64 y.a) := hy9.cell 1
          clear hown hca hr9 hg9 hw9 hp9 hy9 HEE HG HT hsz
          go_wp2_with fail
          refine C.out.mono ?_
          rintro e w2 ⟨rfl, hb2⟩
          have HN2 := Lib.hid (And.intro (HN.out.1.all hb2) (below_step HN.out.2 hb2))
          clear hb2 HN C t0 t1 t2 p0 p1
          go_wp2
          go_roundw
          case rel => exact ⟨j + 1, _, _, by omega, by rw [List.length_append, List.length_singleton]; omega, by go_num, rfl, HST, HN2⟩
          case measure => simp [intOf]; omega
        · have hdd : decide (f < y.f) = false := decide_eq_false hd
          rw [if_neg hd, List.append_nil] at HST
          have C := Lib.hid (HEE.out _ HG.out.2.2)
          clear HEE
          go_wp2_with fail
          refine C.out.mono ?_
          rintro e w2 ⟨rfl, hb2⟩
          have HN2 := Lib.hid (And.intro (HG.out.1.all hb2) (below_step HG.out.2.2 hb2))
          clear hb2 HG C t0 t1 t2
          go_wp2
          go_roundw
          case rel => exact ⟨j + 1, _, _, by omega, by omega, by go_num, rfl, HST, HN2⟩
          case measure => simp [intOf]; omega
      · obtain rfl : j = xs.length := by omega
        have hst := HWL.out ss f hh.out
        have HG := hg
        have hsz := hg.out.2.size
        have hsz1 := HSZ.out
        have HD := Lib.hid hg.out.1
        clear hg hh
        by_cases hd : f < (N : Int)
        · have hdd : decide (f < (N : Int)) = true := decide_eq_true hd
          rw [if_pos hd] at hst
          have hown := HG.out.1
          go_wp2_with (at_builtin; refine wpList_append_own _ rfl _ _ 53 rfl W0.heap.size 57 i0 (.agg #[.int .i64 0, .int .i64 0]) 2 16 Try.underlying53 hi hz0 hz1 hz2 rfl (by decide) _ _ _ rfl (hown.alloc _) ⟨wr.heap.size, 0, none⟩ 1 1 (spnC ⟨f, N⟩) rfl rfl ?c1 (spnC_one _) ?c3 ?c4 ?c5 ?_)
          case c1 => exact spnC_at wr ⟨f, N⟩ _ rfl
          case c3 => unfold maxLen; omega
          case c4 => omega
          case c5 => simp; omega
          intro v' w9 hr9 hg9 _
          have HN := Lib.hid (And.intro (OwnS.pushed (s := ⟨f, N⟩) hr9) ((below_alloc2 HG.out.2 (.cells #[.int .i64 f, .int .i64 (N : Int)] 57)).grown hg9 (by simp; omega) (fun j e => (World.ownsRow.lt hown j e).1)))
          rw [← hst] at HN
          have hle : R.length ≤ 1001 := by rw [hst, List.length_append, List.length_singleton]; omega
          clear hown hr9 hg9 HG t0 t1 t2 hst
          go_wp2
          go_ret2
          exact ⟨_, rfl, HN.out.1.mono HSZ.out, hle, below_step H1.out.2.2 HN.out.2⟩
        · have hdd : decide (f < (N : Int)) = false := decide_eq_false hd
          rw [if_neg hd, List.append_nil] at hst
          subst hst
          go_wp2
          go_ret2
          exact ⟨_, rfl, HG.out.1.mono HSZ.out, by omega, below_step H1.out.2.2 HG.out.2⟩
  · have LY := Lib.hid (layFor_bad v u x rs al xs w hv hu hx hl hal hxl hz)
    have hR : Ro.wasR rs al xs = [] := if_neg hz
    rw [hR]
    obtain ⟨va, vc, rfl⟩ := hv.form
    obtain ⟨ua, uc, rfl, _⟩ := hu
    obtain ⟨xa, xc, rfl, _⟩ := hx
    generalize Ro.chkE rs al xs = q at *
    have hd : (q == 0) = false := beq_eq_false_iff_ne.2 hz
    have hd2 : (q != 0) = true := by rw [bne, hd]; rfl
    clear hv hz hR
    go_enter Try.func37, Try.ntmps37
    go_wp2_with fail
    refine LY.out.mono ?_
    rintro e w1 ⟨rfl, hb1⟩
    have HB := Lib.hid (below_alloc2 hb1 (.cells (tabA (.slice none 0 0) 0 (.slice none 0 0)) TabT))
    clear hb1 LY
    go_wp2
    go_ret2
    exact ⟨_, rfl, OwnS.nil _ _, Nat.zero_le _, HB.out⟩
end Go.Proofs.Ytilpofmjkcjhdaa
namespace Go.Proofs.Ytilpofmjkcjhdaa
open Go.RowKit

theorem infoBol : (Try.prog.info? 4).map (fun i => (i.zero, i.size, i.bytes)) = some (some (.bool false), 1, 1) := by kernel_rfl
def bnC (n : Nat) (f : Nat → Bool) : Array Value := ((List.range n).map (fun i => Value.bool (f i))).toArray
theorem bnC_at {n : Nat} {f : Nat → Bool} {i : Nat} (h : i < n) : (bnC n f)[i]? = some (.bool (f i)) := by
  unfold bnC; simp [h]
theorem bnC_set (n : Nat) {f g : Nat → Bool} {i : Nat} (h : ∀ j, j < n → g j = if j = i then true else f j) : (bnC n f).setIfInBounds i (.bool true) = bnC n g := by
  unfold bnC
  rw [List.setIfInBounds_toArray]
  congr 1
  refine List.ext_getElem (by simp) fun j h1 h2 => ?_
  simp only [List.getElem_set, List.getElem_map, List.getElem_range]
  rw [h j (by simpa using h2)]
  by_cases e : i = j
  · subst e; simp
  · rw [if_neg e, if_neg (fun h => e h.symm)]
theorem bnC_congr {n : Nat} {f g : Nat → Bool} (h : ∀ i, i < n → f i = g i) : bnC n f = bnC n g := by
  unfold bnC
  congr 1
  exact List.map_congr_left fun i hi => by rw [h i (List.mem_range.1 hi)]
theorem madeBools (n : Nat) : madeCells #[.bool false] n = bnC n (fun _ => false) := by
  unfold bnC madeCells
  refine Array.ext (by simp) fun i h1 h2 => ?_
  simp [Nat.mod_one]
theorem made_bols (n : Nat) (hn : n ≤ 1000) : ∀ W : World, (Instr.makeSlice 110 (.int .i64 (n : Int)) (.int .i64 (n : Int))).run Try.prog W = .ok (.slice (some ⟨W.heap.size, 0, none⟩) n n) (W.alloc (.cells (bnC n (fun _ => false)) 4)) := by
  intro W
  obtain ⟨i0, hi, hz0, hz1, hz2⟩ := info_parts infoBol
  have := run_makeSlice (P := Try.prog) (w := W) 110 4 i0 (.bool false) Try.underlying110 hi hz0 .i64 .i64 (n : Int) (n : Int) (by omega) (by omega) (by rw [hz1]; omega) (by rw [hz2]; omega) (by omega)
  rw [this, hz1, Nat.mul_one, show ((n : Int)).toNat = n by omega, show (Value.bool false).cells = #[.bool false] from rfl, madeBools]
/-- The places that some pieces take, and of one more its first ones. -/
def Ro.us (al : List Ro.A) (xs : List Ro.X) (f : Int) (k : Nat) (i : Nat) : Bool := Ro.used al xs i || (decide (f ≤ i) && decide ((i : Int) < f + k))
theorem Ro.us_zero (al : List Ro.A) (xs : List Ro.X) (f : Int) (i : Nat) : Ro.us al xs f 0 i = Ro.used al xs i := by
  unfold Ro.us
  have : (decide (f ≤ (i : Int)) && decide ((i : Int) < f + ((0 : Nat) : Int))) = false := by
    rw [Bool.and_eq_false_iff]
    by_cases h : f ≤ (i : Int)
    · exact .inr (decide_eq_false (by omega))
    · exact .inl (decide_eq_false h)
  rw [this, Bool.or_false]
theorem Ro.us_succ (al : List Ro.A) (xs : List Ro.X) (p k : Nat) (i : Nat) : Ro.us al xs (p : Int) (k + 1) i = if i = p + k then true else Ro.us al xs (p : Int) k i := by
  unfold Ro.us
  by_cases e : i = p + k
  · rw [if_pos e, decide_eq_true (by omega), decide_eq_true (by omega)]; simp
  · rw [if_neg e]
    congr 2
    exact decide_eq_decide.2 ⟨fun h => by omega, fun h => by omega⟩
theorem Ro.us_all {al : List Ro.A} {xs : List Ro.X} {j k : Nat} (hj : j < xs.length) (hk : (k : Int) = (Ro.art al xs[j].a).l) (i : Nat) : Ro.us al (xs.take j) xs[j].f k i = Ro.used al (xs.take (j + 1)) i := by
  unfold Ro.us Ro.used
  rw [List.take_succ_eq_append_getElem hj, List.any_append, hk]
  simp
theorem Ro.unu_len (al : List Ro.A) (xs : List Ro.X) : ∀ n : Nat, (Ro.unu al xs n).length ≤ n
  | 0 => Nat.le_refl _
  | n + 1 => by
    have ih := Ro.unu_len al xs n
    unfold Ro.unu
    split
    · omega
    · generalize Ro.unu al xs n = b at *
      rcases List.eq_nil_or_concat b with rfl | ⟨a, q, rfl⟩
      · rw [Bd.pushS_nil]; simp
      · rw [List.concat_eq_append] at ih ⊢
        rw [Bd.pushS_snoc]
        simp only [List.length_append, List.length_singleton] at ih
        split <;> simp <;> omega
theorem Ro.unu_yes {al : List Ro.A} {xs : List Ro.X} {n : Nat} (h : Ro.used al xs n = true) : Ro.unu al xs (n + 1) = Ro.unu al xs n := if_pos h
theorem Ro.unu_no {al : List Ro.A} {xs : List Ro.X} {n : Nat} (h : Ro.used al xs n = false) : Ro.unu al xs (n + 1) = Bd.pushS (Ro.unu al xs n) ⟨n, (n : Int) + 1⟩ := if_neg (by rw [h]; simp)

set_option maxRecDepth 20000 in
set_option maxHeartbeats 4000000 in
theorem refWaste_any (v u x : Value) (rs : List Bd.R) (al : List Ro.A) (xs : List Ro.X) (w : World) (hv : Runs w v rs) (hu : Arts w u al) (hx : Pcs w x xs) (hl : rs.length ≤ 1000) (hal : al.length ≤ 1000) (hxl : xs.length ≤ 1000) :
    Calls Try.prog 38 #[v, u, x] w fun e w' => ∃ y, e = .returned (.tuple #[y, .int .i64 (Ro.chkE rs al xs)]) ∧ OwnS w.heap.size w' y (Ro.wasR rs al xs) ∧ Below w.heap.size w w' := by
  obtain ⟨i0, hi, hz0, hz1, hz2⟩ := info_parts infoSpn
  by_cases hlz : Ro.layE rs al = 0
  case neg =>
    have LY := Lib.hid (marks_bad v u rs al w hv hu hl hal hlz)
    have hE : Ro.chkE rs al xs = Ro.layE rs al := if_neg hlz
    have hR : Ro.wasR rs al xs = [] := if_neg (by rw [hE]; exact hlz)
    rw [hR, hE]
    obtain ⟨va, vc, rfl⟩ := hv.form
    obtain ⟨ua, uc, rfl, _⟩ := hu
    obtain ⟨xa, xc, rfl, _⟩ := hx
    generalize Ro.layE rs al = q at *
    have hd : (q == 0) = false := beq_eq_false_iff_ne.2 hlz
    have hd2 : (q != 0) = true := by rw [bne, hd]; rfl
    clear hv hlz hR hE
    go_enter Try.func38, Try.ntmps38
    go_wp2_with fail
    refine LY.out.mono ?_
    rintro e w1 ⟨rfl, hb1⟩
    have HB := Lib.hid hb1
    clear hb1 LY
    go_wp2
    go_ret2
    exact ⟨_, rfl, OwnS.nil _ _, HB.out⟩
  obtain ⟨h1, h2, h3, h4, h5, h6⟩ := Ro.lay_facts hlz
  have LY := Lib.hid (marks_ok v u rs al w hv hu hl hal hlz)
  have hCE : Ro.chkE rs al xs = Ro.chk (Bd.exp rs) al 0 xs := if_pos hlz
  have CK := Lib.hid (fun mv W (hW : Below w.heap.size w W) (hm : Mks W mv (Bd.exp rs)) => refCheck_any mv u x (Bd.exp rs) al xs W hm (hu.all hW) (hx.all hW) h6 h5 h4 hxl)
  by_cases hz : Ro.chk (Bd.exp rs) al 0 xs = 0
  case neg =>
    have hR : Ro.wasR rs al xs = [] := if_neg (by rw [hCE]; exact hz)
    rw [hR, hCE]
    obtain ⟨va, vc, rfl⟩ := hv.form
    obtain ⟨ua, uc, rfl, _⟩ := hu
    obtain ⟨xa, xc, rfl, _⟩ := hx
    clear hv hlz hR hCE h1 h2 h3 h6
    generalize Ro.chk (Bd.exp rs) al 0 xs = q at *
    have hd : (q == 0) = false := beq_eq_false_iff_ne.2 hz
    have hd2 : (q != 0) = true := by rw [bne, hd]; rfl
    go_enter Try.func38, Try.ntmps38
    go_wp2_with fail
    refine LY.out.mono ?_
    rintro e w1 ⟨mv, rfl, hm, hb1⟩
    obtain ⟨ma, mc, rfl, _⟩ := hm.mks
    have H1 := Lib.hid (And.intro hm.mks hb1)
    clear hm hb1 LY
    go_wp2_with fail
    refine (CK.out _ _ H1.out.2 H1.out.1).mono ?_
    rintro e w2 ⟨rfl, hb2⟩
    have H2 := Lib.hid (below_step H1.out.2 hb2)
    clear hb2 H1 CK
    go_wp2
    go_ret2
    exact ⟨_, rfl, OwnS.nil _ _, H2.out⟩
  have hR : Ro.wasR rs al xs = Ro.unu al xs (Bd.exp rs).length := (if_pos (by rw [hCE]; exact hz)).trans (Ro.unu_wst h6 hz).symm
  have HE := Lib.hid (Ro.chk_each hz)
  have HOK := Lib.hid (fun (k : Nat) (hk : k < al.length) => (Ro.okA_iff.1 (h6 _ (List.getElem_mem hk))).1)
  rw [hR, hCE]
  rw [hz] at CK ⊢
  have hmake := made_bols (Bd.exp rs).length (by omega)
  obtain ⟨va, vc, rfl⟩ := hv.form
  obtain ⟨ua, uc, rfl, hka⟩ := hu
  obtain ⟨xa, xc, rfl, hkx⟩ := hx
  have HA := Lib.hid hka
  have HX := Lib.hid hkx
  obtain ⟨N, hN⟩ : ∃ N, N = (Bd.exp rs).length := ⟨_, rfl⟩
  have HS : Hid (∀ j (hj : j < xs.length), ∃ k p m : Nat, ∃ hk : k < al.length, xs[j].a = k ∧ xs[j].f = p ∧ al[k].l = m ∧ p + m ≤ N) := Lib.hid fun j hj => by
    obtain ⟨k, hk, h, g1, g2⟩ := Ro.fitX_split (HE.out j hj)
    have := HOK.out k hk
    exact ⟨k, xs[j].f.toNat, al[k].l.toNat, hk, h, by omega, by omega, by omega⟩
  rw [← hN] at h4 hmake ⊢
  have HMN := Lib.hid hN
  clear hv hlz hz h1 h2 h3 h6 hR hCE hka hkx HE HOK hN
  generalize Bd.exp rs = ms at *
  obtain ⟨vl, hvl⟩ : ∃ y, y = rs.length := ⟨_, rfl⟩
  rw [← hvl] at LY ⊢
  clear hvl hl
  have HU := Lib.hid (fun j hj k hk i => Ro.us_all (al := al) (xs := xs) (j := j) (k := k) hj hk i)
  have HU0 := Lib.hid (fun j f i => Ro.us_zero al (xs.take j) f i)
  have HUS := Lib.hid (fun j p k i => Ro.us_succ al (xs.take j) p k i)
  have HUALL : Hid (xs.take xs.length = xs) := Lib.hid List.take_length
  have HYES := Lib.hid (fun i h => Ro.unu_yes (al := al) (xs := xs) (n := i) h)
  have HNO := Lib.hid (fun i h => Ro.unu_no (al := al) (xs := xs) (n := i) h)
  have HLEN := Lib.hid (Ro.unu_len al xs)
  go_enter Try.func38, Try.ntmps38
  go_wp2_with fail
  refine LY.out.mono ?_
  rintro e w1 ⟨mv, rfl, hm, hb1⟩
  obtain ⟨ma, mc, rfl, _⟩ := hm.mks
  have H1 := Lib.hid (And.intro hm.mks hb1)
  clear hm hb1 LY
  rw [← HMN.out] at *
  go_wp2_with fail
  refine (CK.out _ _ H1.out.2 H1.out.1).mono ?_
  rintro e w2 ⟨rfl, hb2⟩
  have H2 := Lib.hid (below_step H1.out.2 hb2)
  clear hb2 H1 CK
  have HB0 : Hid (BlockAt (w2.alloc (.cells (bnC N (fun i => Ro.used al (xs.take 0) i)) 4)) w2.heap.size (bnC N (fun i => Ro.used al (xs.take 0) i)) 4 ∧ Below w2.heap.size w2 (w2.alloc (.cells (bnC N (fun i => Ro.used al (xs.take 0) i)) 4))) := Lib.hid ⟨BlockAt.new _ _ _, below_alloc2 (Below.refl _ _) _⟩
  rw [show (fun i => Ro.used al (xs.take 0) i) = (fun _ => false) from funext fun i => by rw [List.take_zero]; rfl] at HB0
  have HZ0 : Hid (bnC N (fun _ => false) = bnC N (fun i => Ro.used al (xs.take 0) i)) := Lib.hid (by rw [List.take_zero]; rfl)
  go_wp2
  go_loopw [12] (fun t wr => ∃ j : Nat, j ≤ xs.length ∧ t = .int .i64 j ∧ Hid (BlockAt wr w2.heap.size (bnC N (fun i => Ro.used al (xs.take j) i)) 4 ∧ Below w2.heap.size w2 wr)) (fun t _ => xs.length - (intOf t).toNat)
  case atStart => exact ⟨0, Nat.zero_le _, rfl, Lib.hid ⟨by rw [← HZ0.out]; exact HB0.out.1, HB0.out.2⟩⟩
  case round =>
    obtain ⟨j, hj, rfl, hg⟩ := hrel
    clear HB0 HZ0 hmake
    by_cases hlt : j < xs.length
    · obtain ⟨xb, xo, rfl, hxb, hxr⟩ := HX.out j hlt
      obtain ⟨k0, p, m, hk0, hxk, hxf, hal2, hpm⟩ := HS.out j hlt
      have hua := HU.out j hlt m (by rw [hxk, Ro.art_at hk0, hal2])
      rw [hxf] at hua
      have HUA := Lib.hid hua
      have hu0 := HU0.out j (p : Int)
      have HI0 : Hid (BlockAt wr w2.heap.size (bnC N (Ro.us al (xs.take j) (p : Int) 0)) 4 ∧ Below w2.heap.size w2 wr) := Lib.hid ⟨by rw [bnC_congr (fun i _ => hu0 i)]; exact hg.out.1, hg.out.2⟩
      have HUS1 := Lib.hid (fun k i => HUS.out j p k i)
      obtain ⟨ab, ao, rfl, hab, har⟩ := HA.out k0 hk0
      have HXR := Lib.hid hxr
      have HAR := Lib.hid har
      have HF := Lib.hid (And.intro hxk (And.intro hxf hal2))
      clear hua hu0 hg hxr har hxk hxf hal2
      generalize al[k0] = a at *
      generalize xs[j] = y at *
      go_wp2
      go_loopw [13] (fun t wr => ∃ k : Nat, k ≤ m ∧ t = .int .i64 k ∧ Hid (BlockAt wr w2.heap.size (bnC N (Ro.us al (xs.take j) (p : Int) k)) 4 ∧ Below w2.heap.size w2 wr)) (fun t _ => m - (intOf t).toNat)
      case atStart => exact ⟨0, Nat.zero_le _, rfl, HI0⟩
      case round =>
        obtain ⟨k, hkm, rfl, hg⟩ := hrel
        clear HI0
        obtain ⟨c0, c1⟩ := HXR.out.below (below_step H2.out hg.out.2) hxb
        obtain ⟨d0, _, _, _, _, _⟩ := HAR.out.below (below_step H2.out hg.out.2) hab
        rw [HF.out.2.1] at c0
        rw [HF.out.1] at c1
        rw [HF.out.2.2] at d0
        by_cases hkl : k < m
        · have hwp : IntKind.i64.wrap ((p : Int) + (k : Int)) = ((p + k : Nat) : Int) := by rw [IntWalk.i64_in _ ⟨by omega, by omega⟩]; omega
          have hpk : p + k < N := by omega
          have fz := hg.out.1.frozen (p + k)
          have cu : World.cell? wr ⟨w2.heap.size, p + k, none⟩ = some (.bool (Ro.us al (xs.take j) (p : Int) k (p + k))) := (hg.out.1.cell (p + k)).trans (bnC_at hpk)
          have hlb := hg.out.1.lt
          have hset := hg.out.1.set (p + k) (.bool true)
          rw [bnC_set N (g := Ro.us al (xs.take j) (p : Int) (k + 1)) (fun i _ => HUS1.out k i)] at hset
          have HN := Lib.hid (And.intro hset (hg.out.2.setCell (p := ⟨w2.heap.size, p + k, none⟩) (by simp) (.bool true)))
          clear hset hg
          go_wp2
          go_roundw
          case rel => exact ⟨k + 1, by omega, by go_num, HN⟩
          case measure => simp [intOf]; omega
        · obtain rfl : k = m := by omega
          have HN := Lib.hid (And.intro (show BlockAt _ _ (bnC N (fun i => Ro.used al (xs.take (j + 1)) i)) 4 by rw [← bnC_congr (fun i _ => HUA.out i)]; exact hg.out.1) hg.out.2)
          clear hg
          go_wp2
          go_roundw
          case rel => exact ⟨j + 1, by omega, by go_num, HN⟩
          case measure => simp [intOf]; omega
    · obtain rfl : j = xs.length := by omega
      rw [HUALL.out] at hg
      have HG := hg
      clear hg HA HX HS HU HU0 HUS
      obtain ⟨W3, hW3⟩ : ∃ W3 : World, W3 = wr := ⟨_, rfl⟩
      subst hW3
      have HLB := Lib.hid HG.out.1.lt
      go_wp2
      go_loopw [14, 15] (fun s t wr => ∃ i : Nat, i ≤ N ∧ t = .int .i64 i ∧ Hid (OwnS W3.heap.size wr s (Ro.unu al xs i) ∧ Below W3.heap.size W3 wr)) (fun _ t _ => N - (intOf t).toNat)
      case atStart => exact ⟨0, Nat.zero_le _, rfl, Lib.hid ⟨OwnS.nil _ _, Below.refl _ _⟩⟩
      case round =>
        obtain ⟨i, hiN, rfl, hg⟩ := hrel
        have hle := HLEN.out i
        by_cases hil : i < N
        · have cb : World.cell? wr ⟨w2.heap.size, i, none⟩ = some (.bool (Ro.used al xs i)) := (hg.out.2.cell (p := ⟨w2.heap.size, i, none⟩) HLB.out).trans ((HG.out.1.cell i).trans (bnC_at hil))
          obtain ⟨H, hH⟩ : ∃ H, H = Ro.used al xs i := ⟨_, rfl⟩
          rw [← hH] at cb
          cases H
          case true =>
            have HY := Lib.hid (HYES.out i hH.symm)
            have HN := hg
            clear hH hg
            go_wp2
            go_roundw
            case rel => exact ⟨i + 1, by omega, by go_num, Lib.hid (by rw [HY.out]; exact HN.out)⟩
            case measure => simp [intOf]; omega
          have HY := Lib.hid (HNO.out i hH.symm)
          obtain ⟨hown, hw⟩ := hg.out
          clear hH hg
          have hsz := hw.size
          generalize Ro.unu al xs i = b at *
          rcases List.eq_nil_or_concat b with rfl | ⟨c, q, hbq⟩
          · obtain ⟨ra, rc, rfl⟩ := hown.empty
            go_wp2_with (at_builtin; refine wpList_append_own _ rfl _ _ 53 rfl W3.heap.size 57 i0 (.agg #[.int .i64 0, .int .i64 0]) 2 16 Try.underlying53 hi hz0 hz1 hz2 rfl (by decide) _ _ _ rfl (hown.alloc _) ⟨wr.heap.size, 0, none⟩ 1 1 (spnC ⟨i, (i : Int) + 1⟩) rfl rfl ?c1 (spnC_one _) ?c3 ?c4 ?c5 ?_)
            case c1 => exact spnC_at wr ⟨i, (i : Int) + 1⟩ _ rfl
            case c3 => unfold maxLen; simp
            case c4 => simp
            case c5 => simp; omega
            intro v' w9 hr9 hg9 _
            have HN := Lib.hid (And.intro (OwnS.pushed (a := []) (s := ⟨i, (i : Int) + 1⟩) hr9) ((below_alloc2 hw (.cells #[.int .i64 (i : Int), .int .i64 ((i : Int) + 1)] 57)).grown hg9 (by simp; omega) (fun j e => (World.ownsRow.lt hown j e).1)))
            clear hown hw hr9 hg9 cb
            go_wp2
            go_roundw
            case rel => exact ⟨i + 1, by omega, by go_num, Lib.hid (by rw [HY.out]; exact HN.out)⟩
            case measure => simp [intOf]; omega
          · rw [List.concat_eq_append] at hbq
            subst hbq
            rw [List.length_append, List.length_singleton] at hle
            have hps := HY.out
            rw [Bd.pushS_snoc] at hps
            obtain ⟨g, cp, rfl, hg1, hg2, hg3, hg4, d0, d1⟩ := hown.snoc
            have f1 := hg4 (c.length * 2 + 1)
            have hlti : (c.length : Int) < (c.length : Int) + 1 := by omega
            by_cases hq : q.t = (i : Int)
            · rw [if_pos hq] at hps
              have hqb : (q.t == (i : Int)) = true := by simp [hq]
              have HPS := Lib.hid hps
              have HN := Lib.hid (And.intro (hown.setT ((i : Int) + 1)) (hw.setCell (p := ⟨g, c.length * 2 + 1, none⟩) hg1 (.int .i64 ((i : Int) + 1))))
              clear hps hq hown hw d0 hg4 HY
              go_wp2
              go_roundw
              case rel => exact ⟨i + 1, by omega, by go_num, Lib.hid (by rw [HPS.out]; exact HN.out)⟩
              case measure => simp [intOf]; omega
            · rw [if_neg hq] at hps
              have hqb : (q.t == (i : Int)) = false := by simp [hq]
              have HPS := Lib.hid hps
              have hr := hown.row
              clear hps hq d0 hg4 HY
              go_wp2_with (at_builtin; refine wpList_append_own _ rfl _ _ 53 rfl W3.heap.size 57 i0 (.agg #[.int .i64 0, .int .i64 0]) 2 16 Try.underlying53 hi hz0 hz1 hz2 rfl (by decide) _ _ _ rfl (hr.alloc _) ⟨wr.heap.size, 0, none⟩ 1 1 (spnC ⟨i, (i : Int) + 1⟩) rfl rfl ?c1 (spnC_one _) ?c3 ?c4 ?c5 ?_)
              case c1 => exact spnC_at wr ⟨i, (i : Int) + 1⟩ _ rfl
              case c3 => unfold maxLen; omega
              case c4 => omega
              case c5 => simp; omega
              intro v' w9 hr9 hg9 _
              have hx9 := OwnS.pushed (a := c ++ [q]) (s := ⟨i, (i : Int) + 1⟩) (by rw [show (c ++ [q]).length = c.length + 1 by simp]; exact hr9)
              have HN := Lib.hid (And.intro hx9 ((below_alloc2 hw (.cells #[.int .i64 (i : Int), .int .i64 ((i : Int) + 1)] 57)).grown hg9 (by simp; omega) (fun j e => (World.ownsRow.lt hr j e).1)))
              clear hown hr hw hr9 hg9 hx9 cb d1 f1
              go_wp2
              go_roundw
              case rel => exact ⟨i + 1, by omega, by go_num, Lib.hid (by rw [HPS.out]; exact HN.out)⟩
              case measure => simp [intOf]; omega
        · obtain rfl : i = N := by omega
          have HW := Lib.hid (below_step (below_step H2.out HG.out.2) hg.out.2)
          have HSZ := Lib.hid (Nat.le_trans H2.out.size HG.out.2.size)
          have HO := Lib.hid hg.out.1
          clear hg HG
          go_wp2
          go_ret2
          exact ⟨_, rfl, HO.out.mono HSZ.out, HW.out⟩
end Go.Proofs.Ytilpofmjkcjhdaa
namespace Go.Proofs.Ytilpofmjkcjhdaa
open Go.RowKit

set_option maxRecDepth 20000 in
set_option maxHeartbeats 4000000 in
theorem waste_walk (v u x : Value) (rs : List Bd.R) (al : List Ro.A) (xs : List Ro.X) (w : World) (hv : Runs w v rs) (hu : Arts w u al) (hx : Pcs w x xs) :
    Calls Try.prog 11 #[v, u, x] w fun e w' => e = .returned (.bool true) ∧ Below w.heap.size w w' := by
  have LO := Lib.hid (rollLong_any v u x rs al.length xs.length _ hv (by obtain ⟨a, c, h, _⟩ := hu; exact ⟨a, c, h⟩) (by obtain ⟨a, c, h, _⟩ := hx; exact ⟨a, c, h⟩))
  have KN := Lib.hid (fun W => rollKnown_any W)
  cases hL : (decide (100 < rs.length) || (decide (40 < al.length) || decide (400 < xs.length)))
  case true =>
    rw [hL] at LO
    obtain ⟨va, vc, rfl⟩ := hv.form
    obtain ⟨ua, uc, rfl, _⟩ := hu
    obtain ⟨xa, xc, rfl, _⟩ := hx
    clear hv hL
    go_enter Try.func11, Try.ntmps11
    go_wp2_with fail
    refine LO.out.mono ?_
    rintro e w1 ⟨rfl, hb1⟩
    have HB1 := Lib.hid hb1
    clear hb1 LO
    go_wp2_with fail
    refine (KN.out _).mono ?_
    rintro e w2 ⟨rfl, hb2⟩
    have HB2 := Lib.hid (below_step HB1.out hb2)
    clear hb2 HB1 KN
    go_wp2
    go_ret
    exact ⟨rfl, HB2.out⟩
  case false =>
    rw [hL] at LO
    simp only [Bool.or_eq_false_iff, decide_eq_false_iff_not] at hL
    have hl : rs.length ≤ 1000 := by omega
    have hal : al.length ≤ 1000 := by omega
    have hxl : xs.length ≤ 1000 := by omega
    have NF := Lib.hid (fun W (hW : Below w.heap.size w W) => numWaste_any v u x rs al xs W (hv.all hW) (hu.all hW) (hx.all hW) hl hal hxl)
    have RF := Lib.hid (fun W (hW : Below w.heap.size w W) => refWaste_any v u x rs al xs W (hv.all hW) (hu.all hW) (hx.all hW) hl hal hxl)
    generalize Ro.wasR rs al xs = ss at *
    generalize Ro.chkE rs al xs = q at *
    have e2 : (q == q) = true := beq_self_eq_true _
    have e22 : (q != q) = false := by rw [bne, e2]; rfl
    have q7 : ((ss.length : Int) == (ss.length : Int)) = true := beq_self_eq_true _
    have q8 : ((ss.length : Int) != (ss.length : Int)) = false := by rw [bne, q7]; rfl
    obtain ⟨va, vc, rfl⟩ := hv.form
    obtain ⟨ua, uc, rfl, _⟩ := hu
    obtain ⟨xa, xc, rfl, _⟩ := hx
    clear hv hL hl hal hxl
    go_enter Try.func11, Try.ntmps11
    go_wp2_with fail
    refine LO.out.mono ?_
    rintro e w1 ⟨rfl, hb1⟩
    have H1 := Lib.hid hb1
    clear hb1 LO
    go_wp2_with fail
    refine (NF.out _ H1.out).mono ?_
    rintro e w2 ⟨y, rfl, hy, hle, hb2⟩
    have hy2 := hy.spns
    obtain ⟨ya, yc, rfl, _⟩ := hy.spns
    have H2 := Lib.hid (And.intro hy2 (below_step H1.out hb2))
    clear hb2 H1 NF hy hy2
    go_wp2_with fail
    refine (RF.out _ H2.out.2).mono ?_
    rintro e w3 ⟨z, rfl, hz, hb3⟩
    have hz2 := hz.spns
    obtain ⟨za, zc, rfl, _⟩ := hz.spns
    have H3 := Lib.hid (And.intro (H2.out.1.all hb3) (And.intro hz2 (below_step H2.out.2 hb3)))
    clear hb3 H2 RF hz hz2
    obtain ⟨ya2, yc2, he, hk⟩ := H3.out.1
    simp only [Value.slice.injEq, true_and] at he
    obtain ⟨rfl, rfl⟩ := he
    obtain ⟨za2, zc2, he, hk2⟩ := H3.out.2.1
    simp only [Value.slice.injEq, true_and] at he
    obtain ⟨rfl, rfl⟩ := he
    have HK := Lib.hid hk
    have HK2 := Lib.hid hk2
    clear hk hk2
    go_wp2
    clear q7 q8 e2 e22
    go_loopw [11] (fun t wr => ∃ k : Nat, k ≤ ss.length ∧ t = .int .i64 k ∧ Hid (Below w3.heap.size w3 wr)) (fun t _ => ss.length - (intOf t).toNat)
    case atStart => exact ⟨0, Nat.zero_le _, rfl, Lib.hid (Below.refl _ _)⟩
    case round =>
      obtain ⟨k, hk, rfl, hg⟩ := hrel
      by_cases hlt : k < ss.length
      · obtain ⟨b, off, rfl, hb, hx⟩ := HK.out k hlt
        obtain ⟨b2, off2, rfl, hb2, hx2⟩ := HK2.out k hlt
        obtain ⟨c0, c1⟩ := hx.below hg.out hb
        obtain ⟨d0, d1⟩ := hx2.below hg.out hb2
        clear hx hx2
        generalize ss[k] = z at *
        have g1 : (z.f == z.f) = true := beq_self_eq_true _
        have g2 : (z.t == z.t) = true := beq_self_eq_true _
        go_wp2_with fail
        go_quiet (fail)
        clear c0 c1 d0 d1
        go_wp2
        go_roundw
        case rel => exact ⟨k + 1, by omega, by go_num, Lib.hid (below_drewN hg.out _)⟩
        case measure => simp [intOf]; omega
      · obtain rfl : k = ss.length := by omega
        have HB := Lib.hid (below_step H3.out.2.2 hg.out)
        clear hg
        go_wp2_with fail
        refine (KN.out _).mono ?_
        rintro e w4 ⟨rfl, hb4⟩
        have HB2 := Lib.hid (below_step HB.out hb4)
        clear hb4 HB KN
        go_wp2
        go_ret
        exact ⟨rfl, HB2.out⟩
end Go.Proofs.Ytilpofmjkcjhdaa
