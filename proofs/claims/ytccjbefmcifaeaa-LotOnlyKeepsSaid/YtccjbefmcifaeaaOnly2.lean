/- What is left of a genealogy for some of its lots: the reference's. -/
import Derived.Test.YtccjbefmcifaeaaOnly1
import Derived.Deep.QuietTactic
import Derived.BigQuiet
namespace Go.Proofs.Ytccjbefmcifaeaa
open Go.RowKit

/-- The marks after some numbers of the set. -/
def mkM (ks : List Int) : Nat → Nat → Bool
  | 0 => fun _ => false
  | i + 1 => updB (mkM ks i) (ks.getD i 0).toNat

theorem below_at {w w1 w2 : World} {g : Nat} (hg : w.heap.size = g) (h : Below g w w1) (hb : Below w1.heap.size w1 w2) : Below g w w2 := by subst hg; exact below_step h hb
theorem mkM_iff (ks : List Int) (m : Nat) : ∀ n, mkM ks n m = true ↔ ∃ j, j < n ∧ (ks.getD j 0).toNat = m
  | 0 => ⟨fun h => (by cases h), fun ⟨j, h, _⟩ => absurd h (Nat.not_lt_zero _)⟩
  | n + 1 => by
    have ih := mkM_iff ks m n
    show updB (mkM ks n) (ks.getD n 0).toNat m = true ↔ _
    unfold updB
    by_cases e : m = (ks.getD n 0).toNat
    · rw [if_pos e]
      exact ⟨fun _ => ⟨n, by omega, e.symm⟩, fun _ => rfl⟩
    · rw [if_neg e, ih]
      constructor
      · rintro ⟨j, h1, h2⟩; exact ⟨j, by omega, h2⟩
      · rintro ⟨j, h1, h2⟩
        by_cases ej : j = n
        · subst ej; exact absurd h2.symm e
        · exact ⟨j, by omega, h2⟩
theorem ins_lead {ls : List Lt.L} {ks : List Int} (hl : ls.length ≤ 24) (herr : ∀ j, j < ls.length → Lt.errAt ls j = 0) (hs : setB ls.length ks = true) {x : Nat} (hx : x < ls.length) : insK ls (mkM ks ks.length) ls.length x = leadP ls ks x := by
  have h1 := ins_full herr (mkM ks ks.length) x
  cases h : insK ls (mkM ks ks.length) ls.length x with
  | true =>
    obtain ⟨m, hm, hr⟩ := h1.1 h
    obtain ⟨j, hj, rfl⟩ := (mkM_iff ks m _).1 hm
    have hb := setB_at hs hj
    exact (lead_hit hj ((paths_pos hl herr hx (by omega)).2 hr)).symm
  | false =>
    refine (lead_none fun j hj hp => ?_).symm
    have hb := setB_at hs hj
    have := h1.2 ⟨_, (mkM_iff ks _ _).2 ⟨j, hj, rfl⟩, (paths_pos hl herr hx (by omega)).1 hp⟩
    rw [h] at this; cases this
theorem only_congr (ls : List Lt.L) {K K' : Nat → Bool} {n : Nat} (h : ∀ j, j < n → K j = K' j) : ∀ i, i ≤ n → nf K i = nf K' i ∧ onlyL ls K i = onlyL ls K' i ∧ selK K i = selK K' i
  | 0, _ => ⟨rfl, rfl, rfl⟩
  | i + 1, hi => by
    obtain ⟨h1, h2, h3⟩ := only_congr ls h i (by omega)
    have hk := h i (by omega)
    have hn : nf K (i + 1) = nf K' (i + 1) := by
      show (if K i = true then upd (nf K i) i ((selK K i).length : Int) else nf K i) = (if K' i = true then upd (nf K' i) i ((selK K' i).length : Int) else nf K' i)
      rw [h1, h3, hk]
    refine ⟨hn, ?_, ?_⟩
    · show (if K i = true then onlyL ls K i ++ [⟨(ls.getD i default).k, (ls.getD i default).m, renP (nf K (i + 1)) (ls.getD i default).ps⟩] else onlyL ls K i) = (if K' i = true then onlyL ls K' i ++ [⟨(ls.getD i default).k, (ls.getD i default).m, renP (nf K' (i + 1)) (ls.getD i default).ps⟩] else onlyL ls K' i)
      rw [hn, h2, hk]
    · rw [selK_succ, selK_succ, h3, hk]

set_option maxRecDepth 20000 in
set_option maxHeartbeats 1000000 in
theorem insideZ_any (v : Value) (B : Nat) (f : Nat → Bool) (w : World) (hv : Lots w v []) :
    Calls Try.prog 85 #[v, .slice (some ⟨B, 0, none⟩) 0 0] w fun e w' => ∃ z, e = .returned z ∧ w'.ownsRow w.heap.size 4 1 z 0 [] ∧ Below w.heap.size w w' := by
  obtain ⟨i0, hi, hz0, hz1, hz2⟩ := info_parts infoBool
  have hown := World.ownsRow_made (base := w.heap.size) (e := 4) (size := 1) w #[] 0 (Nat.le_refl _) (by unfold maxLen; omega) rfl
  have hw0 := (Below.refl w.heap.size w).alloc (Nat.le_refl _) (.cells #[] 4)
  obtain ⟨a, c, rfl⟩ := hv.form
  clear hv
  go_enter Try.func85, Try.ntmps85
  go_wp2_with (at_builtin; refine wpList_append_own _ rfl _ _ 95 rfl w.heap.size 4 i0 (.bool false) 1 1 Try.underlying95 hi hz0 hz1 hz2 rfl (by decide) _ _ _ rfl hown ⟨B, 0, none⟩ 0 0 [] rfl rfl (by intro j u h; simp at h) (by intro u h; simp at h) (by unfold maxLen; omega) (by omega) (by simp) ?_)
  intro v' w1 hown1 hgrow _
  have hw1 := hw0.grown hgrow (by simp) (fun j e => (World.ownsRow.lt hown j e).1)
  have hx : w1.ownsRow w.heap.size 4 1 v' 0 [] := by simpa using hown1
  have H0 := Lib.hid (And.intro hx hw1)
  clear hown hgrow hown1 hw0 hx hw1
  go_wp2
  go_loopw [6] (fun t wr => t = .int .i64 (-1) ∧ Hid (wr.ownsRow w.heap.size 4 1 v' 0 [] ∧ Below w.heap.size w wr)) (fun t _ => 0)
  case atStart => exact ⟨rfl, H0⟩
  case round =>
    obtain ⟨rfl, hg⟩ := hrel
    have hg' := hg.out
    clear H0 hg
    go_wp2
    go_ret
    exact ⟨_, rfl, hg'.1, hg'.2⟩

/-- The contained ones of any marks, for any number of lots. -/
theorem insideA_any (v : Value) (ls : List Lt.L) (B : Nat) (f : Nat → Bool) (w : World) (hv : Lots w v ls) (hl : ls.length ≤ 24) (herr : ∀ j, j < ls.length → Lt.errAt ls j = 0) (hB : BlockAt w B (marksL ls.length f).toArray 4) :
    Calls Try.prog 85 #[v, .slice (some ⟨B, 0, none⟩) ls.length ls.length] w fun e w' => ∃ z, e = .returned z ∧ w'.ownsRow w.heap.size 4 1 z ls.length (marksL ls.length (insK ls f ls.length)) ∧ Below w.heap.size w w' := by
  by_cases h0 : ls.length = 0
  · obtain rfl := List.length_eq_zero_iff.1 h0
    exact insideZ_any v B f w hv
  · refine (inside_any v ls B f w hv hl (by omega) herr hB).mono ?_
    rintro e w' ⟨g, cap, rfl, h1, h2⟩
    exact ⟨_, rfl, h1, h2⟩

set_option maxRecDepth 20000 in
set_option maxHeartbeats 2000000 in
theorem refOnly_any (v u : Value) (ls : List Lt.L) (ks : List Int) (w : World) (hv : Lots w v ls) (hu : Ints w u ks) (hsh : short ls) (hkl : ks.length ≤ 1000) :
    Calls Try.prog 54 #[v, u] w fun e w' => ∃ y z us, e = .returned (.tuple #[y, z, .int .i64 (onlyE ls ks)]) ∧ OwnL w.heap.size w' y (onlyR ls ks) us ∧ OwnI w.heap.size w' z (onlyO ls ks) ∧ Below w.heap.size w w' := by
  have V := Lib.hid (ref_validate_any v ls w hv hsh)
  obtain ⟨i0, hi, hz0, hz1, hz2⟩ := info_of infoLot
  obtain ⟨i1, hi', hz0', hz1', hz2'⟩ := info_parts infoInt
  have hl1 := hsh.1
  by_cases h0 : Lt.valE ls = 0
  · obtain ⟨hl, herr, _⟩ := Lt.valE_zero h0
    rw [h0] at V
    have HE := Lib.hid (show onlyE ls ks = if setB ls.length ks = true then 0 else 1 by unfold onlyE; rw [if_pos h0])
    have HR := Lib.hid (show onlyR ls ks = if onlyE ls ks = 0 then onlyL ls (leadP ls ks) ls.length else [] from rfl)
    have HO := Lib.hid (show onlyO ls ks = if onlyE ls ks = 0 then selK (leadP ls ks) ls.length else [] from rfl)
    generalize onlyE ls ks = E at *
    generalize onlyR ls ks = R at *
    generalize onlyO ls ks = O at *
    have hmk := made_ints ls.length (by omega)
    have hmb := made_bools ls.length (by omega)
    have I := Lib.hid (fun W (hW : Below w.heap.size w W) B (hB : BlockAt W B (marksL ls.length (mkM ks ks.length)).toArray 4) => insideA_any _ ls B _ W (hv.all hW) hl herr hB)
    have HX := Lib.hid herr
    obtain ⟨a, c, rfl, hlk⟩ := hv.look
    obtain ⟨ka, kc, rfl, hkk⟩ := hu.look
    have HLK := Lib.hid hlk
    have HKK := Lib.hid hkk
    clear hv hu hsh h0 herr hlk hkk
    go_enter Try.func54, Try.ntmps54
    go_wp2_with fail
    refine V.out.mono ?_
    rintro e w1 ⟨rfl, hb1⟩
    have H0 := Lib.hid (And.intro (BlockAt.new w1 (marksL ls.length (mkM ks 0)).toArray 4) (below_alloc hb1 (.cells (marksL ls.length (mkM ks 0)).toArray 4)))
    have hw1s : w.heap.size ≤ w1.heap.size := hb1.size
    clear hb1 V
    go_wp2
    clear hmb
    obtain ⟨wM, hwM⟩ : ∃ x, x = w1.alloc (.cells (marksL ls.length (mkM ks 0)).toArray 4) := ⟨_, rfl⟩
    have H0 : Hid (BlockAt wM w1.heap.size (marksL ls.length (mkM ks 0)).toArray 4 ∧ Below w.heap.size w wM) := by rw [hwM]; exact H0
    rw [show w1.alloc (.cells (marksL ls.length (fun _ => false)).toArray 4) = wM from hwM.symm]
    clear hwM
    generalize w1.heap.size = g0 at *
    go_loopw [9] (fun t wr => ∃ i : Nat, i ≤ ks.length ∧ t = .int .i64 i ∧ Hid ((∀ j, j < i → setAt ls.length ks j = true) ∧ BlockAt wr g0 (marksL ls.length (mkM ks i)).toArray 4 ∧ Below w.heap.size w wr)) (fun t _ => ks.length - (intOf t).toNat)
    case atStart => exact ⟨0, Nat.zero_le _, rfl, Lib.hid ⟨fun j h => absurd h (Nat.not_lt_zero _), H0.out⟩⟩
    case round =>
      obtain ⟨i, hi9, rfl, hg⟩ := hrel
      by_cases hlt : i < ks.length
      · obtain ⟨b, off, rfl, hb, hc⟩ := HKK.out i hlt
        have hc := (hg.out.2.2.cell (p := ⟨b, off + i, none⟩) hb).trans hc
        have hs : setAt ls.length ks i = (decide (0 ≤ ks.getD i 0) && (decide (ks.getD i 0 < ls.length) && (decide (i = 0) || decide (ks.getD (i - 1) 0 < ks.getD i 0)))) := rfl
        have HF := Lib.hid (fun h => setB_false (n := ls.length) hlt h)
        have HG := Lib.hid hg.out
        have hcp : 0 < i → wr.cell? ⟨b, off + (i - 1), none⟩ = some (.int .i64 (ks.getD (i - 1) 0)) := fun h0 => by
          obtain ⟨b', off', e, hb', hc'⟩ := HKK.out (i - 1) (by omega)
          have := Option.some.inj e
          simp only [Addr.mk.injEq] at this
          rw [this.1, this.2.1]
          exact (HG.out.2.2.cell (p := ⟨b', off' + (i - 1), none⟩) hb').trans hc'
        have HMK := Lib.hid (show mkM ks (i + 1) = updB (mkM ks i) (ks.getD i 0).toNat from rfl)
        generalize ks.getD i 0 = x at *
        generalize ks.getD (i - 1) 0 = y at *
        clear hg
        by_cases h1 : 0 ≤ x
        · by_cases h2 : x < ls.length
          · by_cases h3 : i = 0
            · clear hcp
              have HST := Lib.hid (show setAt ls.length ks i = true by rw [hs]; rw [decide_eq_true h1, decide_eq_true h2, decide_eq_true h3]; rfl)
              clear hs
              subst h3
              rw [Nat.add_zero] at hc
              have h1' : decide (x < 0) = false := decide_eq_false (by omega)
              have h2' : decide ((ls.length : Int) ≤ x) = false := decide_eq_false (by omega)
              obtain ⟨q, rfl⟩ : ∃ q : Nat, x = (q : Int) := ⟨x.toNat, by omega⟩
              have hq : q < ls.length := by omega
              have hq2 : decide (ls.length ≤ q) = false := decide_eq_false (by omega)
              have hgc : wr.drew.cell? ⟨g0, q, none⟩ = some (.bool (mkM ks 0 q)) := by rw [HG.out.2.1.drew.cell q, List.getElem?_toArray, marksL_at hq]
              have hgf := HG.out.2.1.drew.frozen q
              have hset := HG.out.2.1.drew.set q (.bool true)
              rw [List.setIfInBounds_toArray, marksL_set, show updB (mkM ks 0) q = mkM ks (0 + 1) by rw [HMK.out, Int.toNat_natCast]] at hset
              have hsw := HG.out.2.2.drew.setCell (p := ⟨g0, q, none⟩) hw1s (.bool true)
              have HN := Lib.hid (And.intro hset hsw)
              clear hset hsw
              have hS0 : (fun W : World => W.cell? ⟨b, off, none⟩ = some (.int .i64 (q : Int)) ∧ True) wr.drew := ⟨hc, trivial⟩
              go_wp2_with fail
              refine wp_region_seq [(0, true), (1, true), (2, true), (3, true), (4, true), (5, true), (6, true), (7, true), (8, true), (9, true), (10, true), (11, true), (12, true), (13, true), (14, true), (15, true), (16, true), (17, true), (18, true), (19, true), (20, true), (21, true), (22, true), (23, true), (24, true), (25, true), (26, true), (27, true), (28, true), (29, true)] (fun W => W.cell? ⟨b, off, none⟩ = some (.int .i64 (q : Int)) ∧ True)
                (by kernel_rfl) (by kernel_rfl) (by kernel_rfl) (by kernel_rfl) (fun d _ _ _ _ h => by cases d <;> exact h) hS0 (fun hS => ?_)
              clear hS0
              repeat (first
                | (refine SeqH.take (v := ?_) rfl (by rfl) ?_ ?_; rotate_left; (· intro w hSw; (try dsimp only at hSw); obtain ⟨q0, q1⟩ := hSw; go_simp; (try with_reducible rfl)); simp only [Act.put, List.setIfInBounds_toArray, List.set_cons_zero, List.set_cons_succ])
                | (refine SeqH.skip rfl (by rfl) ?_; simp only [Act.put, List.setIfInBounds_toArray, List.set_cons_zero, List.set_cons_succ]))
              refine SeqH.done ?_
              go_wp2
              go_roundw
              case rel =>
                refine ⟨0 + 1, by omega, by go_num, Lib.hid ⟨fun j hj => ?_, HN.out.1, HN.out.2⟩⟩
                by_cases e : j = 0
                · rw [e]; exact HST.out
                · exact HG.out.1 j (by omega)
              case measure => simp [intOf]; omega
            · have hcp := hcp (by omega)
              obtain ⟨p, rfl⟩ : ∃ p, i = p + 1 := ⟨i - 1, by omega⟩
              rw [show p + 1 - 1 = p by omega] at hcp
              have h1' : decide (x < 0) = false := decide_eq_false (by omega)
              have h2' : decide ((ls.length : Int) ≤ x) = false := decide_eq_false (by omega)
              have h3' : decide ((0 : Int) < ((p : Int) + 1)) = true := decide_eq_true (by omega)
              have hn1 : ((p : Int) + 1).toNat = p + 1 := by omega
              have hn2 : (0 : Int) ≤ (p : Int) + 1 := by omega
              have hn3 : ((p : Int) + 1) < (ks.length : Int) := by omega
              have hn4 : p < ks.length := by omega
              have hn5 : (p : Int) < ks.length := by omega
              have hwp : IntKind.i64.wrap (p : Int) = (p : Int) := IntWalk.i64_in _ (by omega)
              have h4' : (((p + 1 : Nat) : Int) - 1) = (p : Int) := by omega
              have h5' : ((p : Int) + 1 - 1) = (p : Int) := by omega
              by_cases h4 : y < x
              · have h6' : decide (x ≤ y) = false := decide_eq_false (by omega)
                have HST := Lib.hid (show setAt ls.length ks (p + 1) = true by rw [hs]; rw [decide_eq_true h1, decide_eq_true h2, decide_eq_true h4]; simp)
                obtain ⟨q, rfl⟩ : ∃ q : Nat, x = (q : Int) := ⟨x.toNat, by omega⟩
                have hq : q < ls.length := by omega
                have hq2 : decide (ls.length ≤ q) = false := decide_eq_false (by omega)
                have hgc : wr.drew.cell? ⟨g0, q, none⟩ = some (.bool (mkM ks (p + 1) q)) := by rw [HG.out.2.1.drew.cell q, List.getElem?_toArray, marksL_at hq]
                have hgf := HG.out.2.1.drew.frozen q
                have hset := HG.out.2.1.drew.set q (.bool true)
                rw [List.setIfInBounds_toArray, marksL_set, show updB (mkM ks (p + 1)) q = mkM ks ((p + 1) + 1) by rw [HMK.out, Int.toNat_natCast]] at hset
                have hsw := HG.out.2.2.drew.setCell (p := ⟨g0, q, none⟩) hw1s (.bool true)
                have HN := Lib.hid (And.intro hset hsw)
                clear hs hset hsw
                have hS0 : (fun W : World => W.cell? ⟨b, off + (p + 1), none⟩ = some (.int .i64 (q : Int)) ∧ W.cell? ⟨b, off + p, none⟩ = some (.int .i64 y)) wr.drew := ⟨hc, hcp⟩
                go_wp2_with fail
                refine wp_region_seq [(0, true), (1, true), (2, true), (3, true), (4, true), (5, true), (6, true), (7, true), (8, true), (9, true), (10, true), (11, true), (12, true), (13, true), (14, true), (15, true), (16, true), (17, true), (18, true), (19, true), (20, true), (21, true), (22, true), (23, true), (24, true), (25, true), (26, true), (27, true), (28, true), (29, true)] (fun W => W.cell? ⟨b, off + (p + 1), none⟩ = some (.int .i64 (q : Int)) ∧ W.cell? ⟨b, off + p, none⟩ = some (.int .i64 y))
                  (by kernel_rfl) (by kernel_rfl) (by kernel_rfl) (by kernel_rfl) (fun d _ _ _ _ h => by cases d <;> exact h) hS0 (fun hS => ?_)
                clear hS0
                repeat (first
                  | (refine SeqH.take (v := ?_) rfl (by rfl) ?_ ?_; rotate_left; (· intro w hSw; (try dsimp only at hSw); obtain ⟨q0, q1⟩ := hSw; go_simp; (try with_reducible rfl)); simp only [Act.put, List.setIfInBounds_toArray, List.set_cons_zero, List.set_cons_succ])
                  | (refine SeqH.skip rfl (by rfl) ?_; simp only [Act.put, List.setIfInBounds_toArray, List.set_cons_zero, List.set_cons_succ]))
                refine SeqH.done ?_
                go_wp2
                go_roundw
                case rel =>
                  refine ⟨(p + 1) + 1, by omega, by go_num, Lib.hid ⟨fun j hj => ?_, HN.out.1, HN.out.2⟩⟩
                  by_cases e : j = (p + 1)
                  · rw [e]; exact HST.out
                  · exact HG.out.1 j (by omega)
                case measure => simp [intOf]; omega
              · have HN := Lib.hid (HF.out (show setAt ls.length ks (p + 1) = false by rw [hs]; rw [decide_eq_false h4]; simp))
                have h6' : decide (x ≤ y) = true := decide_eq_true (by omega)
                clear hs
                rw [HN.out, if_neg (by decide)] at HE
                rw [HE.out, if_neg (by decide)] at HR HO
                have hw := HG.out.2.2.drew
                clear HG H0
                have hS0 : (fun W : World => W.cell? ⟨b, off + (p + 1), none⟩ = some (.int .i64 x) ∧ W.cell? ⟨b, off + p, none⟩ = some (.int .i64 y)) wr.drew := ⟨hc, hcp⟩
                go_wp2_with fail
                refine wp_region_seq [(0, true), (1, true), (2, true), (3, true), (4, true), (5, true), (6, true), (7, true), (8, true), (9, true), (10, true), (11, true), (12, true), (13, true), (14, true), (15, true), (16, true), (17, true), (18, true), (19, true), (20, true), (21, true), (22, true), (23, true), (24, true), (25, true), (26, true), (27, true), (28, true), (29, true)] (fun W => W.cell? ⟨b, off + (p + 1), none⟩ = some (.int .i64 x) ∧ W.cell? ⟨b, off + p, none⟩ = some (.int .i64 y))
                  (by kernel_rfl) (by kernel_rfl) (by kernel_rfl) (by kernel_rfl) (fun d _ _ _ _ h => by cases d <;> exact h) hS0 (fun hS => ?_)
                clear hS0
                repeat (first
                  | (refine SeqH.take (v := ?_) rfl (by rfl) ?_ ?_; rotate_left; (· intro w hSw; (try dsimp only at hSw); obtain ⟨q0, q1⟩ := hSw; go_simp; (try with_reducible rfl)); simp only [Act.put, List.setIfInBounds_toArray, List.set_cons_zero, List.set_cons_succ])
                  | (refine SeqH.skip rfl (by rfl) ?_; simp only [Act.put, List.setIfInBounds_toArray, List.set_cons_zero, List.set_cons_succ]))
                refine SeqH.done ?_
                go_wp2
                exact bodyPost_ret (v := .tuple #[.slice none 0 0, .slice none 0 0, .int .i64 1]) (by simp [results, Try.results54, go_sem]) rfl ⟨_, _, [], by rw [HE.out], by rw [HR.out]; exact OwnL.nil _ _, by rw [HO.out]; exact OwnI.nil _ _, hw⟩
          · clear hcp
            have HN := Lib.hid (HF.out (show setAt ls.length ks i = false by rw [hs]; rw [decide_eq_false h2]; simp))
            have h1' : decide (x < 0) = false := decide_eq_false (by omega)
            have h2' : decide ((ls.length : Int) ≤ x) = true := decide_eq_true (by omega)
            clear hs
            rw [HN.out, if_neg (by decide)] at HE
            rw [HE.out, if_neg (by decide)] at HR HO
            have hw := HG.out.2.2.drew
            clear HG H0
            have hS0 : (fun W : World => W.cell? ⟨b, off + i, none⟩ = some (.int .i64 x) ∧ True) wr.drew := ⟨hc, trivial⟩
            go_wp2_with fail
            refine wp_region_seq [(0, true), (1, true), (2, true), (3, true), (4, true), (5, true), (6, true), (7, true), (8, true), (9, true), (10, true), (11, true), (12, true), (13, true), (14, true), (15, true), (16, true), (17, true), (18, true), (19, true), (20, true), (21, true), (22, true), (23, true), (24, true), (25, true), (26, true), (27, true), (28, true), (29, true)] (fun W => W.cell? ⟨b, off + i, none⟩ = some (.int .i64 x) ∧ True)
              (by kernel_rfl) (by kernel_rfl) (by kernel_rfl) (by kernel_rfl) (fun d _ _ _ _ h => by cases d <;> exact h) hS0 (fun hS => ?_)
            clear hS0
            repeat (first
              | (refine SeqH.take (v := ?_) rfl (by rfl) ?_ ?_; rotate_left; (· intro w hSw; (try dsimp only at hSw); obtain ⟨q0, q1⟩ := hSw; go_simp; (try with_reducible rfl)); simp only [Act.put, List.setIfInBounds_toArray, List.set_cons_zero, List.set_cons_succ])
              | (refine SeqH.skip rfl (by rfl) ?_; simp only [Act.put, List.setIfInBounds_toArray, List.set_cons_zero, List.set_cons_succ]))
            refine SeqH.done ?_
            go_wp2
            exact bodyPost_ret (v := .tuple #[.slice none 0 0, .slice none 0 0, .int .i64 1]) (by simp [results, Try.results54, go_sem]) rfl ⟨_, _, [], by rw [HE.out], by rw [HR.out]; exact OwnL.nil _ _, by rw [HO.out]; exact OwnI.nil _ _, hw⟩
        · clear hcp
          have HN := Lib.hid (HF.out (show setAt ls.length ks i = false by rw [hs]; rw [decide_eq_false h1]; simp))
          have h1' : decide (x < 0) = true := decide_eq_true (by omega)
          clear hs
          rw [HN.out, if_neg (by decide)] at HE
          rw [HE.out, if_neg (by decide)] at HR HO
          have hw := HG.out.2.2.drew
          clear HG H0
          have hS0 : (fun W : World => W.cell? ⟨b, off + i, none⟩ = some (.int .i64 x) ∧ True) wr.drew := ⟨hc, trivial⟩
          go_wp2_with fail
          refine wp_region_seq [(0, true), (1, true), (2, true), (3, true), (4, true), (5, true), (6, true), (7, true), (8, true), (9, true), (10, true), (11, true), (12, true), (13, true), (14, true), (15, true), (16, true), (17, true), (18, true), (19, true), (20, true), (21, true), (22, true), (23, true), (24, true), (25, true), (26, true), (27, true), (28, true), (29, true)] (fun W => W.cell? ⟨b, off + i, none⟩ = some (.int .i64 x) ∧ True)
            (by kernel_rfl) (by kernel_rfl) (by kernel_rfl) (by kernel_rfl) (fun d _ _ _ _ h => by cases d <;> exact h) hS0 (fun hS => ?_)
          clear hS0
          repeat (first
            | (refine SeqH.take (v := ?_) rfl (by rfl) ?_ ?_; rotate_left; (· intro w hSw; (try dsimp only at hSw); obtain ⟨q0, q1⟩ := hSw; go_simp; (try with_reducible rfl)); simp only [Act.put, List.setIfInBounds_toArray, List.set_cons_zero, List.set_cons_succ])
            | (refine SeqH.skip rfl (by rfl) ?_; simp only [Act.put, List.setIfInBounds_toArray, List.set_cons_zero, List.set_cons_succ]))
          refine SeqH.done ?_
          go_wp2
          exact bodyPost_ret (v := .tuple #[.slice none 0 0, .slice none 0 0, .int .i64 1]) (by simp [results, Try.results54, go_sem]) rfl ⟨_, _, [], by rw [HE.out], by rw [HR.out]; exact OwnL.nil _ _, by rw [HO.out]; exact OwnI.nil _ _, hw⟩
      · obtain rfl : i = ks.length := by omega
        have HSB := setB_true hg.out.1
        rw [HSB, if_pos rfl] at HE
        rw [HE.out, if_pos rfl] at HR HO
        have hblk := hg.out.2.1
        have hw := hg.out.2.2
        have I1 := Lib.hid (I.out _ hw _ hblk)
        clear hg H0
        go_wp2_with fail
        refine I1.out.mono ?_
        rintro e w3 ⟨z, rfl, hrow, hb3⟩
        have hw3 := below_step hw hb3
        have HK := Lib.hid hrow
        have HW3 := Lib.hid hw3
        obtain ⟨za, zc, rfl⟩ : ∃ a c, z = .slice a ls.length c := by
          rcases hrow.2 with ⟨h1, h2⟩ | ⟨g, cap, cur, h1, _⟩
          · exact ⟨none, 0, by rw [h1, h2]⟩
          · exact ⟨_, _, h1⟩
        have hLK : ∀ i, i < ls.length → insK ls (mkM ks ks.length) ls.length i = leadP ls ks i := fun i hi => ins_lead hl HX.out HSB hi
        have HLK2 := Lib.hid hLK
        have HLL := Lib.hid (show onlyL ls (leadP ls ks) ls.length = onlyL ls (insK ls (mkM ks ks.length) ls.length) ls.length from (only_congr ls hLK _ (Nat.le_refl _)).2.1.symm)
        have HSL := Lib.hid (show selK (leadP ls ks) ls.length = selK (insK ls (mkM ks ks.length) ls.length) ls.length from (only_congr ls hLK _ (Nat.le_refl _)).2.2.symm)
        rw [HLL.out] at HR
        rw [HSL.out] at HO
        clear HLL HSL hLK HLK2
        generalize insK ls (mkM ks ks.length) ls.length = K at *
        generalize leadP ls ks = K0 at *
        have H0 := Lib.hid (And.intro (BlockAt.new w3 (fnC ls.length (fun _ => 0)) 3) (And.intro (below_alloc hw3 (.cells (fnC ls.length (fun _ => 0)) 3)) (below_alloc (Below.refl w3.heap.size w3) (.cells (fnC ls.length (fun _ => 0)) 3))))
        have hw3s : w.heap.size ≤ w3.heap.size := hw3.size
        clear hw hb3 hw3 hrow hblk I I1
        have HGW := Lib.hid hw3s
        go_wp2
        clear hmk
        obtain ⟨wA, hwA⟩ : ∃ x, x = w3.alloc (.cells (fnC ls.length (fun _ => 0)) 3) := ⟨_, rfl⟩
        have hgA : w3.heap.size < wA.heap.size := by rw [hwA]; simp
        have H0 : Hid (BlockAt wA w3.heap.size (fnC ls.length (fun _ => 0)) 3 ∧ Below w.heap.size w wA ∧ Below w3.heap.size w3 wA) := by rw [hwA]; exact H0
        rw [← hwA]
        clear hwA
        have hgA' := hgA
        generalize hg3 : w3.heap.size = g at *
        have HG3 := Lib.hid hg3
        clear hg3
        go_loopw [11, 12, 14] (fun s o t wr => ∃ i : Nat, ∃ us : List Value, i ≤ ls.length ∧ t = .int .i64 i ∧ Hid (OwnL wA.heap.size wr s (onlyL ls K i) us ∧ OwnI wA.heap.size wr o (selK K i) ∧ BlockAt wr g (fnC ls.length (nf K i)) 3 ∧ Below g w3 wr ∧ wA.heap.size ≤ wr.heap.size)) (fun _ _ t _ => ls.length - (intOf t).toNat)
        case atStart => exact ⟨0, [], Nat.zero_le _, rfl, Lib.hid ⟨OwnL.nil _ _, OwnI.nil _ _, H0.out.1, H0.out.2.2, Nat.le_refl _⟩⟩
        case round =>
          obtain ⟨i, us, hil, rfl, hg⟩ := hrel
          clear H0
          by_cases hlt : i < ls.length
          · obtain ⟨b, off, y, rfl, hbl, hlot⟩ := HLK.out i hlt
            have hpw := hlot.2.2.2
            have HLW := Lib.hid hlot
            have hfx := Lt.fine_of (HX.out i hlt)
            obtain ⟨_, _, hok, _⟩ := Lt.errAt_parts (HX.out i hlt)
            have HOK := Lib.hid (fun p (hp : p ∈ (ls.getD i default).ps) => Lt.okPs_mem hok p hp)
            have HLN := Lib.hid (show onlyL ls K (i + 1) = if K i = true then onlyL ls K i ++ [⟨(ls.getD i default).k, (ls.getD i default).m, renP (nf K (i + 1)) (ls.getD i default).ps⟩] else onlyL ls K i from rfl)
            have HNF := Lib.hid (show nf K (i + 1) = if K i = true then upd (nf K i) i ((selK K i).length : Int) else nf K i from rfl)
            have HSS := Lib.hid (selK_succ K i)
            have hsl := selK_len K i
            have hol := onlyL_len ls K i
            obtain ⟨gz, rfl⟩ : ∃ gz, za = some ⟨gz, 0, none⟩ := by
              rcases HK.out.2 with ⟨_, h0⟩ | ⟨g2, cap, cur, h1, _⟩
              · omega
              · simp only [Value.slice.injEq] at h1
                exact ⟨g2, h1.1⟩
            have e1 := (hg.out.2.2.2.1.cell (p := ⟨gz, i, none⟩) (by have h1 := (World.ownsRow.lt HK.out gz rfl).2; rw [HG3.out] at h1; exact h1)).trans ((World.ownsRow.cellAt HK.out i (by omega)).trans (marksL_at hlt))
            have hWr : Below w.heap.size w wr := below_step HW3.out (by rw [HG3.out]; exact hg.out.2.2.2.1)
            have hlw := hlot.below hWr hbl
            generalize ls.getD i default = x at *
            obtain ⟨xk, xm, ps⟩ := x
            dsimp only at *
            obtain ⟨pa, pc, rfl⟩ := hpw.form
            have hps6 : ps.length ≤ 6 := hfx.2.1
            have HPW := Lib.hid hpw
            have HG := Lib.hid (And.intro hg.out hWr)
            clear hpw hg hlot hok hfx hWr
            cases hK : K i with
            | false =>
              rw [hK] at e1
              rw [hK, if_neg (by decide)] at HLN HSS HNF
              clear hK hlw HLW
              go_wp2
              go_roundw
              case rel => exact ⟨i + 1, us, by omega, by go_num, Lib.hid ⟨by rw [HLN.out]; exact HG.out.1.1, by rw [HSS.out]; exact HG.out.1.2.1, by rw [HNF.out]; exact HG.out.1.2.2.1, HG.out.1.2.2.2.1, HG.out.1.2.2.2.2⟩⟩
              case measure => simp [intOf]; omega
            | true =>
              rw [hK] at e1
              rw [hK, if_pos rfl] at HLN HSS HNF
              clear hK hlw
              obtain ⟨oa, oc, hof⟩ : ∃ a c, u12 = .slice a (selK K i).length c := by
                obtain ⟨h0, ⟨h1, h2⟩ | ⟨g', cap, cur, h1, h2, h3, h4⟩⟩ := id HG.out.1.2.1
                · exact ⟨none, 0, by rw [h1, h2]⟩
                · exact ⟨_, _, h1⟩
              have hgc := HG.out.1.2.2.1.cell i
              rw [fnC_at hlt] at hgc
              have hgf := HG.out.1.2.2.1.frozen i
              have hglt := HG.out.1.2.2.1.lt
              have hset := HG.out.1.2.2.1.set i (.int .i64 ((selK K i).length : Int))
              rw [fnC_set, ← HNF.out] at hset
              obtain ⟨W1, hW1⟩ : ∃ W1, W1 = wr.setCell ⟨g, i, none⟩ (.int .i64 ((selK K i).length : Int)) := ⟨_, rfl⟩
              have hL1 : OwnL wA.heap.size W1 u11 (onlyL ls K i) us := by rw [hW1]; exact HG.out.1.1.setI HG.out.1.2.2.1
              have hI1 : OwnI wA.heap.size W1 u12 (selK K i) := by rw [hW1]; exact RowKit.ownsRow_setCell_below HG.out.1.2.1 hgA _
              have hset1 : BlockAt W1 g (fnC ls.length (nf K (i + 1))) 3 := by rw [hW1]; exact hset
              have hB1 : Below g w3 W1 := by rw [hW1]; exact HG.out.1.2.2.2.1.setCell (p := ⟨g, i, none⟩) (Nat.le_refl _) _
              have hwW1 : Below w.heap.size w W1 := below_step HW3.out (by rw [HG3.out]; exact hB1)
              have hs1 : wA.heap.size ≤ W1.heap.size := by rw [hW1]; simp [World.setCell]; exact HG.out.1.2.2.2.2
              have hlot1 := HLW.out.below hwW1 hbl
              obtain ⟨c0, c1, c2, hpt1⟩ := hlot1
              dsimp only at c0 c1 c2 hpt1
              have CL := Lib.hid (copyLot_any ⟨xk, xm, ps⟩ (.slice pa ps.length pc) W1 hpt1 (by show ps.length ≤ 1000; omega))
              have H1 := Lib.hid (And.intro hL1 (And.intro hI1 (And.intro hset1 (And.intro hB1 (And.intro hwW1 hs1)))))
              have hs1' := hs1
              have hgw : w.heap.size ≤ g := HGW.out
              subst hof
              clear hset hL1 hI1 hset1 hB1 hwW1 hs1 hpt1 HG
              subst hW1
              go_wp2_with fail
              refine CL.out.mono ?_
              rintro e w4 ⟨yu, rfl, hp4, hb4, hr4⟩
              try dsimp only at hp4 hr4
              obtain ⟨ya, yc, rfl⟩ := hp4.1.form
              obtain ⟨W1, hW1⟩ : ∃ W1, W1 = wr.setCell ⟨g, i, none⟩ (.int .i64 ((selK K i).length : Int)) := ⟨_, rfl⟩
              rw [← hW1] at H1 hb4 hr4 hs1'
              clear hp4 c0 c1 c2 CL hW1 hgc hgf e1
              have hs4 := hb4.size
              have hrA := World.ownsRow.alloc hr4 (.cells #[.int .i64 xk, .int .i64 xm, .slice ya ps.length yc] 25)
              rw [show partsC ps = partsC (renK (nf K (i + 1)) ps 0) by rw [renK_zero]] at hrA
              have H5 := Lib.hid (And.intro hrA (And.intro (BlockAt.new w4 #[.int .i64 xk, .int .i64 xm, .slice ya ps.length yc] 25) (below_alloc hb4 (.cells #[.int .i64 xk, .int .i64 xm, .slice ya ps.length yc] 25))))
              have HS4 := Lib.hid hs4
              clear hb4 hr4 hrA
              go_wp2
              generalize w4.heap.size = bx at *
              go_loopw [16] (fun t wq => ∃ j : Nat, j ≤ ps.length ∧ t = .int .i64 j ∧ Hid (wq.ownsRow W1.heap.size 35 2 (.slice ya ps.length yc) ps.length (partsC (renK (nf K (i + 1)) ps j)) ∧ BlockAt wq bx #[.int .i64 xk, .int .i64 xm, .slice ya ps.length yc] 25 ∧ Below W1.heap.size W1 wq)) (fun t _ => ps.length - (intOf t).toNat)
              case atStart => exact ⟨0, Nat.zero_le _, rfl, H5⟩
              case round =>
                obtain ⟨j, hj, rfl, hg⟩ := hrel
                clear H5
                obtain ⟨hx, bX, hw⟩ := hg.out
                by_cases hjl : j < ps.length
                · obtain ⟨g2, rfl⟩ : ∃ g2, ya = some ⟨g2, 0, none⟩ := by
                    rcases hx.2 with ⟨_, h0⟩ | ⟨g2, cap, cur, h1, _⟩
                    · omega
                    · simp only [Value.slice.injEq] at h1
                      exact ⟨g2, h1.1⟩
                  obtain ⟨hq0, hq1, _⟩ := HOK.out _ (List.getElem_mem hjl)
                  obtain ⟨q, hq⟩ : ∃ q : Nat, ps[j].l = (q : Int) := ⟨ps[j].l.toNat, by omega⟩
                  have hpl := partsC_len (renK (nf K (i + 1)) ps j)
                  rw [renK_len] at hpl
                  obtain ⟨k1, k2⟩ := partsC_get (renK (nf K (i + 1)) ps j) j (by rw [renK_len]; exact hjl)
                  rw [renK_at hjl, hq] at k1
                  have c1 := (World.ownsRow.cellAt hx (j * 2) (by omega)).trans k1
                  have f1 := World.ownsRow.frozenAt hx (j * 2)
                  have cg := ((H1.out.2.2.1.below hw H1.out.2.2.1.lt).cell q).trans (fnC_at (n := ls.length) (f := nf K (i + 1)) (by omega))
                  have c2 := bX.cell 2
                  obtain ⟨hx2, hgrow⟩ := World.ownsRow.stored hx (j * 2) (.int .i64 (nf K (i + 1) q))
                  have hset := partsC_set (renK (nf K (i + 1)) ps j) j (nf K (i + 1) q) (by rw [renK_len]; exact hjl)
                  rw [renK_at hjl, show (⟨nf K (i + 1) q, ps[j].m⟩ : Lt.P) = ⟨nf K (i + 1) ps[j].l.toNat, ps[j].m⟩ by rw [hq, Int.toNat_natCast], renK_set hjl] at hset
                  rw [hset] at hx2
                  have hg2b := (World.ownsRow.lt hx g2 rfl).1
                  have hw2 := hw.grown hgrow (by have := hw.size; omega) (fun j e => by simp at e; subst e; omega)
                  have hbx2 : BlockAt (World.setCell _ ⟨g2, j * 2, none⟩ (.int .i64 (nf K (i + 1) q))) bx #[.int .i64 xk, .int .i64 xm, .slice (some ⟨g2, 0, none⟩) ps.length yc] 25 := (hgrow.block bx bX.lt (row_ne hx bX (by decide))).trans bX
                  have HN := Lib.hid (And.intro hx2 (And.intro hbx2 hw2))
                  have hqn : q < ls.length := by omega
                  have hgs := (World.ownsRow.lt hx g2 rfl).2
                  clear hx bX hw hg hx2 hgrow hset hw2 hbx2 k1 k2 hq hq0 hq1 hpl hg2b
                  go_wp2
                  go_region
                  go_wp2
                  go_roundw
                  case rel => exact ⟨j + 1, by omega, by go_num, Lib.hid ⟨HN.out.1, HN.out.2.1.drew, HN.out.2.2.drew⟩⟩
                  case measure => simp [intOf]; omega
                · obtain rfl : j = ps.length := by omega
                  obtain ⟨wC, rfl⟩ : ∃ x, x = wr := ⟨wr, rfl⟩
                  have hp5 : PartsT wC (.slice ya ps.length yc) (renP (nf K (i + 1)) ps) := PartsT.row (by rw [renP_len, ← renK_all]; exact hx)
                  have hL5 := H1.out.1.all hw
                  have hI5 := H1.out.2.1.all hw
                  have hset5 := H1.out.2.2.1.below hw H1.out.2.2.1.lt
                  have hB5 := below_at HG3.out H1.out.2.2.2.1 hw
                  have hsA5 : wA.heap.size ≤ wC.heap.size := Nat.le_trans hs1' hw.size
                  have hrow := hL5.2.1
                  have d0 := bX.cell 0
                  have d1 := bX.cell 1
                  have d2 := bX.cell 2
                  have H5 := Lib.hid (And.intro hp5 (And.intro hL5 (And.intro hI5 (And.intro hset5 hB5))))
                  clear hg hx bX hw hp5 hL5 hI5 hset5 hB5 H1
                  go_wp2_with (at_builtin; refine wpList_append_own _ rfl _ _ 22 rfl wA.heap.size 25 i0 zLot 3 40 ul_lots hi hz0 hz1 hz2 rfl (by decide) _ _ _ rfl (World.ownsRow.alloc hrow _) ⟨_, 0, none⟩ 1 1 (lotC ⟨xk, xm, renP (nf K (i + 1)) ps⟩ (.slice ya ps.length yc)) rfl rfl (lot_at _ _ _ _) (lotC_one _ _ _ _) (by unfold maxLen; omega) (by omega) (by rw [World.size_alloc]; omega) ?_)
                  intro v2 w6 hown1 hgrow _
                  have bA := below_alloc (Below.refl _ wC) (.cells #[.int .i64 xk, .int .i64 xm, .slice ya ps.length yc] 25)
                  have hrowA := World.ownsRow.alloc hrow (.cells #[.int .i64 xk, .int .i64 xm, .slice ya ps.length yc] 25)
                  have hx6 := (H5.out.2.1.all bA).push (x := ⟨xk, xm, renP (nf K (i + 1)) ps⟩) (H5.out.1.all bA) hgrow hown1
                  have hI6 := (H5.out.2.2.1.all bA).grownL hrowA hgrow
                  have hset6 := (H5.out.2.2.2.1.alloc _).grown hrowA hgrow (by decide)
                  have hW6 := (below_at HG3.out H5.out.2.2.2.2 bA).grown hgrow (by rw [World.size_alloc]; omega) (fun j e => by have := (World.ownsRow.lt hrowA j e).1; omega)
                  have hs6 : wA.heap.size ≤ w6.heap.size := by have := hgrow.size; rw [World.size_alloc] at this; omega
                  have hro : _ := hI6
                  unfold OwnI at hro
                  have H6 := Lib.hid (And.intro hx6 (And.intro hI6 (And.intro hset6 hW6)))
                  clear hown1 hgrow hrow hrowA hx6 hI6 hset6 hW6 H5 d0 d1 d2
                  go_wp2_with (at_builtin; refine wpList_append_own _ rfl _ _ 54 rfl wA.heap.size 3 i1 (.int .i64 0) 1 8 Try.underlying54 hi' hz0' hz1' hz2' rfl (by decide) _ _ _ rfl (World.ownsRow.alloc hro _) ⟨_, 0, none⟩ 1 1 (intL i) rfl rfl (intL_at _ _ _) (intL_one _) (by unfold maxLen; omega) (by omega) (by rw [World.size_alloc]; omega) ?_)
                  intro v3 w7 hown1 hgrow _
                  have hroA := World.ownsRow.alloc hro (.cells #[.int .i64 (i : Int)] 3)
                  have bA := below_alloc (Below.refl _ w6) (.cells #[.int .i64 (i : Int)] 3)
                  have hI7 : OwnI wA.heap.size w7 v3 (selK K i ++ [(i : Int)]) := OwnI.pushed hown1
                  have hL7 := (H6.out.1.all bA).grownI hroA hgrow
                  have hset7 : BlockAt w7 g (fnC ls.length (nf K (i + 1))) 3 := (hgrow.block g (H6.out.2.2.1.alloc (.cells #[.int .i64 (i : Int)] 3)).lt (fun e => by have := (World.ownsRow.lt hroA g e.symm).1; omega)).trans (H6.out.2.2.1.alloc _)
                  have hW7 := (below_at HG3.out H6.out.2.2.2 bA).grown hgrow (by rw [World.size_alloc]; omega) (fun j e => by have := (World.ownsRow.lt hroA j e).1; omega)
                  have hs7 : wA.heap.size ≤ w7.heap.size := by have := hgrow.size; rw [World.size_alloc] at this; omega
                  have HN := Lib.hid (And.intro hL7 (And.intro hI7 (And.intro hset7 (And.intro hW7 hs7))))
                  clear hown1 hgrow hro hroA hL7 hI7 hset7 hW7 H6
                  go_wp2
                  go_roundw
                  case rel => exact ⟨i + 1, _, by omega, by go_num, Lib.hid ⟨by rw [HLN.out]; exact HN.out.1, by rw [HSS.out]; exact HN.out.2.1, HN.out.2.2.1, HN.out.2.2.2.1, HN.out.2.2.2.2⟩⟩
                  case measure => simp [intOf]; omega
          · obtain rfl : i = ls.length := by omega
            have hL := hg.out.1.mono (Nat.le_trans hw3s (Nat.le_of_lt hgA'))
            have hI := hg.out.2.1.mono (Nat.le_trans hw3s (Nat.le_of_lt hgA'))
            have hw := below_step HW3.out (by rw [HG3.out]; exact hg.out.2.2.2.1)
            clear hg
            go_wp2
            exact bodyPost_ret (v := .tuple #[u11, u12, .int .i64 0]) (by simp [results, Try.results54, go_sem]) rfl ⟨_, _, us, by rw [HE.out], by rw [HR.out]; exact hL, by rw [HO.out]; exact hI, hw⟩
  · have hE : onlyE ls ks = Lt.valE ls := by unfold onlyE; rw [if_neg h0]
    have hR : onlyR ls ks = [] := by unfold onlyR; rw [hE, if_neg h0]
    have hO : onlyO ls ks = [] := by unfold onlyO; rw [hE, if_neg h0]
    rw [hE, hR, hO]
    have hne : (Lt.valE ls != 0) = true := by simpa using h0
    obtain ⟨a, c, rfl⟩ := hv.form
    obtain ⟨ka, kc, rfl, _⟩ := hu.look
    generalize Lt.valE ls = q at *
    clear hv hu hsh h0 hE hR hO
    go_enter Try.func54, Try.ntmps54
    go_wp2_with fail
    refine V.out.mono ?_
    rintro e w1 ⟨rfl, hb1⟩
    have hw1 := hb1
    clear hb1 V
    go_wp2
    exact bodyPost_ret (v := .tuple #[.slice none 0 0, .slice none 0 0, .int .i64 q]) (by simp [results, Try.results54, go_sem]) rfl ⟨_, _, [], rfl, OwnL.nil _ _, OwnI.nil _ _, hw1⟩
end Go.Proofs.Ytccjbefmcifaeaa
