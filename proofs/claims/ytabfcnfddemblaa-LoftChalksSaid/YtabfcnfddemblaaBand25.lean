/- A band whose marks in a span are changed: the program's. -/
import Derived.Test.YtabfcnfddemblaaBand24
namespace Go.Proofs.Ytabfcnfddemblaa
open Go.RowKit

theorem cellsR_setMk : ∀ (rs : List Bd.R) (k : Nat) (m : Bd.M), k < rs.length → ((((cellsR rs).set (k * 4 + 1) (.int .i64 m.t)).set (k * 4 + 2) (.int .i64 m.s)).set (k * 4 + 3) (.int .i64 m.f)) = cellsR (rs.set k ⟨(rs.getD k default).l, m⟩)
  | [], k, x, h => by simp at h
  | r :: b, 0, m, _ => rfl
  | r :: b, k + 1, m, h => by
    have ih := cellsR_setMk b k m (by simpa using h)
    have e : ∀ (l : List Value) (j : Nat) (u : Value), (runC r ++ l).set ((k + 1) * 4 + j) u = runC r ++ l.set (k * 4 + j) u := by
      intro l j u
      rw [List.set_append_right _ _ (by simp [runC]; omega)]
      congr 2
      simp [runC]; omega
    show (((runC r ++ cellsR b).set ((k + 1) * 4 + 1) _).set ((k + 1) * 4 + 2) _).set ((k + 1) * 4 + 3) _ = runC r ++ cellsR (b.set k _)
    rw [e, e, e, ih]
    simp
abbrev putMark (w : World) (g k : Nat) (m : Bd.M) : World := ((w.setCell ⟨g, k * 4 + 1, none⟩ (.int .i64 m.t)).setCell ⟨g, k * 4 + 2, none⟩ (.int .i64 m.s)).setCell ⟨g, k * 4 + 3, none⟩ (.int .i64 m.f)
theorem Own.setMk {base : Nat} {w : World} {g n cap : Nat} {rs : List Bd.R} (h : Own base w (.slice (some ⟨g, 0, none⟩) n cap) rs) (hn : rs.length = n) (k : Nat) (m : Bd.M) (hk : k < n) {q : Bd.R} (hq : rs.getD k default = q) :
    Own base (putMark w g k m) (.slice (some ⟨g, 0, none⟩) n cap) (rs.set k ⟨q.l, m⟩) := by
  subst hn hq
  have h1 := (World.ownsRow.stored (World.ownsRow.stored (World.ownsRow.stored h (k * 4 + 1) (.int .i64 m.t)).1 (k * 4 + 2) (.int .i64 m.s)).1 (k * 4 + 3) (.int .i64 m.f)).1
  rw [cellsR_setMk rs k m hk] at h1
  unfold Own
  rw [List.length_set]
  exact h1
theorem below_putMark {B : Nat} {a w : World} (h : Below B a w) {g : Nat} (hg : B ≤ g) (k : Nat) (m : Bd.M) : Below B a (putMark w g k m) :=
  ((h.setCell (p := ⟨g, k * 4 + 1, none⟩) hg _).setCell (p := ⟨g, k * 4 + 2, none⟩) hg _).setCell (p := ⟨g, k * 4 + 3, none⟩) hg _

set_option maxRecDepth 20000 in
set_option maxHeartbeats 2000000 in
theorem changedF_any (v : Value) (rs : List Bd.R) (fr to fl : Int) (B : Nat) (w : World) (hv : Runs w v rs) (h0 : Bd.sliE rs fr to = 0) (hB : w.cell? ⟨B, 0, none⟩ = some (.int .i64 fl)) (hlt : B < w.heap.size) :
    Calls Try.prog 143 #[v, .int .i64 fr, .int .i64 to, .func (.func 144) #[] #[.pointer (some ⟨B, 0, none⟩)]] w fun e w' => ∃ x, e = .returned (.tuple #[x, .int .i64 (Bd.toldE (Bd.repL rs fr (Bd.mapR (Bd.chF fl) (Bd.cutL rs fr to))))]) ∧ Own w.heap.size w' x (Bd.toldR (Bd.repL rs fr (Bd.mapR (Bd.chF fl) (Bd.cutL rs fr to)))) ∧ Below w.heap.size w w' := by
  obtain ⟨z0, z1, z2, z3⟩ := Bd.sliE_zero.1 h0
  have hf := Bd.fine_of_valid z0
  have hlv := Bd.len_valid z0
  have hcl := Bd.len_cutL hf z1 z2 z3
  have hcn := Bd.cutL_length rs fr to
  obtain ⟨a1, _, _⟩ := Bd.valE_zero z0
  have P1 := Lib.hid (part_any v rs fr to w hv hf (by omega) (by omega) (by omega) (by omega))
  have R1 := Lib.hid (fun u W (hW : Below w.heap.size w W) (hu : Runs W u (Bd.mapR (Bd.chF fl) (Bd.cutL rs fr to))) => replaced_any v u rs _ fr W (hv.all hW) hu z0 z1 (Bd.pos_mapR (Bd.pos_cutL rs fr to)) (by rw [Bd.mapR_length]; omega) (by rw [Bd.len_mapR]; omega))
  have e1 : cutS fr to (Bd.upto rs rs.length) = Bd.cutL rs fr to := rfl
  rw [e1] at P1
  generalize hL : Bd.repL rs fr (Bd.mapR (Bd.chF fl) (Bd.cutL rs fr to)) = L at *
  obtain ⟨a, cc, rfl⟩ := hv.form
  clear hv h0 z0 z1 z2 z3 hf hlv hcl e1 hL
  generalize Bd.cutL rs fr to = cs at *
  have HB := Lib.hid hB
  clear hB
  go_enter Try.func143, Try.ntmps143
  go_wp2_with fail
  refine P1.out.mono ?_
  rintro e w1 ⟨x, rfl, hx, hw1⟩
  clear P1
  rcases hx.form with ⟨rfl, rfl⟩ | ⟨g, cap, rfl, hg1, hg2, hg3, hg4, hg5⟩
  · go_wp2
    go_loop [18] (fun t => t = .int .i64 0) (fun t => (0 - intOf t).toNat)
    case atStart => exact rfl
    case round =>
      obtain rfl := hrel
      have R2 := Lib.hid (R1.out (.slice none 0 0) w1 hw1 hx.runs)
      clear hx
      go_wp2_with fail
      refine R2.out.mono ?_
      rintro e w2 ⟨y, rfl, hy, hb2⟩
      obtain ⟨ya, yc, hyf⟩ := hy.runs.form
      subst hyf
      go_wp2
      go_ret2
      exact ⟨_, rfl, hy.mono hw1.size, below_step hw1 hb2⟩
  · generalize hn : cs.length = n at *
    have HN := Lib.hid (And.intro hn (And.intro hx hw1))
    clear hn hx hg3 hg4 hg5 hg2 hw1
    go_wp2
    go_loopw [18] (fun t wr => ∃ (k : Nat), k ≤ n ∧ t = .int .i64 k ∧ Hid (Own w.heap.size wr (.slice (some ⟨g, 0, none⟩) n cap) (Bd.part (Bd.chF fl) cs k) ∧ Below w.heap.size w wr)) (fun t _ => n - (intOf t).toNat)
    case atStart => exact ⟨0, Nat.zero_le _, rfl, Lib.hid ⟨by rw [Bd.part_zero]; exact HN.out.2.1, HN.out.2.2⟩⟩
    case round =>
      obtain ⟨k, hk, rfl, hg⟩ := hrel
      by_cases hkn : k < n
      · obtain ⟨hown, hw⟩ := hg.out
        have hkc : k < cs.length := by have := HN.out.1; omega
        have hpl : (Bd.part (Bd.chF fl) cs k).length = n := (Bd.part_length _ _ _).trans HN.out.1
        rcases hown.form with ⟨h, _⟩ | ⟨g', cap', h, _, hgl, _, hfz, hr⟩
        · simp at h
        · rw [hpl] at h
          obtain ⟨rfl, rfl⟩ : g = g' ∧ cap = cap' := by simpa using h
          obtain ⟨c0, c1, c2, c3⟩ := hr k (by omega)
          rw [Bd.part_at hkc] at c0 c1 c2 c3
          have hset := Lib.hid (Bd.part_succ (c := Bd.chF fl) hkc)
          have HO := Lib.hid (And.intro hown (And.intro hpl hfz))
          have hB1 := (hw.cell (p := ⟨B, 0, none⟩) hlt).trans HB.out
          have C := Lib.hid (flaw_any cs[k].m fl B wr hB1 (Nat.lt_of_lt_of_le hlt hw.size))
          clear hg h hown hpl hfz hr hB1
          generalize hrr : cs[k] = r at *
          have HRR := Lib.hid hrr
          clear hrr
          go_wp2_with fail
          refine C.out.mono ?_
          rintro e w2 ⟨rfl, hb2⟩
          obtain ⟨hown, hpl, hfz⟩ := HO.out
          have hown2 := hown.all hb2
          have d0 := (hb2.cell (p := ⟨g, k * 4, none⟩) hgl).trans c0
          have d1 := (hb2.cell (p := ⟨g, k * 4 + 1, none⟩) hgl).trans c1
          have d2 := (hb2.cell (p := ⟨g, k * 4 + 2, none⟩) hgl).trans c2
          have d3 := (hb2.cell (p := ⟨g, k * 4 + 3, none⟩) hgl).trans c3
          have f1 := (hb2.frozen (p := ⟨g, k * 4 + 1, none⟩) hgl).trans (hfz (k * 4 + 1))
          have f2 := (hb2.frozen (p := ⟨g, k * 4 + 2, none⟩) hgl).trans (hfz (k * 4 + 2))
          have f3 := (hb2.frozen (p := ⟨g, k * 4 + 3, none⟩) hgl).trans (hfz (k * 4 + 3))
          have hs := hown2.setMk hpl k (Bd.chF fl r.m) hkn ((Bd.part_at hkc).trans HRR.out)
          have hsw := below_putMark (below_step hw hb2) hg1 k (Bd.chF fl r.m)
          have HS := Lib.hid (And.intro hs hsw)
          clear hs hsw hown2 hown hw hb2 c0 c1 c2 c3 hfz hpl
          dsimp only [Bd.chF]
          go_wp2
          go_roundw
          case rel => exact ⟨k + 1, by omega, by go_num, Lib.hid ⟨by rw [← hset.out]; exact HS.out.1, HS.out.2⟩⟩
          case measure => simp [intOf]; omega
      · obtain rfl : k = n := by omega
        obtain ⟨hown, hw⟩ := hg.out
        have hall : Bd.part (Bd.chF fl) cs k = Bd.mapR (Bd.chF fl) cs := by rw [← HN.out.1, Bd.part_all]
        rw [hall] at hown
        have R2 := Lib.hid (R1.out _ _ hw hown.runs)
        clear hown hg hall
        go_wp2_with fail
        refine R2.out.mono ?_
        rintro e w2 ⟨y, rfl, hy, hb2⟩
        obtain ⟨ya, yc, hyf⟩ := hy.runs.form
        subst hyf
        go_wp2
        go_ret2
        exact ⟨_, rfl, hy.mono hw.size, below_step hw hb2⟩

end Go.Proofs.Ytabfcnfddemblaa
