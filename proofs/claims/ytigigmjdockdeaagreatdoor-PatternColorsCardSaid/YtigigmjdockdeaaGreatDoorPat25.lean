/- The parser of patterns reads rows and bricks. -/
import Derived.Test.YtigigmjdockdeaaGreatDoorPat24
namespace Go.Proofs.YtigigmjdockdeaaGreatDoor
open Go.RowKit Go.Sort

/-- The digits of rows. -/
def rowV (r : List UInt8) : List Int := fnL r.length (digF ⟨r.toArray⟩)
def rowsV (rs : List (List UInt8)) : List Int := rs.flatMap rowV
theorem rowsV_snoc (rs : List (List UInt8)) (r : List UInt8) : rowsV (rs ++ [r]) = rowsV rs ++ rowV r := by simp [rowsV]
theorem Kb.ofBelow {bm : Nat} {w w1 w2 : World} (h : Kb bm w w1) (k : Below w1.heap.size w1 w2) : Kb bm w w2 := h.below k

set_option maxRecDepth 20000 in
set_option maxHeartbeats 1000000 in
theorem rows_ok (w0 : World) (R g : Nat) (width height : Int) (x : List UInt8) (ws : List (List UInt8)) (w : World) (hE : Env w0) (hW : Below w0.heap.size w0 w) (hR : w0.heap.size ≤ R) (h : RdAt w R g (x :: ws)) (hl : ws.length ≤ 1000000) (hx : x.length ≤ 100000)
    (h1 : 1 ≤ width) (hw2 : width ≤ 100000) (hh : ((Tx.spl 47 x).length : Int) = height) (hrs : ∀ r ∈ Tx.spl 47 x, (r.length : Int) = width ∧ allDig ⟨r.toArray⟩) (hn : (rowsV (Tx.spl 47 x)).length ≤ 100000) :
    Calls Tryz.prog 152 #[.pointer (some ⟨R, 0, none⟩), .int .i64 width, .int .i64 height] w fun e w' => ∃ u, e = .returned u ∧ OwnI w.heap.size w' u (rowsV (Tx.spl 47 x)) ∧ RdAt w' R g ws ∧ Kb R w w' := by
  obtain ⟨i0, hi, hz0, hz1, hz2⟩ := info_parts infoInt
  have WO := Lib.hid (word_ok R g _ ws w h hl)
  have RQ := Lib.hid (fun W => require_ok W)
  have SP := Lib.hid (fun W (hX : Below w0.heap.size w0 W) => splitLib_any x 47 W (hE.all hX) hx)
  have HW := Lib.hid hW
  have hln := Tx.spl_len 47 x
  clear h hE hW
  unfold SplitSays at SP
  generalize hrsd : Tx.spl 47 x = rs at *
  have hne : ((rs.length : Int) == height) = true := beq_iff_eq.2 hh
  have hwd : decide (0 < width) = true := decide_eq_true (by omega)
  have HRS := Lib.hid hrs
  have HN : Hid (∀ k, k < rs.length → (rowsV (rs.take k)).length + (rowV (rs.getD k [])).length ≤ 100000 ∧ rowsV (rs.take (k + 1)) = rowsV (rs.take k) ++ rowV (rs.getD k [])) := Lib.hid fun k hk => by
    have e : rs.take (k + 1) = rs.take k ++ [rs.getD k []] := by rw [List.take_succ_eq_append_getElem hk]; simp [hk]
    have e2 : rowsV (rs.take (k + 1)) = rowsV (rs.take k) ++ rowV (rs.getD k []) := by rw [e, rowsV_snoc]
    refine ⟨?_, e2⟩
    have e3 : rowsV rs = rowsV (rs.take (k + 1)) ++ rowsV (rs.drop (k + 1)) := by
      unfold rowsV
      rw [← List.flatMap_append, List.take_append_drop]
    rw [e3, e2, List.length_append, List.length_append] at hn
    omega
  have hrl : rs.length ≤ 100001 := by omega
  clear hrs hh hln hrsd hn
  go_enter Tryz.func152, Tryz.ntmps152
  go_wp2_with fail
  refine WO.out.mono ?_
  rintro e w1 ⟨rfl, hr1, hk1⟩
  have HA := Lib.hid (And.intro hr1 hk1)
  clear hr1 hk1 WO
  go_wp2_with fail
  refine (SP.out _ (below_kb HW.out hR HA.out.2)).mono ?_
  rintro e w2 ⟨rfl, hcell, hlt1, hb2⟩
  have HB := Lib.hid (And.intro hcell (And.intro hlt1 hb2))
  clear hcell hb2 hlt1 SP
  go_wp2_with fail
  refine (RQ.out _).mono ?_
  rintro e w3 ⟨rfl, rfl⟩
  go_wp2
  clear hne hwd
  go_loopw [8, 25] (fun s t wr => ∃ (k : Nat), k ≤ rs.length ∧ t = .int .i64 k ∧ Hid (OwnI w2.heap.size wr s (rowsV (rs.take k)) ∧ Below w2.heap.size w2 wr)) (fun _ t _ => rs.length - (intOf t).toNat)
  case atStart => exact ⟨0, Nat.zero_le _, rfl, Lib.hid ⟨OwnI.nil _ _, Below.refl _ _⟩⟩
  case round =>
    obtain ⟨k, hk, rfl, hg⟩ := hrel
    by_cases hlt : k < rs.length
    · have c0 := (hg.out.2.cell (p := ⟨w1.heap.size, k, none⟩) HB.out.2.1).trans (HB.out.1 k hlt)
      obtain ⟨hr1, hr2⟩ := HRS.out _ (List.getElem_mem hlt)
      obtain ⟨hn1, hn2⟩ := HN.out k hlt
      rw [show rs.getD k [] = rs[k] by simp [hlt]] at hn1 hn2
      have HN2 := Lib.hid hn2
      generalize rs[k] = r at *
      have hrl2 : r.length ≤ 100000 := by omega
      have hsz : (⟨r.toArray⟩ : ByteArray).size = r.length := by show r.toArray.size = _; simp
      have DG := Lib.hid (fun W => digits_ok ⟨r.toArray⟩ W (by omega) hr2)
      rw [hsz] at DG
      rw [show (r.length : Int) = width from hr1] at DG
      have HLV : Hid ((rowV r).length = r.length) := Lib.hid (by unfold rowV; rw [fnL_len])
      have hn3 : (rowsV (rs.take k)).length + r.length ≤ 100000 := by rw [← HLV.out]; exact hn1
      have HV : Hid (rowV r = fnL r.length (digF ⟨r.toArray⟩)) := Lib.hid rfl
      have hown := hg.out.1
      have hwg := hg.out.2
      obtain ⟨sa, sc, rfl⟩ := hown.form
      have HO := Lib.hid (And.intro hown hwg)
      clear hr1 hr2 hn1 hn2 hg hown hwg hsz
      generalize hD : digF ⟨r.toArray⟩ = F at *
      generalize rowV r = rv at *
      generalize hRK : rowsV (rs.take k) = rk at *
      clear hD hRK
      go_wp2_with fail
      refine (DG.out _).mono ?_
      rintro e w4 ⟨rfl, hblk, hb4⟩
      have hrow := (HO.out.1.all hb4)
      have hw4 := HO.out.2.trans (hb4.mono HO.out.2.size)
      have hca := ints_news (W := w4) (b := wr.heap.size) (off := 0) (xs := fnL r.length F) (fun j hj => by
        rw [fnL_len] at hj
        rw [Nat.zero_add]
        refine (hblk.cell j).trans ((fnC_at hj).trans ?_)
        simp [fnL, hj])
      have hsz4 := hw4.size
      have HP := Lib.hid (And.intro hrow hw4)
      clear hblk hb4 DG c0
      go_wp2_with (at_builtin; refine wpList_append_own _ rfl _ _ 22 rfl w2.heap.size 3 i0 (.int .i64 0) 1 8 Tryz.underlying22 hi hz0 hz1 hz2 rfl (by decide) _ _ _ rfl hrow ⟨wr.heap.size, 0, none⟩ r.length r.length (cellsL (fnL r.length F)) rfl (by rw [cellsL_len, fnL_len]; omega) hca (cellsL_one _) (by unfold maxLen; omega) (by omega) hsz4 ?_)
      intro v' w5 hown5 hgrow _
      have HQ : Hid (OwnI w2.heap.size w5 v' (rowsV (rs.take (k + 1))) ∧ Below w2.heap.size w2 w5) := Lib.hid ⟨by
        rw [HN2.out, HV.out]
        unfold OwnI
        rw [cellsL_append, List.length_append, fnL_len]
        exact hown5, HP.out.2.grown hgrow HP.out.2.size (fun j e => (World.ownsRow.lt hrow j e).1)⟩
      clear hown5 hgrow hrow hw4 hca
      go_wp2
      go_roundw
      case rel => exact ⟨k + 1, by omega, by go_num, HQ⟩
      case measure => simp [intOf]; omega
    · obtain rfl : k = rs.length := by omega
      have HG := Lib.hid hg.out
      rw [List.take_length] at HG
      clear hg
      go_wp2
      go_ret
      exact ⟨_, rfl, HG.out.1.mono (Nat.le_trans HA.out.2.size HB.out.2.2.size), (HA.out.1.below HB.out.2.2).below HG.out.2, (HA.out.2.below HB.out.2.2).below HG.out.2⟩
end Go.Proofs.YtigigmjdockdeaaGreatDoor
