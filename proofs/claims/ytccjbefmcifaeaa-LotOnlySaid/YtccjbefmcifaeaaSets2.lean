/- From which received lots a lot comes: the reference's. -/
import Derived.Test.YtccjbefmcifaeaaSets1
namespace Go.Proofs.Ytccjbefmcifaeaa
open Go.RowKit

set_option maxRecDepth 20000 in
set_option maxHeartbeats 1000000 in
theorem refSources_any (v : Value) (ls : List Lt.L) (n : Int) (w : World) (hv : Lots w v ls) (hsh : short ls) :
    Calls Try.prog 44 #[v, .int .i64 n] w fun e w' => ∃ u, e = .returned (.tuple #[u, .int .i64 (numE ls [n])]) ∧ OwnI w.heap.size w' u (srcR ls n) ∧ Below w.heap.size w w' := by
  have N := Lib.hid (named_any v ls n n w hv hsh)
  rw [numE_same] at N
  have HV := Lib.hid hv
  obtain ⟨i0, hi, hz0, hz1, hz2⟩ := info_parts infoInt
  obtain ⟨a, c, rfl, hk⟩ := hv.look
  have HK := Lib.hid hk
  clear hv hsh hk
  by_cases hz : numE ls [n] = 0
  · obtain ⟨h0, h1, h2⟩ := numE_zero hz
    obtain ⟨hl, herr, _⟩ := Lt.valE_zero h0
    have HR := Lib.hid (show srcR ls n = selK (srcP ls n.toNat) ls.length by unfold srcR; rw [if_pos hz])
    have HZ := Lib.hid hz
    rw [hz] at N
    obtain ⟨i, rfl⟩ : ∃ i : Nat, n = (i : Int) := ⟨n.toNat, by omega⟩
    simp only [Int.toNat_natCast] at HR
    have hil : i < ls.length := by omega
    have HE := Lib.hid herr
    have O := Lib.hid (fun W (hW : Below w.heap.size w W) => one_any _ ls i W (HV.out.all hW) hl hil)
    have I := Lib.hid (fun W (hW : Below w.heap.size w W) B (hB : BlockAt W B (marksL ls.length (updB (fun _ => false) i)).toArray 4) => inside_any _ ls B _ W (HV.out.all hW) hl (by omega) herr hB)
    clear hz h0 h1 h2 herr
    go_enter Try.func44, Try.ntmps44
    go_wp2_with fail
    refine N.out.mono ?_
    rintro e w1 ⟨rfl, hb⟩
    clear N
    go_wp2_with fail
    refine (O.out _ hb).mono ?_
    rintro e w2 ⟨rfl, hblk, hb2⟩
    have hw2 := below_step hb hb2
    clear hb hb2
    go_wp2_with fail
    refine (I.out _ hw2 _ hblk).mono ?_
    rintro e w3 ⟨g, cap, rfl, hrow, hb3⟩
    have HW3 := Lib.hid (below_step hw2 hb3)
    have HRW := Lib.hid hrow
    have HGL := Lib.hid ((World.ownsRow.lt hrow g rfl).2)
    clear hw2 hb3 hblk hrow O I
    go_wp2
    go_loopw [8, 9] (fun s t wr => ∃ k : Nat, k ≤ ls.length ∧ t = .int .i64 k ∧ Hid (OwnI w3.heap.size wr s (selK (srcP ls i) k) ∧ Below w3.heap.size w3 wr)) (fun _ t _ => ls.length - (intOf t).toNat)
    case atStart => exact ⟨0, Nat.zero_le _, rfl, Lib.hid ⟨OwnI.nil _ _, Below.refl _ _⟩⟩
    case round =>
      obtain ⟨k, hk, rfl, hg⟩ := hrel
      by_cases hlt : k < ls.length
      · obtain ⟨hown, hw⟩ := hg.out
        obtain ⟨b, off, u, rfl, hbl, hlot⟩ := HK.out k hlt
        have hlot := hlot.below (below_step HW3.out hw) hbl
        have h6 := (Lt.errAt_parts (HE.out _ hlt)).2.1
        have e1 := (hw.cell (p := ⟨g, k, none⟩) HGL.out).trans ((World.ownsRow.cellAt HRW.out k (by omega)).trans (marksL_at hlt))
        rw [ins_paths hl HE.out hil hlt] at e1
        have hsl := selK_len (srcP ls i) k
        have HS := Lib.hid (selK_succ (srcP ls i) k)
        have hd : srcP ls i k = (decide ((ls.getD k default).ps.length = 0) && decide (0 < pathsF ls k i)) := rfl
        generalize ls.getD k default = x at *
        generalize selK (srcP ls i) k = qs at *
        generalize srcP ls i k = d at *
        generalize pathsF ls k i = z at *
        obtain ⟨c0, c1, c2, hps⟩ := hlot
        obtain ⟨au, cu, rfl⟩ := hps.form
        generalize x.ps.length = xn at *
        clear hps c0 c1
        by_cases hp : 0 < z
        · have hpb : decide (0 < z) = true := by simpa using hp
          rw [hpb] at e1 hd
          clear hp hpb
          by_cases hx0 : xn = 0
          · subst hx0
            have hd1 : d = true := by rw [hd]; rfl
            rw [hd1, if_pos rfl] at HS
            clear hd hd1
            have hro : _ := hown
            unfold OwnI at hro
            go_wp2_with (at_builtin; refine wpList_append_own _ rfl _ _ 54 rfl w3.heap.size 3 i0 (.int .i64 0) 1 8 Try.underlying54 hi hz0 hz1 hz2 rfl (by decide) _ _ _ rfl (hro.alloc _) ⟨_, 0, none⟩ 1 1 (intL k) rfl rfl (intL_at _ _ _) (intL_one _) (by unfold maxLen; omega) (by omega) (by have := hw.size; simp; omega) ?_)
            intro v' w4 hown1 hgrow _
            have hw2 := (hw.alloc hw.size (.cells #[.int .i64 (k : Int)] 3)).grown hgrow (by have := hw.size; simp; omega) (fun j e => (World.ownsRow.lt hown j e).1)
            have hx2 : OwnI w3.heap.size w4 v' (qs ++ [(k : Int)]) := OwnI.pushed hown1
            clear hown1 hgrow hown hw hro c2 e1
            go_wp2
            go_roundw
            case rel => exact ⟨k + 1, by omega, by go_num, Lib.hid ⟨by rw [HS.out]; exact hx2, hw2⟩⟩
            case measure => simp [intOf]; try omega
          · have hx0b : ((xn : Int) == 0) = false := by simpa using hx0
            have hd0 : d = false := by rw [hd]; simp [hx0]
            rw [hd0, if_neg (by decide)] at HS
            clear hd hd0 hx0 hown hw
            go_wp2
            go_roundw
            case rel => exact ⟨k + 1, by omega, by go_num, by rw [HS.out]; exact hg⟩
            case measure => simp [intOf]; try omega
        · have hpb : decide (0 < z) = false := by simpa using hp
          rw [hpb] at e1 hd
          have hd0 : d = false := by rw [hd]; simp
          rw [hd0, if_neg (by decide)] at HS
          clear hd hd0 hp hpb hown hw
          go_wp2
          go_roundw
          case rel => exact ⟨k + 1, by omega, by go_num, by rw [HS.out]; exact hg⟩
          case measure => simp [intOf]; try omega
      · obtain rfl : k = ls.length := by omega
        obtain ⟨hown, hw⟩ := hg.out
        have hx := below_step HW3.out hw
        have ho := hown.mono HW3.out.size
        clear hown hw hg
        go_wp2
        go_ret2
        exact ⟨_, by rw [HZ.out]; rfl, by rw [HR.out]; exact ho, hx⟩
  · have HR := Lib.hid (show srcR ls n = [] by unfold srcR; rw [if_neg hz])
    have hne : (numE ls [n] != 0) = true := by simpa using hz
    generalize hq : numE ls [n] = q at *
    have HQ := Lib.hid hq
    clear hz hq
    go_enter Try.func44, Try.ntmps44
    go_wp2_with fail
    refine N.out.mono ?_
    rintro e w1 ⟨rfl, hb⟩
    clear N
    go_wp2
    go_ret2
    exact ⟨_, rfl, by rw [HR.out]; exact OwnI.nil _ _, hb⟩
end Go.Proofs.Ytccjbefmcifaeaa
