/- From which received lots a lot comes, and in which lots it is: both sides. -/
import Derived.Test.YtccjbefmcifaeaaInsideN
namespace Go.Proofs.Ytccjbefmcifaeaa
open Go.RowKit

def srcP (ls : List Lt.L) (i : Nat) (j : Nat) : Bool := decide ((ls.getD j default).ps.length = 0) && decide (0 < pathsF ls j i)
def srcR (ls : List Lt.L) (n : Int) : List Int := if numE ls [n] = 0 then selK (srcP ls n.toNat) ls.length else []

set_option maxRecDepth 20000 in
set_option maxHeartbeats 1000000 in
theorem lotSources_any (v : Value) (ls : List Lt.L) (n : Int) (w : World) (hv : Lots w v ls) (hsh : short ls) :
    Calls Try.prog 43 #[v, .int .i64 n] w fun e w' => ∃ u, e = .returned (.tuple #[u, .int .i64 (numE ls [n])]) ∧ OwnI w.heap.size w' u (srcR ls n) ∧ Below w.heap.size w w' := by
  have hb1 := below_alloc (Below.refl w.heap.size w) (.cells #[.int .i64 n] 3)
  have N := Lib.hid (nums_one v ls n w.heap.size _ (hv.all hb1) hsh (BlockAt.new w #[.int .i64 n] 3))
  have HB := Lib.hid (And.intro hb1 hv)
  obtain ⟨i0, hi, hz0, hz1, hz2⟩ := info_parts infoInt
  obtain ⟨a, c, rfl, hk⟩ := hv.look
  have HK := Lib.hid hk
  clear hb1 hv hsh hk
  by_cases hz : numE ls [n] = 0
  · obtain ⟨h0, h1, h2⟩ := numE_zero hz
    obtain ⟨hl, herr, _⟩ := Lt.valE_zero h0
    have HR := Lib.hid (show srcR ls n = selK (srcP ls n.toNat) ls.length by unfold srcR; rw [if_pos hz])
    have HZ := Lib.hid hz
    rw [hz] at N
    obtain ⟨i, rfl⟩ : ∃ i : Nat, n = (i : Int) := ⟨n.toNat, by omega⟩
    simp only [Int.toNat_natCast] at HR
    have hil : i < ls.length := by omega
    have L := Lib.hid (fun W (hW : Below w.heap.size w W) k (hk : k < ls.length) => paths_any _ ls k W (HB.out.2.all hW) hl herr hk)
    have HE := Lib.hid herr
    clear hz h0 h1 h2 herr
    go_enter Try.func43, Try.ntmps43
    go_wp2_with fail
    refine N.out.mono ?_
    rintro e w1 ⟨rfl, hb⟩
    have HW1 := Lib.hid (below_step HB.out.1 hb)
    clear hb N
    go_wp2
    go_loopw [7, 19] (fun s t wr => ∃ k : Nat, k ≤ ls.length ∧ t = .int .i64 k ∧ Hid (OwnI w.heap.size wr s (selK (srcP ls i) k) ∧ Below w.heap.size w wr)) (fun _ t _ => ls.length - (intOf t).toNat)
    case atStart => exact ⟨0, Nat.zero_le _, rfl, Lib.hid ⟨OwnI.nil _ _, HW1.out⟩⟩
    case round =>
      obtain ⟨k, hk, rfl, hg⟩ := hrel
      clear HW1
      by_cases hlt : k < ls.length
      · obtain ⟨hown, hw⟩ := hg.out
        obtain ⟨b, off, u, rfl, hbl, hlot⟩ := HK.out k hlt
        have hlot := hlot.below hw hbl
        have h6 := (Lt.errAt_parts (HE.out _ hlt)).2.1
        have hsl := selK_len (srcP ls i) k
        have HS := Lib.hid (selK_succ (srcP ls i) k)
        have hd : srcP ls i k = (decide ((ls.getD k default).ps.length = 0) && decide (0 < pathsF ls k i)) := rfl
        have L1 := Lib.hid (fun W (hW : Below w.heap.size w W) => L.out W hW k hlt)
        generalize ls.getD k default = x at *
        generalize selK (srcP ls i) k = qs at *
        generalize srcP ls i k = d at *
        obtain ⟨c0, c1, c2, hps⟩ := hlot
        obtain ⟨au, cu, rfl⟩ := hps.form
        have R := Lib.hid (received_any x au cu (wr.alloc (.cells #[.int .i64 x.k, .int .i64 x.m, .slice au x.ps.length cu] 25)) (by omega))
        have HG := Lib.hid (And.intro (hown.alloc (.cells #[.int .i64 x.k, .int .i64 x.m, .slice au x.ps.length cu] 25)) (below_alloc hw (.cells #[.int .i64 x.k, .int .i64 x.m, .slice au x.ps.length cu] 25)))
        clear hps hown hw hg
        by_cases hx0 : x.ps.length = 0
        · have hx0b : decide (x.ps.length = 0) = true := by simpa using hx0
          rw [hx0b] at R hd
          clear hx0 hx0b
          go_wp2_with fail
          refine R.out.mono ?_
          rintro e w2 ⟨rfl, hb2⟩
          have ho := HG.out.1.all hb2
          have hw := below_step HG.out.2 hb2
          clear hb2 HG R c0 c1 c2
          go_wp2_with fail
          refine (L1.out _ hw).mono ?_
          rintro e w3 ⟨rfl, hblk, hb3⟩
          have hown := ho.all hb3
          have hw := below_step hw hb3
          have hc := (hblk.cell i).trans (fnC_at hil)
          clear hblk hb3 ho L1
          generalize pathsF ls k i = z at *
          by_cases hp : 0 < z
          · have hd1 : d = true := by rw [hd]; simp [hp]
            have hpb : decide (0 < z) = true := by simpa using hp
            rw [hd1, if_pos rfl] at HS
            clear hd hd1 hp
            have hro : _ := hown
            unfold OwnI at hro
            go_wp2_with (at_builtin; refine wpList_append_own _ rfl _ _ 54 rfl w.heap.size 3 i0 (.int .i64 0) 1 8 Try.underlying54 hi hz0 hz1 hz2 rfl (by decide) _ _ _ rfl (hro.alloc _) ⟨_, 0, none⟩ 1 1 (intL k) rfl rfl (intL_at _ _ _) (intL_one _) (by unfold maxLen; omega) (by omega) (by have := hw.size; simp; omega) ?_)
            intro v' w4 hown1 hgrow _
            have hw2 := (hw.alloc hw.size (.cells #[.int .i64 (k : Int)] 3)).grown hgrow (by have := hw.size; simp; omega) (fun j e => (World.ownsRow.lt hown j e).1)
            have hx2 : OwnI w.heap.size w4 v' (qs ++ [(k : Int)]) := OwnI.pushed hown1
            clear hown1 hgrow hown hw hro hc
            go_wp2
            go_roundw
            case rel => exact ⟨k + 1, by omega, by go_num, Lib.hid ⟨by rw [HS.out]; exact hx2, hw2⟩⟩
            case measure => simp [intOf]; try omega
          · have hd0 : d = false := by rw [hd]; simp [hp]
            have hpb : decide (0 < z) = false := by simpa using hp
            rw [hd0, if_neg (by decide)] at HS
            have HH := Lib.hid (And.intro hown hw)
            clear hd hd0 hp hown hw
            go_wp2
            go_roundw
            case rel => exact ⟨k + 1, by omega, by go_num, by rw [HS.out]; exact HH⟩
            case measure => simp [intOf]; try omega
        · have hx0b : decide (x.ps.length = 0) = false := by simpa using hx0
          rw [hx0b] at R hd
          clear hx0 hx0b
          have hd0 : d = false := by rw [hd]; rfl
          rw [hd0, if_neg (by decide)] at HS
          clear hd hd0
          go_wp2_with fail
          refine R.out.mono ?_
          rintro e w2 ⟨rfl, hb2⟩
          have ho := HG.out.1.all hb2
          have hw := below_step HG.out.2 hb2
          have HH := Lib.hid (And.intro ho hw)
          clear hb2 HG R c0 c1 c2 ho hw
          go_wp2
          go_roundw
          case rel => exact ⟨k + 1, by omega, by go_num, by rw [HS.out]; exact HH⟩
          case measure => simp [intOf]; try omega
      · obtain rfl : k = ls.length := by omega
        obtain ⟨ho, hx⟩ := hg.out
        clear hg
        go_wp2
        go_ret2
        exact ⟨_, by rw [HZ.out]; rfl, by rw [HR.out]; exact ho, hx⟩
  · have HR := Lib.hid (show srcR ls n = [] by unfold srcR; rw [if_neg hz])
    have hne : (numE ls [n] != 0) = true := by simpa using hz
    generalize hq : numE ls [n] = q at *
    have HQ := Lib.hid hq
    clear hz hq
    go_enter Try.func43, Try.ntmps43
    go_wp2_with fail
    refine N.out.mono ?_
    rintro e w1 ⟨rfl, hb⟩
    have hw := below_step HB.out.1 hb
    clear hb N
    go_wp2
    go_ret2
    exact ⟨_, rfl, by rw [HR.out]; exact OwnI.nil _ _, hw⟩
end Go.Proofs.Ytccjbefmcifaeaa
