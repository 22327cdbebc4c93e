/- In which lots a lot is: the reference's. Whether two lists are the same. -/
import Derived.Test.YtccjbefmcifaeaaSets2
namespace Go.Proofs.Ytccjbefmcifaeaa
open Go.RowKit

theorem selK_none {p : Nat → Bool} : ∀ k, (∀ j, j < k → p j = false) → selK p k = []
  | 0, _ => rfl
  | k + 1, h => by rw [selK_succ, h k (by omega), if_neg (by decide)]; exact selK_none k fun j hj => h j (by omega)
theorem descP_low {ls : List Lt.L} (hl : ls.length ≤ 24) (herr : ∀ j, j < ls.length → Lt.errAt ls j = 0) {i j : Nat} (hi : i < ls.length) (hj : j < i + 1) : descP ls i j = false := by
  unfold descP
  by_cases e : j = i
  · simp [e]
  · have : ¬ 0 < pathsF ls i j := fun h => by have := reach_le herr ((paths_pos hl herr hi (by omega)).1 h); omega
    simp [this]

set_option maxRecDepth 20000 in
set_option maxHeartbeats 1000000 in
theorem refDescend_any (v : Value) (ls : List Lt.L) (n : Int) (w : World) (hv : Lots w v ls) (hsh : short ls) :
    Calls Try.prog 46 #[v, .int .i64 n] w fun e w' => ∃ u, e = .returned (.tuple #[u, .int .i64 (numE ls [n])]) ∧ OwnI w.heap.size w' u (descR ls n) ∧ Below w.heap.size w w' := by
  have N := Lib.hid (named_any v ls n n w hv hsh)
  rw [numE_same] at N
  have HV := Lib.hid hv
  obtain ⟨i0, hi, hz0, hz1, hz2⟩ := info_parts infoInt
  obtain ⟨a, c, rfl⟩ := hv.form
  clear hv hsh
  by_cases hz : numE ls [n] = 0
  · obtain ⟨h0, h1, h2⟩ := numE_zero hz
    obtain ⟨hl, herr, _⟩ := Lt.valE_zero h0
    have HR := Lib.hid (show descR ls n = selK (descP ls n.toNat) ls.length by unfold descR; rw [if_pos hz])
    have HZ := Lib.hid hz
    rw [hz] at N
    obtain ⟨i, rfl⟩ : ∃ i : Nat, n = (i : Int) := ⟨n.toNat, by omega⟩
    simp only [Int.toNat_natCast] at HR
    have hil : i < ls.length := by omega
    have HE := Lib.hid herr
    have O := Lib.hid (fun W (hW : Below w.heap.size w W) m (hm : m < ls.length) => one_any _ ls m W (HV.out.all hW) hl hm)
    have I := Lib.hid (fun W (hW : Below w.heap.size w W) B f (hB : BlockAt W B (marksL ls.length f).toArray 4) => inside_any _ ls B f W (HV.out.all hW) hl (by omega) herr hB)
    have HS0 := Lib.hid (selK_none (i + 1) fun j hj => descP_low hl herr hil hj)
    clear hz h0 h1 h2 herr
    go_enter Try.func46, Try.ntmps46
    go_wp2_with fail
    refine N.out.mono ?_
    rintro e w1 ⟨rfl, hb⟩
    have H0 := Lib.hid hb
    clear N hb
    go_wp2
    go_loopw [7, 8] (fun s t wr => ∃ k : Nat, i + 1 + k ≤ ls.length ∧ t = .int .i64 ((i + 1 + k : Nat) : Int) ∧ Hid (OwnI w.heap.size wr s (selK (descP ls i) (i + 1 + k)) ∧ Below w.heap.size w wr)) (fun _ t _ => ls.length - (intOf t).toNat)
    case atStart => exact ⟨0, by omega, by go_num, Lib.hid ⟨by rw [Nat.add_zero, HS0.out]; exact OwnI.nil _ _, H0.out⟩⟩
    case round =>
      obtain ⟨k, hk, rfl, hg⟩ := hrel
      clear H0
      by_cases hlt : i + 1 + k < ls.length
      · obtain ⟨hown, hw⟩ := hg.out
        have hm1 : i + 1 + (k + 1) = i + 1 + k + 1 := by omega
        have HM := Lib.hid hm1
        generalize hm : i + 1 + k = m at *
        have HN := Lib.hid hm
        have hmi : m ≠ i := by omega
        have hsl := selK_len (descP ls i) m
        have HS := Lib.hid (selK_succ (descP ls i) m)
        have hd : descP ls i m = decide (0 < pathsF ls i m) := by unfold descP; simp [hmi]
        have HIP := Lib.hid (ins_paths hl HE.out hlt hil)
        generalize selK (descP ls i) m = qs at *
        generalize descP ls i m = d at *
        generalize pathsF ls i m = z at *
        have HO := Lib.hid hown
        have O1 := Lib.hid (O.out _ hw m hlt)
        clear hm hm1 hmi hg hown
        go_wp2_with fail
        refine O1.out.mono ?_
        rintro e w2 ⟨rfl, hblk, hb2⟩
        have ho := HO.out.all hb2
        have hw2 := below_step hw hb2
        clear hw hb2 HO O1
        have I1 := Lib.hid (I.out _ hw2 _ _ hblk)
        clear hblk
        go_wp2_with fail
        refine I1.out.mono ?_
        rintro e w3 ⟨g, cap, rfl, hrow, hb3⟩
        have hown := ho.all hb3
        have hw := below_step hw2 hb3
        have e1 := (World.ownsRow.cellAt hrow i (by omega)).trans (marksL_at hil)
        rw [HIP.out] at e1
        clear ho hb3 hrow I1 hw2
        by_cases hp : 0 < z
        · have hpb : decide (0 < z) = true := by simpa using hp
          rw [hpb] at e1 hd
          rw [hd, if_pos rfl] at HS
          clear hd hp hpb
          have hro : _ := hown
          unfold OwnI at hro
          go_wp2_with (at_builtin; refine wpList_append_own _ rfl _ _ 54 rfl w.heap.size 3 i0 (.int .i64 0) 1 8 Try.underlying54 hi hz0 hz1 hz2 rfl (by decide) _ _ _ rfl (hro.alloc _) ⟨_, 0, none⟩ 1 1 (intL m) rfl rfl (intL_at _ _ _) (intL_one _) (by unfold maxLen; omega) (by omega) (by have := hw.size; simp; omega) ?_)
          intro v' w4 hown1 hgrow _
          have hw2 := (hw.alloc hw.size (.cells #[.int .i64 (m : Int)] 3)).grown hgrow (by have := hw.size; simp; omega) (fun j e => (World.ownsRow.lt hown j e).1)
          have hx2 : OwnI w.heap.size w4 v' (qs ++ [(m : Int)]) := OwnI.pushed hown1
          clear hown1 hgrow hown hw hro e1
          go_wp2
          go_roundw
          case rel => exact ⟨k + 1, by have := HN.out; omega, by rw [HM.out]; go_num, Lib.hid ⟨by rw [HM.out, HS.out]; exact hx2, hw2⟩⟩
          case measure => simp [intOf]; try omega
        · have hpb : decide (0 < z) = false := by simpa using hp
          rw [hpb] at e1 hd
          rw [hd, if_neg (by decide)] at HS
          have HH := Lib.hid (And.intro hown hw)
          clear hd hp hpb hown hw
          go_wp2
          go_roundw
          case rel => exact ⟨k + 1, by have := HN.out; omega, by rw [HM.out]; go_num, by rw [HM.out, HS.out]; exact HH⟩
          case measure => simp [intOf]; try omega
      · have hke : i + 1 + k = ls.length := by omega
        rw [hke] at hg ⊢
        obtain ⟨ho, hx⟩ := hg.out
        clear hg
        go_wp2
        go_ret2
        exact ⟨_, by rw [HZ.out]; rfl, by rw [HR.out]; exact ho, hx⟩
  · have HR := Lib.hid (show descR ls n = [] by unfold descR; rw [if_neg hz])
    have hne : (numE ls [n] != 0) = true := by simpa using hz
    generalize hq : numE ls [n] = q at *
    have HQ := Lib.hid hq
    clear hz hq
    go_enter Try.func46, Try.ntmps46
    go_wp2_with fail
    refine N.out.mono ?_
    rintro e w1 ⟨rfl, hb⟩
    clear N
    go_wp2
    go_ret2
    exact ⟨_, rfl, by rw [HR.out]; exact OwnI.nil _ _, hb⟩
end Go.Proofs.Ytccjbefmcifaeaa
