/- The shares of all kinds: the program's. -/
import Derived.Test.YtccjbefmcifaeaaShareK
import Derived.Test.YtccjbefmcifaeaaDivAll
import Derived.Test.YtccjbefmcifaeaaKnowns
import Derived.Test.YtccjbefmcifaeaaPath1
import Derived.Test.YtccjbefmcifaeaaLotsOwn
namespace Go.Proofs.Ytccjbefmcifaeaa
open Go.RowKit

def kN (ls : List Lt.L) (i kd : Nat) : Int := Rd.rN (Sh.S ls (kindO ls kd) i) (Sh.D ls (i + 1))
def kD (ls : List Lt.L) (i kd : Nat) : Int := Rd.rD (Sh.S ls (kindO ls kd) i) (Sh.D ls (i + 1))
def kE (ls : List Lt.L) (i kd : Nat) : Int := Rd.rE (Sh.S ls (kindO ls kd) i) (Sh.D ls (i + 1))
def kOk (ls : List Lt.L) (i : Nat) : Bool := (List.range 8).all fun kd => decide (kE ls i kd = 0)
def kdE (ls : List Lt.L) (n : Int) : Int := if numE ls [n] = 0 then (if kOk ls n.toNat = true then 0 else 4) else numE ls [n]
def kdR (ls : List Lt.L) (n : Int) : List (Int × Int) := if kdE ls n = 0 then (List.range 8).map fun kd => (kN ls n.toNat kd, kD ls n.toNat kd) else []
theorem kE_or (ls : List Lt.L) (i kd : Nat) : kE ls i kd = 0 ∨ (kE ls i kd = 4 ∧ kN ls i kd = 0 ∧ kD ls i kd = 0) := by
  unfold kE kN kD Rd.rE Rd.rN Rd.rD; split <;> simp
theorem kOk_true {ls : List Lt.L} {i : Nat} (h : ∀ kd, kd < 8 → kE ls i kd = 0) : kOk ls i = true := by
  unfold kOk
  rw [List.all_eq_true]
  exact fun kd hk => decide_eq_true (h kd (List.mem_range.1 hk))
theorem kOk_at {ls : List Lt.L} {i : Nat} (h : kOk ls i = true) {kd : Nat} (hk : kd < 8) : kE ls i kd = 0 := by
  unfold kOk at h
  rw [List.all_eq_true] at h
  exact of_decide_eq_true (h kd (List.mem_range.2 hk))
theorem kOk_false {ls : List Lt.L} {i kd : Nat} (hk : kd < 8) (h : kE ls i kd ≠ 0) : kOk ls i = false := by
  cases e : kOk ls i with
  | false => rfl
  | true => exact absurd (kOk_at e hk) h
/-- A list of fractions that can be read. -/
def Rats (W : World) (v : Value) (rs : List (Int × Int)) : Prop :=
  (v = .slice none 0 0 ∧ rs = []) ∨ ∃ b cap, v = .slice (some ⟨b, 0, none⟩) rs.length cap ∧ b < W.heap.size ∧ ∀ k, k < rs.length → W.cell? ⟨b, k * 2, none⟩ = some (.int .i64 (rs.getD k (0, 0)).1) ∧ W.cell? ⟨b, k * 2 + 1, none⟩ = some (.int .i64 (rs.getD k (0, 0)).2)
theorem Rats.all {w w2 : World} {v : Value} {rs : List (Int × Int)} (h : Rats w v rs) (hb : Below w.heap.size w w2) : Rats w2 v rs := by
  rcases h with h | ⟨b, cap, h1, h2, h3⟩
  · exact .inl h
  · exact .inr ⟨b, cap, h1, Nat.lt_of_lt_of_le h2 hb.size, fun k hk => ⟨(hb.cell (p := ⟨b, k * 2, none⟩) h2).trans (h3 k hk).1, (hb.cell (p := ⟨b, k * 2 + 1, none⟩) h2).trans (h3 k hk).2⟩⟩
theorem Rats.form {w : World} {v : Value} {rs : List (Int × Int)} (h : Rats w v rs) : ∃ a c, v = .slice a rs.length c := by
  rcases h with ⟨h1, h2⟩ | ⟨b, cap, h1, _, _⟩
  · exact ⟨none, 0, by rw [h1, h2]; rfl⟩
  · exact ⟨_, _, h1⟩
/-- The cells of the list after some kinds. -/
def ratF (f g : Nat → Int) : Nat → Nat → Int
  | 0 => fun _ => 0
  | k + 1 => upd (upd (ratF f g k) (k * 2) (f k)) (k * 2 + 1) (g k)
theorem ratF_at (f g : Nat → Int) {j : Nat} : ∀ {n : Nat}, j < n → ratF f g n (j * 2) = f j ∧ ratF f g n (j * 2 + 1) = g j
  | n + 1, h => by
    show upd (upd (ratF f g n) (n * 2) (f n)) (n * 2 + 1) (g n) (j * 2) = f j ∧ upd (upd (ratF f g n) (n * 2) (f n)) (n * 2 + 1) (g n) (j * 2 + 1) = g j
    by_cases e : j = n
    · subst e
      constructor
      · unfold upd; rw [if_neg (by omega), if_pos rfl]
      · unfold upd; rw [if_pos rfl]
    · have ih := ratF_at f g (show j < n by omega)
      constructor
      · unfold upd; rw [if_neg (by omega), if_neg (by omega)]; exact ih.1
      · unfold upd; rw [if_neg (by omega), if_neg (by omega)]; exact ih.2
theorem infoRat : (Try.prog.info? 43).map (fun i => (i.zero, i.size, i.bytes)) = some (some (.agg #[.int .i64 0, .int .i64 0]), 2, 16) := by kernel_rfl
theorem ul_rats : Try.prog.underlying 61 = some (.slice 43) := by kernel_rfl
theorem made_rats : ∀ W : World, (Instr.makeSlice 61 (.int .i64 8) (.int .i64 8)).run Try.prog W = .ok (.slice (some ⟨W.heap.size, 0, none⟩) 8 8) (W.alloc (.cells (fnC 16 (fun _ => 0)) 43)) := by
  intro W
  obtain ⟨i0, hi, hz0, hz1, hz2⟩ := info_of infoRat
  have := run_makeSlice (P := Try.prog) (w := W) 61 43 i0 (.agg #[.int .i64 0, .int .i64 0]) ul_rats hi hz0 .i64 .i64 8 8 (by omega) (by omega) (by rw [hz1]; omega) (by rw [hz2]; omega) (by omega)
  rw [this, hz1, show madeCells (Value.agg #[Value.int IntKind.i64 0, Value.int IntKind.i64 0]).cells (Int.toNat 8 * 2) = fnC 16 (fun _ => 0) by kernel_rfl]
  rfl

set_option maxRecDepth 100000 in
set_option maxHeartbeats 2000000 in
theorem lotKinds_any (v : Value) (ls : List Lt.L) (n : Int) (w : World) (hv : Lots w v ls) (hsh : short ls) :
    Calls Try.prog 51 #[v, .int .i64 n] w fun e w' => ∃ y, e = .returned (.tuple #[y, .int .i64 (kdE ls n)]) ∧ Rats w' y (kdR ls n) ∧ Below w.heap.size w w' := by
  have hmf : ∀ (fn : Fn) (first cap : Array Value) (w : World), (Instr.makeFunc fn first cap).run Try.prog w = .ok (.func fn first cap) w := fun _ _ _ _ => rfl
  have bL := (BlockAt.new w #[v] 22).alloc (.cells #[.int .i64 n] 3)
  have bN := BlockAt.new (w.alloc (.cells #[v] 22)) #[.int .i64 n] 3
  have hb2 := below_alloc (below_alloc (Below.refl w.heap.size w) (.cells #[v] 22)) (.cells #[.int .i64 n] 3)
  simp only [World.size_alloc] at bN
  have NT := Lib.hid (nums_one v ls n (w.heap.size + 1) _ (hv.all hb2) hsh bN)
  have HB := Lib.hid (And.intro hb2 bL)
  by_cases hz : numE ls [n] = 0
  · rw [hz] at NT
    obtain ⟨h0, h1, h2⟩ := numE_zero hz
    obtain ⟨hl, herr, _⟩ := Lt.valE_zero h0
    have hfine := fun j hj => Lt.fine_of (herr j hj)
    have hearly := early_of herr
    obtain ⟨i, rfl⟩ : ∃ i : Nat, n = (i : Int) := ⟨n.toNat, by omega⟩
    have hi : i < ls.length := by omega
    have HE := Lib.hid (show kdE ls i = if kOk ls i = true then 0 else 4 by unfold kdE; rw [if_pos hz]; rfl)
    have HR := Lib.hid (show kdR ls i = if kdE ls i = 0 then (List.range 8).map (fun kd => (kN ls i kd, kD ls i kd)) else [] from rfl)
    generalize kdE ls i = E at *
    generalize kdR ls i = R at *
    have HH := Lib.hid (And.intro hv (And.intro hfine hearly))
    have hmk := made_rats
    obtain ⟨a, c, rfl⟩ := hv.form
    clear hv hb2 bL bN hsh hz h0 h1 h2 herr hfine hearly
    go_enter Try.func51, Try.ntmps51
    go_wp2_with fail
    refine NT.out.mono ?_
    rintro e w1 ⟨rfl, hb1⟩
    have HW := Lib.hid (And.intro (below_step HB.out.1 hb1) (HB.out.2.below hb1 HB.out.2.lt))
    clear hb1 NT HB
    have H0 := Lib.hid (And.intro (BlockAt.new w1 (fnC 16 (ratF (kN ls i) (kD ls i) 0)) 43) (below_alloc (Below.refl w1.heap.size w1) (.cells (fnC 16 (ratF (kN ls i) (kD ls i) 0)) 43)))
    go_wp2
    clear hmk
    go_loopw [22] (fun t wr => ∃ k : Nat, k ≤ 8 ∧ t = .int .i64 k ∧ Hid ((∀ j, j < k → kE ls i j = 0) ∧ BlockAt wr w1.heap.size (fnC 16 (ratF (kN ls i) (kD ls i) k)) 43 ∧ Below w1.heap.size w1 wr)) (fun t _ => 8 - (intOf t).toNat)
    case atStart => exact ⟨0, Nat.zero_le _, rfl, Lib.hid ⟨fun j h => absurd h (Nat.not_lt_zero _), H0.out⟩⟩
    case round =>
      obtain ⟨k, hk, rfl, hg⟩ := hrel
      clear H0
      by_cases hlt : k < 8
      · obtain ⟨wB, rfl⟩ : ∃ x, x = wr := ⟨wr, rfl⟩
        have HG := Lib.hid hg.out
        have bLx := (HW.out.2.below hg.out.2.2 HW.out.2.lt).alloc (.cells #[.int .i64 (k : Int)] 3)
        have bKx := BlockAt.new wB #[.int .i64 (k : Int)] 3
        have hwx := below_alloc (Below.refl wB.heap.size wB) (.cells #[.int .i64 (k : Int)] 3)
        have hwW : Below w.heap.size w wB := below_step HW.out.1 hg.out.2.2
        have SO := Lib.hid (Vk.sharesOf_any (.slice a ls.length c) ls k w.heap.size wB.heap.size (Sh.S ls (kindO ls k)) _ (HH.out.1.all (below_step hwW hwx)) hl HH.out.2.1 bLx bKx)
        have HK := Lib.hid (And.intro hwx (And.intro bLx (And.intro bKx hwW)))
        have l0 := bLx.cell 0
        have hkc := kE_or ls i k
        clear hg bLx bKx hwx hwW
        go_wp2_with fail
        refine SO.out.mono ?_
        rintro e w4 ⟨bl, bo, bb, bf, bv, bd, bm, rfl, hE⟩
        obtain ⟨hE, ⟨D, hM⟩, hb4⟩ := hE.out
        obtain ⟨hwx, bLx, bKx, hwW⟩ := HK.out
        have SI := Lib.hid (Vk.shareIn_any _ bl bo bb bf bv bd w.heap.size wB.heap.size bm (.slice a ls.length c) ls k hl HH.out.2.1 HH.out.2.2 i hi w4 D hE hM)
        have hbm : wB.heap.size + 1 ≤ bm := by have := hE.base; simpa using this
        have hw4 := below_step hwx hb4
        have bK4 := bKx.below hb4 bKx.lt
        have HN := Lib.hid (And.intro hw4 (And.intro bK4 (And.intro hE.d (And.intro hE.ne.2.2.2.2.2.1 hbm))))
        clear hE hM hb4 hwx bLx bKx HK hw4 bK4 SO l0 hbm
        go_wp2_with fail
        refine SI.out.mono ?_
        rintro e w5 ⟨rfl, hk5⟩
        obtain ⟨_, hk5⟩ := hk5.out
        obtain ⟨hw4, bK4, hdd, hnd, hbm⟩ := HN.out
        have hw5 : Below wB.heap.size wB w5 := below_kb hw4 (by omega) hk5
        have bK5 := bK4.kb hk5 (by omega)
        have hdd5 := hdd.kb hk5 hnd
        have hfs : ∀ k, k < (segN ls 0 (i + 1)).length → 1 ≤ (segN ls 0 (i + 1)).getD k 0 ∧ (segN ls 0 (i + 1)).getD k 0 ≤ 600000 := by
          intro k hk
          have h1 := Sh.be_le HH.out.2.1 k
          have h2 := Sh.be_pos ls k
          simp [segN] at hk
          simp [segN, hk]; omega
        have hpd : prodL (segN ls 0 (i + 1)) = Sh.D ls (i + 1) := prodL_seg ls 0 (i + 1)
        have hsd := Sh.S_le HH.out.2.2 (kindO ls k) i hi
        have RT := rat_any (Sh.S ls (kindO ls k) i) (.slice (some ⟨bd, 0, none⟩) (i + 1) ls.length) (segN ls 0 (i + 1)) w5 (nums_seg hdd5 (by omega) (by omega)) (by simp [segN]; omega) hfs (Nat.lt_of_le_of_lt hsd (D_small HH.out.2.1 (by omega))) (by rw [hpd]; exact hsd) (fun a d _ h1 h2 => div_all h1 h2)
        rw [hpd] at RT
        have HRT := Lib.hid RT
        have HP := Lib.hid (And.intro hw5 bK5)
        have HF := Lib.hid (show ratF (kN ls i) (kD ls i) (k + 1) = upd (upd (ratF (kN ls i) (kD ls i) k) (k * 2) (kN ls i k)) (k * 2 + 1) (kD ls i k) from rfl)
        have HKE := Lib.hid (fun (h : kE ls i k = 0) (j : Nat) (hj : j < k + 1) => show kE ls i j = 0 by
          by_cases e : j = k
          · rw [e]; exact h
          · exact HG.out.1 j (by omega))
        have HKF := Lib.hid (fun (h : kE ls i k ≠ 0) => kOk_false hlt h)
        have hrn : Rd.rN (Sh.S ls (kindO ls k) i) (Sh.D ls (i + 1)) = kN ls i k := rfl
        have hrd : Rd.rD (Sh.S ls (kindO ls k) i) (Sh.D ls (i + 1)) = kD ls i k := rfl
        have hre : Rd.rE (Sh.S ls (kindO ls k) i) (Sh.D ls (i + 1)) = kE ls i k := rfl
        rw [hrn, hrd, hre] at HRT
        clear hw4 bK4 hdd hnd hbm hw5 bK5 hdd5 hfs hpd hsd RT hk5 HN SI hrn hrd hre
        generalize kN ls i k = rn at *
        generalize kD ls i k = rd at *
        generalize kE ls i k = re at *
        go_wp2_with fail
        refine HRT.out.mono ?_
        rintro e w6 ⟨rfl, hb6⟩
        have hw6 := below_alloc (below_step HP.out.1 hb6) (.cells #[.int .i64 rn, .int .i64 rd] 43)
        have bR := BlockAt.new w6 #[.int .i64 rn, .int .i64 rd] 43
        have bK6 := (HP.out.2.below hb6 HP.out.2.lt).alloc (.cells #[.int .i64 rn, .int .i64 rd] 43)
        rcases hkc with rfl | ⟨rfl, rfl, rfl⟩
        · have k0 := bK6.cell 0
          have r0 := bR.cell 0
          have r1 := bR.cell 1
          have bG := HG.out.2.1.below hw6 HG.out.2.1.lt
          have g0 := bG.cell (k * 2)
          have g1 := bG.cell (k * 2 + 1)
          rw [fnC_at (by omega)] at g0 g1
          have e0 := bG.frozen (k * 2)
          have e1 := bG.frozen (k * 2 + 1)
          have hgl := bG.lt
          have hs2 := (bG.set (k * 2) (.int .i64 rn)).set (k * 2 + 1) (.int .i64 rd)
          rw [fnC_set, fnC_set, ← HF.out] at hs2
          have hwG := ((below_step HG.out.2.2 hw6).setCell (p := ⟨w1.heap.size, k * 2, none⟩) (Nat.le_refl _) (.int .i64 rn)).setCell (p := ⟨w1.heap.size, k * 2 + 1, none⟩) (Nat.le_refl _) (.int .i64 rd)
          have HN := Lib.hid (And.intro (HKE.out rfl) (And.intro hs2 hwG))
          clear HRT HP hb6 hw6 bR bK6 bG hs2 hwG HKE HKF
          go_wp2
          go_roundw
          case rel => exact ⟨k + 1, by omega, by go_num, HN⟩
          case measure => simp [intOf]; omega
        · have hK := HKF.out (by decide)
          rw [hK, if_neg (by decide)] at HE
          rw [HE.out, if_neg (by decide)] at HR
          have hwf := below_step HW.out.1 (below_step HG.out.2.2 hw6)
          have HWF := Lib.hid hwf
          clear HRT HP hb6 hw6 bR bK6 HKE HKF hK hwf HG
          go_wp2
          exact bodyPost_ret (v := .tuple #[.slice none 0 0, .int .i64 4]) (by simp [results, Try.results51, go_sem]) rfl ⟨_, by rw [HE.out], by rw [HR.out]; exact .inl ⟨rfl, rfl⟩, HWF.out⟩
      · obtain rfl : k = 8 := by omega
        rw [kOk_true hg.out.1, if_pos rfl] at HE
        rw [HE.out, if_pos rfl] at HR
        have hw := below_step HW.out.1 hg.out.2.2
        have hr : Rats wr (.slice (some ⟨w1.heap.size, 0, none⟩) 8 8) R := by
          rw [HR.out]
          refine .inr ⟨w1.heap.size, 8, by simp, hg.out.2.1.lt, fun k hk => ?_⟩
          have hk8 : k < 8 := by simpa using hk
          obtain ⟨f1, f2⟩ := ratF_at (kN ls i) (kD ls i) hk8
          rw [show ((List.range 8).map fun kd => (kN ls i kd, kD ls i kd)).getD k (0, 0) = (kN ls i k, kD ls i k) by simp [List.getD, hk8]]
          exact ⟨by rw [hg.out.2.1.cell, fnC_at (by omega), f1], by rw [hg.out.2.1.cell, fnC_at (by omega), f2]⟩
        clear hg
        go_wp2
        exact bodyPost_ret (v := .tuple #[.slice (some ⟨w1.heap.size, 0, none⟩) 8 8, .int .i64 0]) (by simp [results, Try.results51, go_sem]) rfl ⟨_, by rw [HE.out], hr, hw⟩
  · have hE : kdE ls n = numE ls [n] := by unfold kdE; rw [if_neg hz]
    have hR : kdR ls n = [] := by unfold kdR; rw [hE, if_neg hz]
    rw [hE, hR]
    have hne : (numE ls [n] != 0) = true := by simpa using hz
    obtain ⟨a, c, rfl⟩ := hv.form
    generalize numE ls [n] = q at *
    clear hv hb2 bL bN hsh hz hE hR
    go_enter Try.func51, Try.ntmps51
    go_wp2_with fail
    refine NT.out.mono ?_
    rintro e w1 ⟨rfl, hb1⟩
    have hw1 := below_step HB.out.1 hb1
    clear hb1 NT HB
    go_wp2
    exact bodyPost_ret (v := .tuple #[.slice none 0 0, .int .i64 q]) (by simp [results, Try.results51, go_sem]) rfl ⟨_, rfl, .inl ⟨rfl, rfl⟩, hw1⟩
end Go.Proofs.Ytccjbefmcifaeaa
