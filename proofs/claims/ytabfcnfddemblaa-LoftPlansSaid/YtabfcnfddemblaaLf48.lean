/- Goods in lists and loads, days of lofts that are taken, poles: of the reference. -/
import Derived.Test.YtabfcnfddemblaaLf47
import Derived.Test.YtabfcnfddemblaaLf31
namespace Go.Proofs.Ytabfcnfddemblaa.Lo
open Go.RowKit

set_option maxRecDepth 20000 in
set_option maxHeartbeats 1000000 in
theorem has_any (v : Value) (l : List Int) (n : Int) (w : World) (hv : Ints w v l) (hn : l.length ≤ 1000) :
    Calls Try.prog 135 #[v, .int .i64 n] w fun e w' => e = .returned (.bool (l.any (fun m => decide (m = n)))) ∧ w = w' := by
  obtain ⟨va, vc, rfl⟩ := hv.form
  have HA := Lib.hid (Ints.at hv)
  have HH := Lib.hid (fun j (hj : j < l.length) (h : decide (l[j] = n) = true) => any_hit (f := fun m => decide (m = n)) hj h)
  have HN := Lib.hid (fun (h : ∀ j (hj : j < l.length), decide (l[j] = n) = false) => any_miss (f := fun m => decide (m = n)) h)
  clear hv
  generalize l.any (fun m => decide (m = n)) = R at *
  go_enter Try.func135, Try.ntmps135
  go_wp2
  go_loop [5] (fun t => ∃ j : Nat, j ≤ l.length ∧ t = .int .i64 j ∧ Hid (∀ q (hq : q < l.length), q < j → decide (l[q] = n) = false)) (fun t => l.length - (intOf t).toNat)
  case atStart => exact ⟨0, Nat.zero_le _, rfl, Lib.hid fun j _ h => absurd h (Nat.not_lt_zero _)⟩
  case round =>
    obtain ⟨j, hj, rfl, hg⟩ := hrel
    by_cases hlt : j < l.length
    · obtain ⟨b, off, rfl, hb, c0⟩ := HA.out j hlt
      have HJ := Lib.hid (HH.out j hlt)
      have HI : Hid (decide (l[j] = n) = false → ∀ q (hq : q < l.length), q < j + 1 → decide (l[q] = n) = false) := Lib.hid fun h q hq hqj => by
        by_cases e : q = j
        · subst e; exact h
        · exact hg.out q hq (by omega)
      rw [show l.getD j 0 = l[j] by simp [hlt]] at c0
      clear hg
      generalize l[j] = y at *
      by_cases he : y = n
      · have hd : decide (y = n) = true := decide_eq_true he
        have hd2 : (y == n) = true := beq_iff_eq.2 he
        have HJ2 := Lib.hid (HJ.out hd)
        clear HI HJ he
        go_wp2
        go_ret
        exact ⟨by rw [HJ2.out] <;> rfl, rfl⟩
      · have hd : decide (y = n) = false := decide_eq_false he
        have hd2 : (y == n) = false := beq_eq_false_iff_ne.2 he
        have HI2 := Lib.hid (HI.out hd)
        clear HI HJ he
        go_wp2
        go_round
        case rel => exact ⟨j + 1, by omega, by go_num, Lib.hid HI2.out⟩
        case measure => simp [intOf]; omega
    · obtain rfl : j = l.length := by omega
      have HL := Lib.hid (HN.out fun q hq => hg.out q hq hq)
      clear hg
      go_wp2
      go_ret
      exact ⟨by rw [HL.out] <;> rfl, rfl⟩
set_option maxRecDepth 20000 in
set_option maxHeartbeats 1000000 in
theorem loaded_any (v : Value) (l : List Lf.L) (n : Int) (w : World) (hv : Loads w v l) (hn : l.length ≤ 1000) (hg8 : ∀ j (hj : j < l.length), l[j].gs.length ≤ 1000) :
    Calls Try.prog 92 #[v, .int .i64 n] w fun e w' => e = .returned (.bool (Lf.hsG l n)) ∧ w = w' := by
  obtain ⟨va, vc, rfl⟩ := hv.form
  have HK := Lib.hid (loads_row hv)
  have H8 := Lib.hid hg8
  have HH := Lib.hid (fun j (hj : j < l.length) (h : (l[j].gs.any fun m => decide (m = n)) = true) => any_hit (f := fun x : Lf.L => x.gs.any fun m => decide (m = n)) hj h)
  have HN := Lib.hid (fun (h : ∀ j (hj : j < l.length), (l[j].gs.any fun m => decide (m = n)) = false) => any_miss (f := fun x : Lf.L => x.gs.any fun m => decide (m = n)) h)
  obtain ⟨R, hR⟩ : ∃ R, R = Lf.hsG l n := ⟨_, rfl⟩
  have HR : Hid (R = l.any fun x => x.gs.any fun m => decide (m = n)) := Lib.hid hR
  rw [← hR]
  clear hv hg8 hR
  generalize (l.any fun x => x.gs.any fun m => decide (m = n)) = R2 at *
  go_enter Try.func92, Try.ntmps92
  go_wp2
  go_loop [5] (fun t => ∃ j : Nat, j ≤ l.length ∧ t = .int .i64 j ∧ Hid (∀ q (hq : q < l.length), q < j → (l[q].gs.any fun m => decide (m = n)) = false)) (fun t => l.length - (intOf t).toNat)
  case atStart => exact ⟨0, Nat.zero_le _, rfl, Lib.hid fun j _ h => absurd h (Nat.not_lt_zero _)⟩
  case round =>
    obtain ⟨j, hj, rfl, hg⟩ := hrel
    by_cases hlt : j < l.length
    · obtain ⟨b, off, rfl, hb, hr⟩ := HK.out j hlt
      obtain ⟨p, q, ⟨c0, c1, c2, c3⟩, hI1, hI2⟩ := hr
      obtain ⟨qa, qc, rfl⟩ := hI2.form
      have CH := Lib.hid (has_any (.slice qa l[j].gs.length qc) l[j].gs n w hI2 (H8.out j hlt))
      have HJ := Lib.hid (HH.out j hlt)
      have HI : Hid ((l[j].gs.any fun m => decide (m = n)) = false → ∀ q (hq : q < l.length), q < j + 1 → (l[q].gs.any fun m => decide (m = n)) = false) := Lib.hid fun h q hq hqj => by
        by_cases e : q = j
        · subst e; exact h
        · exact hg.out q hq (by omega)
      clear hg hI1 hI2
      generalize (l[j].gs.any fun m => decide (m = n)) = r at *
      generalize l[j] = x at *
      go_wp2_with fail
      refine CH.out.mono ?_
      rintro e w1 ⟨rfl, rfl⟩
      clear CH
      cases r
      · have HI2 := Lib.hid (HI.out rfl)
        clear HI HJ
        go_wp2
        go_round
        case rel => exact ⟨j + 1, by omega, by go_num, Lib.hid HI2.out⟩
        case measure => simp [intOf]; omega
      · have HJ2 := Lib.hid (HJ.out rfl)
        clear HI HJ
        go_wp2
        go_ret
        exact ⟨by rw [HR.out, HJ2.out] <;> rfl, rfl⟩
    · obtain rfl : j = l.length := by omega
      have HL := Lib.hid (HN.out fun q hq => hg.out q hq hq)
      clear hg
      go_wp2
      go_ret
      exact ⟨by rw [HR.out, HL.out] <;> rfl, rfl⟩
def tkn (lo a b : Int) (y : Lf.L) : Bool := decide (y.l = lo) && (decide (y.a < b) && decide (a < Lf.end' y))
theorem tkn_mts (x y : Lf.L) : tkn x.l x.a (Lf.end' x) y = Lf.mts x y := by
  unfold tkn Lf.mts
  rw [show decide (y.l = x.l) = decide (x.l = y.l) from decide_eq_decide.2 eq_comm, Bool.and_comm (decide (y.a < Lf.end' x))]
set_option maxRecDepth 20000 in
set_option maxHeartbeats 2000000 in
theorem taken_any (v : Value) (l : List Lf.L) (lo a b : Int) (w : World) (hv : Loads w v l) (hn : l.length ≤ 1000) (hg8 : ∀ j (hj : j < l.length), (0 ≤ l[j].a ∧ l[j].a ≤ 1000) ∧ l[j].hs.length ≤ 1000) :
    Calls Try.prog 93 #[v, .int .i64 lo, .int .i64 a, .int .i64 b] w fun e w' => e = .returned (.bool (l.any (tkn lo a b))) ∧ Below w.heap.size w w' := by
  obtain ⟨va, vc, rfl⟩ := hv.form
  have HK := Lib.hid (loads_row hv)
  have H8 := Lib.hid hg8
  have HW0 := Lib.hid (Below.refl w.heap.size w)
  have HH := Lib.hid (fun j (hj : j < l.length) (h : tkn lo a b l[j] = true) => any_hit hj h)
  have HN := Lib.hid (fun (h : ∀ j (hj : j < l.length), tkn lo a b l[j] = false) => any_miss h)
  clear hv hg8
  generalize l.any (tkn lo a b) = R at *
  go_enter Try.func93, Try.ntmps93
  go_wp2
  go_loopw [9] (fun t wr => ∃ j : Nat, j ≤ l.length ∧ t = .int .i64 j ∧ Hid ((∀ q (hq : q < l.length), q < j → tkn lo a b l[q] = false) ∧ Below w.heap.size w wr)) (fun t _ => l.length - (intOf t).toNat)
  case atStart => exact ⟨0, Nat.zero_le _, rfl, Lib.hid ⟨fun j _ h => absurd h (Nat.not_lt_zero _), HW0.out⟩⟩
  case round =>
    obtain ⟨j, hj, rfl, hg⟩ := hrel
    clear HW0
    by_cases hlt : j < l.length
    · obtain ⟨bb, off, rfl, hb, hr⟩ := HK.out j hlt
      obtain ⟨p, q, ⟨c0, c1, c2, c3⟩, hI1, hI2⟩ := hr.all hg.out.2 hb
      obtain ⟨pa, pc, rfl⟩ := hI1.form
      have h8 := H8.out j hlt
      have CE := Lib.hid (fun W => endR_any l[j].l l[j].a pa l[j].hs.length pc q W h8.1 h8.2)
      have HJ := Lib.hid (HH.out j hlt)
      have HI : Hid (tkn lo a b l[j] = false → ∀ q (hq : q < l.length), q < j + 1 → tkn lo a b l[q] = false) := Lib.hid fun h q hq hqj => by
        by_cases e : q = j
        · subst e; exact h
        · exact hg.out.1 q hq (by omega)
      have HT : Hid (tkn lo a b l[j] = (decide (l[j].l = lo) && (decide (l[j].a < b) && decide (a < l[j].a + (l[j].hs.length : Int))))) := Lib.hid rfl
      have HW := Lib.hid hg.out.2
      clear hg hI1 hI2 h8
      generalize tkn lo a b l[j] = r at *
      generalize l[j] = x at *
      obtain ⟨xl, xa, xh, xg⟩ := x
      dsimp only at *
      obtain ⟨E, hE⟩ : ∃ E, E = xa + (xh.length : Int) := ⟨_, rfl⟩
      rw [← hE] at CE HT
      clear hE
      by_cases h1 : xl = lo
      case neg =>
        have d1 : decide (xl = lo) = false := decide_eq_false h1
        have d2 : (xl == lo) = false := beq_eq_false_iff_ne.2 h1
        rw [d1, Bool.false_and] at HT
        have HI2 := Lib.hid (HI.out HT.out)
        clear HI HJ h1 CE
        go_wp2
        go_roundw
        case rel => exact ⟨j + 1, by omega, by go_num, Lib.hid ⟨HI2.out, HW.out⟩⟩
        case measure => simp [intOf]; omega
      have d1 : decide (xl = lo) = true := decide_eq_true h1
      have d2 : (xl == lo) = true := beq_iff_eq.2 h1
      rw [d1, Bool.true_and] at HT
      by_cases h2 : xa < b
      case neg =>
        have d3 : decide (xa < b) = false := decide_eq_false h2
        rw [d3, Bool.false_and] at HT
        have HI2 := Lib.hid (HI.out HT.out)
        clear HI HJ h1 h2 CE
        go_wp2
        go_roundw
        case rel => exact ⟨j + 1, by omega, by go_num, Lib.hid ⟨HI2.out, HW.out⟩⟩
        case measure => simp [intOf]; omega
      have d3 : decide (xa < b) = true := decide_eq_true h2
      rw [d3, Bool.true_and] at HT
      by_cases h3 : a < E
      · have d4 : decide (a < E) = true := decide_eq_true h3
        rw [d4] at HT
        have HJ2 := Lib.hid (HJ.out HT.out)
        clear HI HJ h1 h2 h3
        go_wp2_with fail
        refine (CE.out _).mono ?_
        rintro e w1 ⟨rfl, hb1⟩
        have HW1 := Lib.hid (below_step HW.out hb1)
        clear hb1 c0 c1 c2 c3
        go_wp2
        go_ret
        exact ⟨by rw [HJ2.out] <;> rfl, HW1.out⟩
      · have d4 : decide (a < E) = false := decide_eq_false h3
        rw [d4] at HT
        have HI2 := Lib.hid (HI.out HT.out)
        clear HI HJ h1 h2 h3
        go_wp2_with fail
        refine (CE.out _).mono ?_
        rintro e w1 ⟨rfl, hb1⟩
        have HW1 := Lib.hid (below_step HW.out hb1)
        clear hb1 c0 c1 c2 c3
        go_wp2
        go_roundw
        case rel => exact ⟨j + 1, by omega, by go_num, Lib.hid ⟨HI2.out, HW1.out⟩⟩
        case measure => simp [intOf]; omega
    · obtain rfl : j = l.length := by omega
      have HL := Lib.hid (HN.out fun q hq => hg.out.1 q hq hq)
      have HW := Lib.hid hg.out.2
      clear hg
      go_wp2
      go_ret
      exact ⟨by rw [HL.out] <;> rfl, HW.out⟩
/-- The poles of the first goods of a list together. -/
def psm (gs : List Lf.G) (l : List Int) : Nat → Int
  | 0 => 0
  | k + 1 => psm gs l k + (Lf.gat gs (l.getD k 0)).p
theorem psm_next (gs : List Lf.G) (l : List Int) (k : Nat) : psm gs l (k + 1) = psm gs l k + (Lf.gat gs (l.getD k 0)).p := rfl
theorem psm_tog (gs : List Lf.G) (l : List Int) : ∀ k, psm gs l (k + 1) = (Lf.tog gs l k).p
  | 0 => by rw [psm, psm]; show 0 + (Lf.gat gs (l.getD 0 0)).p = (Lf.gat gs (l.getD 0 0)).p; omega
  | k + 1 => by rw [psm, psm_tog gs l k]; rfl
set_option maxRecDepth 20000 in
set_option maxHeartbeats 2000000 in
theorem rpolesL_any (v q : Value) (gs : List Lf.G) (gl : List Int) (w : World) (hv : Goods w v gs) (hq : Ints w q gl) (hG : ∀ k (hk : k < gs.length), Lf.okG gs[k] = true) (h8 : gs.length ≤ 8) (hst : Lf.stB gl gs.length = true) :
    Calls Try.prog 134 #[v, q] w fun e w' => e = .returned (.int .i64 (psm gs gl gl.length)) ∧ Below w.heap.size w w' := by
  have hl8 := Lf.st_len hst
  have HBD := Lib.hid (fun k hk => Lf.st_bd (Lf.stB_iff.1 hst) k hk)
  obtain ⟨qa, qc, rfl⟩ := hq.form
  obtain ⟨va, vc, rfl⟩ := hv.form
  obtain ⟨_, _, hvf, _, hvk⟩ := id hv
  injection hvf with hv1 hv2 hv3
  subst hv1
  subst hv3
  have HV := Lib.hid hvk
  have HA := Lib.hid (fun W (hW : Below w.heap.size w W) => Ints.at (hq.all hW))
  have HPN := Lib.hid (fun k => psm_next gs gl k)
  have HOK := Lib.hid hG
  have HP0 : Hid (psm gs gl 0 = 0) := Lib.hid rfl
  have HW0 := Lib.hid (Below.refl w.heap.size w)
  obtain ⟨E, hE⟩ : ∃ E, E = psm gs gl gl.length := ⟨_, rfl⟩
  rw [← hE]
  have HE := Lib.hid hE
  clear hE hv hq hvk hG hst
  go_enter Try.func134, Try.ntmps134
  go_wp2
  go_loopw [5, 6] (fun s t wr => ∃ (k : Nat) (x : Int), k ≤ gl.length ∧ s = .int .i64 x ∧ t = .int .i64 k ∧ (0 ≤ x ∧ x ≤ 40 * k) ∧ Hid (x = psm gs gl k ∧ Below w.heap.size w wr)) (fun _ t _ => gl.length - (intOf t).toNat)
  case atStart => exact ⟨0, 0, Nat.zero_le _, rfl, rfl, ⟨by omega, by omega⟩, Lib.hid ⟨HP0.out.symm, HW0.out⟩⟩
  case round =>
    obtain ⟨k, x, hk, rfl, rfl, ⟨hx0, hx1⟩, hg⟩ := hrel
    clear HW0 HP0
    by_cases hlt : k < gl.length
    · obtain ⟨b, off, rfl, hb, c0⟩ := HA.out wr hg.out.2 k hlt
      have hbk := HBD.out k hlt
      obtain ⟨i, hi⟩ : ∃ i : Nat, gl.getD k 0 = (i : Int) := ⟨(gl.getD k 0).toNat, by omega⟩
      have hil : i < gs.length := by omega
      obtain ⟨b3, off3, rfl, hb3, hr⟩ := HV.out i hil
      obtain ⟨y0, y1, y2, y3, y4⟩ := gd_at (hr.below hg.out.2 hb3)
      have hok := Lf.okG_iff.1 (HOK.out i hil)
      have HN : Hid (psm gs gl (k + 1) = x + gs[i].p) := Lib.hid (by rw [HPN.out k, hi, gd_get hil, ← hg.out.1])
      rw [hi] at c0
      have HW := Lib.hid hg.out.2
      have hx0' : decide ((i : Int) < 0) = false := decide_eq_false (by omega)
      clear hg hr hbk hi
      generalize gs[i] = g at *
      obtain ⟨gp, gn, gm, ga, gu⟩ := g
      dsimp only at *
      have g1 : IntKind.i64.wrap (x + gp) = x + gp := IntWalk.i64_in _ ⟨by omega, by omega⟩
      obtain ⟨hp1, hp2⟩ := hok.1
      clear hok
      go_wp2
      go_roundw
      case rel => exact ⟨k + 1, x + gp, by omega, rfl, by go_num, ⟨by omega, by omega⟩, Lib.hid ⟨HN.out.symm, HW.out⟩⟩
      case measure => simp [intOf]; omega
    · obtain rfl : k = gl.length := by omega
      have e9 := HE.out.trans hg.out.1.symm
      have HW := Lib.hid hg.out.2
      clear hg
      subst e9
      go_wp2
      go_ret
      exact ⟨rfl, HW.out⟩
end Go.Proofs.Ytabfcnfddemblaa.Lo
