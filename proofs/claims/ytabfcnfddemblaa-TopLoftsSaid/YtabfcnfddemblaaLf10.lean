/- The first heats of the fewest days: of the program. -/
import Derived.Test.YtabfcnfddemblaaLf9
namespace Go.Proofs.Ytabfcnfddemblaa.Lo
open Go.RowKit

/-- What lies in memory while heats are found. -/
def FiS (w : World) (la : Array Value) (B : Nat) (rs : List Int) (a : Option Addr) (c : Nat) (L : List Int) (wr : World) : Prop :=
  OwnI w.heap.size wr (.slice a L.length c) L ∧ BlockAt wr B (RcA (fil rs 65)) ReachT ∧ BlockAt wr w.heap.size la LoftT ∧ Below w.heap.size w wr
theorem frs_succ (rs : List Int) (n b : Nat) (lo hi : Int) : Lf.frs rs (n + 1) b lo hi = ((Lf.fg rs n b lo hi : Nat) : Int) :: Lf.frs rs n (Lf.fg rs n b lo hi) (lo - Lf.rt rs (Lf.fg rs n b lo hi)) (hi - Lf.rt rs (Lf.fg rs n b lo hi)) := rfl
theorem hit_zero {rs : List Int} {n g W : Nat} {lo hi : Int} (hW : Lf.Wn W lo hi) (hh : hi ≤ 60) (h : Lf.can rs n g lo hi = false) : Lf.mk rs n g &&& W = 0 := by
  apply Decidable.byContradiction
  intro hc
  rw [(Lf.hit hW hh).1 hc] at h; cases h
theorem hit_one {rs : List Int} {n g W : Nat} {lo hi : Int} (hW : Lf.Wn W lo hi) (hh : hi ≤ 60) (h : Lf.can rs n g lo hi = true) : Lf.mk rs n g &&& W ≠ 0 := (Lf.hit hW hh).2 h
theorem shr_int (W r : Nat) : (W : Int) / (2 : Int) ^ r = ((W / 2 ^ r : Nat) : Int) := by rw [pow_int, Int.natCast_ediv]
/-- The heats that are left to find. -/
def FiP (rs : List Int) (N : Nat) (need most : Int) (n b W : Nat) (lo hi : Int) (L : List Int) : Prop :=
  (Lf.Wn W lo hi ∧ hi ≤ 60 ∧ Lf.aft rs n b lo hi = true) ∧ L ++ Lf.frs rs n b lo hi = Lf.frs rs N 0 need most ∧ L.length + n = N
theorem FiP.next {rs : List Int} {N : Nat} {need most : Int} {n b W : Nat} {lo hi : Int} {L : List Int} (h : FiP rs N need most (n + 1) b W lo hi L) {g : Nat} (hg : g = Lf.fg rs n b lo hi) (hr : Lf.rt rs g ≤ 9) :
    FiP rs N need most n g (W / 2 ^ Lf.rt rs g) (lo - Lf.rt rs g) (hi - Lf.rt rs g) (L ++ [(g : Int)]) := by
  obtain ⟨⟨h1, h2, h3⟩, h4, h5⟩ := h
  have hc := Lf.fg_can h2 h3
  rw [← hg] at hc
  refine ⟨⟨Lf.Wn_shift h1 h2 _, by omega, hc.1⟩, ?_, by simp; omega⟩
  rw [frs_succ, ← hg] at h4
  rw [← h4]; simp
set_option maxRecDepth 100000 in
set_option maxHeartbeats 8000000 in
theorem first_any (B N : Nat) (p : Int) (u : Value) (rs : List Int) (W0 : Nat) (need most : Int) (w : World) (hB : BlockAt w B (RcA (fil rs 65)) ReachT) (hu : Ints w u rs) (h5 : rs.length = 5) (hr : ∀ k, k < 5 → 0 ≤ rs.getD k 0 ∧ rs.getD k 0 ≤ 9)
    (hN : N ≤ 12) (hW : Lf.Wn W0 need most) (hm : most ≤ 60) (ha : Lf.aft rs N 0 need most = true) :
    Calls Try.prog 123 #[.pointer (some ⟨B, 0, none⟩), loftV p u, .int .i64 (N : Int), .int .u64 (W0 : Int)] w fun e w' => ∃ a c, e = .returned (.slice a N c) ∧ OwnI w.heap.size w' (.slice a N c) (Lf.frs rs N 0 need most) ∧ Below w.heap.size w w' := by
  obtain ⟨i0, hi0, hz0, hz1, hz2⟩ := info_parts infoInt
  obtain ⟨ua, uc, rfl⟩ := hu.form
  have HW := Lib.hid (loft_box w p (.slice ua rs.length uc))
  have HU := Lib.hid (fun (W : World) (hW : Below w.heap.size w W) => Ints.at (hu.all hW))
  have HRT := Lib.hid (fun k (hk : k < 5) => And.intro (rt_int (hr k hk).1) (show Lf.rt rs k ≤ 9 by have := hr k hk; unfold Lf.rt; omega))
  have hBw := hB.lt
  have HS0 := Lib.hid (show FiS w (loftA p (.slice ua rs.length uc)) B rs none 0 [] (w.alloc (.cells (loftA p (.slice ua rs.length uc)) LoftT)) from ⟨OwnG.nil _ _, hB.alloc _, HW.out.1, HW.out.2⟩)
  have HP0 := Lib.hid (show FiP rs N need most N 0 W0 need most [] from ⟨⟨hW, hm, ha⟩, rfl, by simp⟩)
  have HLO := Lib.hid (fun x W h => lowest_any x W h)
  have HAND := Lib.hid (fun a b (ha : a < 2 ^ 64) (hb : b < 2 ^ 64) => bits_and ha hb)
  have HTL := Lib.hid (Lf.frs_len rs N 0 need most)
  have H5 := Lib.hid h5
  have hl5 : rs.length ≤ 5 := by omega
  have hl5' : 5 ≤ rs.length := by omega
  obtain ⟨T, hT⟩ : ∃ T, T = Lf.frs rs N 0 need most := ⟨_, rfl⟩
  rw [← hT]
  have HT := Lib.hid hT
  clear hu h5 hr hB hW hm ha hT
  go_enter Try.func123, Try.ntmps123
  go_wp2
  go_loopw [2, 3, 9, 10] (fun s t u v wr => ∃ (n b W : Nat) (a : Option Addr) (c : Nat) (L : List Int), (n ≤ 12 ∧ b ≤ 4) ∧ s = .int .i64 n ∧ t = .int .u64 (W : Int) ∧ u = .slice a L.length c ∧ v = .int .i64 b ∧ L.length ≤ 12 ∧ Hid ((∃ lo hi, FiP rs N need most n b W lo hi L) ∧ FiS w (loftA p (.slice ua rs.length uc)) B rs a c L wr)) (fun s _ _ _ _ => (intOf s).toNat)
  case atStart => exact ⟨N, 0, W0, none, 0, [], ⟨hN, by omega⟩, rfl, rfl, rfl, rfl, by simp, Lib.hid ⟨⟨_, _, HP0.out⟩, HS0.out⟩⟩
  case round =>
    obtain ⟨n, b, W, a, c, L, ⟨hn, hb⟩, rfl, rfl, rfl, rfl, hL, hg⟩ := hrel
    clear HS0 HP0
    by_cases hn0 : 0 < n
    · obtain ⟨n1, rfl⟩ : ∃ n1, n = n1 + 1 := ⟨n - 1, by omega⟩
      obtain ⟨⟨lo, hi, hP⟩, hS⟩ := hg.out
      have HP := Lib.hid hP
      have HS := Lib.hid hS
      have CL := Lib.hid (fun W => HLO.out (b : Int) W ⟨by omega, by omega⟩)
      have hmax : max 0 ((b : Int) - 1) = ((b - 1 : Nat) : Int) := by omega
      rw [hmax] at CL
      have hcan := Lf.fg_can hP.1.2.1 hP.1.2.2
      have HCAN := Lib.hid hcan
      have hLN : L.length ≤ 11 := by have := hP.2.2; omega
      have hdn : decide (((n1 + 1 : Nat) : Int) > 0) = true := decide_eq_true (by omega)
      clear hg hP hS hmax hcan
      go_wp2_with fail
      refine (CL.out _).mono ?_
      rintro e w1 ⟨rfl, rfl⟩
      go_wp2
      go_loop [10] (fun t => ∃ g : Nat, (b - 1 ≤ g ∧ g ≤ b + 1) ∧ t = .int .i64 g ∧ Hid (∀ j, b - 1 ≤ j → j < g → Lf.can rs n1 j lo hi = false)) (fun t => b + 2 - (intOf t).toNat)
      case atStart => exact ⟨b - 1, ⟨Nat.le_refl _, by omega⟩, rfl, Lib.hid fun j h1 h2 => by omega⟩
      case round =>
        obtain ⟨g, ⟨hg1, hg2⟩, rfl, hg⟩ := hrel
        have hgle : g ≤ Lf.fg rs n1 b lo hi := by
          apply Decidable.byContradiction
          intro hc
          have h1 := Lf.nr_iff.1 HCAN.out.2.1
          have h2 := hg.out (Lf.fg rs n1 b lo hi) (by omega) (by omega)
          rw [HCAN.out.1] at h2; cases h2
        have hg4 : g ≤ 4 := by have := HCAN.out.2.2; omega
        have c0 := Rc_at HS.out.2.1 (i := (n1 + 1) * 5 + g) (by omega)
        rw [fil_at (by omega) (by omega)] at c0
        have hand := HAND.out (Lf.mk rs n1 g) W (Lf.mk_lt _ _ _) HP.out.1.1.1
        have hz0' := hit_zero (rs := rs) (n := n1) (g := g) HP.out.1.1 HP.out.1.2.1
        have hz1' := hit_one (rs := rs) (n := n1) (g := g) HP.out.1.1 HP.out.1.2.1
        cases hcg : Lf.can rs n1 g lo hi
        · have hz := hz0' hcg
          rw [hz] at hand
          have HI : Hid (∀ j, b - 1 ≤ j → j < g + 1 → Lf.can rs n1 j lo hi = false) := Lib.hid fun j h1 h2 => by
            by_cases e : j = g
            · subst e; exact hcg
            · exact hg.out j h1 (by omega)
          have hgb : g ≤ b := by
            apply Decidable.byContradiction
            intro hc
            have h1 := Lf.nr_iff.1 HCAN.out.2.1
            have h2 := HI.out (Lf.fg rs n1 b lo hi) (by omega) (by omega)
            rw [HCAN.out.1] at h2; cases h2
          generalize Lf.mk rs n1 g = M at *
          clear hz0' hz1' hcg hz hg
          go_wp2
          go_round
          case rel => exact ⟨g + 1, ⟨by omega, by omega⟩, by go_num, HI⟩
          case measure => simp [intOf]; omega
        · have hz := hz1' hcg
          have HFG := Lib.hid (Lf.fg_first hg1 hg2 hg.out hcg)
          generalize hMW : Lf.mk rs n1 g &&& W = Z at *
          generalize Lf.mk rs n1 g = M at *
          have hzb : ((Z : Int) == 0) = false := beq_eq_false_iff_ne.2 (by omega)
          have hzd : decide ((Z : Int) = 0) = false := decide_eq_false (by omega)
          have hzd2 : decide (Z = 0) = false := decide_eq_false (by omega)
          obtain ⟨b2, off2, hua, hb2, d0⟩ := HU.out wr HS.out.2.2.2 g (by omega)
          obtain ⟨e1, e2⟩ := HRT.out g (by omega)
          rw [e1] at d0
          have HNX := Lib.hid (HP.out.next HFG.out e2)
          clear hz0' hz1' hcg hMW hg
          have hown := HS.out.1
          have hsz := HS.out.2.2.2.size
          have hca := cells_new (cs := intL (g : Int)) wr 3
          go_wp2_with (at_builtin; refine wpList_append_own _ rfl _ _ 24 rfl w.heap.size 3 i0 (.int .i64 0) 1 8 Try.underlying24 hi0 hz0 hz1 hz2 rfl (by decide) _ _ _ rfl (hown.alloc _) ⟨wr.heap.size, 0, none⟩ 1 1 (intL (g : Int)) rfl rfl ?c1 (intL_one _) ?c3 ?c4 ?c5 ?_)
          case c1 => first | exact hca | exact fun j u h => h
          case c3 => unfold maxLen; omega
          case c4 => omega
          case c5 => first | omega | (simp; omega)
          intro v' w9 hr9 hg9 _
          have hw9 := (below_alloc2 HS.out.2.2.2 (.cells (intL (g : Int)).toArray 3)).grown hg9 (by simp; omega) (fun j e => (World.ownsRow.lt hown j e).1)
          have hp9 : OwnI w.heap.size w9 v' (L ++ [(g : Int)]) := OwnG.pushed hr9
          have hBR : BlockAt w9 B (RcA (fil rs 65)) ReachT := (HS.out.2.1.alloc _).kept hg9 (BlockAt.not_row HS.out.2.1 (by decide) hown)
          have hBL : BlockAt w9 w.heap.size (loftA p (.slice ua rs.length uc)) LoftT := (HS.out.2.2.1.alloc _).kept hg9 (BlockAt.not_row HS.out.2.2.1 (by decide) hown)
          have hl9 : (L ++ [(g : Int)]).length ≤ 12 := by simp; omega
          obtain ⟨L9, hL9⟩ : ∃ L9, L9 = L ++ [(g : Int)] := ⟨_, rfl⟩
          rw [← hL9] at hp9 hl9 HNX
          obtain ⟨a9, c9, e9⟩ := hp9.form
          subst e9
          have y1 : World.cell? _ _ = some (.slice ua rs.length uc) := hBL.cell 1
          have z0 : World.cell? _ _ = _ := (HU.out w9 hw9 g (by omega)).choose_spec.choose_spec.2.2
          have hua2 := hua
          obtain ⟨b3, off3, hua3, _, z1⟩ := HU.out w9 hw9 g (by omega)
          clear z0
          rw [hua] at hua3
          simp only [Option.some.injEq, Addr.mk.injEq, and_true] at hua3
          obtain ⟨rfl, rfl⟩ := hua3
          rw [e1] at z1
          have HS9 := Lib.hid (show FiS w (loftA p (.slice ua rs.length uc)) B rs a9 c9 L9 w9 from ⟨hp9, hBR, hBL, hw9⟩)
          have hshr := shr_int W (Lf.rt rs g)
          generalize Lf.rt rs g = r at *
          generalize W / 2 ^ r = W9 at *
          clear hown hca hr9 hg9 hw9 hp9 hBR hBL hL9 hand hzb hzd hzd2 d0 c0 e1
          subst hua
          go_wp2
          go_roundw
          case rel => exact ⟨n1, g, W9, a9, c9, L9, ⟨by omega, by omega⟩, by go_num, rfl, rfl, rfl, hl9, Lib.hid ⟨⟨_, _, HNX.out⟩, HS9.out⟩⟩
          case measure => simp [intOf]
    · obtain rfl : n = 0 := by omega
      obtain ⟨⟨lo, hi, hP⟩, hS⟩ := hg.out
      have HE : Hid (L = T) := Lib.hid (by have := hP.2.1; rw [HT.out, ← this]; simp [Lf.frs])
      have HLN := Lib.hid (show L.length = N from hP.2.2)
      have HS := Lib.hid hS
      clear hg hP hS
      go_wp2
      go_ret
      rw [← HE.out, HLN.out]
      exact ⟨a, c, rfl, by rw [← HLN.out]; exact HS.out.1, HS.out.2.2.2⟩
end Go.Proofs.Ytabfcnfddemblaa.Lo
