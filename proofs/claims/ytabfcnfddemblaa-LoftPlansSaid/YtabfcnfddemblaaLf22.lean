/- The first heats of the fewest days: of the reference. -/
import Derived.Test.YtabfcnfddemblaaLf21
namespace Go.Proofs.Ytabfcnfddemblaa.Lo
open Go.RowKit

/-- Whether a sum and one of some others is within bounds. -/
def rch (f : Nat → Bool) (X lo hi : Int) : Bool := (List.range 109).any fun (s : Nat) => f s && Lf.rng lo hi (X + (s : Int))
theorem rch_iff {f : Nat → Bool} {X lo hi : Int} : rch f X lo hi = true ↔ ∃ s : Nat, s < 109 ∧ f s = true ∧ lo ≤ X + s ∧ X + s ≤ hi := by
  unfold rch
  rw [List.any_eq_true]
  constructor
  · rintro ⟨s, hs, h⟩
    rw [Bool.and_eq_true, Lf.rng_iff] at h
    exact ⟨s, List.mem_range.1 hs, h.1, h.2⟩
  · rintro ⟨s, hs, h1, h2⟩
    exact ⟨s, List.mem_range.2 hs, by rw [Bool.and_eq_true, Lf.rng_iff]; exact ⟨h1, h2⟩⟩
theorem rch_can {rs : List Int} {n g : Nat} {X lo hi : Int} (hX : 0 ≤ X) (hh : hi ≤ 60) : rch (fun s => Lf.sm rs n g s) (X + Lf.rt rs g) lo hi = Lf.can rs n g (lo - X) (hi - X) := by
  rw [Bool.eq_iff_iff, rch_iff]
  unfold Lf.can
  rw [Lf.aft_iff]
  constructor
  · rintro ⟨s, h1, h2, h3, h4⟩
    exact ⟨s, by omega, by omega, by omega, h2⟩
  · rintro ⟨s, h1, h2, h3, h4⟩
    exact ⟨s, by omega, h4, by omega, by omega⟩
set_option maxRecDepth 100000 in
set_option maxHeartbeats 2000000 in
theorem reaches_any (f : Nat → Bool) (B : Nat) (X lo hi : Int) (w : World) (hX : 0 ≤ X ∧ X ≤ 1000) (hc : ∀ s, s < 109 → w.cell? ⟨B, s, none⟩ = some (.bool (f s))) :
    Calls Try.prog 124 #[.int .i64 X, .slice (some ⟨B, 0, none⟩) 109 109, .int .i64 lo, .int .i64 hi] w fun e w' => e = .returned (.bool (rch f X lo hi)) ∧ w = w' := by
  obtain ⟨hX0, hX1⟩ := hX
  have HC := Lib.hid hc
  have CW := Lib.hid (fun n W => within_any n lo hi W)
  have HY := Lib.hid (fun (s : Nat) (hs : s < 109) (h : f s = true) (h2 : Lf.rng lo hi (X + s) = true) => (rch_iff (f := f) (X := X) (lo := lo) (hi := hi)).2 ⟨s, hs, h, (Lf.rng_iff.1 h2).1, (Lf.rng_iff.1 h2).2⟩)
  have HN := Lib.hid (fun (h : ∀ s, s < 109 → ¬ (f s = true ∧ Lf.rng lo hi (X + (s : Int)) = true)) => show rch f X lo hi = false from Bool.eq_false_iff.2 fun hc => by
    obtain ⟨s, h1, h2, h3⟩ := rch_iff.1 hc
    exact h s h1 ⟨h2, Lf.rng_iff.2 h3⟩)
  generalize rch f X lo hi = E at *
  clear hc
  go_enter Try.func124, Try.ntmps124
  go_wp2
  go_loop [9] (fun t => ∃ k : Nat, k ≤ 109 ∧ t = .int .i64 k ∧ Hid (∀ s, s < k → ¬ (f s = true ∧ Lf.rng lo hi (X + (s : Int)) = true))) (fun t => 110 - (intOf t).toNat)
  case atStart => exact ⟨0, by omega, rfl, Lib.hid fun s h => absurd h (Nat.not_lt_zero _)⟩
  case round =>
    obtain ⟨k, hk, rfl, hg⟩ := hrel
    by_cases hlt : k < 109
    · have c0 := HC.out k hlt
      have HYk := Lib.hid (HY.out k hlt)
      have CK := Lib.hid (CW.out (X + (k : Int)))
      have HI : Hid (¬ (f k = true ∧ Lf.rng lo hi (X + (k : Int)) = true) → ∀ s, s < k + 1 → ¬ (f s = true ∧ Lf.rng lo hi (X + (s : Int)) = true)) := Lib.hid fun h s hs => by
        by_cases e : s = k
        · subst e; exact h
        · exact hg.out s (by omega)
      clear hg
      cases hf : f k
      · rw [hf] at c0
        have HI2 := Lib.hid (HI.out fun h => by rw [hf] at h; cases h.1)
        clear HI HYk hf CK
        go_wp2
        go_round
        case rel => exact ⟨k + 1, by omega, by go_num, HI2⟩
        case measure => simp [intOf]; omega
      · rw [hf] at c0
        cases hr : Lf.rng lo hi (X + (k : Int))
        · rw [hr] at CK
          have HI2 := Lib.hid (HI.out fun h => by rw [hr] at h; cases h.2)
          clear HI HYk hf hr
          go_wp2_with fail
          refine (CK.out _).mono ?_
          rintro e w1 ⟨rfl, rfl⟩
          go_wp2
          go_round
          case rel => exact ⟨k + 1, by omega, by go_num, HI2⟩
          case measure => simp [intOf]; omega
        · rw [hr] at CK
          have HE := Lib.hid (HYk.out hf hr)
          clear HI HYk hf hr
          go_wp2_with fail
          refine (CK.out _).mono ?_
          rintro e w1 ⟨rfl, rfl⟩
          go_wp2
          go_ret
          exact ⟨by rw [HE.out] <;> rfl, rfl⟩
    · obtain rfl : k = 109 := by omega
      have HE := Lib.hid (HN.out hg.out)
      clear hg
      go_wp2
      go_ret
      exact ⟨by rw [HE.out] <;> rfl, rfl⟩
/-- The heats that are left to find. -/
def RgP (rs : List Int) (N : Nat) (need most : Int) (n b : Nat) (X : Int) (L : List Int) : Prop :=
  Lf.aft rs n b (need - X) (most - X) = true ∧ L ++ Lf.frs rs n b (need - X) (most - X) = Lf.frs rs N 0 need most
theorem RgP.next {rs : List Int} {N : Nat} {need most : Int} {n b : Nat} {X : Int} {L : List Int} (h : RgP rs N need most (n + 1) b X L) (hX : 0 ≤ X) (hm : most ≤ 60) :
    RgP rs N need most n (Lf.fg rs n b (need - X) (most - X)) (X + Lf.rt rs (Lf.fg rs n b (need - X) (most - X))) (L ++ [((Lf.fg rs n b (need - X) (most - X) : Nat) : Int)]) := by
  obtain ⟨h1, h2⟩ := h
  have hc := Lf.fg_can (by omega) h1
  rw [frs_succ] at h2
  generalize Lf.fg rs n b (need - X) (most - X) = g at *
  have e1 : need - (X + (Lf.rt rs g : Nat)) = need - X - (Lf.rt rs g : Nat) := by omega
  have e2 : most - (X + (Lf.rt rs g : Nat)) = most - X - (Lf.rt rs g : Nat) := by omega
  refine ⟨?_, ?_⟩
  · rw [e1, e2]; exact hc.1
  · rw [e1, e2, ← h2]; simp
def PgS (w : World) (la : Array Value) (a : Option Addr) (c : Nat) (L : List Int) (wr : World) : Prop :=
  OwnI w.heap.size wr (.slice a L.length c) L ∧ BlockAt wr w.heap.size la LoftT ∧ Below w.heap.size w wr
theorem PgS.drew {w : World} {la : Array Value} {a : Option Addr} {c : Nat} {L : List Int} {wr : World} (h : PgS w la a c L wr) : PgS w la a c L wr.drew := ⟨h.1, h.2.1.drew, below_drewN h.2.2 1⟩
/-- What has been found of the next heat. -/
def NxP (rs : List Int) (n b : Nat) (lo hi : Int) (L : List Int) (fd : Bool) (g : Nat) (L2 : List Int) : Prop :=
  (fd = false ∧ L2 = L ∧ (b - 1 ≤ g ∧ g ≤ min 4 (b + 1) + 1) ∧ ∀ j, b - 1 ≤ j → j < g → Lf.can rs n j lo hi = false) ∨
  (fd = true ∧ ∃ q, q = Lf.fg rs n b lo hi ∧ Lf.can rs n q lo hi = true ∧ L2 = L ++ [(q : Int)] ∧ g = q + 1 ∧ q ≤ 4)
/-- Where a level and all its rows can be read. -/
theorem Lvs.look2 {base : Nat} {W : World} {v : Value} {rs : List Int} {d : Nat} {vs : List Value} (h : Lvs base W v rs d vs) {j : Nat} (hj : j < d) :
    ∃ (b o : Nat) (b2 o2 c2 : Nat) (c : Nat), v = .slice (some ⟨b, o, none⟩) d c ∧ (b < W.heap.size ∧ W.cell? ⟨b, o + j, none⟩ = some (.slice (some ⟨b2, o2, none⟩) 5 c2)) ∧ b2 < W.heap.size ∧ ∀ g, g < 5 → ∃ B, W.cell? ⟨b2, o2 + g, none⟩ = some (.slice (some ⟨B, 0, none⟩) 109 109) ∧ B < W.heap.size ∧ ∀ s, s < 109 → W.cell? ⟨B, s, none⟩ = some (.bool (Lf.sm rs j g s)) := by
  obtain ⟨h1, h2, h3⟩ := h
  obtain ⟨a, cap, e1, _, e3⟩ := h2.rows oneL_len
  obtain ⟨b, o, rfl, hb, hc⟩ := e3 j (by omega)
  obtain ⟨us, u1, u2, u3⟩ := h3 j (by omega)
  obtain ⟨a2, cap2, f1, _, f3⟩ := u2.rows oneL_len
  obtain ⟨b2, o2, rfl, hb2, _⟩ := f3 0 (by omega)
  have k1 := hc 0 _ rfl
  rw [f1, u1] at k1
  rw [h1] at e1
  refine ⟨b, o, b2, o2, cap2, cap, e1, ⟨hb, by simpa using k1⟩, hb2, fun g hg => ?_⟩
  obtain ⟨b3, o3, e4, _, hc2⟩ := f3 g (by omega)
  simp only [Option.some.injEq, Addr.mk.injEq, and_true] at e4
  obtain ⟨rfl, rfl⟩ := e4
  obtain ⟨B, _, g2, g3⟩ := u3 g (by omega)
  have k2 := hc2 0 _ rfl
  rw [g2] at k2
  exact ⟨B, by simpa using k2, g3.lt, fun s hs => by rw [g3.cell s, fnV_at hs]⟩
set_option maxRecDepth 100000 in
set_option maxHeartbeats 16000000 in
theorem rprogram_yes (p : Int) (u : Value) (rs : List Int) (al : Value) (vs : List Value) (base N : Nat) (need most : Int) (w : World) (hu : Ints w u rs) (h5 : rs.length = 5) (hr : ∀ k, k < 5 → 0 ≤ rs.getD k 0 ∧ rs.getD k 0 ≤ 9)
    (hal : Lvs base w al rs 13 vs) (hm : most ≤ 60) (hN : N ≤ 12) (hA : Lf.aft rs N 0 need most = true) :
    Calls Try.prog 82 #[loftV p u, al, .int .i64 need, .int .i64 most, .int .i64 (N : Int)] w fun e w' => ∃ a c, e = .returned (.tuple #[.slice a N c, .bool true]) ∧ OwnI w.heap.size w' (.slice a N c) (Lf.frs rs N 0 need most) ∧ Below w.heap.size w w' := by
  obtain ⟨i0, hi0, hz0, hz1, hz2⟩ := info_parts infoInt
  obtain ⟨ua, uc, rfl⟩ := hu.form
  have HW := Lib.hid (loft_box w p (.slice ua rs.length uc))
  have HU := Lib.hid (fun (W : World) (hW : Below w.heap.size w W) => Ints.at (hu.all hW))
  have HAL := Lib.hid (fun (j : Nat) (hj : j < 13) => hal.look2 hj)
  have HRT := Lib.hid (fun k (hk : k < 5) => And.intro (rt_int (hr k hk).1) (show Lf.rt rs k ≤ 9 by have := hr k hk; unfold Lf.rt; omega))
  have CRE := Lib.hid (fun f B X W hX hc => reaches_any f B X need most W hX hc)
  have HRC := Lib.hid (fun (n g : Nat) (X : Int) (hX : 0 ≤ X) => rch_can (rs := rs) (n := n) (g := g) (lo := need) hX hm)
  obtain ⟨aa, ac, hae⟩ : ∃ a c, al = .slice a 13 c := by
    obtain ⟨b, o, _, _, _, c, e, _⟩ := hal.look2 (j := 0) (by omega)
    exact ⟨_, c, e⟩
  have HP0 := Lib.hid (show RgP rs N need most N 0 0 [] from ⟨by rw [Int.sub_zero, Int.sub_zero]; exact hA, by rw [Int.sub_zero, Int.sub_zero]; rfl⟩)
  have HS0 := Lib.hid (show PgS w (loftA p (.slice ua rs.length uc)) none 0 [] (w.alloc (.cells (loftA p (.slice ua rs.length uc)) LoftT)) from ⟨OwnG.nil _ _, HW.out⟩)
  have H5 := Lib.hid h5
  have hl5 : rs.length ≤ 5 := by omega
  have hl5' : 5 ≤ rs.length := by omega
  obtain ⟨T, hT⟩ : ∃ T, T = Lf.frs rs N 0 need most := ⟨_, rfl⟩
  rw [← hT]
  have HT := Lib.hid hT
  subst hae
  clear hu h5 hr hal hA hT
  go_enter Try.func82, Try.ntmps82
  go_wp2
  go_loopw [12, 13, 14, 15] (fun s t v q wr => ∃ (d n b : Nat) (X : Int) (a : Option Addr) (c : Nat) (L : List Int), (d + n = N ∧ b ≤ 4 ∧ 0 ≤ X ∧ X ≤ 9 * (d : Int)) ∧ s = .slice a L.length c ∧ t = .int .i64 (b : Int) ∧ v = .int .i64 X ∧ q = .int .i64 (d : Int) ∧ L.length ≤ 12 ∧ Hid (L.length = d ∧ RgP rs N need most n b X L ∧ PgS w (loftA p (.slice ua rs.length uc)) a c L wr)) (fun _ _ _ q _ => 13 - (intOf q).toNat)
  case atStart => exact ⟨0, N, 0, 0, none, 0, [], ⟨by omega, by omega, by omega, by omega⟩, rfl, rfl, rfl, rfl, by simp, Lib.hid ⟨rfl, HP0.out, HS0.out⟩⟩
  case round =>
    obtain ⟨d, n, b, X, a, c, L, ⟨hdn, hb4, hX0, hX9⟩, rfl, rfl, rfl, rfl, hL, hg⟩ := hrel
    clear HP0 HS0
    by_cases hn0 : 0 < n
    case neg =>
      obtain ⟨h1, h2, h3⟩ := hg.out
      have HE : Hid (L = T) := Lib.hid (by
        have e : n = 0 := by omega
        subst e
        have := h2.2
        rw [HT.out, ← this]; simp [Lf.frs])
      have HLN := Lib.hid (show L.length = N by omega)
      have HS := Lib.hid h3
      have hdN : ¬ d < N := by omega
      have hdN2 : decide ((d : Int) < (N : Int)) = false := decide_eq_false (by omega)
      clear hg h1 h2 h3
      go_wp2
      go_ret2
      rw [← HE.out, HLN.out]
      exact ⟨a, c, rfl, by rw [← HLN.out]; exact HS.out.1, HS.out.2.2⟩
    obtain ⟨n1, hn1⟩ : ∃ n1, n = n1 + 1 := ⟨n - 1, by omega⟩
    obtain ⟨h1, h2, h3⟩ := hg.out
    have HLd := Lib.hid h1
    have HP := Lib.hid (show RgP rs N need most (n1 + 1) b X L by rw [← hn1]; exact h2)
    have HS := Lib.hid h3
    obtain ⟨bo, oo, b2, o2, c2, cc, hv, ⟨hbo, k0⟩, hb2, k3⟩ := HAL.out n1 (by omega)
    have k1 := (h3.2.2.cell (p := ⟨bo, oo + n1, none⟩) hbo).trans k0
    clear k0
    simp only [Value.slice.injEq] at hv
    obtain ⟨hva, hv2, hv3⟩ := hv
    clear hv2 hv3
    have HK3 := Lib.hid k3
    have hidx : (N : Int) - (d : Int) - 1 = (n1 : Int) := by omega
    have hdN : decide ((d : Int) < (N : Int)) = true := decide_eq_true (by omega)
    have hdN2 : d < N := by omega
    have HNN := Lib.hid (show d + 1 + n1 = N by omega)
    have hn1b : n1 ≤ 11 := by omega
    have hLd11 : L.length ≤ 11 := by omega
    have hXb : X ≤ 108 := by omega
    have HXB := Lib.hid hX9
    clear hg h1 h2 h3 k3 hn1 hdn hn0 hX9
    subst hva
    go_upto_region 8 with fail
    go_cut [18] from 31 to 33 (fun u X => u = .int .i64 ((b - 1 : Nat) : Int) ∧ Hid (X = wr))
    case first =>
      by_cases c1 : 1 ≤ b
      all_goals go_wp2
      all_goals
        go_meet
        exact ⟨congrArg (Value.int .i64) (by omega), Lib.hid rfl⟩
    case rest =>
      obtain ⟨rfl, hwx⟩ := hcut
      have hwx := hwx.out.symm
      subst hwx
      have HN0 := Lib.hid (show NxP rs n1 b (need - X) (most - X) L false (b - 1) L from .inl ⟨rfl, rfl, ⟨Nat.le_refl _, by omega⟩, fun j h1 h2 => by omega⟩)
      clear hidx k1
      obtain ⟨Wo, rfl⟩ : ∃ W, W = wr := ⟨_, rfl⟩
      go_wp2
      go_loopw [12, 17, 18] (fun s f t wr => ∃ (fd : Bool) (g : Nat) (a2 : Option Addr) (c3 : Nat) (L2 : List Int), g ≤ 6 ∧ s = .slice a2 L2.length c3 ∧ f = .bool fd ∧ t = .int .i64 (g : Int) ∧ L2.length ≤ 12 ∧ Hid (NxP rs n1 b (need - X) (most - X) L fd g L2 ∧ PgS w (loftA p (.slice ua rs.length uc)) a2 c3 L2 wr)) (fun _ _ t _ => 8 - (intOf t).toNat)
      case atStart => exact ⟨false, b - 1, a, c, L, by omega, rfl, rfl, rfl, by omega, Lib.hid ⟨HN0.out, HS.out⟩⟩
      case round =>
        obtain ⟨fd, g, a2, c3, L2, hg6, rfl, rfl, rfl, hL2, hg⟩ := hrel
        clear HN0 HS
        by_cases hgo : g ≤ min 4 (b + 1) ∧ fd = false
        · obtain ⟨hgo1, hfd⟩ := hgo
          subst hfd
          have hNX : L2 = L ∧ b - 1 ≤ g ∧ ∀ j, b - 1 ≤ j → j < g → Lf.can rs n1 j (need - X) (most - X) = false := by
            rcases hg.out.1 with ⟨_, e, ⟨q1, _⟩, q2⟩ | ⟨e, _⟩
            · exact ⟨e, q1, q2⟩
            · cases e
          obtain ⟨e, hg1, hno⟩ := hNX
          have HNO := Lib.hid hno
          have HS := Lib.hid (show PgS w (loftA p (.slice ua rs.length uc)) a2 c3 L wr by rw [← e]; exact hg.out.2)
          subst e
          clear hno hg
          go_upto_region 9 with fail
          go_cut [42] from 34 to 42 (fun u X => u = .bool true ∧ Hid (X = wr))
          case first =>
            by_cases c4 : 4 < b + 1
            all_goals go_wp2
            all_goals
              go_meet
              exact ⟨rfl, Lib.hid rfl⟩
          case rest =>
            obtain ⟨rfl, hwx⟩ := hcut
            have hwx := hwx.out.symm
            subst hwx
            obtain ⟨b3, off3, hua, hb3, z0⟩ := HU.out wr HS.out.2.2 g (by omega)
            obtain ⟨e1, e2⟩ := HRT.out g (by omega)
            rw [e1] at z0
            obtain ⟨B, w1, w2, w3⟩ := HK3.out g (by omega)
            have y0 : wr.drew.cell? ⟨w.heap.size, 1, none⟩ = some (.slice ua rs.length uc) := HS.out.2.1.cell 1
            have y1 : wr.drew.cell? ⟨b3, off3 + g, none⟩ = _ := z0
            have y2 : wr.drew.cell? ⟨b2, o2 + g, none⟩ = some (.slice (some ⟨B, 0, none⟩) 109 109) := (HS.out.2.2.cell (p := ⟨b2, o2 + g, none⟩) hb2).trans w1
            have CR := Lib.hid (CRE.out (fun s => Lf.sm rs n1 g s) B (X + (Lf.rt rs g : Nat)) wr.drew ⟨by omega, by omega⟩ (fun s hs => (HS.out.2.2.cell (p := ⟨B, s, none⟩) w2).trans (w3 s hs)))
            have HRr := HRC.out n1 g X hX0
            rw [HRr] at CR
            have gsm : IntKind.i64.wrap (X + ((Lf.rt rs g : Nat) : Int)) = X + ((Lf.rt rs g : Nat) : Int) := IntWalk.i64_in _ ⟨by omega, by omega⟩
            have HFG := Lib.hid (fun h => Lf.fg_first (rs := rs) (n := n1) (b := b) (g := g) (lo := need - X) (hi := most - X) hg1 (by omega) HNO.out h)
            have HNO2 := Lib.hid (fun (h : Lf.can rs n1 g (need - X) (most - X) = false) (j : Nat) (h1 : b - 1 ≤ j) (h2 : j < g + 1) => show Lf.can rs n1 j (need - X) (most - X) = false from by
              by_cases e : j = g
              · subst e; exact h
              · exact HNO.out j h1 (by omega))
            have hg5 : g < 5 := by omega
            clear w1 w3 e1 HRr z0
            subst hua
            generalize Lf.rt rs g = r at *
            cases hcan : Lf.can rs n1 g (need - X) (most - X)
            all_goals
              rw [hcan] at CR
              go_upto_region 11 with fail
              refine wp_region_seq [(0, true), (1, true), (2, true), (3, true), (4, true), (5, true), (6, true), (7, true), (8, true), (9, true), (10, true), (11, true), (12, true), (13, false)] (fun W => W = wr.drew)
                (by kernel_rfl) (by kernel_rfl) (by kernel_rfl) (by kernel_rfl) (fun d _ _ _ _ h => by cases d <;> exact h) rfl (fun _ => ?_)
              repeat (first | (refine SeqH.take (v := ?_) rfl (by rfl) ?_ ?_; rotate_left; (· intro wq hSw; (try dsimp only at hSw); subst hSw; go_simp; (try rw [if_pos (by omega)]); (try with_reducible rfl)); simp only [Act.put, List.setIfInBounds_toArray, List.set_cons_zero, List.set_cons_succ]) | (refine SeqH.skip rfl (by rfl) ?_; simp only [Act.put, List.setIfInBounds_toArray, List.set_cons_zero, List.set_cons_succ]))
              refine SeqH.step rfl (by rfl) (fun K hK => ?_)
              go_simp
              go_at_call 124
              refine CR.out.mono ?_
              rintro e w7 ⟨rfl, rfl⟩
              try dsimp only
              refine hK.out _ _ rfl (fun _ => ?_)
              clear hK K
              try simp only [Act.put, List.setIfInBounds_toArray, List.set_cons_zero, List.set_cons_succ]
              refine SeqH.done ?_
            · have HNX := Lib.hid (show NxP rs n1 b (need - X) (most - X) L2 false (g + 1) L2 from .inl ⟨rfl, rfl, ⟨by omega, by omega⟩, HNO2.out hcan⟩)
              have HS2 := Lib.hid HS.out.drew
              clear CR y0 y1 y2 hcan HFG HNO2 HNO gsm HS
              go_wp2
              go_roundw
              case rel => exact ⟨false, g + 1, a2, c3, L2, by omega, rfl, rfl, by go_num, hL2, Lib.hid ⟨HNX.out, HS2.out⟩⟩
              case measure => simp [intOf]; omega
            · have HNX := Lib.hid (show NxP rs n1 b (need - X) (most - X) L2 true (g + 1) (L2 ++ [(g : Int)]) from .inr ⟨rfl, g, HFG.out hcan, hcan, rfl, rfl, by omega⟩)
              have hown := HS.out.drew.1
              have hsz := HS.out.2.2.size
              have hca := cells_new (cs := intL (g : Int)) wr.drew 3
              clear CR y0 y1 y2 hcan HFG HNO2 HNO gsm
              go_wp2_with (at_builtin; refine wpList_append_own _ rfl _ _ 24 rfl w.heap.size 3 i0 (.int .i64 0) 1 8 Try.underlying24 hi0 hz0 hz1 hz2 rfl (by decide) _ _ _ rfl (hown.alloc _) ⟨wr.drew.heap.size, 0, none⟩ 1 1 (intL (g : Int)) rfl rfl ?c1 (intL_one _) ?c3 ?c4 ?c5 ?_)
              case c1 => first | exact hca | exact fun j u h => h
              case c3 => unfold maxLen; omega
              case c4 => omega
              case c5 => first | omega | (simp; omega)
              intro v' w9 hr9 hg9 _
              have hw9 := (below_alloc2 HS.out.drew.2.2 (.cells (intL (g : Int)).toArray 3)).grown hg9 (by simp; omega) (fun j e => (World.ownsRow.lt hown j e).1)
              have hp9 : OwnI w.heap.size w9 v' (L2 ++ [(g : Int)]) := OwnG.pushed hr9
              have hBL : BlockAt w9 w.heap.size (loftA p (.slice (some ⟨b3, off3, none⟩) rs.length uc)) LoftT := (HS.out.drew.2.1.alloc _).kept hg9 (BlockAt.not_row HS.out.drew.2.1 (by decide) hown)
              have hl9 : (L2 ++ [(g : Int)]).length ≤ 12 := by simp; omega
              obtain ⟨L9, hL9⟩ : ∃ L9, L9 = L2 ++ [(g : Int)] := ⟨_, rfl⟩
              rw [← hL9] at hp9 hl9 HNX
              obtain ⟨a9, c9, e9⟩ := hp9.form
              subst e9
              have HS9 := Lib.hid (show PgS w (loftA p (.slice (some ⟨b3, off3, none⟩) rs.length uc)) a9 c9 L9 w9 from ⟨hp9, hBL, hw9⟩)
              clear hown hca hr9 hg9 hw9 hp9 hBL hL9 hsz HS
              go_wp2
              go_roundw
              case rel => exact ⟨true, g + 1, a9, c9, L9, by omega, rfl, rfl, by go_num, hl9, Lib.hid ⟨HNX.out, HS9.out⟩⟩
              case measure => simp [intOf]; omega
        · have hFC := Lf.fg_can (by omega) HP.out.1
          have hfdt : fd = true ∧ ∃ q, q = Lf.fg rs n1 b (need - X) (most - X) ∧ L2 = L ++ [(q : Int)] ∧ q ≤ 4 := by
            rcases hg.out.1 with ⟨e, _, ⟨q1, q2⟩, q3⟩ | ⟨e, q, q1, _, q3, _, q5⟩
            · exfalso
              have h1 := Lf.nr_iff.1 hFC.2.1
              have h2 := hFC.2.2
              have h3 := q3 (Lf.fg rs n1 b (need - X) (most - X)) (by omega) (by
                apply Decidable.byContradiction
                intro hc
                exact hgo ⟨by omega, e⟩)
              rw [hFC.1] at h3; cases h3
            · exact ⟨e, q, q1, q3, q5⟩
          obtain ⟨hfd, q, hq, hL2q, hq4⟩ := hfdt
          subst hfd
          have HPN := HP.out.next hX0 hm
          rw [← hq, ← hL2q] at HPN
          have HPN := Lib.hid HPN
          have HS := Lib.hid hg.out.2
          have hLd := HLd.out
          have hll : L2.length = d + 1 := by rw [hL2q]; simp; omega
          have HLL := Lib.hid hll
          obtain ⟨b4, off4, ha2, hb4', u0⟩ := Ints.at (OwnI.ints HS.out.1) d (by omega)
          have hgq : L2.getD d 0 = (q : Int) := by
            rw [hL2q]
            have : d = L.length := by omega
            subst this
            simp
          rw [hgq] at u0
          obtain ⟨b3, off3, hua, hb3, z0⟩ := HU.out wr HS.out.2.2 q (by omega)
          obtain ⟨e1, e2⟩ := HRT.out q (by omega)
          rw [e1] at z0
          have y0 : wr.cell? ⟨w.heap.size, 1, none⟩ = some (.slice ua rs.length uc) := HS.out.2.1.cell 1
          have hdl : d < L2.length := by omega
          have hr9 := HXB.out
          clear hg hFC hq hL2q hgq e1 hll hLd HP
          subst hua
          subst ha2
          go_upto_region 9 with fail
          go_cut [42] from 34 to 42 (fun u X => u = .bool false ∧ Hid (X = wr))
          case first =>
            by_cases c4 : 4 < b + 1
            all_goals by_cases c6 : g ≤ min 4 (b + 1)
            all_goals go_wp2
            all_goals
              go_meet
              exact ⟨rfl, Lib.hid rfl⟩
          case rest =>
            obtain ⟨rfl, hwx⟩ := hcut
            have hwx := hwx.out.symm
            subst hwx
            generalize Lf.rt rs q = r at *
            go_wp2
            go_roundw
            case rel => exact ⟨d + 1, n1, q, X + (r : Int), _, c3, L2, ⟨HNN.out, hq4, by omega, by omega⟩, rfl, rfl, rfl, by go_num, hL2, Lib.hid ⟨HLL.out, HPN.out, HS.out⟩⟩
            case measure => simp [intOf]; omega
end Go.Proofs.Ytabfcnfddemblaa.Lo
