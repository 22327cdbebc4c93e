/- Which goods are valid, and the fewest days: of the reference. -/
import Derived.Test.YtabfcnfddemblaaLf20
import Derived.Test.YtabfcnfddemblaaLf23
namespace Go.Proofs.Ytabfcnfddemblaa.Lo
open Go.RowKit

set_option maxRecDepth 100000 in
set_option maxHeartbeats 4000000 in
theorem rvalGoods_any (v : Value) (l : List Lf.G) (w : World) (hl : Goods w v l) : Calls Try.prog 45 #[v] w fun e w' => e = .returned (.int .i64 (Lf.valG l)) ∧ Below w.heap.size w w' := by
  obtain ⟨ao, c, rfl, _, hlk⟩ := hl
  have HK := Lib.hid hlk
  have hw0 := Lib.hid (Below.refl w.heap.size w)
  have FV := Lib.hid (fun x lo hi W => within_any x lo hi W)
  have HDF := Lib.hid (fun g => okG_def g)
  have HRP := Lib.hid (fun n m => isRp_def n m)
  clear hlk
  by_cases h8 : 8 < l.length
  · have HE := Lib.hid (Lf.valG_long h8)
    generalize Lf.valG l = E at *
    go_enter Try.func45, Try.ntmps45
    go_wp2
    go_ret
    exact ⟨ret_int HE.out.symm, hw0.out⟩
  have hd8 : decide (8 < (l.length : Int)) = false := decide_eq_false (by omega)
  have HBad := Lib.hid (fun k (hk : k < l.length) h => Lf.valG_bad h8 hk h)
  have HOk := Lib.hid (fun h => Lf.valG_ok h8 h)
  generalize Lf.valG l = E at *
  go_enter Try.func45, Try.ntmps45
  go_wp2
  go_loopw [3] (fun t wr => ∃ k : Nat, k ≤ l.length ∧ t = .int .i64 k ∧ Hid ((∀ j (hj : j < l.length), j < k → Lf.okG l[j] = true) ∧ Below w.heap.size w wr)) (fun t _ => l.length - (intOf t).toNat)
  case atStart => exact ⟨0, Nat.zero_le _, rfl, Lib.hid ⟨fun j _ h => absurd h (Nat.not_lt_zero _), hw0.out⟩⟩
  case round =>
    obtain ⟨k, hk, rfl, hg⟩ := hrel
    clear hw0
    by_cases hlt : k < l.length
    · obtain ⟨b, off, rfl, hb, hr⟩ := HK.out k hlt
      obtain ⟨c0, c1, c2, c3, c4⟩ := gd_at (hr.below hg.out.2 hb)
      have HB1 := Lib.hid (HBad.out k hlt)
      have HI : Hid (Lf.okG l[k] = true → ∀ j (hj : j < l.length), j < k + 1 → Lf.okG l[j] = true) := Lib.hid fun h j hj hjk => by
        by_cases e : j = k
        · subst e; exact h
        · exact hg.out.1 j hj (by omega)
      have HG := Lib.hid (below_alloc2 hg.out.2 (.cells (gdA l[k]) GoodT))
      have HBL := Lib.hid (BlockAt.new wr (gdA l[k]) GoodT)
      have HD := Lib.hid (HDF.out l[k])
      clear hg hr HBad HDF
      generalize Lf.okG l[k] = o at *
      generalize l[k] = a at *
      obtain ⟨p, n, m, a2, u⟩ := a
      dsimp only at *
      have x0 : World.cell? _ _ = some (.int .i64 p) := HBL.out.cell 0
      have x1 : World.cell? _ _ = some (.int .i64 n) := HBL.out.cell 1
      have x2 : World.cell? _ _ = some (.int .i64 m) := HBL.out.cell 2
      have x3 : World.cell? _ _ = some (.int .i64 a2) := HBL.out.cell 3
      have x4 : World.cell? _ _ = some (.int .i64 u) := HBL.out.cell 4
      have HRN := Lib.hid (HRP.out n m)
      rw [HRN.out] at HD
      clear HRP HRN HBL
      have C0 := Lib.hid (FV.out p 1 40)
      have C1 := Lib.hid (FV.out n 1 60)
      have C2 := Lib.hid (FV.out m n 60)
      have C3 := Lib.hid (FV.out a2 0 60)
      have C4 := Lib.hid (FV.out u a2 60)
      clear FV
      cases k0 : Lf.rng 1 40 p
      · rw [k0] at C0 HD
        have HE := Lib.hid (HB1.out (by rw [HD.out] <;> rfl))
        clear k0 HD HB1 HI C1 C2 C3 C4
        go_wp2_with fail
        refine (C0.out _).mono ?_
        rintro e w1 ⟨rfl, rfl⟩
        clear c0 c1 c2 c3 c4
        go_wp2
        go_ret
        exact ⟨ret_int HE.out.symm, HG.out⟩
      rw [k0] at C0 HD
      clear k0
      cases k1 : Lf.rng 1 60 n
      · rw [k1] at C1 HD
        have HE := Lib.hid (HB1.out (by rw [HD.out] <;> rfl))
        clear k1 HD HB1 HI C2 C3 C4
        go_wp2_with fail
        refine (C0.out _).mono ?_
        rintro e w1 ⟨rfl, rfl⟩
        go_wp2_with fail
        refine (C1.out _).mono ?_
        rintro e w1 ⟨rfl, rfl⟩
        clear c0 c1 c2 c3 c4
        go_wp2
        go_ret
        exact ⟨ret_int HE.out.symm, HG.out⟩
      rw [k1] at C1 HD
      clear k1
      cases k2 : Lf.rng n 60 m
      · rw [k2] at C2 HD
        have HE := Lib.hid (HB1.out (by rw [HD.out] <;> rfl))
        clear k2 HD HB1 HI C3 C4
        go_wp2_with fail
        refine (C0.out _).mono ?_
        rintro e w1 ⟨rfl, rfl⟩
        go_wp2_with fail
        refine (C1.out _).mono ?_
        rintro e w1 ⟨rfl, rfl⟩
        go_wp2_with fail
        refine (C2.out _).mono ?_
        rintro e w1 ⟨rfl, rfl⟩
        clear c0 c1 c2 c3 c4
        go_wp2
        go_ret
        exact ⟨ret_int HE.out.symm, HG.out⟩
      rw [k2] at C2 HD
      clear k2
      cases k3 : Lf.rng 0 60 a2
      · rw [k3] at C3 HD
        have HE := Lib.hid (HB1.out (by rw [HD.out] <;> rfl))
        clear k3 HD HB1 HI C4
        go_wp2_with fail
        refine (C0.out _).mono ?_
        rintro e w1 ⟨rfl, rfl⟩
        go_wp2_with fail
        refine (C1.out _).mono ?_
        rintro e w1 ⟨rfl, rfl⟩
        go_wp2_with fail
        refine (C2.out _).mono ?_
        rintro e w1 ⟨rfl, rfl⟩
        go_wp2_with fail
        refine (C3.out _).mono ?_
        rintro e w1 ⟨rfl, rfl⟩
        clear c0 c1 c2 c3 c4
        go_wp2
        go_ret
        exact ⟨ret_int HE.out.symm, HG.out⟩
      rw [k3] at C3 HD
      clear k3
      cases k4 : Lf.rng a2 60 u
      · rw [k4] at C4 HD
        have HE := Lib.hid (HB1.out (by rw [HD.out] <;> rfl))
        clear k4 HD HB1 HI
        go_wp2_with fail
        refine (C0.out _).mono ?_
        rintro e w1 ⟨rfl, rfl⟩
        go_wp2_with fail
        refine (C1.out _).mono ?_
        rintro e w1 ⟨rfl, rfl⟩
        go_wp2_with fail
        refine (C2.out _).mono ?_
        rintro e w1 ⟨rfl, rfl⟩
        go_wp2_with fail
        refine (C3.out _).mono ?_
        rintro e w1 ⟨rfl, rfl⟩
        go_wp2_with fail
        refine (C4.out _).mono ?_
        rintro e w1 ⟨rfl, rfl⟩
        clear c0 c1 c2 c3 c4
        go_wp2
        go_ret
        exact ⟨ret_int HE.out.symm, HG.out⟩
      rw [k4] at C4 HD
      clear k4
      have HI2 := Lib.hid (HI.out (by rw [HD.out] <;> rfl))
      clear HD HB1 HI
      go_wp2_with fail
      refine (C0.out _).mono ?_
      rintro e w1 ⟨rfl, rfl⟩
      go_wp2_with fail
      refine (C1.out _).mono ?_
      rintro e w1 ⟨rfl, rfl⟩
      go_wp2_with fail
      refine (C2.out _).mono ?_
      rintro e w1 ⟨rfl, rfl⟩
      go_wp2_with fail
      refine (C3.out _).mono ?_
      rintro e w1 ⟨rfl, rfl⟩
      go_wp2_with fail
      refine (C4.out _).mono ?_
      rintro e w1 ⟨rfl, rfl⟩
      clear c0 c1 c2 c3 c4 x0 x1 x2 x3 x4
      go_wp2
      go_roundw
      case rel => exact ⟨k + 1, by omega, by go_num, Lib.hid ⟨HI2.out, HG.out⟩⟩
      case measure => simp [intOf]; omega
    · obtain rfl : k = l.length := by omega
      have HE := Lib.hid (HOk.out fun j hj => hg.out.1 j hj hj)
      have HG := Lib.hid hg.out.2
      clear hg
      go_wp2
      go_ret
      exact ⟨ret_int HE.out.symm, HG.out⟩
set_option maxRecDepth 100000 in
theorem rboth_any (u v : Value) (ls : List Lf.F) (gs : List Lf.G) (w : World) (hu : Lofts w u ls) (hv : Goods w v gs) : Calls Try.prog 90 #[u, v] w fun e w' => e = .returned (.int .i64 (Lf.bthE ls gs)) ∧ Below w.heap.size w w' := by
  have C1 := Lib.hid (rvalLofts_any u ls w hu)
  have C2 := Lib.hid (fun W (hW : Below w.heap.size w W) => rvalGoods_any v gs W (hv.all hW))
  have HE : Hid (Lf.bthE ls gs = if Lf.valF ls = 0 then Lf.valG gs else Lf.valF ls) := Lib.hid rfl
  obtain ⟨ua, uc, rfl⟩ := hu.form
  obtain ⟨va, vc, rfl⟩ := hv.form
  clear hu hv
  generalize Lf.bthE ls gs = E at *
  by_cases hz : Lf.valF ls = 0
  · have e1 := HE.out.trans (if_pos hz)
    subst e1
    rw [hz] at C1
    generalize Lf.valG gs = G at *
    clear hz HE
    go_enter Try.func90, Try.ntmps90
    go_wp2_with fail
    refine C1.out.mono ?_
    rintro e w1 ⟨rfl, rfl⟩
    have H1 := Lib.hid (Below.refl w.heap.size w)
    clear C1
    go_wp2_with fail
    refine (C2.out _ H1.out).mono ?_
    rintro e w2 ⟨rfl, hb1⟩
    have H2 := Lib.hid (below_step H1.out hb1)
    clear hb1
    go_wp2
    go_ret
    exact ⟨rfl, H2.out⟩
  · have e1 := HE.out.trans (if_neg hz)
    subst e1
    generalize Lf.valF ls = F at *
    have hd : (F == 0) = false := beq_eq_false_iff_ne.2 hz
    have hd2 : (F != 0) = true := by rw [bne, hd]; rfl
    clear hz HE C2
    go_enter Try.func90, Try.ntmps90
    go_wp2_with fail
    refine C1.out.mono ?_
    rintro e w1 ⟨rfl, rfl⟩
    have H1 := Lib.hid (Below.refl w.heap.size w)
    clear C1
    go_wp2
    go_ret
    exact ⟨rfl, H1.out⟩
theorem rp_ok {f : Lf.F} {n m : Int} (hf : Lf.okF f = true) (hr : Lf.isRp n m = true) : (Lf.pR f n m).length = Lf.dN f.rs n m ∧ Lf.pB f n m = decide (0 < Lf.dN f.rs n m) := by
  obtain ⟨_, e1, e2⟩ := p_ok (Lf.valF_one.2 hf) hr
  exact ⟨by rw [e1, Lf.prg_len], e2⟩
set_option maxRecDepth 100000 in
set_option maxHeartbeats 8000000 in
theorem rdays_any (v : Value) (ls : List Lf.F) (g : Lf.G) (w : World) (hl : Lofts w v ls) (hF : ∀ k (hk : k < ls.length), Lf.okF ls[k] = true) (h3 : ls.length ≤ 3) (hg : Lf.isRp g.n g.m = true) :
    Calls Try.prog 103 #[v, gdV g] w fun e w' => e = .returned (.tuple #[.int .i64 (Lf.dyN ls g : Nat), .bool (decide (0 < Lf.dyN ls g))]) ∧ Below w.heap.size w w' := by
  obtain ⟨ao, c, rfl, _, hlk⟩ := hl
  have HK := Lib.hid hlk
  have HP := Lib.hid (fun (k : Nat) (hk : k < ls.length) (u : Value) (W : World) (hu : Ints W u (ls[k]'hk).rs) => rprogF_any (ls[k]'hk).p u (ls[k]'hk).rs g.n g.m W hu)
  have HRO := Lib.hid (fun (k : Nat) (hk : k < ls.length) => rp_ok (n := g.n) (m := g.m) (hF k hk) hg)
  have HDN := Lib.hid (fun (k : Nat) (hk : k < ls.length) => Lf.dN_le ls[k].rs g.n g.m)
  have HD := Lib.hid (fun k (hk : k < ls.length) => dyk_succ ls g hk)
  have HNO := Lib.hid (fun (k : Nat) (hk : k < ls.length) (s : Nat) => dst_no (g := g) (s := s) (f := ls[k]))
  have HYE := Lib.hid (fun (k : Nat) (hk : k < ls.length) (s : Nat) => dst_yes (g := g) (s := s) (f := ls[k]))
  have H0 : Hid (Lf.dyk ls g 0 = 0) := Lib.hid rfl
  have HZ := Lib.hid (And.intro (BlockAt.new w (gdA g) GoodT) (below_alloc2 (Below.refl w.heap.size w) (.cells (gdA g) GoodT)))
  obtain ⟨E, hE⟩ : ∃ E, E = Lf.dyN ls g := ⟨_, rfl⟩
  rw [← hE]
  have HE : Hid (E = Lf.dyk ls g ls.length) := Lib.hid hE
  clear hlk hF hg hE
  obtain ⟨gp, gn, gm, ga, gu⟩ := g
  dsimp only at *
  go_enter Try.func103, Try.ntmps103
  go_wp2
  go_loopw [6, 7, 8] (fun s q t wr => ∃ (k d : Nat), k ≤ ls.length ∧ s = .int .i64 (d : Int) ∧ q = .bool (decide (0 < d)) ∧ t = .int .i64 k ∧ d ≤ 12 ∧ Hid (d = Lf.dyk ls ⟨gp, gn, gm, ga, gu⟩ k ∧ BlockAt wr w.heap.size (gdA ⟨gp, gn, gm, ga, gu⟩) GoodT ∧ Below w.heap.size w wr)) (fun _ _ t _ => ls.length - (intOf t).toNat)
  case atStart => exact ⟨0, 0, Nat.zero_le _, rfl, rfl, rfl, by omega, Lib.hid ⟨H0.out.symm, HZ.out⟩⟩
  case round =>
    obtain ⟨k, d, hk, rfl, rfl, rfl, hd12, hg⟩ := hrel
    clear HZ H0
    by_cases hlt : k < ls.length
    · obtain ⟨b, off, rfl, hb, hr⟩ := HK.out k hlt
      obtain ⟨v, ⟨c0, c1⟩, hI⟩ := hr.all hg.out.2.2 hb
      have hbw : b < wr.heap.size := Nat.lt_of_lt_of_le hb hg.out.2.2.size
      have CP := Lib.hid (HP.out k hlt v _ (hI.all (below_drewN (Below.refl wr.heap.size wr) 1)))
      have hdn := HDN.out k hlt
      obtain ⟨er1, er2⟩ := HRO.out k hlt
      have HDk := HD.out k hlt
      rw [← hg.out.1] at HDk
      have HN := Lib.hid (HNO.out k hlt d)
      have HY := Lib.hid (HYE.out k hlt d)
      obtain ⟨d2, hd2⟩ : ∃ d2, d2 = Lf.dyk ls ⟨gp, gn, gm, ga, gu⟩ (k + 1) := ⟨_, rfl⟩
      rw [← hd2] at HDk
      rw [← HDk] at HN HY
      have HD2 := Lib.hid hd2
      generalize hRL : Lf.pR ⟨ls[k].p, ls[k].rs⟩ gn gm = P at *
      have er1' : P.length = Lf.dN ls[k].rs gn gm := er1
      rw [show Lf.pB ⟨ls[k].p, ls[k].rs⟩ gn gm = decide (0 < Lf.dN ls[k].rs gn gm) from er2] at CP
      rw [er1'] at CP
      have HSy := Lib.hid (And.intro (hg.out.2.1.drew) (below_drewN hg.out.2.2 1))
      obtain ⟨va, vc, rfl⟩ := hI.form
      clear hr hI hg HDk hd2 er1 er2 hRL er1'
      generalize Lf.pE ⟨ls[k].p, ls[k].rs⟩ gn gm = PE at *
      generalize Lf.dN ls[k].rs gn gm = D at *
      generalize ls[k] = f at *
      obtain ⟨fp, fr⟩ := f
      dsimp only at *
      have HCC := Lib.hid (And.intro c0 c1)
      have hlt2 := hlt
      go_upto_region 5 with fail
      refine wp_region_seq [(0, true), (1, true), (2, true), (3, true), (4, true), (5, true), (6, true), (7, true), (8, false), (9, true), (10, true), (11, true), (12, true), (13, true), (14, true), (15, true)] (fun W => World.cell? W ⟨w.heap.size, 0, none⟩ = some (.int .i64 gp) ∧ World.cell? W ⟨w.heap.size, 1, none⟩ = some (.int .i64 gn) ∧ World.cell? W ⟨w.heap.size, 2, none⟩ = some (.int .i64 gm) ∧ World.cell? W ⟨b, off + k * 2, none⟩ = some (.int .i64 fp) ∧ World.cell? W ⟨b, off + k * 2 + 1, none⟩ = some (.slice va fr.length vc))
        (by kernel_rfl) (by kernel_rfl) (by kernel_rfl) (by kernel_rfl) (fun d _ _ _ _ h => by cases d <;> exact h) ⟨HSy.out.1.cell 0, HSy.out.1.cell 1, HSy.out.1.cell 2, HCC.out.1, HCC.out.2⟩ (fun _ => ?_)
      repeat (first | (refine SeqH.take (v := ?_) rfl (by rfl) ?_ ?_; rotate_left; (· intro w hSw; (try dsimp only at hSw); obtain ⟨a0, a1, a2, a3, a4⟩ := hSw; go_simp; (try with_reducible rfl)); simp only [Act.put, List.setIfInBounds_toArray, List.set_cons_zero, List.set_cons_succ]) | (refine SeqH.skip rfl (by rfl) ?_; simp only [Act.put, List.setIfInBounds_toArray, List.set_cons_zero, List.set_cons_succ]))
      refine SeqH.step rfl (by rfl) (fun K hK => ?_)
      go_simp
      go_at_call 42
      refine (CP.out).mono ?_
      rintro e w7 ⟨a9, c9, rfl, _, hb1⟩
      try dsimp only
      have HS1 := Lib.hid (And.intro (HSy.out.1.below hb1 HSy.out.1.lt) (below_step HSy.out.2 hb1))
      have H7 := Lib.hid (And.intro (HS1.out.1.cell 0) ((hb1.cell (p := ⟨b, off + k * 2, none⟩) hbw).trans HCC.out.1))
      refine hK.out _ _ (⟨HS1.out.1.cell 0, HS1.out.1.cell 1, HS1.out.1.cell 2, (hb1.cell (p := ⟨b, off + k * 2, none⟩) hbw).trans HCC.out.1, (hb1.cell (p := ⟨b, off + k * 2 + 1, none⟩) hbw).trans HCC.out.2⟩) (fun _ => ?_)
      clear hK K
      try simp only [Act.put, List.setIfInBounds_toArray, List.set_cons_zero, List.set_cons_succ]
      repeat (first | (refine SeqH.take (v := ?_) rfl (by rfl) ?_ ?_; rotate_left; (· intro w hSw; (try dsimp only at hSw); obtain ⟨a0, a1, a2, a3, a4⟩ := hSw; go_simp; (try with_reducible rfl)); simp only [Act.put, List.setIfInBounds_toArray, List.set_cons_zero, List.set_cons_succ]) | (refine SeqH.skip rfl (by rfl) ?_; simp only [Act.put, List.setIfInBounds_toArray, List.set_cons_zero, List.set_cons_succ]))
      refine SeqH.done ?_
      have y0 : w7.cell? ⟨w.heap.size, 0, none⟩ = some (.int .i64 gp) := H7.out.1
      have y1 : w7.cell? ⟨b, off + k * 2, none⟩ = some (.int .i64 fp) := H7.out.2
      clear H7 HCC HSy
      by_cases q3 : gp ≤ fp
      case neg =>
        have HEQ := Lib.hid (HN.out fun h => q3 h.2.1)
        have q9 : decide (fp ≥ gp) = false := decide_eq_false q3
        clear HN HY
        go_wp2
        go_quiet (fail)
        go_wp2
        go_roundw
        case rel => exact ⟨k + 1, d, by omega, rfl, rfl, by go_num, hd12, Lib.hid ⟨HEQ.out.symm.trans HD2.out, HS1.out.1, below_drewN HS1.out.2 _⟩⟩
        case measure => simp [intOf]; omega
      have q9 : decide (fp ≥ gp) = true := decide_eq_true q3
      by_cases q1 : 0 < D
      case neg =>
        have HEQ := Lib.hid (HN.out fun h => q1 h.1)
        have q2 : decide (0 < D) = false := decide_eq_false q1
        clear HN HY
        rw [q2]
        go_wp2
        go_quiet (fail)
        go_wp2
        go_roundw
        case rel => exact ⟨k + 1, d, by omega, rfl, rfl, by go_num, hd12, Lib.hid ⟨HEQ.out.symm.trans HD2.out, HS1.out.1, below_drewN HS1.out.2 _⟩⟩
        case measure => simp [intOf]; omega
      have q2 : decide (0 < D) = true := decide_eq_true q1
      rw [q2]
      by_cases q4 : d = 0
      · have HEQ := Lib.hid (HY.out ⟨q1, q3, .inl q4⟩)
        have HD3 := Lib.hid (HEQ.out.symm.trans HD2.out)
        have q5 : decide (0 < d) = false := decide_eq_false (by omega)
        rw [q5]
        clear HN HY HEQ
        go_wp2
        go_quiet (fail)
        go_wp2
        go_roundw
        case rel => exact ⟨k + 1, D, by omega, rfl, by rw [q2], by go_num, hdn, Lib.hid ⟨HD3.out, HS1.out.1, below_drewN HS1.out.2 _⟩⟩
        case measure => simp [intOf]; omega
      have q5 : decide (0 < d) = true := decide_eq_true (by omega)
      rw [q5]
      by_cases q8 : D < d
      · have HEQ := Lib.hid (HY.out ⟨q1, q3, .inr q8⟩)
        have HD3 := Lib.hid (HEQ.out.symm.trans HD2.out)
        have q6 : decide ((D : Int) < (d : Int)) = true := decide_eq_true (by omega)
        have q7 : decide (D < d) = true := decide_eq_true q8
        clear HN HY HEQ
        go_wp2
        go_quiet (fail)
        go_wp2
        go_roundw
        case rel => exact ⟨k + 1, D, by omega, rfl, by rw [q2], by go_num, hdn, Lib.hid ⟨HD3.out, HS1.out.1, below_drewN HS1.out.2 _⟩⟩
        case measure => simp [intOf]; omega
      · have HEQ := Lib.hid (HN.out fun h => by rcases h.2.2 with h | h; exact q4 h; exact q8 h)
        have q6 : decide ((D : Int) < (d : Int)) = false := decide_eq_false (by omega)
        have q7 : decide (D < d) = false := decide_eq_false q8
        clear HN HY
        go_wp2
        go_quiet (fail)
        go_wp2
        go_roundw
        case rel => exact ⟨k + 1, d, by omega, rfl, by rw [q5], by go_num, hd12, Lib.hid ⟨HEQ.out.symm.trans HD2.out, HS1.out.1, below_drewN HS1.out.2 _⟩⟩
        case measure => simp [intOf]; omega
    · obtain rfl : k = ls.length := by omega
      have HDE : Hid (d = E) := Lib.hid (by rw [HE.out]; exact hg.out.1)
      have HS := Lib.hid hg.out.2
      clear hg HP HRO HDN HD HNO HYE HE
      have e9 := HDE.out
      clear HDE
      subst e9
      go_wp2
      go_ret2
      exact ⟨rfl, HS.out.2⟩
set_option maxRecDepth 100000 in
set_option maxHeartbeats 2000000 in
theorem rdaysF_any (v : Value) (ls : List Lf.F) (g : Lf.G) (w : World) (hl : Lofts w v ls) : Calls Try.prog 52 #[v, gdV g] w fun e w' => e = .returned (.tuple #[.int .i64 (dyR ls g : Nat), .bool (decide (0 < dyR ls g)), .int .i64 (dyE ls g)]) ∧ Below w.heap.size w w' := by
  have HX := Lib.hid (And.intro ((BlockAt.new w (gdA g) GoodT).alloc (.cells (gdA g) GoodT)) (below_alloc2 (below_alloc2 (Below.refl w.heap.size w) (.cells (gdA g) GoodT)) (.cells (gdA g) GoodT)))
  have hG := BlockAt.new (w.alloc (.cells (gdA g) GoodT)) (gdA g) GoodT
  simp only [World.size_alloc] at hG
  have CB := Lib.hid (rboth_any v _ ls [g] _ (hl.all HX.out.2) (goods_one hG))
  have CS := Lib.hid (fun W (hW : Below w.heap.size w W) h1 h2 h3 => rdays_any v ls g W (hl.all hW) h1 h2 h3)
  obtain ⟨va, vc, rfl⟩ := hl.form
  have HG0 := Lib.hid (BlockAt.new w (gdA g) GoodT)
  have HDR : Hid (dyR ls g = if dyE ls g = 0 then Lf.dyN ls g else 0) := Lib.hid rfl
  have HOK := Lib.hid (fun h => dy_ok (ls := ls) (g := g) h)
  have HDE : Hid (dyE ls g = Lf.bthE ls [g]) := Lib.hid rfl
  clear hl hG
  by_cases hz : Lf.bthE ls [g] = 0
  case neg =>
    have e1 : dyR ls g = 0 := by rw [HDR.out, HDE.out, if_neg hz]
    rw [e1, HDE.out]
    generalize Lf.bthE ls [g] = E at *
    have hd : (E == 0) = false := beq_eq_false_iff_ne.2 hz
    have hd2 : (E != 0) = true := by rw [bne, hd]; rfl
    clear hz CS HDR HDE HOK e1
    obtain ⟨gp, gn, gm, ga, gu⟩ := g
    have y0 : World.cell? _ _ = some (.int .i64 gp) := HG0.out.cell 0
    have y1 : World.cell? _ _ = some (.int .i64 gn) := HG0.out.cell 1
    have y2 : World.cell? _ _ = some (.int .i64 gm) := HG0.out.cell 2
    have y3 : World.cell? _ _ = some (.int .i64 ga) := HG0.out.cell 3
    have y4 : World.cell? _ _ = some (.int .i64 gu) := HG0.out.cell 4
    go_enter Try.func52, Try.ntmps52
    go_wp2_with fail
    refine CB.out.mono ?_
    rintro e w1 ⟨rfl, hb1⟩
    have H1 := Lib.hid (below_step HX.out.2 hb1)
    clear hb1 CB y0 y1 y2 y3 y4
    go_wp2
    refine bodyPost_ret (results_tmp3 rfl _ _ _) rfl ?_
    exact ⟨rfl, H1.out⟩
  have e1 : dyR ls g = Lf.dyN ls g := by rw [HDR.out, HDE.out, if_pos hz]
  rw [e1, HDE.out, hz]
  rw [hz] at CB
  obtain ⟨h1, h2, h3⟩ := HOK.out hz
  have CS1 := Lib.hid (fun W hW => CS.out W hW h1 h2 h3)
  have hD12 := Lf.dyk_le ls g ls.length
  have hD12 : Lf.dyN ls g ≤ 12 := hD12
  generalize Lf.dyN ls g = D at *
  clear hz CS HDR HDE HOK e1 h1 h2 h3
  obtain ⟨gp, gn, gm, ga, gu⟩ := g
  have y0 : World.cell? _ _ = some (.int .i64 gp) := HG0.out.cell 0
  have y1 : World.cell? _ _ = some (.int .i64 gn) := HG0.out.cell 1
  have y2 : World.cell? _ _ = some (.int .i64 gm) := HG0.out.cell 2
  have y3 : World.cell? _ _ = some (.int .i64 ga) := HG0.out.cell 3
  have y4 : World.cell? _ _ = some (.int .i64 gu) := HG0.out.cell 4
  go_enter Try.func52, Try.ntmps52
  go_wp2_with fail
  refine CB.out.mono ?_
  rintro e w1 ⟨rfl, hb1⟩
  have H1 := Lib.hid (And.intro (HX.out.1.below hb1 HX.out.1.lt) (below_step HX.out.2 hb1))
  clear hb1 CB y0 y1 y2 y3 y4
  have y0 : World.cell? _ _ = some (.int .i64 gp) := H1.out.1.cell 0
  have y1 : World.cell? _ _ = some (.int .i64 gn) := H1.out.1.cell 1
  have y2 : World.cell? _ _ = some (.int .i64 gm) := H1.out.1.cell 2
  have y3 : World.cell? _ _ = some (.int .i64 ga) := H1.out.1.cell 3
  have y4 : World.cell? _ _ = some (.int .i64 gu) := H1.out.1.cell 4
  go_wp2_with fail
  refine (CS1.out _ H1.out.2).mono ?_
  rintro e w2 ⟨rfl, hb1⟩
  have H2 := Lib.hid (below_step H1.out.2 hb1)
  clear hb1 y0 y1 y2 y3 y4
  go_wp2
  refine bodyPost_ret (results_tmp3 rfl _ _ _) rfl ?_
  exact ⟨by simp, H2.out⟩
end Go.Proofs.Ytabfcnfddemblaa.Lo
