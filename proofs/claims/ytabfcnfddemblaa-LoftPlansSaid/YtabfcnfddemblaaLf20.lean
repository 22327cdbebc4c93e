/- Which goods are valid: of the program and of the reference. -/
import Derived.Test.YtabfcnfddemblaaLfS
import Derived.Test.YtabfcnfddemblaaLfMa
namespace Go.Proofs.Ytabfcnfddemblaa.Lo
open Go.RowKit

theorem okG_def (g : Lf.G) : Lf.okG g = (Lf.rng 1 40 g.p && (Lf.isRp g.n g.m && (Lf.rng 0 60 g.a && Lf.rng g.a 60 g.u))) := rfl
set_option maxRecDepth 100000 in
set_option maxHeartbeats 2000000 in
theorem isGoods_any (g : Lf.G) (w : World) : Calls Try.prog 83 #[gdV g] w fun e w' => e = .returned (.bool (Lf.okG g)) ∧ Below w.heap.size w w' := by
  have HW := Lib.hid (below_alloc2 (Below.refl w.heap.size w) (.cells (gdA g) GoodT))
  have HB := Lib.hid (BlockAt.new w (gdA g) GoodT)
  have x0 : World.cell? _ _ = some (.int .i64 g.p) := HB.out.cell 0
  have x1 : World.cell? _ _ = some (.int .i64 g.n) := HB.out.cell 1
  have x2 : World.cell? _ _ = some (.int .i64 g.m) := HB.out.cell 2
  have x3 : World.cell? _ _ = some (.int .i64 g.a) := HB.out.cell 3
  have x4 : World.cell? _ _ = some (.int .i64 g.u) := HB.out.cell 4
  have HV := Lib.hid (okG_def g)
  generalize Lf.okG g = E at *
  obtain ⟨p, n, m, a, u⟩ := g
  dsimp only at *
  have C0 := Lib.hid (fun W => isFrom_any 1 40 p W)
  have C1 := Lib.hid (fun W => isRipe_any n m W)
  have C2 := Lib.hid (fun W => isFrom_any 0 60 a W)
  have C3 := Lib.hid (fun W => isFrom_any a 60 u W)
  cases k0 : Lf.rng 1 40 p
  · rw [k0] at C0 HV
    clear k0 C1 C2 C3
    go_enter Try.func83, Try.ntmps83
    go_wp2_with fail
    refine (C0.out _).mono ?_
    rintro e w1 ⟨rfl, rfl⟩
    go_wp2
    go_ret
    exact ⟨by rw [HV.out] <;> rfl, HW.out⟩
  · rw [k0] at C0 HV
    clear k0
    cases k1 : Lf.isRp n m
    · rw [k1] at C1 HV
      clear k1 C2 C3
      go_enter Try.func83, Try.ntmps83
      go_wp2_with fail
      refine (C0.out _).mono ?_
      rintro e w1 ⟨rfl, rfl⟩
      go_wp2_with fail
      refine (C1.out _).mono ?_
      rintro e w1 ⟨rfl, rfl⟩
      go_wp2
      go_ret
      exact ⟨by rw [HV.out] <;> rfl, HW.out⟩
    · rw [k1] at C1 HV
      clear k1
      cases k2 : Lf.rng 0 60 a
      · rw [k2] at C2 HV
        clear k2 C3
        go_enter Try.func83, Try.ntmps83
        go_wp2_with fail
        refine (C0.out _).mono ?_
        rintro e w1 ⟨rfl, rfl⟩
        go_wp2_with fail
        refine (C1.out _).mono ?_
        rintro e w1 ⟨rfl, rfl⟩
        go_wp2_with fail
        refine (C2.out _).mono ?_
        rintro e w1 ⟨rfl, rfl⟩
        go_wp2
        go_ret
        exact ⟨by rw [HV.out] <;> rfl, HW.out⟩
      · rw [k2] at C2 HV
        clear k2
        generalize Lf.rng a 60 u = r4 at *
        go_enter Try.func83, Try.ntmps83
        go_wp2_with fail
        refine (C0.out _).mono ?_
        rintro e w1 ⟨rfl, rfl⟩
        go_wp2_with fail
        refine (C1.out _).mono ?_
        rintro e w1 ⟨rfl, rfl⟩
        go_wp2_with fail
        refine (C2.out _).mono ?_
        rintro e w1 ⟨rfl, rfl⟩
        go_wp2_with fail
        refine (C3.out _).mono ?_
        rintro e w1 ⟨rfl, rfl⟩
        go_wp2
        go_ret
        exact ⟨by rw [HV.out] <;> rfl, HW.out⟩
set_option maxRecDepth 100000 in
set_option maxHeartbeats 1000000 in
theorem valGoods_any (v : Value) (l : List Lf.G) (w : World) (hl : Goods w v l) : Calls Try.prog 44 #[v] w fun e w' => e = .returned (.int .i64 (Lf.valG l)) ∧ Below w.heap.size w w' := by
  obtain ⟨ao, c, rfl, _, hlk⟩ := hl
  have HK := Lib.hid hlk
  have hw0 := Lib.hid (Below.refl w.heap.size w)
  have FV := Lib.hid (fun h W => isGoods_any h W)
  clear hlk
  by_cases h8 : 8 < l.length
  · have HE := Lib.hid (Lf.valG_long h8)
    generalize Lf.valG l = E at *
    go_enter Try.func44, Try.ntmps44
    go_wp2
    go_ret
    exact ⟨ret_int HE.out.symm, hw0.out⟩
  have hd8 : decide (8 < (l.length : Int)) = false := decide_eq_false (by omega)
  have HBad := Lib.hid (fun k (hk : k < l.length) h => Lf.valG_bad h8 hk h)
  have HOk := Lib.hid (fun h => Lf.valG_ok h8 h)
  generalize Lf.valG l = E at *
  go_enter Try.func44, Try.ntmps44
  go_wp2
  go_loopw [10] (fun t wr => ∃ k : Nat, k ≤ l.length ∧ t = .int .i64 k ∧ Hid ((∀ j (hj : j < l.length), j < k → Lf.okG l[j] = true) ∧ Below w.heap.size w wr)) (fun t _ => l.length - (intOf t).toNat)
  case atStart => exact ⟨0, Nat.zero_le _, rfl, Lib.hid ⟨fun j _ h => absurd h (Nat.not_lt_zero _), hw0.out⟩⟩
  case round =>
    obtain ⟨k, hk, rfl, hg⟩ := hrel
    clear hw0
    by_cases hlt : k < l.length
    · obtain ⟨b, off, rfl, hb, hr⟩ := HK.out k hlt
      obtain ⟨c0, c1, c2, c3, c4⟩ := gd_at (hr.below hg.out.2 hb)
      have HB1 := Lib.hid (HBad.out k hlt)
      have HI : Hid (Lf.okG l[k] = true → ∀ j (hj : j < l.length), j < k + 1 → Lf.okG l[j] = true) := Lib.hid fun h j hj hjk => by
        by_cases e : j = k
        · subst e; exact h
        · exact hg.out.1 j hj (by omega)
      have HG := Lib.hid (below_alloc2 hg.out.2 (.cells (gdA l[k]) GoodT))
      have CV := Lib.hid (fun W => FV.out l[k] W)
      clear hg hr HBad FV
      generalize hV : Lf.okG l[k] = o at *
      clear hV
      generalize l[k] = a at *
      obtain ⟨p, n, m, a2, u⟩ := a
      dsimp only at *
      cases o
      · have HE := Lib.hid (HB1.out rfl)
        clear HI HB1
        go_wp2_with fail
        refine (CV.out _).mono ?_
        rintro e w7 ⟨rfl, hb1⟩
        have HN := Lib.hid (below_step HG.out hb1)
        clear hb1 c0 c1 c2 c3 c4
        go_wp2
        go_ret
        exact ⟨ret_int HE.out.symm, HN.out⟩
      · have HI2 := Lib.hid (HI.out rfl)
        clear HB1 HI
        go_wp2_with fail
        refine (CV.out _).mono ?_
        rintro e w7 ⟨rfl, hb1⟩
        have HN := Lib.hid (below_step HG.out hb1)
        clear hb1 c0 c1 c2 c3 c4
        go_wp2
        go_roundw
        case rel => exact ⟨k + 1, by omega, by go_num, Lib.hid ⟨HI2.out, HN.out⟩⟩
        case measure => simp [intOf]; omega
    · obtain rfl : k = l.length := by omega
      have HE := Lib.hid (HOk.out fun j hj => hg.out.1 j hj hj)
      have HG := Lib.hid hg.out.2
      clear hg
      go_wp2
      go_ret
      exact ⟨ret_int HE.out.symm, HG.out⟩
set_option maxRecDepth 100000 in
theorem both_any (u v : Value) (ls : List Lf.F) (gs : List Lf.G) (w : World) (hu : Lofts w u ls) (hv : Goods w v gs) : Calls Try.prog 84 #[u, v] w fun e w' => e = .returned (.int .i64 (Lf.bthE ls gs)) ∧ Below w.heap.size w w' := by
  have C1 := Lib.hid (valLofts_any u ls w hu)
  have C2 := Lib.hid (fun W (hW : Below w.heap.size w W) => valGoods_any v gs W (hv.all hW))
  have HE : Hid (Lf.bthE ls gs = if Lf.valF ls = 0 then Lf.valG gs else Lf.valF ls) := Lib.hid rfl
  obtain ⟨ua, uc, rfl⟩ := hu.form
  obtain ⟨va, vc, rfl⟩ := hv.form
  clear hu hv
  generalize Lf.bthE ls gs = E at *
  by_cases hz : Lf.valF ls = 0
  · have e1 := HE.out.trans (if_pos hz)
    subst e1
    rw [hz] at C1
    generalize Lf.valG gs = G at *
    clear hz HE
    go_enter Try.func84, Try.ntmps84
    go_wp2_with fail
    refine C1.out.mono ?_
    rintro e w1 ⟨rfl, hb1⟩
    have H1 := Lib.hid hb1
    clear hb1 C1
    go_wp2_with fail
    refine (C2.out _ H1.out).mono ?_
    rintro e w2 ⟨rfl, hb1⟩
    have H2 := Lib.hid (below_step H1.out hb1)
    clear hb1
    go_wp2
    go_ret
    exact ⟨rfl, H2.out⟩
  · have e1 := HE.out.trans (if_neg hz)
    subst e1
    generalize Lf.valF ls = F at *
    have hd : (F == 0) = false := beq_eq_false_iff_ne.2 hz
    have hd2 : (F != 0) = true := by rw [bne, hd]; rfl
    clear hz HE C2
    go_enter Try.func84, Try.ntmps84
    go_wp2_with fail
    refine C1.out.mono ?_
    rintro e w1 ⟨rfl, hb1⟩
    have H1 := Lib.hid hb1
    clear hb1 C1
    go_wp2
    go_ret
    exact ⟨rfl, H1.out⟩
theorem infoStay : (Try.prog.info? 155).map (fun i => (i.zero, i.size, i.bytes)) = some (some (.agg #[.int .i64 0, .int .i64 0, .int .i64 0, .int .i64 0, .int .i64 0, .int .i64 0]), 6, 48) := by kernel_rfl
abbrev StT : TypeId := 155
abbrev stV (g : Lf.G) (d : Nat) : Value := .agg #[.int .i64 g.p, .int .i64 g.n, .int .i64 g.m, .int .i64 g.a, .int .i64 g.u, .int .i64 (d : Int)]
abbrev stA (g : Lf.G) (d : Nat) : Array Value := #[.int .i64 g.p, .int .i64 g.n, .int .i64 g.m, .int .i64 g.a, .int .i64 g.u, .int .i64 (d : Int)]
abbrev stZ : Array Value := #[.int .i64 0, .int .i64 0, .int .i64 0, .int .i64 0, .int .i64 0, .int .i64 0]
theorem dyk_succ (ls : List Lf.F) (g : Lf.G) {k : Nat} (h : k < ls.length) : Lf.dyk ls g (k + 1) = Lf.dst g (Lf.dyk ls g k) ls[k] := by
  rw [Lf.dyk, show ls.getD k default = ls[k] by simp [h]]
theorem dst_no {g : Lf.G} {s : Nat} {f : Lf.F} (h : ¬ (0 < Lf.dN f.rs g.n g.m ∧ g.p ≤ f.p ∧ (s = 0 ∨ Lf.dN f.rs g.n g.m < s))) : Lf.dst g s f = s := if_neg h
theorem dst_yes {g : Lf.G} {s : Nat} {f : Lf.F} (h : 0 < Lf.dN f.rs g.n g.m ∧ g.p ≤ f.p ∧ (s = 0 ∨ Lf.dN f.rs g.n g.m < s)) : Lf.dst g s f = Lf.dN f.rs g.n g.m := if_pos h
/-- What lies in memory while the fewest days are found. -/
def SyS (w : World) (g : Lf.G) (d : Nat) (wr : World) : Prop :=
  BlockAt wr w.heap.size (gdA g) GoodT ∧ BlockAt wr (w.heap.size + 1) stZ StT ∧ BlockAt wr (w.heap.size + 1 + 1) (stA g d) StT ∧ Below w.heap.size w wr
theorem SyS.below {w wr w2 : World} {g : Lf.G} {d : Nat} (h : SyS w g d wr) (hb : Below wr.heap.size wr w2) : SyS w g d w2 :=
  ⟨h.1.below hb h.1.lt, h.2.1.below hb h.2.1.lt, h.2.2.1.below hb h.2.2.1.lt, below_step h.2.2.2 hb⟩
theorem SyS.set {w wr : World} {g : Lf.G} {d : Nat} (h : SyS w g d wr) (d2 : Nat) : SyS w g d2 (wr.setCell ⟨w.heap.size + 1 + 1, 5, none⟩ (.int .i64 (d2 : Int))) :=
  ⟨h.1.other (by omega) _, h.2.1.other (by omega) _, h.2.2.1.set 5 _, below_set h.2.2.2 (by omega) _⟩
set_option maxRecDepth 100000 in
set_option maxHeartbeats 8000000 in
theorem stayOf_any (v : Value) (ls : List Lf.F) (g : Lf.G) (w : World) (hl : Lofts w v ls) (hF : ∀ k (hk : k < ls.length), Lf.okF ls[k] = true) (h3 : ls.length ≤ 3) (hg : Lf.isRp g.n g.m = true) :
    Calls Try.prog 102 #[v, gdV g] w fun e w' => e = .returned (stV g (Lf.dyN ls g)) ∧ Below w.heap.size w w' := by
  obtain ⟨ao, c, rfl, _, hlk⟩ := hl
  have HK := Lib.hid hlk
  have HP := Lib.hid (fun (k : Nat) (hk : k < ls.length) (u : Value) (W : World) (hu : Ints W u (ls[k]'hk).rs) => program_any (ls[k]'hk).p u (ls[k]'hk).rs g.n g.m W hu (Lf.okF_iff.1 (hF k hk)).2.1 (Lf.okRt_bd (Lf.okF_iff.1 (hF k hk)).2.2) hg)
  have HPL := Lib.hid (fun (k : Nat) (hk : k < ls.length) => Lf.prg_len ls[k].rs g.n g.m)
  have HDN := Lib.hid (fun (k : Nat) (hk : k < ls.length) => Lf.dN_le ls[k].rs g.n g.m)
  have HD := Lib.hid (fun k (hk : k < ls.length) => dyk_succ ls g hk)
  have HNO := Lib.hid (fun (k : Nat) (hk : k < ls.length) (s : Nat) => dst_no (g := g) (s := s) (f := ls[k]))
  have HYE := Lib.hid (fun (k : Nat) (hk : k < ls.length) (s : Nat) => dst_yes (g := g) (s := s) (f := ls[k]))
  have H0 : Hid (Lf.dyk ls g 0 = 0) := Lib.hid rfl
  have HZ := Lib.hid (show SyS w g 0 (((w.alloc (.cells (gdA g) GoodT)).alloc (.cells stZ StT)).alloc (.cells (stA g 0) StT)) from
    ⟨((BlockAt.new w (gdA g) GoodT).alloc _).alloc _, by have := (BlockAt.new (w.alloc (.cells (gdA g) GoodT)) stZ StT).alloc (.cells (stA g 0) StT); simpa using this,
     by have := BlockAt.new ((w.alloc (.cells (gdA g) GoodT)).alloc (.cells stZ StT)) (stA g 0) StT; simpa using this, below_alloc2 (below_alloc2 (below_alloc2 (Below.refl w.heap.size w) _) _) _⟩)
  obtain ⟨E, hE⟩ : ∃ E, E = Lf.dyN ls g := ⟨_, rfl⟩
  rw [← hE]
  have HE : Hid (E = Lf.dyk ls g ls.length) := Lib.hid hE
  clear hlk hF hg hE
  obtain ⟨gp, gn, gm, ga, gu⟩ := g
  dsimp only at *
  have x0 : World.cell? ((((w.alloc (.cells (gdA ⟨gp, gn, gm, ga, gu⟩) GoodT)))).alloc (.cells stZ StT)) ⟨w.heap.size, 0, none⟩ = some (.int .i64 gp) := ((BlockAt.new w (gdA ⟨gp, gn, gm, ga, gu⟩) GoodT).alloc _).cell 0
  have x1 : World.cell? ((((w.alloc (.cells (gdA ⟨gp, gn, gm, ga, gu⟩) GoodT)))).alloc (.cells stZ StT)) ⟨w.heap.size, 1, none⟩ = some (.int .i64 gn) := ((BlockAt.new w (gdA ⟨gp, gn, gm, ga, gu⟩) GoodT).alloc _).cell 1
  have x2 : World.cell? ((((w.alloc (.cells (gdA ⟨gp, gn, gm, ga, gu⟩) GoodT)))).alloc (.cells stZ StT)) ⟨w.heap.size, 2, none⟩ = some (.int .i64 gm) := ((BlockAt.new w (gdA ⟨gp, gn, gm, ga, gu⟩) GoodT).alloc _).cell 2
  have x3 : World.cell? ((((w.alloc (.cells (gdA ⟨gp, gn, gm, ga, gu⟩) GoodT)))).alloc (.cells stZ StT)) ⟨w.heap.size, 3, none⟩ = some (.int .i64 ga) := ((BlockAt.new w (gdA ⟨gp, gn, gm, ga, gu⟩) GoodT).alloc _).cell 3
  have x4 : World.cell? ((((w.alloc (.cells (gdA ⟨gp, gn, gm, ga, gu⟩) GoodT)))).alloc (.cells stZ StT)) ⟨w.heap.size, 4, none⟩ = some (.int .i64 gu) := ((BlockAt.new w (gdA ⟨gp, gn, gm, ga, gu⟩) GoodT).alloc _).cell 4
  go_enter Try.func102, Try.ntmps102
  go_wp2
  clear x0 x1 x2 x3 x4
  go_loopw [14] (fun t wr => ∃ (k d : Nat), k ≤ ls.length ∧ t = .int .i64 k ∧ d ≤ 12 ∧ Hid (d = Lf.dyk ls ⟨gp, gn, gm, ga, gu⟩ k ∧ SyS w ⟨gp, gn, gm, ga, gu⟩ d wr)) (fun t _ => ls.length - (intOf t).toNat)
  case atStart => exact ⟨0, 0, Nat.zero_le _, rfl, by omega, Lib.hid ⟨H0.out.symm, HZ.out⟩⟩
  case round =>
    obtain ⟨k, d, hk, rfl, hd12, hg⟩ := hrel
    clear HZ H0
    by_cases hlt : k < ls.length
    · obtain ⟨b, off, rfl, hb, hr⟩ := HK.out k hlt
      obtain ⟨v, ⟨c0, c1⟩, hI⟩ := hr.all hg.out.2.2.2.2 hb
      have HX := Lib.hid (below_alloc2 (Below.refl wr.heap.size wr) (.cells (loftA ls[k].p v) LoftT))
      have HSy := Lib.hid (hg.out.2.below HX.out)
      have CP := Lib.hid (HP.out k hlt v _ (hI.all HX.out))
      have hpl := HPL.out k hlt
      have hdn := HDN.out k hlt
      have HDk := HD.out k hlt
      rw [← hg.out.1] at HDk
      have HN := Lib.hid (HNO.out k hlt d)
      have HY := Lib.hid (HYE.out k hlt d)
      obtain ⟨d2, hd2⟩ : ∃ d2, d2 = Lf.dyk ls ⟨gp, gn, gm, ga, gu⟩ (k + 1) := ⟨_, rfl⟩
      rw [← hd2] at HDk
      rw [← HDk] at HN HY
      have HD2 := Lib.hid hd2
      rw [hpl] at CP
      have HFB := Lib.hid (BlockAt.new wr (loftA ls[k].p v) LoftT)
      obtain ⟨va, vc, rfl⟩ := hI.form
      clear hr hI hg HDk hd2 hpl
      generalize Lf.prg ls[k].rs gn gm = P at *
      generalize Lf.dN ls[k].rs gn gm = D at *
      generalize ls[k] = f at *
      obtain ⟨fp, fr⟩ := f
      dsimp only at c0 c1
      have y0 : World.cell? _ _ = some (.int .i64 gp) := HSy.out.1.cell 0
      have y1 : World.cell? _ _ = some (.int .i64 gn) := HSy.out.1.cell 1
      have y2 : World.cell? _ _ = some (.int .i64 gm) := HSy.out.1.cell 2
      have hsz := HSy.out.2.2.2.size
      have h2 := HSy.out.2.2.1.lt
      go_wp2_with fail
      refine CP.out.mono ?_
      rintro e w7 ⟨a9, c9, rfl, _, hb1⟩
      have HS1 := Lib.hid (HSy.out.below hb1)
      have HF1 := Lib.hid (HFB.out.below hb1 HFB.out.lt)
      clear hb1 HSy HFB CP c0 c1 y0 y1 y2 h2 HX
      have y0 : World.cell? _ _ = some (.int .i64 gp) := HS1.out.1.cell 0
      have z5 : World.cell? _ _ = some (.int .i64 (d : Int)) := HS1.out.2.2.1.cell 5
      have zf := HS1.out.2.2.1.frozen 5
      have u0 : World.cell? _ _ = some (.int .i64 fp) := HF1.out.cell 0
      have h2 := HS1.out.2.2.1.lt
      by_cases q1 : 0 < D
      case neg =>
        have HEQ := Lib.hid (HN.out fun h => q1 h.1)
        have q2 : decide (0 < D) = false := decide_eq_false q1
        clear HN HY
        rw [q2]
        go_wp2
        go_roundw
        case rel => exact ⟨k + 1, d, by omega, by go_num, hd12, Lib.hid ⟨HEQ.out.symm.trans HD2.out, HS1.out⟩⟩
        case measure => simp [intOf]; omega
      have q2 : decide (0 < D) = true := decide_eq_true q1
      rw [q2]
      by_cases q3 : gp ≤ fp
      case neg =>
        have HEQ := Lib.hid (HN.out fun h => q3 h.2.1)
        clear HN HY
        go_wp2
        go_roundw
        case rel => exact ⟨k + 1, d, by omega, by go_num, hd12, Lib.hid ⟨HEQ.out.symm.trans HD2.out, HS1.out⟩⟩
        case measure => simp [intOf]; omega
      by_cases q4 : d = 0
      · have HEQ := Lib.hid (HY.out ⟨q1, q3, .inl q4⟩)
        have HS2 := Lib.hid (HS1.out.set D)
        have HD3 := Lib.hid (HEQ.out.symm.trans HD2.out)
        clear HN HY HEQ
        have z5' : World.cell? w7 ⟨w.heap.size + 1 + 1, 5, none⟩ = some (.int .i64 0) := by rw [z5, q4]; rfl
        clear z5 HS1
        go_wp2
        go_roundw
        case rel => exact ⟨k + 1, D, by omega, by go_num, hdn, Lib.hid ⟨HD3.out, HS2.out⟩⟩
        case measure => simp [intOf]; omega
      have q5 : ((d : Int) == 0) = false := beq_eq_false_iff_ne.2 (by omega)
      have q6 : decide ((d : Int) = 0) = false := decide_eq_false (by omega)
      have q7 : decide (d = 0) = false := decide_eq_false q4
      by_cases q8 : D < d
      · have HEQ := Lib.hid (HY.out ⟨q1, q3, .inr q8⟩)
        have HS2 := Lib.hid (HS1.out.set D)
        have HD3 := Lib.hid (HEQ.out.symm.trans HD2.out)
        clear HN HY HEQ HS1
        go_wp2
        go_roundw
        case rel => exact ⟨k + 1, D, by omega, by go_num, hdn, Lib.hid ⟨HD3.out, HS2.out⟩⟩
        case measure => simp [intOf]; omega
      · have HEQ := Lib.hid (HN.out fun h => by rcases h.2.2 with h | h; exact q4 h; exact q8 h)
        clear HN HY
        go_wp2
        go_roundw
        case rel => exact ⟨k + 1, d, by omega, by go_num, hd12, Lib.hid ⟨HEQ.out.symm.trans HD2.out, HS1.out⟩⟩
        case measure => simp [intOf]; omega
    · obtain rfl : k = ls.length := by omega
      have HDE : Hid (d = E) := Lib.hid (by rw [HE.out]; exact hg.out.1)
      have HS := Lib.hid hg.out.2
      clear hg
      have z0 : World.cell? _ _ = some (.int .i64 gp) := HS.out.2.2.1.cell 0
      have z1 : World.cell? _ _ = some (.int .i64 gn) := HS.out.2.2.1.cell 1
      have z2 : World.cell? _ _ = some (.int .i64 gm) := HS.out.2.2.1.cell 2
      have z3 : World.cell? _ _ = some (.int .i64 ga) := HS.out.2.2.1.cell 3
      have z4 : World.cell? _ _ = some (.int .i64 gu) := HS.out.2.2.1.cell 4
      have z5 : World.cell? _ _ = some (.int .i64 (d : Int)) := HS.out.2.2.1.cell 5
      have t0 : World.cell? _ _ = some (.int .i64 0) := HS.out.2.1.cell 0
      have t1 : World.cell? _ _ = some (.int .i64 0) := HS.out.2.1.cell 1
      have t2 : World.cell? _ _ = some (.int .i64 0) := HS.out.2.1.cell 2
      have t3 : World.cell? _ _ = some (.int .i64 0) := HS.out.2.1.cell 3
      have t4 : World.cell? _ _ = some (.int .i64 0) := HS.out.2.1.cell 4
      have t5 : World.cell? _ _ = some (.int .i64 0) := HS.out.2.1.cell 5
      have r0 := HS.out.2.1.frozen 0
      have r1 := HS.out.2.1.frozen 1
      have r2 := HS.out.2.1.frozen 2
      have r3 := HS.out.2.1.frozen 3
      have r4 := HS.out.2.1.frozen 4
      have r5 := HS.out.2.1.frozen 5
      have hlt1 := HS.out.2.1.lt
      have hlt2 := HS.out.2.2.1.lt
      go_wp2
      have HR := Lib.hid ((((((HS.out.2.1.set 0 (.int .i64 gp)).set 1 (.int .i64 gn)).set 2 (.int .i64 gm)).set 3 (.int .i64 ga)).set 4 (.int .i64 gu)).set 5 (.int .i64 (d : Int)))
      have v0 : World.cell? _ _ = some (.int .i64 gp) := HR.out.cell 0
      have v1 : World.cell? _ _ = some (.int .i64 gn) := HR.out.cell 1
      have v2 : World.cell? _ _ = some (.int .i64 gm) := HR.out.cell 2
      have v3 : World.cell? _ _ = some (.int .i64 ga) := HR.out.cell 3
      have v4 : World.cell? _ _ = some (.int .i64 gu) := HR.out.cell 4
      have v5 : World.cell? _ _ = some (.int .i64 (d : Int)) := HR.out.cell 5
      have hlr := HR.out.lt
      refine bodyPost_ret (v := stV ⟨gp, gn, gm, ga, gu⟩ d) (by simp [results, Try.results102, go_sem, v0, v1, v2, v3, v4, v5]) rfl ⟨by rw [HDE.out], ?_⟩
      exact below_set (below_set (below_set (below_set (below_set (below_set HS.out.2.2.2 (by omega) _) (by omega) _) (by omega) _) (by omega) _) (by omega) _) (by omega) _
theorem goods_one {W : World} {B : Nat} {g : Lf.G} (hB : BlockAt W B (gdA g) GoodT) : Goods W (.slice (some ⟨B, 0, none⟩) 1 1) [g] := RowsOf.laid (n := 1) gdC_len hB rfl rfl
theorem fldD (a b c d e f : Value) (w : World) : (Instr.field 155 (.agg #[a, b, c, d, e, f]) 1).run Try.prog w = .ok f w := by kernel_rfl
def dyE (ls : List Lf.F) (g : Lf.G) : Int := Lf.bthE ls [g]
def dyR (ls : List Lf.F) (g : Lf.G) : Nat := if dyE ls g = 0 then Lf.dyN ls g else 0
theorem dy_ok {ls : List Lf.F} {g : Lf.G} (h : Lf.bthE ls [g] = 0) : (∀ k (hk : k < ls.length), Lf.okF ls[k] = true) ∧ ls.length ≤ 3 ∧ Lf.isRp g.n g.m = true := by
  obtain ⟨h1, h2⟩ := Lf.bth_zero h
  obtain ⟨h3, h4⟩ := Lf.valF_zero h1
  have h5 := Lf.okG_iff.1 (Lf.valG_one.1 h2)
  exact ⟨h4, h3.2, Lf.isRp_iff.2 h5.2.1⟩
set_option maxRecDepth 100000 in
set_option maxHeartbeats 2000000 in
theorem daysF_any (v : Value) (ls : List Lf.F) (g : Lf.G) (w : World) (hl : Lofts w v ls) : Calls Try.prog 51 #[v, gdV g] w fun e w' => e = .returned (.tuple #[.int .i64 (dyR ls g : Nat), .bool (decide (0 < dyR ls g)), .int .i64 (dyE ls g)]) ∧ Below w.heap.size w w' := by
  have HX := Lib.hid (And.intro ((BlockAt.new w (gdA g) GoodT).alloc (.cells (gdA g) GoodT)) (below_alloc2 (below_alloc2 (Below.refl w.heap.size w) (.cells (gdA g) GoodT)) (.cells (gdA g) GoodT)))
  have hG := BlockAt.new (w.alloc (.cells (gdA g) GoodT)) (gdA g) GoodT
  simp only [World.size_alloc] at hG
  have CB := Lib.hid (both_any v _ ls [g] _ (hl.all HX.out.2) (goods_one hG))
  have CS := Lib.hid (fun W (hW : Below w.heap.size w W) h1 h2 h3 => stayOf_any v ls g W (hl.all hW) h1 h2 h3)
  obtain ⟨va, vc, rfl⟩ := hl.form
  have HG0 := Lib.hid (BlockAt.new w (gdA g) GoodT)
  have HDR : Hid (dyR ls g = if dyE ls g = 0 then Lf.dyN ls g else 0) := Lib.hid rfl
  have HOK := Lib.hid (fun h => dy_ok (ls := ls) (g := g) h)
  have HDE : Hid (dyE ls g = Lf.bthE ls [g]) := Lib.hid rfl
  clear hl hG
  by_cases hz : Lf.bthE ls [g] = 0
  case neg =>
    have e1 : dyR ls g = 0 := by rw [HDR.out, HDE.out, if_neg hz]
    rw [e1, HDE.out]
    generalize Lf.bthE ls [g] = E at *
    have hd : (E == 0) = false := beq_eq_false_iff_ne.2 hz
    have hd2 : (E != 0) = true := by rw [bne, hd]; rfl
    clear hz CS HDR HDE HOK e1
    obtain ⟨gp, gn, gm, ga, gu⟩ := g
    have y0 : World.cell? _ _ = some (.int .i64 gp) := HG0.out.cell 0
    have y1 : World.cell? _ _ = some (.int .i64 gn) := HG0.out.cell 1
    have y2 : World.cell? _ _ = some (.int .i64 gm) := HG0.out.cell 2
    have y3 : World.cell? _ _ = some (.int .i64 ga) := HG0.out.cell 3
    have y4 : World.cell? _ _ = some (.int .i64 gu) := HG0.out.cell 4
    go_enter Try.func51, Try.ntmps51
    go_wp2_with fail
    refine CB.out.mono ?_
    rintro e w1 ⟨rfl, hb1⟩
    have H1 := Lib.hid (below_step HX.out.2 hb1)
    clear hb1 CB y0 y1 y2 y3 y4
    go_wp2
    refine bodyPost_ret (results_tmp3 rfl _ _ _) rfl ?_
    exact ⟨rfl, H1.out⟩
  have e1 : dyR ls g = Lf.dyN ls g := by rw [HDR.out, HDE.out, if_pos hz]
  rw [e1, HDE.out, hz]
  rw [hz] at CB
  obtain ⟨h1, h2, h3⟩ := HOK.out hz
  have CS1 := Lib.hid (fun W hW => CS.out W hW h1 h2 h3)
  have hD12 := Lf.dyk_le ls g ls.length
  have hD12 : Lf.dyN ls g ≤ 12 := hD12
  generalize Lf.dyN ls g = D at *
  clear hz CS HDR HDE HOK e1 h1 h2 h3
  obtain ⟨gp, gn, gm, ga, gu⟩ := g
  have y0 : World.cell? _ _ = some (.int .i64 gp) := HG0.out.cell 0
  have y1 : World.cell? _ _ = some (.int .i64 gn) := HG0.out.cell 1
  have y2 : World.cell? _ _ = some (.int .i64 gm) := HG0.out.cell 2
  have y3 : World.cell? _ _ = some (.int .i64 ga) := HG0.out.cell 3
  have y4 : World.cell? _ _ = some (.int .i64 gu) := HG0.out.cell 4
  go_enter Try.func51, Try.ntmps51
  go_wp2_with fail
  refine CB.out.mono ?_
  rintro e w1 ⟨rfl, hb1⟩
  have H1 := Lib.hid (And.intro (HX.out.1.below hb1 HX.out.1.lt) (below_step HX.out.2 hb1))
  clear hb1 CB y0 y1 y2 y3 y4
  have y0 : World.cell? _ _ = some (.int .i64 gp) := H1.out.1.cell 0
  have y1 : World.cell? _ _ = some (.int .i64 gn) := H1.out.1.cell 1
  have y2 : World.cell? _ _ = some (.int .i64 gm) := H1.out.1.cell 2
  have y3 : World.cell? _ _ = some (.int .i64 ga) := H1.out.1.cell 3
  have y4 : World.cell? _ _ = some (.int .i64 gu) := H1.out.1.cell 4
  go_wp2_with fail
  refine (CS1.out _ H1.out.2).mono ?_
  rintro e w2 ⟨rfl, hb1⟩
  have H2 := Lib.hid (below_step H1.out.2 hb1)
  clear hb1 y0 y1 y2 y3 y4
  have FD := fldD
  have hd12 : (D : Int) ≤ 12 := by omega
  go_wp2
  refine bodyPost_ret (results_tmp3 rfl _ _ _) rfl ?_
  exact ⟨by simp, H2.out⟩
end Go.Proofs.Ytabfcnfddemblaa.Lo
