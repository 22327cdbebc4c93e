/- The ripeness of a place and its range: of the program and of the reference. Ripeness and Range of the program and of the reference. Which lofts and heats are valid: of the program and of the reference. Which heats are valid, and their warmth: of the program and of the reference. -/
import Derived.Test.YtabfcnfddemblaaLf3
namespace Go.Proofs.Ytabfcnfddemblaa.Lo
open Go.RowKit

theorem rip_succ {l : List Lf.H} {p : Int} {k : Nat} (h : k < l.length) : Lf.rip l p (k + 1) = Lf.rip l p k + Lf.ri l[k] p := by
  rw [Lf.rip, show l.getD k default = l[k] by simp [h]]
theorem ri_def (h : Lf.H) (p : Int) : Lf.ri h p = h.y * (h.r - h.f * Lf.hgt h p) := rfl
/-- A hanging lies in a list. -/
def HgA (b o : Nat) (h : Lf.H) (W : World) : Prop :=
  (W.cell? ⟨b, o, none⟩ = some (.int .i64 h.d) ∧ W.cell? ⟨b, o + 1, none⟩ = some (.int .i64 h.s) ∧ W.cell? ⟨b, o + 2, none⟩ = some (.int .i64 h.y) ∧ W.cell? ⟨b, o + 3, none⟩ = some (.int .i64 h.r) ∧ W.cell? ⟨b, o + 4, none⟩ = some (.int .i64 h.f)) ∧ b < W.heap.size
theorem HgA.below {b o N : Nat} {h : Lf.H} {W W2 : World} (hh : HgA b o h W) (hb : Below N W W2) (hN : b < N) : HgA b o h W2 :=
  ⟨⟨(hb.cell (p := ⟨b, o, none⟩) hN).trans hh.1.1, (hb.cell (p := ⟨b, o + 1, none⟩) hN).trans hh.1.2.1, (hb.cell (p := ⟨b, o + 2, none⟩) hN).trans hh.1.2.2.1, (hb.cell (p := ⟨b, o + 3, none⟩) hN).trans hh.1.2.2.2.1, (hb.cell (p := ⟨b, o + 4, none⟩) hN).trans hh.1.2.2.2.2⟩, Nat.lt_of_lt_of_le hh.2 hb.size⟩
set_option maxRecDepth 100000 in
set_option maxHeartbeats 4000000 in
theorem ripe_any (v : Value) (l : List Lf.H) (p : Int) (w : World) (hl : Hangs w v l) (hv : ∀ k (hk : k < l.length), Lf.vH l[k] = true) (h8 : l.length ≤ 8) (hp : 0 ≤ p ∧ p ≤ 1000000) :
    Calls Try.prog 64 #[v, .int .i64 p] w fun e w' => e = .returned (.int .i64 (Lf.rip l p l.length)) ∧ Below w.heap.size w w' := by
  obtain ⟨ao, c, rfl, _, hlk⟩ := hl
  have HK := Lib.hid hlk
  have HV := Lib.hid hv
  have HP := Lib.hid hp
  have hw0 := Lib.hid (Below.refl w.heap.size w)
  have FH := Lib.hid (fun h W hv => height_any h p W hv hp)
  have HBD := Lib.hid (fun k hk => Lf.rip_bd hv p k hk)
  have HS := Lib.hid (fun k (hk : k < l.length) => rip_succ (p := p) hk)
  have HRB := Lib.hid (fun k (hk : k < l.length) => Lf.ri_bd (hv k hk) p)
  have HFB := Lib.hid (fun k (hk : k < l.length) => Lf.fh_bd (hv k hk) p)
  have H0 : Hid (Lf.rip l p 0 = 0) := Lib.hid rfl
  obtain ⟨E, hE⟩ : ∃ E, E = Lf.rip l p l.length := ⟨_, rfl⟩
  rw [← hE]
  have HE := Lib.hid hE
  clear hlk hv hp hE
  go_enter Try.func64, Try.ntmps64
  go_wp2
  go_loopw [5, 10] (fun s t wr => ∃ k : Nat, k ≤ l.length ∧ t = .int .i64 k ∧ ∃ x : Int, (0 ≤ x ∧ x ≤ 9600000) ∧ s = .int .i64 x ∧ Hid (x = Lf.rip l p k ∧ Below w.heap.size w wr)) (fun _ t _ => l.length - (intOf t).toNat)
  case atStart => exact ⟨0, Nat.zero_le _, rfl, 0, ⟨by omega, by omega⟩, rfl, Lib.hid ⟨H0.out.symm, hw0.out⟩⟩
  case round =>
    obtain ⟨k, hk, rfl, x, ⟨hx0, hx1⟩, rfl, hg⟩ := hrel
    clear hw0 H0
    by_cases hlt : k < l.length
    · obtain ⟨b, off, rfl, hb, hr⟩ := HK.out k hlt
      have hcs := hang_at (hr.below hg.out.2 hb)
      have hbw := Nat.lt_of_lt_of_le hb hg.out.2.size
      have FH1 := Lib.hid (fun W => FH.out l[k] W (HV.out k hlt))
      have hrb := HRB.out k hlt
      have hfb := HFB.out k hlt
      have hbd := HBD.out (k + 1) (by omega)
      have HS1 := HS.out k hlt
      have HV1 := Lf.vH_iff.1 (HV.out k hlt)
      have hri := ri_def l[k] p
      rw [← hg.out.1] at HS1
      obtain ⟨c0, c1, c2, c3, c4⟩ := hcs
      have HB1 := Lib.hid (And.intro (HgB.of (BlockAt.new wr (hangA l[k]) HangT).drew) (below_drewN (below_alloc2 hg.out.2 (.cells (hangA l[k]) HangT)) 1))
      clear hr hg FH HV HRB HFB HBD HS
      generalize Lf.ri l[k] p = R at *
      generalize hG : Lf.hgt l[k] p = G at *
      clear hG
      obtain ⟨x2, hx2⟩ : ∃ x2, x2 = Lf.rip l p (k + 1) := ⟨_, rfl⟩
      rw [← hx2] at HS1 hbd
      have HX2 := Lib.hid hx2
      clear hx2
      have hl8 : (k : Int) ≤ 7 := by omega
      generalize l[k] = a at *
      obtain ⟨hd, hs, hy, hr, hf⟩ := a
      dsimp only at *
      obtain ⟨_, _, ⟨y1, y2⟩, ⟨r1, r2⟩, _⟩ := HV1
      have HS2 := Lib.hid (show x2 = x + R from HS1)
      have hxb : 0 ≤ x2 ∧ x2 ≤ 9600000 := ⟨hbd.1, by omega⟩
      clear HS1 hbd
      generalize hF : hf * G = FG at *
      generalize hY : hy * (hr - FG) = YR at *
      subst hri
      have g1 : IntKind.i64.wrap FG = FG := IntWalk.i64_in _ ⟨by omega, by omega⟩
      have g2 : IntKind.i64.wrap (hr - FG) = hr - FG := IntWalk.i64_in _ ⟨by omega, by omega⟩
      have g3 : IntKind.i64.wrap R = R := IntWalk.i64_in _ ⟨by omega, by omega⟩
      have g4 : IntKind.i64.wrap (x + R) = x2 := by rw [← HS2.out]; exact IntWalk.i64_in _ ⟨by omega, by omega⟩
      go_upto_region 5 with fail
      refine wp_region_seq [(0, true), (1, true), (2, true), (3, true), (4, true), (5, true), (6, true), (7, true), (8, true), (9, false), (10, true), (11, true), (12, true), (13, true), (14, true)] (fun W => HgB wr.heap.size ⟨hd, hs, hy, hr, hf⟩ W)
        (by kernel_rfl) (by kernel_rfl) (by kernel_rfl) (by kernel_rfl) (fun d _ _ _ _ h => by cases d <;> exact h) HB1.out.1 (fun _ => ?_)
      repeat (first | (refine SeqH.take (v := ?_) rfl (by rfl) ?_ ?_; rotate_left; (· intro w hSw; (try dsimp only at hSw); obtain ⟨⟨a0, a1, a2, a3, a4⟩, _⟩ := hSw; go_simp; (try with_reducible rfl)); simp only [Act.put, List.setIfInBounds_toArray, List.set_cons_zero, List.set_cons_succ]) | (refine SeqH.skip rfl (by rfl) ?_; simp only [Act.put, List.setIfInBounds_toArray, List.set_cons_zero, List.set_cons_succ]))
      refine SeqH.step rfl (by rfl) (fun K hK => ?_)
      go_simp
      go_at_call 61
      refine (FH1.out _).mono ?_
      rintro e w7 ⟨rfl, hb1⟩
      try dsimp only
      have HN := Lib.hid (below_step HB1.out.2 hb1)
      refine hK.out _ _ (HB1.out.1.below hb1 HB1.out.1.2) (fun _ => ?_)
      clear hK K
      try simp only [Act.put, List.setIfInBounds_toArray, List.set_cons_zero, List.set_cons_succ]
      clear hb1
      repeat (first | (refine SeqH.take (v := ?_) rfl (by rfl) ?_ ?_; rotate_left; (· intro w hSw; (try dsimp only at hSw); obtain ⟨⟨a0, a1, a2, a3, a4⟩, _⟩ := hSw; go_simp; (try rw [hF]); (try rw [g1]); (try rw [g2]); (try rw [hY]); (try rw [g3]); (try rw [g4]); (try with_reducible rfl)); simp only [Act.put, List.setIfInBounds_toArray, List.set_cons_zero, List.set_cons_succ]) | (refine SeqH.skip rfl (by rfl) ?_; simp only [Act.put, List.setIfInBounds_toArray, List.set_cons_zero, List.set_cons_succ]))
      refine SeqH.done ?_
      clear g1 g2 g3 g4 hF hY
      go_wp2
      go_roundw
      case rel => exact ⟨k + 1, by omega, by go_num, x2, hxb, rfl, Lib.hid ⟨HX2.out, HN.out⟩⟩
      case measure => simp [intOf]; omega
    · obtain rfl : k = l.length := by omega
      have HX := Lib.hid (hg.out.1.trans HE.out.symm)
      have HG := Lib.hid hg.out.2
      clear hg
      go_wp2
      go_ret
      exact ⟨ret_int HX.out, HG.out⟩
set_option maxRecDepth 100000 in
set_option maxHeartbeats 4000000 in
theorem rripe_any (v : Value) (l : List Lf.H) (p : Int) (w : World) (hl : Hangs w v l) (hv : ∀ k (hk : k < l.length), Lf.vH l[k] = true) (h8 : l.length ≤ 8) (hp : 0 ≤ p ∧ p ≤ 1000000) :
    Calls Try.prog 66 #[v, .int .i64 p] w fun e w' => e = .returned (.int .i64 (Lf.rip l p l.length)) ∧ Below w.heap.size w w' := by
  obtain ⟨ao, c, rfl, _, hlk⟩ := hl
  have HK := Lib.hid hlk
  have HV := Lib.hid hv
  have HP := Lib.hid hp
  have hw0 := Lib.hid (Below.refl w.heap.size w)
  have FH := Lib.hid (fun h W hv => rheight_any h p W hv hp)
  have HBD := Lib.hid (fun k hk => Lf.rip_bd hv p k hk)
  have HS := Lib.hid (fun k (hk : k < l.length) => rip_succ (p := p) hk)
  have HRB := Lib.hid (fun k (hk : k < l.length) => Lf.ri_bd (hv k hk) p)
  have HFB := Lib.hid (fun k (hk : k < l.length) => Lf.fh_bd (hv k hk) p)
  have H0 : Hid (Lf.rip l p 0 = 0) := Lib.hid rfl
  obtain ⟨E, hE⟩ : ∃ E, E = Lf.rip l p l.length := ⟨_, rfl⟩
  rw [← hE]
  have HE := Lib.hid hE
  clear hlk hv hp hE
  go_enter Try.func66, Try.ntmps66
  go_wp2
  go_loopw [5, 6] (fun s t wr => ∃ k : Nat, k ≤ l.length ∧ t = .int .i64 k ∧ ∃ x : Int, (0 ≤ x ∧ x ≤ 9600000) ∧ s = .int .i64 x ∧ Hid (x = Lf.rip l p k ∧ Below w.heap.size w wr)) (fun _ t _ => l.length - (intOf t).toNat)
  case atStart => exact ⟨0, Nat.zero_le _, rfl, 0, ⟨by omega, by omega⟩, rfl, Lib.hid ⟨H0.out.symm, hw0.out⟩⟩
  case round =>
    obtain ⟨k, hk, rfl, x, ⟨hx0, hx1⟩, rfl, hg⟩ := hrel
    clear hw0 H0
    by_cases hlt : k < l.length
    · obtain ⟨b, off, rfl, hb, hr⟩ := HK.out k hlt
      have hcs := hang_at (hr.below hg.out.2 hb)
      have hbw := Nat.lt_of_lt_of_le hb hg.out.2.size
      have FH1 := Lib.hid (fun W => FH.out l[k] W (HV.out k hlt))
      have hrb := HRB.out k hlt
      have hfb := HFB.out k hlt
      have hbd := HBD.out (k + 1) (by omega)
      have HS1 := HS.out k hlt
      have HV1 := Lf.vH_iff.1 (HV.out k hlt)
      have hri := ri_def l[k] p
      rw [← hg.out.1] at HS1
      have HB1 := Lib.hid (And.intro (show HgA b (off + k * 5) l[k] wr.drew from ⟨hcs, hbw⟩) (below_drewN hg.out.2 1))
      clear hcs
      clear hr hg FH HV HRB HFB HBD HS
      generalize Lf.ri l[k] p = R at *
      generalize hG : Lf.hgt l[k] p = G at *
      clear hG
      obtain ⟨x2, hx2⟩ : ∃ x2, x2 = Lf.rip l p (k + 1) := ⟨_, rfl⟩
      rw [← hx2] at HS1 hbd
      have HX2 := Lib.hid hx2
      clear hx2
      have hl8 : (k : Int) ≤ 7 := by omega
      generalize l[k] = a at *
      obtain ⟨hd, hs, hy, hr, hf⟩ := a
      dsimp only at *
      obtain ⟨_, _, ⟨y1, y2⟩, ⟨r1, r2⟩, _⟩ := HV1
      have HS2 := Lib.hid (show x2 = x + R from HS1)
      have hxb : 0 ≤ x2 ∧ x2 ≤ 9600000 := ⟨hbd.1, by omega⟩
      clear HS1 hbd
      generalize hF : hf * G = FG at *
      generalize hY : hy * (hr - FG) = YR at *
      subst hri
      have g1 : IntKind.i64.wrap FG = FG := IntWalk.i64_in _ ⟨by omega, by omega⟩
      have g2 : IntKind.i64.wrap (hr - FG) = hr - FG := IntWalk.i64_in _ ⟨by omega, by omega⟩
      have g3 : IntKind.i64.wrap R = R := IntWalk.i64_in _ ⟨by omega, by omega⟩
      have g4 : IntKind.i64.wrap (x + R) = x2 := by rw [← HS2.out]; exact IntWalk.i64_in _ ⟨by omega, by omega⟩
      go_upto_region 5 with fail
      refine wp_region_seq [(0, true), (1, true), (2, true), (3, true), (4, true), (5, true), (6, true), (7, true), (8, true), (9, true), (10, true), (11, true), (12, true), (13, true), (14, true), (15, true), (16, true), (17, true), (18, true), (19, true), (20, true), (21, false), (22, true), (23, true), (24, true), (25, true), (26, true)] (fun W => HgA b (off + k * 5) ⟨hd, hs, hy, hr, hf⟩ W)
        (by kernel_rfl) (by kernel_rfl) (by kernel_rfl) (by kernel_rfl) (fun d _ _ _ _ h => by cases d <;> exact h) HB1.out.1 (fun _ => ?_)
      repeat (first | (refine SeqH.take (v := ?_) rfl (by rfl) ?_ ?_; rotate_left; (· intro w hSw; (try dsimp only at hSw); obtain ⟨⟨a0, a1, a2, a3, a4⟩, _⟩ := hSw; go_simp; (try with_reducible rfl)); simp only [Act.put, List.setIfInBounds_toArray, List.set_cons_zero, List.set_cons_succ]) | (refine SeqH.skip rfl (by rfl) ?_; simp only [Act.put, List.setIfInBounds_toArray, List.set_cons_zero, List.set_cons_succ]))
      refine SeqH.step rfl (by rfl) (fun K hK => ?_)
      go_simp
      go_at_call 62
      refine (FH1.out _).mono ?_
      rintro e w7 ⟨rfl, hb1⟩
      try dsimp only
      have HN := Lib.hid (below_step HB1.out.2 hb1)
      refine hK.out _ _ (HB1.out.1.below hb1 HB1.out.1.2) (fun _ => ?_)
      clear hK K
      try simp only [Act.put, List.setIfInBounds_toArray, List.set_cons_zero, List.set_cons_succ]
      clear hb1
      repeat (first | (refine SeqH.take (v := ?_) rfl (by rfl) ?_ ?_; rotate_left; (· intro w hSw; (try dsimp only at hSw); obtain ⟨⟨a0, a1, a2, a3, a4⟩, _⟩ := hSw; go_simp; (try rw [hF]); (try rw [g1]); (try rw [g2]); (try rw [hY]); (try rw [g3]); (try rw [g4]); (try with_reducible rfl)); simp only [Act.put, List.setIfInBounds_toArray, List.set_cons_zero, List.set_cons_succ]) | (refine SeqH.skip rfl (by rfl) ?_; simp only [Act.put, List.setIfInBounds_toArray, List.set_cons_zero, List.set_cons_succ]))
      refine SeqH.done ?_
      clear g1 g2 g3 g4 hF hY
      go_wp2
      go_roundw
      case rel => exact ⟨k + 1, by omega, by go_num, x2, hxb, rfl, Lib.hid ⟨HX2.out, HN.out⟩⟩
      case measure => simp [intOf]; omega
    · obtain rfl : k = l.length := by omega
      have HX := Lib.hid (hg.out.1.trans HE.out.symm)
      have HG := Lib.hid hg.out.2
      clear hg
      go_wp2
      go_ret
      exact ⟨ret_int HX.out, HG.out⟩
end Go.Proofs.Ytabfcnfddemblaa.Lo
namespace Go.Proofs.Ytabfcnfddemblaa.Lo
open Go.RowKit

theorem mn_succ (l : List Lf.H) (n : Nat) : Lf.mnN l (n + 1) = min (Lf.mnN l n) (Lf.rip l n l.length) := rfl
theorem mx_succ (l : List Lf.H) (n : Nat) : Lf.mxN l (n + 1) = max (Lf.mxN l n) (Lf.rip l n l.length) := rfl
theorem mn_one (l : List Lf.H) : Lf.mnN l 1 = Lf.rip l 0 l.length := by rw [mn_succ]; show min (Lf.rip l 0 l.length) (Lf.rip l (0 : Nat) l.length) = _; simp
theorem mx_one (l : List Lf.H) : Lf.mxN l 1 = Lf.rip l 0 l.length := by rw [mx_succ]; show max (Lf.rip l 0 l.length) (Lf.rip l (0 : Nat) l.length) = _; simp
set_option maxRecDepth 100000 in
set_option maxHeartbeats 1000000 in
theorem ripeF_any (v : Value) (l : List Lf.H) (p : Int) (w : World) (hl : Hangs w v l) : Calls Try.prog 26 #[v, .int .i64 p] w fun e w' => e = .returned (.tuple #[.int .i64 (Lf.ripR l p), .int .i64 (Lf.ripE l p)]) ∧ Below w.heap.size w w' := by
  have CV := Lib.hid (vHangs_any v l w hl)
  have CR := Lib.hid (fun W => isPlace_any p W)
  have CH := Lib.hid (fun W (hW : Below w.heap.size w W) h1 h2 h3 => ripe_any v l p W (hl.all hW) h1 h2 h3)
  have HE : Hid (Lf.ripE l p = if Lf.vlE l = 0 then (if Lf.rng 0 1000000 p = true then 0 else 1) else Lf.vlE l) := Lib.hid rfl
  have HR : Hid (Lf.ripR l p = if Lf.ripE l p = 0 then Lf.rip l p l.length else 0) := Lib.hid rfl
  obtain ⟨va, vc, rfl⟩ := hl.form
  clear hl
  by_cases hz : Lf.vlE l = 0
  case neg =>
    have e1 : Lf.ripE l p = Lf.vlE l := by rw [HE.out, if_neg hz]
    have e2 : Lf.ripR l p = 0 := by rw [HR.out, e1, if_neg hz]
    rw [e1, e2]
    clear e1 e2 CR CH HE HR
    generalize Lf.vlE l = E at *
    have hd : (E == 0) = false := beq_eq_false_iff_ne.2 hz
    have hd2 : (E != 0) = true := by rw [bne, hd]; rfl
    clear hz
    go_enter Try.func26, Try.ntmps26
    go_wp2_with fail
    refine CV.out.mono ?_
    rintro e w1 ⟨rfl, hb1⟩
    have HB := Lib.hid hb1
    clear hb1 CV
    go_wp2
    go_ret2
    exact ⟨rfl, HB.out⟩
  cases hr : Lf.rng 0 1000000 p
  · have e1 : Lf.ripE l p = 1 := by rw [HE.out, if_pos hz, hr]; rfl
    have e2 : Lf.ripR l p = 0 := by rw [HR.out, e1]; rfl
    rw [e1, e2]
    rw [hz] at CV
    rw [hr] at CR
    clear e1 e2 CH HE HR hz hr
    go_enter Try.func26, Try.ntmps26
    go_wp2_with fail
    refine CV.out.mono ?_
    rintro e w1 ⟨rfl, hb1⟩
    have HB := Lib.hid hb1
    clear hb1 CV
    go_wp2_with fail
    refine (CR.out _).mono ?_
    rintro e w2 ⟨rfl, rfl⟩
    go_wp2
    go_ret2
    exact ⟨rfl, HB.out⟩
  have e1 : Lf.ripE l p = 0 := by rw [HE.out, if_pos hz, hr]; rfl
  have e2 : Lf.ripR l p = Lf.rip l p l.length := by rw [HR.out, e1]; rfl
  rw [e1, e2]
  obtain ⟨h8, hv⟩ := Lf.vlE_zero hz
  have CH1 := Lib.hid (fun W hW => CH.out W hW hv h8 (Lf.rng_iff.1 hr))
  rw [hz] at CV
  rw [hr] at CR
  clear e1 e2 CH HE HR hz hr hv h8
  generalize Lf.rip l p l.length = R at *
  go_enter Try.func26, Try.ntmps26
  go_wp2_with fail
  refine CV.out.mono ?_
  rintro e w1 ⟨rfl, hb1⟩
  have HB := Lib.hid hb1
  clear hb1 CV
  go_wp2_with fail
  refine (CR.out _).mono ?_
  rintro e w2 ⟨rfl, rfl⟩
  go_wp2_with fail
  refine (CH1.out _ HB.out).mono ?_
  rintro e w3 ⟨rfl, hb1⟩
  have HB2 := Lib.hid (below_step HB.out hb1)
  clear hb1
  go_wp2
  go_ret2
  exact ⟨rfl, HB2.out⟩
set_option maxRecDepth 100000 in
set_option maxHeartbeats 1000000 in
theorem rripeF_any (v : Value) (l : List Lf.H) (p : Int) (w : World) (hl : Hangs w v l) : Calls Try.prog 27 #[v, .int .i64 p] w fun e w' => e = .returned (.tuple #[.int .i64 (Lf.ripR l p), .int .i64 (Lf.ripE l p)]) ∧ Below w.heap.size w w' := by
  have CV := Lib.hid (rvHangs_any v l w hl)
  have CR := Lib.hid (fun W => within_any p 0 1000000 W)
  have CH := Lib.hid (fun W (hW : Below w.heap.size w W) h1 h2 h3 => rripe_any v l p W (hl.all hW) h1 h2 h3)
  have HE : Hid (Lf.ripE l p = if Lf.vlE l = 0 then (if Lf.rng 0 1000000 p = true then 0 else 1) else Lf.vlE l) := Lib.hid rfl
  have HR : Hid (Lf.ripR l p = if Lf.ripE l p = 0 then Lf.rip l p l.length else 0) := Lib.hid rfl
  obtain ⟨va, vc, rfl⟩ := hl.form
  clear hl
  by_cases hz : Lf.vlE l = 0
  case neg =>
    have e1 : Lf.ripE l p = Lf.vlE l := by rw [HE.out, if_neg hz]
    have e2 : Lf.ripR l p = 0 := by rw [HR.out, e1, if_neg hz]
    rw [e1, e2]
    clear e1 e2 CR CH HE HR
    generalize Lf.vlE l = E at *
    have hd : (E == 0) = false := beq_eq_false_iff_ne.2 hz
    have hd2 : (E != 0) = true := by rw [bne, hd]; rfl
    clear hz
    go_enter Try.func27, Try.ntmps27
    go_wp2_with fail
    refine CV.out.mono ?_
    rintro e w1 ⟨rfl, hb1⟩
    have HB := Lib.hid hb1
    clear hb1 CV
    go_wp2
    go_ret2
    exact ⟨rfl, HB.out⟩
  cases hr : Lf.rng 0 1000000 p
  · have e1 : Lf.ripE l p = 1 := by rw [HE.out, if_pos hz, hr]; rfl
    have e2 : Lf.ripR l p = 0 := by rw [HR.out, e1]; rfl
    rw [e1, e2]
    rw [hz] at CV
    rw [hr] at CR
    clear e1 e2 CH HE HR hz hr
    go_enter Try.func27, Try.ntmps27
    go_wp2_with fail
    refine CV.out.mono ?_
    rintro e w1 ⟨rfl, hb1⟩
    have HB := Lib.hid hb1
    clear hb1 CV
    go_wp2_with fail
    refine (CR.out _).mono ?_
    rintro e w2 ⟨rfl, rfl⟩
    go_wp2
    go_ret2
    exact ⟨rfl, HB.out⟩
  have e1 : Lf.ripE l p = 0 := by rw [HE.out, if_pos hz, hr]; rfl
  have e2 : Lf.ripR l p = Lf.rip l p l.length := by rw [HR.out, e1]; rfl
  rw [e1, e2]
  obtain ⟨h8, hv⟩ := Lf.vlE_zero hz
  have CH1 := Lib.hid (fun W hW => CH.out W hW hv h8 (Lf.rng_iff.1 hr))
  rw [hz] at CV
  rw [hr] at CR
  clear e1 e2 CH HE HR hz hr hv h8
  generalize Lf.rip l p l.length = R at *
  go_enter Try.func27, Try.ntmps27
  go_wp2_with fail
  refine CV.out.mono ?_
  rintro e w1 ⟨rfl, hb1⟩
  have HB := Lib.hid hb1
  clear hb1 CV
  go_wp2_with fail
  refine (CR.out _).mono ?_
  rintro e w2 ⟨rfl, rfl⟩
  go_wp2_with fail
  refine (CH1.out _ HB.out).mono ?_
  rintro e w3 ⟨rfl, hb1⟩
  have HB2 := Lib.hid (below_step HB.out hb1)
  clear hb1
  go_wp2
  go_ret2
  exact ⟨rfl, HB2.out⟩
set_option maxRecDepth 100000 in
set_option maxHeartbeats 4000000 in
theorem rangeF_any (v : Value) (l : List Lf.H) (n : Int) (w : World) (hl : Hangs w v l) : Calls Try.prog 28 #[v, .int .i64 n] w fun e w' => e = .returned (.tuple #[.int .i64 (Lf.ranL l n), .int .i64 (Lf.ranM l n), .int .i64 (Lf.ranE l n)]) ∧ Below w.heap.size w w' := by
  have CV := Lib.hid (vHangs_any v l w hl)
  have CR := Lib.hid (fun W => isFrom_any 1 4000 n W)
  have CH := Lib.hid (fun (p : Int) W (hW : Below w.heap.size w W) h1 h2 h3 => ripe_any v l p W (hl.all hW) h1 h2 h3)
  have HE : Hid (Lf.ranE l n = if Lf.vlE l = 0 then (if Lf.rng 1 4000 n = true then 0 else 1) else Lf.vlE l) := Lib.hid rfl
  have HR : Hid (Lf.ranL l n = if Lf.ranE l n = 0 then Lf.mnN l n.toNat else 0) := Lib.hid rfl
  have HM : Hid (Lf.ranM l n = if Lf.ranE l n = 0 then Lf.mxN l n.toNat else 0) := Lib.hid rfl
  obtain ⟨va, vc, rfl⟩ := hl.form
  clear hl
  by_cases hz : Lf.vlE l = 0
  case neg =>
    have e1 : Lf.ranE l n = Lf.vlE l := by rw [HE.out, if_neg hz]
    have e2 : Lf.ranL l n = 0 := by rw [HR.out, e1, if_neg hz]
    have e3 : Lf.ranM l n = 0 := by rw [HM.out, e1, if_neg hz]
    rw [e1, e2, e3]
    clear e1 e2 e3 CR CH HE HR HM
    generalize Lf.vlE l = E at *
    have hd : (E == 0) = false := beq_eq_false_iff_ne.2 hz
    have hd2 : (E != 0) = true := by rw [bne, hd]; rfl
    clear hz
    go_enter Try.func28, Try.ntmps28
    go_wp2_with fail
    refine CV.out.mono ?_
    rintro e w1 ⟨rfl, hb1⟩
    have HB := Lib.hid hb1
    clear hb1 CV
    go_wp2
    refine bodyPost_ret (results_tmp3 rfl _ _ _) rfl ?_
    exact ⟨rfl, HB.out⟩
  cases hr : Lf.rng 1 4000 n
  · have e1 : Lf.ranE l n = 1 := by rw [HE.out, if_pos hz, hr]; rfl
    have e2 : Lf.ranL l n = 0 := by rw [HR.out, e1]; rfl
    have e3 : Lf.ranM l n = 0 := by rw [HM.out, e1]; rfl
    rw [e1, e2, e3]
    rw [hz] at CV
    rw [hr] at CR
    clear e1 e2 e3 CH HE HR HM hz hr
    go_enter Try.func28, Try.ntmps28
    go_wp2_with fail
    refine CV.out.mono ?_
    rintro e w1 ⟨rfl, hb1⟩
    have HB := Lib.hid hb1
    clear hb1 CV
    go_wp2_with fail
    refine (CR.out _).mono ?_
    rintro e w2 ⟨rfl, rfl⟩
    go_wp2
    refine bodyPost_ret (results_tmp3 rfl _ _ _) rfl ?_
    exact ⟨rfl, HB.out⟩
  have e1 : Lf.ranE l n = 0 := by rw [HE.out, if_pos hz, hr]; rfl
  have e2 : Lf.ranL l n = Lf.mnN l n.toNat := by rw [HR.out, e1]; rfl
  have e3 : Lf.ranM l n = Lf.mxN l n.toNat := by rw [HM.out, e1]; rfl
  rw [e1, e2, e3]
  obtain ⟨h8, hv⟩ := Lf.vlE_zero hz
  obtain ⟨hn1, hn2⟩ := Lf.rng_iff.1 hr
  have CH1 := Lib.hid (fun p W hW h => CH.out p W hW hv h8 h)
  have HMB := Lib.hid (fun k => Lf.mn_bd hv h8 k)
  have HXB := Lib.hid (fun k => Lf.mx_bd hv h8 k)
  have HRB := Lib.hid (fun (p : Int) => Lf.rip_bd hv p l.length (Nat.le_refl _))
  have HMS := Lib.hid (fun k => mn_succ l k)
  have HXS := Lib.hid (fun k => mx_succ l k)
  have H00 := Lib.hid (And.intro (show Lf.mnN l 0 = Lf.rip l 0 l.length from rfl) (show Lf.mxN l 0 = Lf.rip l 0 l.length from rfl))
  have h8' : (l.length : Int) ≤ 8 := by omega
  rw [hz] at CV
  rw [hr] at CR
  clear e1 e2 e3 CH HE HR HM hz hr hv
  obtain ⟨N, hN⟩ : ∃ N, N = n.toNat := ⟨_, rfl⟩
  rw [← hN]
  have hNn : n = (N : Int) := by omega
  subst hNn
  clear hN
  obtain ⟨EL, hEL⟩ : ∃ E, E = Lf.mnN l N := ⟨_, rfl⟩
  obtain ⟨EM, hEM⟩ : ∃ E, E = Lf.mxN l N := ⟨_, rfl⟩
  rw [← hEL, ← hEM]
  have HEE := Lib.hid (And.intro hEL hEM)
  clear hEL hEM
  have hr0 := HRB.out 0
  obtain ⟨R0, hR0⟩ : ∃ R, R = Lf.rip l 0 l.length := ⟨_, rfl⟩
  have C0 := Lib.hid (fun W hW => CH1.out 0 W hW ⟨by omega, by omega⟩)
  rw [← hR0] at C0 H00 hr0
  clear hR0
  go_enter Try.func28, Try.ntmps28
  go_wp2_with fail
  refine CV.out.mono ?_
  rintro e w1 ⟨rfl, hb1⟩
  have HB := Lib.hid hb1
  clear hb1 CV
  go_wp2_with fail
  refine (CR.out _).mono ?_
  rintro e w2 ⟨rfl, rfl⟩
  go_wp2_with fail
  refine (C0.out _ HB.out).mono ?_
  rintro e w3 ⟨rfl, hb1⟩
  have HB2 := Lib.hid (below_step HB.out hb1)
  clear hb1
  go_wp2
  go_loopw [4, 5, 22] (fun s u t wr => ∃ k : Nat, k ≤ N ∧ t = .int .i64 k ∧ ∃ x y : Int, ((0 ≤ x ∧ x ≤ 9600000) ∧ (0 ≤ y ∧ y ≤ 9600000)) ∧ s = .int .i64 x ∧ u = .int .i64 y ∧ Hid ((x = Lf.mnN l k ∧ y = Lf.mxN l k) ∧ Below w.heap.size w wr)) (fun _ _ t _ => N - (intOf t).toNat)
  case atStart => exact ⟨0, Nat.zero_le _, rfl, R0, R0, ⟨⟨by omega, by omega⟩, ⟨by omega, by omega⟩⟩, rfl, rfl, Lib.hid ⟨⟨H00.out.1.symm, H00.out.2.symm⟩, HB2.out⟩⟩
  case round =>
    obtain ⟨k, hk, rfl, x, y, ⟨⟨hx0, hx1⟩, ⟨hy0, hy1⟩⟩, rfl, rfl, hg⟩ := hrel
    clear HB2 C0 H00
    by_cases hlt : k < N
    · have CK := Lib.hid (fun W hW => CH1.out (k : Int) W hW ⟨by omega, by omega⟩)
      have hrb := HRB.out (k : Int)
      have HM1 := HMS.out k
      have HX1 := HXS.out k
      rw [← hg.out.1.1] at HM1
      rw [← hg.out.1.2] at HX1
      have HG := Lib.hid hg.out.2
      clear hg
      generalize Lf.rip l (k : Int) l.length = R at *
      have HMX := Lib.hid (And.intro HM1 HX1)
      clear HM1 HX1
      have hR : 0 ≤ R ∧ R ≤ 9600000 := ⟨hrb.1, by omega⟩
      obtain ⟨hR0, hR1⟩ := hR
      clear hrb
      go_wp2_with fail
      refine (CK.out _ HG.out).mono ?_
      rintro e w5 ⟨rfl, hb1⟩
      have HG2 := Lib.hid (below_step HG.out hb1)
      clear hb1 HG
      by_cases c1 : x < R
      all_goals by_cases c2 : y < R
      all_goals go_wp2
      all_goals
        go_roundw
        case rel => exact ⟨k + 1, by omega, by go_num, _, _, ⟨⟨by omega, by omega⟩, ⟨by omega, by omega⟩⟩, rfl, rfl, Lib.hid ⟨⟨by have := HMX.out.1; omega, by have := HMX.out.2; omega⟩, HG2.out⟩⟩
        case measure => simp [intOf]; omega
    · obtain rfl : k = N := by omega
      have HX := Lib.hid (And.intro (hg.out.1.1.trans HEE.out.1.symm) (hg.out.1.2.trans HEE.out.2.symm))
      have HG := Lib.hid hg.out.2
      clear hg
      go_wp2
      refine bodyPost_ret (results_tmp3 rfl _ _ _) rfl ?_
      rw [← HX.out.1, ← HX.out.2]
      exact ⟨rfl, HG.out⟩
set_option maxRecDepth 100000 in
set_option maxHeartbeats 4000000 in
theorem rrangeF_any (v : Value) (l : List Lf.H) (n : Int) (w : World) (hl : Hangs w v l) : Calls Try.prog 29 #[v, .int .i64 n] w fun e w' => e = .returned (.tuple #[.int .i64 (Lf.ranL l n), .int .i64 (Lf.ranM l n), .int .i64 (Lf.ranE l n)]) ∧ Below w.heap.size w w' := by
  have CV := Lib.hid (rvHangs_any v l w hl)
  have CR := Lib.hid (fun W => within_any n 1 4000 W)
  have CH := Lib.hid (fun (p : Int) W (hW : Below w.heap.size w W) h1 h2 h3 => rripe_any v l p W (hl.all hW) h1 h2 h3)
  have HE : Hid (Lf.ranE l n = if Lf.vlE l = 0 then (if Lf.rng 1 4000 n = true then 0 else 1) else Lf.vlE l) := Lib.hid rfl
  have HR : Hid (Lf.ranL l n = if Lf.ranE l n = 0 then Lf.mnN l n.toNat else 0) := Lib.hid rfl
  have HM : Hid (Lf.ranM l n = if Lf.ranE l n = 0 then Lf.mxN l n.toNat else 0) := Lib.hid rfl
  obtain ⟨va, vc, rfl⟩ := hl.form
  clear hl
  by_cases hz : Lf.vlE l = 0
  case neg =>
    have e1 : Lf.ranE l n = Lf.vlE l := by rw [HE.out, if_neg hz]
    have e2 : Lf.ranL l n = 0 := by rw [HR.out, e1, if_neg hz]
    have e3 : Lf.ranM l n = 0 := by rw [HM.out, e1, if_neg hz]
    rw [e1, e2, e3]
    clear e1 e2 e3 CR CH HE HR HM
    generalize Lf.vlE l = E at *
    have hd : (E == 0) = false := beq_eq_false_iff_ne.2 hz
    have hd2 : (E != 0) = true := by rw [bne, hd]; rfl
    clear hz
    go_enter Try.func29, Try.ntmps29
    go_wp2_with fail
    refine CV.out.mono ?_
    rintro e w1 ⟨rfl, hb1⟩
    have HB := Lib.hid hb1
    clear hb1 CV
    go_wp2
    refine bodyPost_ret (results_tmp3 rfl _ _ _) rfl ?_
    exact ⟨rfl, HB.out⟩
  cases hr : Lf.rng 1 4000 n
  · have e1 : Lf.ranE l n = 1 := by rw [HE.out, if_pos hz, hr]; rfl
    have e2 : Lf.ranL l n = 0 := by rw [HR.out, e1]; rfl
    have e3 : Lf.ranM l n = 0 := by rw [HM.out, e1]; rfl
    rw [e1, e2, e3]
    rw [hz] at CV
    rw [hr] at CR
    clear e1 e2 e3 CH HE HR HM hz hr
    go_enter Try.func29, Try.ntmps29
    go_wp2_with fail
    refine CV.out.mono ?_
    rintro e w1 ⟨rfl, hb1⟩
    have HB := Lib.hid hb1
    clear hb1 CV
    go_wp2_with fail
    refine (CR.out _).mono ?_
    rintro e w2 ⟨rfl, rfl⟩
    go_wp2
    refine bodyPost_ret (results_tmp3 rfl _ _ _) rfl ?_
    exact ⟨rfl, HB.out⟩
  have e1 : Lf.ranE l n = 0 := by rw [HE.out, if_pos hz, hr]; rfl
  have e2 : Lf.ranL l n = Lf.mnN l n.toNat := by rw [HR.out, e1]; rfl
  have e3 : Lf.ranM l n = Lf.mxN l n.toNat := by rw [HM.out, e1]; rfl
  rw [e1, e2, e3]
  obtain ⟨h8, hv⟩ := Lf.vlE_zero hz
  obtain ⟨hn1, hn2⟩ := Lf.rng_iff.1 hr
  have CH1 := Lib.hid (fun p W hW h => CH.out p W hW hv h8 h)
  have HMB := Lib.hid (fun k => Lf.mn_bd hv h8 k)
  have HXB := Lib.hid (fun k => Lf.mx_bd hv h8 k)
  have HRB := Lib.hid (fun (p : Int) => Lf.rip_bd hv p l.length (Nat.le_refl _))
  have HMS := Lib.hid (fun k => mn_succ l k)
  have HXS := Lib.hid (fun k => mx_succ l k)
  have H00 := Lib.hid (And.intro (mn_one l) (mx_one l))
  have h8' : (l.length : Int) ≤ 8 := by omega
  rw [hz] at CV
  rw [hr] at CR
  clear e1 e2 e3 CH HE HR HM hz hr hv
  obtain ⟨N, hN⟩ : ∃ N, N = n.toNat := ⟨_, rfl⟩
  rw [← hN]
  have hNn : n = (N : Int) := by omega
  subst hNn
  clear hN
  obtain ⟨EL, hEL⟩ : ∃ E, E = Lf.mnN l N := ⟨_, rfl⟩
  obtain ⟨EM, hEM⟩ : ∃ E, E = Lf.mxN l N := ⟨_, rfl⟩
  rw [← hEL, ← hEM]
  have HEE := Lib.hid (And.intro hEL hEM)
  clear hEL hEM
  have hr0 := HRB.out 0
  obtain ⟨R0, hR0⟩ : ∃ R, R = Lf.rip l 0 l.length := ⟨_, rfl⟩
  have C0 := Lib.hid (fun W hW => CH1.out 0 W hW ⟨by omega, by omega⟩)
  rw [← hR0] at C0 H00 hr0
  clear hR0
  go_enter Try.func29, Try.ntmps29
  go_wp2_with fail
  refine CV.out.mono ?_
  rintro e w1 ⟨rfl, hb1⟩
  have HB := Lib.hid hb1
  clear hb1 CV
  go_wp2_with fail
  refine (CR.out _).mono ?_
  rintro e w2 ⟨rfl, rfl⟩
  go_wp2_with fail
  refine (C0.out _ HB.out).mono ?_
  rintro e w3 ⟨rfl, hb1⟩
  have HB2 := Lib.hid (below_step HB.out hb1)
  clear hb1
  go_wp2_with fail
  refine (C0.out _ HB2.out).mono ?_
  rintro e w4 ⟨rfl, hb1⟩
  have HB3 := Lib.hid (below_step HB2.out hb1)
  clear hb1
  go_wp2
  go_loopw [8, 9, 10] (fun s u t wr => ∃ k : Nat, (1 ≤ k ∧ k ≤ N) ∧ t = .int .i64 k ∧ ∃ x y : Int, ((0 ≤ x ∧ x ≤ 9600000) ∧ (0 ≤ y ∧ y ≤ 9600000)) ∧ s = .int .i64 x ∧ u = .int .i64 y ∧ Hid ((x = Lf.mnN l k ∧ y = Lf.mxN l k) ∧ Below w.heap.size w wr)) (fun _ _ t _ => N - (intOf t).toNat)
  case atStart => exact ⟨1, ⟨Nat.le_refl _, by omega⟩, rfl, R0, R0, ⟨⟨by omega, by omega⟩, ⟨by omega, by omega⟩⟩, rfl, rfl, Lib.hid ⟨⟨H00.out.1.symm, H00.out.2.symm⟩, HB3.out⟩⟩
  case round =>
    obtain ⟨k, ⟨hk1, hk⟩, rfl, x, y, ⟨⟨hx0, hx1⟩, ⟨hy0, hy1⟩⟩, rfl, rfl, hg⟩ := hrel
    clear HB3 C0 H00
    by_cases hlt : k < N
    · have CK := Lib.hid (fun W hW => CH1.out (k : Int) W hW ⟨by omega, by omega⟩)
      have hrb := HRB.out (k : Int)
      have HM1 := HMS.out k
      have HX1 := HXS.out k
      rw [← hg.out.1.1] at HM1
      rw [← hg.out.1.2] at HX1
      have HG := Lib.hid hg.out.2
      clear hg
      generalize Lf.rip l (k : Int) l.length = R at *
      have HMX := Lib.hid (And.intro HM1 HX1)
      clear HM1 HX1
      have hR : 0 ≤ R ∧ R ≤ 9600000 := ⟨hrb.1, by omega⟩
      obtain ⟨hR0, hR1⟩ := hR
      clear hrb
      go_wp2_with fail
      refine (CK.out _ HG.out).mono ?_
      rintro e w5 ⟨rfl, hb1⟩
      have HG2 := Lib.hid (below_step HG.out hb1)
      clear hb1 HG
      by_cases c1 : x < R
      all_goals by_cases c2 : y < R
      all_goals
        go_wp2_with fail
      all_goals
        refine (CK.out _ HG2.out).mono ?_
        rintro e w6 ⟨rfl, hb1⟩
        have HG3 := Lib.hid (below_step HG2.out hb1)
        clear hb1
        go_wp2
      all_goals
        go_roundw
        case rel => exact ⟨k + 1, ⟨by omega, by omega⟩, by go_num, _, _, ⟨⟨by omega, by omega⟩, ⟨by omega, by omega⟩⟩, rfl, rfl, Lib.hid ⟨⟨by have := HMX.out.1; omega, by have := HMX.out.2; omega⟩, HG3.out⟩⟩
        case measure => simp [intOf]; omega
    · obtain rfl : k = N := by omega
      have HX := Lib.hid (And.intro (hg.out.1.1.trans HEE.out.1.symm) (hg.out.1.2.trans HEE.out.2.symm))
      have HG := Lib.hid hg.out.2
      clear hg
      go_wp2
      refine bodyPost_ret (results_tmp3 rfl _ _ _) rfl ?_
      rw [← HX.out.1, ← HX.out.2]
      exact ⟨rfl, HG.out⟩
end Go.Proofs.Ytabfcnfddemblaa.Lo
namespace Go.Proofs.Ytabfcnfddemblaa.Lo
open Go.RowKit

/-- A list of numbers at a place. -/
theorem Ints.form {w : World} {v : Value} {xs : List Int} (h : Ints w v xs) : ∃ a c, v = .slice a xs.length c := RowsOf.form h
theorem Ints.at {w : World} {a : Option Addr} {n c : Nat} {xs : List Int} (h : Ints w (.slice a n c) xs) (k : Nat) (hk : k < xs.length) : ∃ b off, a = some ⟨b, off, none⟩ ∧ b < w.heap.size ∧ w.cell? ⟨b, off + k, none⟩ = some (.int .i64 (xs.getD k 0)) := by
  obtain ⟨a', c', he, _, h2⟩ := h
  simp only [Value.slice.injEq] at he
  obtain ⟨rfl, _, _⟩ := he
  obtain ⟨b, off, e1, e2, e3⟩ := h2 k hk
  have := int_at e3
  rw [Nat.mul_one] at this
  exact ⟨b, off, e1, e2, by rw [this]; simp [hk]⟩
set_option maxRecDepth 20000 in
theorem lowest_any (x : Int) (w : World) (h : 0 ≤ x ∧ x ≤ 4) : Calls Try.prog 76 #[.int .i64 x] w fun e w' => e = .returned (.int .i64 (max 0 (x - 1))) ∧ w = w' := by
  obtain ⟨h0, h1⟩ := h
  by_cases c : 0 < x - 1
  all_goals
    go_enter Try.func76, Try.ntmps76
    go_wp2
  all_goals
    go_ret
    exact ⟨ret_int (by omega), rfl⟩
set_option maxRecDepth 20000 in
theorem highest_any (x : Int) (w : World) (h : 0 ≤ x ∧ x ≤ 4) : Calls Try.prog 77 #[.int .i64 x] w fun e w' => e = .returned (.int .i64 (min 4 (x + 1))) ∧ w = w' := by
  obtain ⟨h0, h1⟩ := h
  by_cases c : 4 < x + 1
  all_goals
    go_enter Try.func77, Try.ntmps77
    go_wp2
  all_goals
    go_ret
    exact ⟨ret_int (by omega), rfl⟩
theorem isRp_def (n m : Int) : Lf.isRp n m = (Lf.rng 1 60 n && Lf.rng n 60 m) := rfl
set_option maxRecDepth 20000 in
theorem isRipe_any (n m : Int) (w : World) : Calls Try.prog 79 #[.int .i64 n, .int .i64 m] w fun e w' => e = .returned (.bool (Lf.isRp n m)) ∧ w = w' := by
  have HE := Lib.hid (isRp_def n m)
  generalize Lf.isRp n m = r at *
  have C1 := Lib.hid (fun W => isFrom_any 1 60 n W)
  have C2 := Lib.hid (fun W => isFrom_any n 60 m W)
  cases h1 : Lf.rng 1 60 n
  · rw [h1] at C1 HE
    clear h1 C2
    go_enter Try.func79, Try.ntmps79
    go_wp2_with fail
    refine (C1.out _).mono ?_
    rintro e w1 ⟨rfl, rfl⟩
    go_wp2
    go_ret
    exact ⟨by rw [HE.out]; rfl, rfl⟩
  · rw [h1] at C1 HE
    clear h1
    generalize Lf.rng n 60 m = b at *
    go_enter Try.func79, Try.ntmps79
    go_wp2_with fail
    refine (C1.out _).mono ?_
    rintro e w1 ⟨rfl, rfl⟩
    go_wp2_with fail
    refine (C2.out _).mono ?_
    rintro e w1 ⟨rfl, rfl⟩
    go_wp2
    go_ret
    exact ⟨by rw [HE.out]; rfl, rfl⟩
theorem lst_succ (l : List Int) (k : Nat) : Lf.lst l (k + 1) = l.getD k 0 := rfl
theorem okRt_def (l : List Int) (k : Nat) : Lf.okRt l k = Lf.rng (Lf.lst l k) 9 (l.getD k 0) := rfl
/-- A loft lies in a block. -/
theorem loft_box (w : World) (p : Int) (v : Value) : BlockAt (w.alloc (.cells (loftA p v) LoftT)) w.heap.size (loftA p v) LoftT ∧ Below w.heap.size w (w.alloc (.cells (loftA p v) LoftT)) := ⟨BlockAt.new _ _ _, below_alloc2 (Below.refl _ _) _⟩
set_option maxRecDepth 100000 in
set_option maxHeartbeats 2000000 in
theorem isLoft_any (p : Int) (v : Value) (rs : List Int) (w : World) (hI : Ints w v rs) : Calls Try.prog 78 #[loftV p v] w fun e w' => e = .returned (.bool (Lf.okF ⟨p, rs⟩)) ∧ Below w.heap.size w w' := by
  have HI := Lib.hid hI
  obtain ⟨a, c, rfl⟩ := hI.form
  have HW := Lib.hid (loft_box w p (.slice a rs.length c))
  have x0 : World.cell? _ _ = some (.int .i64 p) := HW.out.1.cell 0
  have x1 : World.cell? _ _ = some (.slice a rs.length c) := HW.out.1.cell 1
  have HA := Lib.hid (Ints.at (HI.out.all HW.out.2))
  have C1 := Lib.hid (fun W => isFrom_any 1 40 p W)
  have CR := Lib.hid (fun x n W => isFrom_any x 9 n W)
  clear hI HI
  cases h1 : Lf.rng 1 40 p
  · have HE := Lib.hid (Lf.okF_poles (f := ⟨p, rs⟩) h1)
    generalize Lf.okF ⟨p, rs⟩ = E at *
    rw [h1] at C1
    clear h1 CR HA
    go_enter Try.func78, Try.ntmps78
    go_wp2_with fail
    refine (C1.out _).mono ?_
    rintro e w1 ⟨rfl, rfl⟩
    go_wp2
    go_ret
    exact ⟨by rw [HE.out] <;> rfl, HW.out.2⟩
  by_cases h5 : rs.length = 5
  case neg =>
    have HE := Lib.hid (Lf.okF_len (f := ⟨p, rs⟩) h5)
    generalize Lf.okF ⟨p, rs⟩ = E at *
    rw [h1] at C1
    have hd1 : ((rs.length : Int) == 5) = false := beq_eq_false_iff_ne.2 (by omega)
    have hd2 : ((rs.length : Int) != 5) = true := by rw [bne, hd1]; rfl
    have hd3 : decide (rs.length = 5) = false := decide_eq_false h5
    clear h1 CR HA h5
    go_enter Try.func78, Try.ntmps78
    go_wp2_with fail
    refine (C1.out _).mono ?_
    rintro e w1 ⟨rfl, rfl⟩
    go_wp2
    go_ret
    exact ⟨by rw [HE.out] <;> rfl, HW.out.2⟩
  have HBad := Lib.hid (fun k (hk : k < 5) h => Lf.okF_bad (f := ⟨p, rs⟩) hk h)
  have HOk := Lib.hid (fun h => Lf.okF_ok (f := ⟨p, rs⟩) h1 h5 h)
  have H5 := Lib.hid h5
  have hl5 : rs.length ≤ 5 := by omega
  have hd1 : ((rs.length : Int) == 5) = true := beq_iff_eq.2 (by omega)
  have hd2 : ((rs.length : Int) != 5) = false := by rw [bne, hd1]; rfl
  have hd3 : decide (rs.length = 5) = true := decide_eq_true h5
  have HD := Lib.hid (fun k => okRt_def rs k)
  have HL := Lib.hid (fun k => lst_succ rs k)
  have HL0 : Hid (Lf.lst rs 0 = 0) := Lib.hid rfl
  rw [h1] at C1
  generalize Lf.okF ⟨p, rs⟩ = E at *
  clear h1 h5
  go_enter Try.func78, Try.ntmps78
  go_wp2_with fail
  refine (C1.out _).mono ?_
  rintro e w1 ⟨rfl, rfl⟩
  go_wp2
  clear x0 x1 hd1 hd2 hd3
  go_loopw [3, 19] (fun s t wr => ∃ (k : Nat) (x : Int), k ≤ rs.length ∧ t = .int .i64 k ∧ s = .int .i64 x ∧ Hid (((∀ j, j < k → Lf.okRt rs j = true) ∧ x = Lf.lst rs k) ∧ wr = w.alloc (.cells (loftA p (.slice a rs.length c)) LoftT))) (fun _ t _ => rs.length - (intOf t).toNat)
  case atStart => exact ⟨0, 0, Nat.zero_le _, rfl, rfl, Lib.hid ⟨⟨fun j h => absurd h (Nat.not_lt_zero _), HL0.out.symm⟩, rfl⟩⟩
  case round =>
    obtain ⟨k, x, hk, rfl, rfl, hg⟩ := hrel
    obtain ⟨⟨hok, hx⟩, hw⟩ := hg.out
    subst hw
    by_cases hlt : k < rs.length
    · obtain ⟨b, off, rfl, hb, c0⟩ := HA.out k hlt
      have HB1 := Lib.hid (HBad.out k (by have := H5.out; omega))
      have HDk := HD.out k
      have HLk := HL.out k
      have HI : Hid (Lf.okRt rs k = true → ∀ j, j < k + 1 → Lf.okRt rs j = true) := Lib.hid fun h j hjk => by
        by_cases e : j = k
        · subst e; exact h
        · exact hok j (by omega)
      have CK := Lib.hid (CR.out x (rs.getD k 0))
      rw [← hx] at HDk
      have HX2 := Lib.hid HLk
      generalize rs.getD k 0 = y at *
      rw [← HDk] at CK
      clear hg HBad HDk HLk hok hx
      generalize hV : Lf.okRt rs k = o at *
      clear hV
      cases o
      · have HE := Lib.hid (HB1.out rfl)
        clear HI HB1
        go_wp2_with fail
        refine (CK.out _).mono ?_
        rintro e w1 ⟨rfl, rfl⟩
        go_wp2
        go_ret
        exact ⟨by rw [HE.out] <;> rfl, HW.out.2⟩
      · have HI2 := Lib.hid (HI.out rfl)
        clear HI HB1
        go_wp2_with fail
        refine (CK.out _).mono ?_
        rintro e w1 ⟨rfl, rfl⟩
        go_wp2
        go_roundw
        case rel => exact ⟨k + 1, y, by omega, by go_num, rfl, Lib.hid ⟨⟨HI2.out, HX2.out.symm⟩, by first | rfl | trivial⟩⟩
        case measure => simp [intOf]; omega
    · have HE := Lib.hid (HOk.out fun j hj => hok j (by have := H5.out; omega))
      clear hg hok hx
      go_wp2
      go_ret
      exact ⟨by rw [HE.out] <;> rfl, HW.out.2⟩
set_option maxRecDepth 100000 in
set_option maxHeartbeats 2000000 in
theorem valLofts_any (v : Value) (l : List Lf.F) (w : World) (hl : Lofts w v l) : Calls Try.prog 39 #[v] w fun e w' => e = .returned (.int .i64 (Lf.valF l)) ∧ Below w.heap.size w w' := by
  obtain ⟨ao, c, rfl, _, hlk⟩ := hl
  have HK := Lib.hid hlk
  have hw0 := Lib.hid (Below.refl w.heap.size w)
  have FV := Lib.hid (fun p v rs W h => isLoft_any p v rs W h)
  have F0 := Lib.hid (fun W => isFrom_any 1 3 (l.length : Int) W)
  clear hlk
  cases h5 : Lf.rng 1 3 (l.length : Int)
  · have HE := Lib.hid (Lf.valF_len h5)
    rw [h5] at F0
    generalize Lf.valF l = E at *
    clear h5
    go_enter Try.func39, Try.ntmps39
    go_wp2_with fail
    refine (F0.out _).mono ?_
    rintro e w1 ⟨rfl, rfl⟩
    go_wp2
    go_ret
    exact ⟨ret_int HE.out.symm, hw0.out⟩
  have HBad := Lib.hid (fun k (hk : k < l.length) h => Lf.valF_bad (l := l) hk h)
  have HOk := Lib.hid (fun h => Lf.valF_ok h5 h)
  have hl3 : l.length ≤ 3 := by have := Lf.rng_iff.1 h5; omega
  rw [h5] at F0
  generalize Lf.valF l = E at *
  clear h5
  go_enter Try.func39, Try.ntmps39
  go_wp2_with fail
  refine (F0.out _).mono ?_
  rintro e w1 ⟨rfl, rfl⟩
  go_wp2
  go_loopw [11] (fun t wr => ∃ k : Nat, k ≤ l.length ∧ t = .int .i64 k ∧ Hid ((∀ j (hj : j < l.length), j < k → Lf.okF l[j] = true) ∧ Below w.heap.size w wr)) (fun t _ => l.length - (intOf t).toNat)
  case atStart => exact ⟨0, Nat.zero_le _, rfl, Lib.hid ⟨fun j _ h => absurd h (Nat.not_lt_zero _), hw0.out⟩⟩
  case round =>
    obtain ⟨k, hk, rfl, hg⟩ := hrel
    clear hw0
    by_cases hlt : k < l.length
    · obtain ⟨b, off, rfl, hb, hr⟩ := HK.out k hlt
      obtain ⟨v, ⟨c0, c1⟩, hI⟩ := hr.all hg.out.2 hb
      have HB1 := Lib.hid (HBad.out k hlt)
      have HI : Hid (Lf.okF l[k] = true → ∀ j (hj : j < l.length), j < k + 1 → Lf.okF l[j] = true) := Lib.hid fun h j hj hjk => by
        by_cases e : j = k
        · subst e; exact h
        · exact hg.out.1 j hj (by omega)
      have HG := Lib.hid (below_alloc2 hg.out.2 (.cells (loftA l[k].p v) LoftT))
      have CV := Lib.hid (FV.out l[k].p v l[k].rs _ (hI.all (below_alloc2 (Below.refl wr.heap.size wr) (.cells (loftA l[k].p v) LoftT))))
      obtain ⟨va, vc, rfl⟩ := hI.form
      clear hg hr HBad FV hI
      have CV2 : Hid (Calls Try.prog _ _ _ fun e w' => e = .returned (.bool (Lf.okF l[k])) ∧ _) := CV
      clear CV
      generalize hV : Lf.okF l[k] = o at *
      clear hV
      generalize l[k] = f at *
      obtain ⟨fp, fr⟩ := f
      dsimp only at *
      cases o
      · have HE := Lib.hid (HB1.out rfl)
        clear HI HB1
        go_wp2_with fail
        refine CV2.out.mono ?_
        rintro e w7 ⟨rfl, hb1⟩
        have HN := Lib.hid (below_step HG.out hb1)
        clear hb1 c0 c1 CV2
        go_wp2
        go_ret
        exact ⟨ret_int HE.out.symm, HN.out⟩
      · have HI2 := Lib.hid (HI.out rfl)
        clear HB1 HI
        go_wp2_with fail
        refine CV2.out.mono ?_
        rintro e w7 ⟨rfl, hb1⟩
        have HN := Lib.hid (below_step HG.out hb1)
        clear hb1 c0 c1 CV2
        go_wp2
        go_roundw
        case rel => exact ⟨k + 1, by omega, by go_num, Lib.hid ⟨HI2.out, HN.out⟩⟩
        case measure => simp [intOf]; omega
    · obtain rfl : k = l.length := by omega
      have HE := Lib.hid (HOk.out fun j hj => hg.out.1 j hj hj)
      have HG := Lib.hid hg.out.2
      clear hg
      go_wp2
      go_ret
      exact ⟨ret_int HE.out.symm, HG.out⟩
set_option maxRecDepth 100000 in
set_option maxHeartbeats 4000000 in
theorem rvalLofts_any (v : Value) (l : List Lf.F) (w : World) (hl : Lofts w v l) : Calls Try.prog 40 #[v] w fun e w' => e = .returned (.int .i64 (Lf.valF l)) ∧ w = w' := by
  obtain ⟨ao, c, rfl, _, hlk⟩ := hl
  have HK := Lib.hid hlk
  have FP := Lib.hid (fun p W => within_any p 1 40 W)
  have FR := Lib.hid (fun n x W => within_any n x 9 W)
  have F0 := Lib.hid (fun W => within_any (l.length : Int) 1 3 W)
  clear hlk
  cases h5 : Lf.rng 1 3 (l.length : Int)
  · have HE := Lib.hid (Lf.valF_len h5)
    rw [h5] at F0
    generalize Lf.valF l = E at *
    clear h5
    go_enter Try.func40, Try.ntmps40
    go_wp2_with fail
    refine (F0.out _).mono ?_
    rintro e w1 ⟨rfl, rfl⟩
    go_wp2
    go_ret
    exact ⟨ret_int HE.out.symm, rfl⟩
  have HBad := Lib.hid (fun k (hk : k < l.length) h => Lf.valF_bad (l := l) hk h)
  have HOk := Lib.hid (fun h => Lf.valF_ok h5 h)
  have hl3 : l.length ≤ 3 := by have := Lf.rng_iff.1 h5; omega
  rw [h5] at F0
  generalize Lf.valF l = E at *
  clear h5
  go_enter Try.func40, Try.ntmps40
  go_wp2_with fail
  refine (F0.out _).mono ?_
  rintro e w1 ⟨rfl, rfl⟩
  go_wp2
  go_loop [3] (fun t => ∃ k : Nat, k ≤ l.length ∧ t = .int .i64 k ∧ Hid (∀ j (hj : j < l.length), j < k → Lf.okF l[j] = true)) (fun t => l.length - (intOf t).toNat)
  case atStart => exact ⟨0, Nat.zero_le _, rfl, Lib.hid fun j _ h => absurd h (Nat.not_lt_zero _)⟩
  case round =>
    obtain ⟨k, hk, rfl, hg⟩ := hrel
    by_cases hlt : k < l.length
    · obtain ⟨b, off, rfl, hb, v, ⟨c0, c1⟩, hI⟩ := HK.out k hlt
      have HB1 := Lib.hid (HBad.out k hlt)
      have HI : Hid (Lf.okF l[k] = true → ∀ j (hj : j < l.length), j < k + 1 → Lf.okF l[j] = true) := Lib.hid fun h j hj hjk => by
        by_cases e : j = k
        · subst e; exact h
        · exact hg.out j hj (by omega)
      obtain ⟨va, vc, rfl⟩ := hI.form
      have HA := Lib.hid (Ints.at hI)
      have hdk : decide ((k : Int) < (l.length : Int)) = true := decide_eq_true (by omega)
      have hdk2 : decide (k < l.length) = true := decide_eq_true hlt
      clear hg HBad hI
      have HXP := Lib.hid (Lf.okF_poles (f := l[k]))
      have HXL := Lib.hid (Lf.okF_len (f := l[k]))
      have HXB := Lib.hid (fun (j : Nat) (hj : j < 5) (h : Lf.okRt (l[k]'hlt).rs j = false) => Lf.okF_bad (f := l[k]'hlt) hj h)
      have HXO := Lib.hid (@Lf.okF_ok (l[k]'hlt))
      generalize Lf.okF l[k] = o at *
      generalize l[k] = f at *
      obtain ⟨p, rs⟩ := f
      dsimp only at *
      have C1 := Lib.hid (FP.out p)
      cases h1 : Lf.rng 1 40 p
      · have HE := Lib.hid (HB1.out (HXP.out h1))
        rw [h1] at C1
        clear h1 HXP HXL HXB HXO HI HB1 HA
        go_wp2_with fail
        refine (C1.out _).mono ?_
        rintro e w1 ⟨rfl, rfl⟩
        go_wp2
        go_ret
        exact ⟨ret_int HE.out.symm, rfl⟩
      by_cases h5 : rs.length = 5
      case neg =>
        have HE := Lib.hid (HB1.out (HXL.out h5))
        rw [h1] at C1
        have hd1 : ((rs.length : Int) == 5) = false := beq_eq_false_iff_ne.2 (by omega)
        have hd2 : ((rs.length : Int) != 5) = true := by rw [bne, hd1]; rfl
        have hd3 : decide (rs.length = 5) = false := decide_eq_false h5
        clear h1 HXP HXL HXB HXO HI HB1 HA h5
        go_wp2_with fail
        refine (C1.out _).mono ?_
        rintro e w1 ⟨rfl, rfl⟩
        go_wp2
        go_ret
        exact ⟨ret_int HE.out.symm, rfl⟩
      have HO := Lib.hid (fun h => HI.out (HXO.out h1 h5 h))
      have H5 := Lib.hid h5
      have hl5 : rs.length ≤ 5 := by omega
      have hd1 : ((rs.length : Int) == 5) = true := beq_iff_eq.2 (by omega)
      have hd2 : ((rs.length : Int) != 5) = false := by rw [bne, hd1]; rfl
      have hd3 : decide (rs.length = 5) = true := decide_eq_true h5
      have HD := Lib.hid (fun k => okRt_def rs k)
      have HL := Lib.hid (fun k => lst_succ rs k)
      have HL0 : Hid (Lf.lst rs 0 = 0) := Lib.hid rfl
      rw [h1] at C1
      clear h1 h5 HXP HXL HXO HI
      go_wp2_with fail
      refine (C1.out _).mono ?_
      rintro e w1 ⟨rfl, rfl⟩
      go_wp2
      clear hd1 hd2 hd3
      go_loop [4, 5] (fun s t => ∃ (j : Nat) (x : Int), j ≤ rs.length ∧ t = .int .i64 j ∧ s = .int .i64 x ∧ Hid ((∀ i, i < j → Lf.okRt rs i = true) ∧ x = Lf.lst rs j)) (fun _ t => rs.length - (intOf t).toNat)
      case atStart => exact ⟨0, 0, Nat.zero_le _, rfl, rfl, Lib.hid ⟨fun j h => absurd h (Nat.not_lt_zero _), HL0.out.symm⟩⟩
      case round =>
        obtain ⟨j, x, hj, rfl, rfl, hg⟩ := hrel
        by_cases hlj : j < rs.length
        · obtain ⟨b2, off2, rfl, hb2, d0⟩ := HA.out j hlj
          have HBj := Lib.hid (fun h => HB1.out (HXB.out j (by have := H5.out; omega) h))
          have HDk := HD.out j
          have HLk := HL.out j
          have HI2 : Hid (Lf.okRt rs j = true → ∀ i, i < j + 1 → Lf.okRt rs i = true) := Lib.hid fun h i hij => by
            by_cases e : i = j
            · subst e; exact h
            · exact hg.out.1 i (by omega)
          have CK := Lib.hid (FR.out (rs.getD j 0) x)
          rw [← hg.out.2] at HDk
          have HX2 := Lib.hid HLk
          generalize rs.getD j 0 = y at *
          rw [← HDk] at CK
          clear hg HDk HLk
          generalize hV : Lf.okRt rs j = o2 at *
          clear hV
          cases o2
          · have HE := Lib.hid (HBj.out rfl)
            clear HI2 HB1 HBj
            go_wp2_with fail
            refine (CK.out _).mono ?_
            rintro e w1 ⟨rfl, rfl⟩
            go_wp2
            go_ret
            exact ⟨ret_int HE.out.symm, rfl⟩
          · have HI3 := Lib.hid (HI2.out rfl)
            clear HI2 HBj
            go_wp2_with fail
            refine (CK.out _).mono ?_
            rintro e w1 ⟨rfl, rfl⟩
            go_wp2
            go_round
            case rel => exact ⟨j + 1, y, by omega, by go_num, rfl, Lib.hid ⟨HI3.out, HX2.out.symm⟩⟩
            case measure => simp [intOf]; omega
        · have HF := Lib.hid (HO.out fun i hi => hg.out.1 i (by have := H5.out; omega))
          clear hg HO
          go_wp2
          go_round
          case rel => exact ⟨k + 1, by omega, by go_num, HF⟩
          case measure => simp [intOf]; omega
    · obtain rfl : k = l.length := by omega
      have HE := Lib.hid (HOk.out fun j hj => hg.out j hj hj)
      clear hg
      go_wp2
      go_ret
      exact ⟨ret_int HE.out.symm, rfl⟩
end Go.Proofs.Ytabfcnfddemblaa.Lo
namespace Go.Proofs.Ytabfcnfddemblaa.Lo
open Go.RowKit

theorem okHt_def (l : List Int) (k : Nat) : Lf.okHt l k = Lf.stp (Lf.lst l k) (l.getD k 0) := rfl
theorem stp_def (a b : Int) : Lf.stp a b = Lf.rng (max 0 (a - 1)) (min 4 (a + 1)) b := rfl
theorem stp_bd {a b : Int} (h : Lf.stp a b = true) : 0 ≤ b ∧ b ≤ 4 := by have := Lf.stp_iff.1 h; omega
set_option maxRecDepth 100000 in
set_option maxHeartbeats 2000000 in
theorem vHeats_any (v : Value) (hs : List Int) (w : World) (hI : Ints w v hs) : Calls Try.prog 37 #[v] w fun e w' => e = .returned (.bool (Lf.vHt hs)) ∧ w = w' := by
  obtain ⟨a, c, rfl⟩ := hI.form
  have HA := Lib.hid (Ints.at hI)
  have F0 := Lib.hid (fun W => isFrom_any 1 12 (hs.length : Int) W)
  have CR := Lib.hid (fun x y n W => isFrom_any x y n W)
  have CL := Lib.hid (fun x W h => lowest_any x W h)
  have CH := Lib.hid (fun x W h => highest_any x W h)
  clear hI
  cases h5 : Lf.rng 1 12 (hs.length : Int)
  · have HE := Lib.hid (Lf.vHt_len h5)
    rw [h5] at F0
    generalize Lf.vHt hs = E at *
    clear h5
    go_enter Try.func37, Try.ntmps37
    go_wp2_with fail
    refine (F0.out _).mono ?_
    rintro e w1 ⟨rfl, rfl⟩
    go_wp2
    go_ret
    exact ⟨by rw [HE.out] <;> rfl, rfl⟩
  have HBad := Lib.hid (fun k (hk : k < hs.length) h => Lf.vHt_bad (hs := hs) hk h)
  have HOk := Lib.hid (fun h => Lf.vHt_ok h5 h)
  have hl12 : hs.length ≤ 12 := by have := Lf.rng_iff.1 h5; omega
  have HD := Lib.hid (fun k => okHt_def hs k)
  have HL := Lib.hid (fun k => lst_succ hs k)
  have HL0 : Hid (Lf.lst hs 0 = 0) := Lib.hid rfl
  have HSD := Lib.hid stp_def
  have HSB := Lib.hid (fun a b h => stp_bd (a := a) (b := b) h)
  rw [h5] at F0
  generalize Lf.vHt hs = E at *
  clear h5
  go_enter Try.func37, Try.ntmps37
  go_wp2_with fail
  refine (F0.out _).mono ?_
  rintro e w1 ⟨rfl, rfl⟩
  go_wp2
  go_loop [3, 12] (fun s t => ∃ (k : Nat) (x : Int), k ≤ hs.length ∧ t = .int .i64 k ∧ (0 ≤ x ∧ x ≤ 4) ∧ s = .int .i64 x ∧ Hid ((∀ j, j < k → Lf.okHt hs j = true) ∧ x = Lf.lst hs k)) (fun _ t => hs.length - (intOf t).toNat)
  case atStart => exact ⟨0, 0, Nat.zero_le _, rfl, ⟨by omega, by omega⟩, rfl, Lib.hid ⟨fun j h => absurd h (Nat.not_lt_zero _), HL0.out.symm⟩⟩
  case round =>
    obtain ⟨k, x, hk, rfl, ⟨hx0, hx4⟩, rfl, hg⟩ := hrel
    by_cases hlt : k < hs.length
    · obtain ⟨b, off, rfl, hb, c0⟩ := HA.out k hlt
      have HB1 := Lib.hid (HBad.out k hlt)
      have HDk := HD.out k
      have HLk := HL.out k
      have HI : Hid (Lf.okHt hs k = true → ∀ j, j < k + 1 → Lf.okHt hs j = true) := Lib.hid fun h j hjk => by
        by_cases e : j = k
        · subst e; exact h
        · exact hg.out.1 j (by omega)
      have CLk := Lib.hid (fun W => CL.out x W ⟨hx0, hx4⟩)
      have CHk := Lib.hid (fun W => CH.out x W ⟨hx0, hx4⟩)
      have CK := Lib.hid (CR.out (max 0 (x - 1)) (min 4 (x + 1)) (hs.getD k 0))
      have HSDk := HSD.out x (hs.getD k 0)
      have HSBk := Lib.hid (HSB.out x (hs.getD k 0))
      rw [← hg.out.2] at HDk
      have HX2 := Lib.hid HLk
      generalize hs.getD k 0 = y at *
      rw [← HSDk, ← HDk] at CK
      rw [← HDk] at HSBk
      clear hg HBad HDk HLk HSDk
      generalize hV : Lf.okHt hs k = o at *
      clear hV
      generalize max 0 (x - 1) = M at *
      generalize min 4 (x + 1) = N at *
      cases o
      · have HE := Lib.hid (HB1.out rfl)
        clear HI HB1 HSBk
        go_wp2_with fail
        refine (CLk.out _).mono ?_
        rintro e w1 ⟨rfl, rfl⟩
        go_wp2_with fail
        refine (CHk.out _).mono ?_
        rintro e w1 ⟨rfl, rfl⟩
        go_wp2_with fail
        refine (CK.out _).mono ?_
        rintro e w1 ⟨rfl, rfl⟩
        go_wp2
        go_ret
        exact ⟨by rw [HE.out] <;> rfl, rfl⟩
      · have HI2 := Lib.hid (HI.out rfl)
        have hy := HSBk.out rfl
        clear HI HB1 HSBk
        go_wp2_with fail
        refine (CLk.out _).mono ?_
        rintro e w1 ⟨rfl, rfl⟩
        go_wp2_with fail
        refine (CHk.out _).mono ?_
        rintro e w1 ⟨rfl, rfl⟩
        go_wp2_with fail
        refine (CK.out _).mono ?_
        rintro e w1 ⟨rfl, rfl⟩
        go_wp2
        go_round
        case rel => exact ⟨k + 1, y, by omega, by go_num, hy, rfl, Lib.hid ⟨HI2.out, HX2.out.symm⟩⟩
        case measure => simp [intOf]; omega
    · obtain rfl : k = hs.length := by omega
      have HE := Lib.hid (HOk.out fun j hj => hg.out.1 j hj)
      clear hg
      go_wp2
      go_ret
      exact ⟨by rw [HE.out] <;> rfl, rfl⟩
set_option maxRecDepth 100000 in
set_option maxHeartbeats 2000000 in
theorem rvHeats_any (v : Value) (hs : List Int) (w : World) (hI : Ints w v hs) : Calls Try.prog 38 #[v] w fun e w' => e = .returned (.bool (Lf.vHt hs)) ∧ w = w' := by
  obtain ⟨a, c, rfl⟩ := hI.form
  have HA := Lib.hid (Ints.at hI)
  have F0 := Lib.hid (fun W => within_any (hs.length : Int) 1 12 W)
  have CR := Lib.hid (fun n x y W => within_any n x y W)
  clear hI
  cases h5 : Lf.rng 1 12 (hs.length : Int)
  · have HE := Lib.hid (Lf.vHt_len h5)
    rw [h5] at F0
    generalize Lf.vHt hs = E at *
    clear h5
    go_enter Try.func38, Try.ntmps38
    go_wp2_with fail
    refine (F0.out _).mono ?_
    rintro e w1 ⟨rfl, rfl⟩
    go_wp2
    go_ret
    exact ⟨by rw [HE.out] <;> rfl, rfl⟩
  have HBad := Lib.hid (fun k (hk : k < hs.length) h => Lf.vHt_bad (hs := hs) hk h)
  have HOk := Lib.hid (fun h => Lf.vHt_ok h5 h)
  have hl12 : hs.length ≤ 12 := by have := Lf.rng_iff.1 h5; omega
  have HD := Lib.hid (fun k => okHt_def hs k)
  have HL := Lib.hid (fun k => lst_succ hs k)
  have HL0 : Hid (Lf.lst hs 0 = 0) := Lib.hid rfl
  have HSR := Lib.hid Lf.stp_ref
  have HSB := Lib.hid (fun a b h => stp_bd (a := a) (b := b) h)
  rw [h5] at F0
  generalize Lf.vHt hs = E at *
  clear h5
  go_enter Try.func38, Try.ntmps38
  go_wp2_with fail
  refine (F0.out _).mono ?_
  rintro e w1 ⟨rfl, rfl⟩
  go_wp2
  go_loop [3, 4] (fun s t => ∃ (k : Nat) (x : Int), k ≤ hs.length ∧ t = .int .i64 k ∧ (0 ≤ x ∧ x ≤ 4) ∧ s = .int .i64 x ∧ Hid ((∀ j, j < k → Lf.okHt hs j = true) ∧ x = Lf.lst hs k)) (fun _ t => hs.length - (intOf t).toNat)
  case atStart => exact ⟨0, 0, Nat.zero_le _, rfl, ⟨by omega, by omega⟩, rfl, Lib.hid ⟨fun j h => absurd h (Nat.not_lt_zero _), HL0.out.symm⟩⟩
  case round =>
    obtain ⟨k, x, hk, rfl, ⟨hx0, hx4⟩, rfl, hg⟩ := hrel
    by_cases hlt : k < hs.length
    · obtain ⟨b, off, rfl, hb, c0⟩ := HA.out k hlt
      have HB1 := Lib.hid (HBad.out k hlt)
      have HDk := HD.out k
      have HLk := HL.out k
      have HI : Hid (Lf.okHt hs k = true → ∀ j, j < k + 1 → Lf.okHt hs j = true) := Lib.hid fun h j hjk => by
        by_cases e : j = k
        · subst e; exact h
        · exact hg.out.1 j (by omega)
      have CA := Lib.hid (CR.out (hs.getD k 0) 0 4)
      have CB := Lib.hid (CR.out (hs.getD k 0) (x - 1) (x + 1))
      have HSRk := HSR.out x (hs.getD k 0)
      have HSBk := Lib.hid (HSB.out x (hs.getD k 0))
      rw [← hg.out.2] at HDk
      have HX2 := Lib.hid HLk
      generalize hs.getD k 0 = y at *
      rw [← HDk] at HSBk HSRk
      clear hg HBad HDk HLk
      generalize hV : Lf.okHt hs k = o at *
      clear hV
      cases h1 : Lf.rng 0 4 y
      · rw [h1] at CA HSRk
        have HE := Lib.hid (HB1.out HSRk.symm)
        clear HI HB1 HSBk h1 HSRk CB
        go_wp2_with fail
        refine (CA.out _).mono ?_
        rintro e w1 ⟨rfl, rfl⟩
        go_wp2
        go_ret
        exact ⟨by rw [HE.out] <;> rfl, rfl⟩
      rw [h1, Bool.true_and] at HSRk
      rw [h1] at CA
      rw [HSRk] at CB
      clear h1 HSRk
      cases o
      · have HE := Lib.hid (HB1.out rfl)
        clear HI HB1 HSBk
        go_wp2_with fail
        refine (CA.out _).mono ?_
        rintro e w1 ⟨rfl, rfl⟩
        go_wp2_with fail
        refine (CB.out _).mono ?_
        rintro e w1 ⟨rfl, rfl⟩
        go_wp2
        go_ret
        exact ⟨by rw [HE.out] <;> rfl, rfl⟩
      · have HI2 := Lib.hid (HI.out rfl)
        have hy := HSBk.out rfl
        clear HI HB1 HSBk
        go_wp2_with fail
        refine (CA.out _).mono ?_
        rintro e w1 ⟨rfl, rfl⟩
        go_wp2_with fail
        refine (CB.out _).mono ?_
        rintro e w1 ⟨rfl, rfl⟩
        go_wp2
        go_round
        case rel => exact ⟨k + 1, y, by omega, by go_num, hy, rfl, Lib.hid ⟨HI2.out, HX2.out.symm⟩⟩
        case measure => simp [intOf]; omega
    · obtain rfl : k = hs.length := by omega
      have HE := Lib.hid (HOk.out fun j hj => hg.out.1 j hj)
      clear hg
      go_wp2
      go_ret
      exact ⟨by rw [HE.out] <;> rfl, rfl⟩
theorem wm_succ (rs hs : List Int) (k : Nat) : Lf.wm rs hs (k + 1) = Lf.wm rs hs k + rs.getD (hs.getD k 0).toNat 0 := rfl
set_option maxRecDepth 100000 in
set_option maxHeartbeats 2000000 in
theorem warm_any (p : Int) (u v : Value) (rs hs : List Int) (w : World) (hu : Ints w u rs) (hv : Ints w v hs) (h5 : rs.length = 5) (hr : ∀ k, k < 5 → 0 ≤ rs.getD k 0 ∧ rs.getD k 0 ≤ 9) (hh : ∀ k, k < hs.length → 0 ≤ hs.getD k 0 ∧ hs.getD k 0 ≤ 4) (hl : hs.length ≤ 12) :
    Calls Try.prog 74 #[loftV p u, v] w fun e w' => e = .returned (.int .i64 (Lf.wm rs hs hs.length)) ∧ Below w.heap.size w w' := by
  have HBD := Lib.hid (fun k hk => Lf.wm_bd hr hh k hk)
  have HHH := Lib.hid hh
  have HRR := Lib.hid hr
  obtain ⟨ua, uc, rfl⟩ := hu.form
  obtain ⟨va, vc, rfl⟩ := hv.form
  have HW := Lib.hid (loft_box w p (.slice ua rs.length uc))
  have HB := Lib.hid HW.out.1
  have HU := Lib.hid (Ints.at (hu.all HW.out.2))
  have HV := Lib.hid (Ints.at (hv.all HW.out.2))
  have HS := Lib.hid (fun k => wm_succ rs hs k)
  have H0 : Hid (Lf.wm rs hs 0 = 0) := Lib.hid rfl
  have H5 := Lib.hid h5
  have hl5 : 5 ≤ rs.length := by omega
  have x1 : World.cell? _ _ = some (.slice ua rs.length uc) := HW.out.1.cell 1
  obtain ⟨E, hE⟩ : ∃ E, E = Lf.wm rs hs hs.length := ⟨_, rfl⟩
  rw [← hE]
  have HE := Lib.hid hE
  clear hu hv h5 hr hh hE
  go_enter Try.func74, Try.ntmps74
  go_wp2
  go_loopw [5, 10] (fun s t wr => ∃ k : Nat, k ≤ hs.length ∧ t = .int .i64 k ∧ ∃ x : Int, (0 ≤ x ∧ x ≤ 1000) ∧ s = .int .i64 x ∧ ∃ nd : Nat, wr = (w.alloc (.cells (loftA p (.slice ua rs.length uc)) LoftT)).drewN nd ∧ Hid (x = Lf.wm rs hs k)) (fun _ t _ => hs.length - (intOf t).toNat)
  case atStart => exact ⟨0, Nat.zero_le _, rfl, 0, ⟨by omega, by omega⟩, rfl, 0, rfl, Lib.hid H0.out.symm⟩
  case round =>
    obtain ⟨k, hk, rfl, x, ⟨hx0, hx1⟩, rfl, nd, rfl, hg⟩ := hrel
    by_cases hlt : k < hs.length
    · obtain ⟨b, off, rfl, hb, c0⟩ := HV.out k hlt
      have hy := HHH.out k hlt
      have HS1 := HS.out k
      rw [← hg.out] at HS1
      have hbd := HBD.out (k + 1) (by omega)
      rw [HS1] at hbd
      generalize hs.getD k 0 = y at *
      obtain ⟨n, hn⟩ : ∃ n : Nat, y = (n : Int) := ⟨y.toNat, by omega⟩
      subst hn
      rw [show ((n : Int)).toNat = n from rfl] at HS1 hbd
      have hn5 : n < rs.length := by omega
      obtain ⟨b2, off2, rfl, hb2, d0⟩ := HU.out n hn5
      have hz := HRR.out n (by omega)
      generalize rs.getD n 0 = z at *
      have HS2 := Lib.hid HS1
      clear HS1 hg hbd
      obtain ⟨hz0, hz1⟩ := hz
      go_wp2
      go_roundw
      case rel => exact ⟨k + 1, by omega, by go_num, x + z, ⟨by omega, by have := HBD.out (k + 1) (by omega); have := HS2.out; omega⟩, rfl, nd, rfl, Lib.hid HS2.out.symm⟩
      case measure => simp [intOf]; omega
    · obtain rfl : k = hs.length := by omega
      have HX := Lib.hid (hg.out.trans HE.out.symm)
      clear hg
      go_wp2
      go_ret
      exact ⟨ret_int HX.out, below_drewN HW.out.2 _⟩
set_option maxRecDepth 100000 in
set_option maxHeartbeats 2000000 in
theorem rwarm_any (p : Int) (u v : Value) (rs hs : List Int) (w : World) (hu : Ints w u rs) (hv : Ints w v hs) (h5 : rs.length = 5) (hr : ∀ k, k < 5 → 0 ≤ rs.getD k 0 ∧ rs.getD k 0 ≤ 9) (hh : ∀ k, k < hs.length → 0 ≤ hs.getD k 0 ∧ hs.getD k 0 ≤ 4) (hl : hs.length ≤ 12) :
    Calls Try.prog 75 #[loftV p u, v] w fun e w' => e = .returned (.int .i64 (Lf.wm rs hs hs.length)) ∧ Below w.heap.size w w' := by
  have HBD := Lib.hid (fun k hk => Lf.wm_bd hr hh k hk)
  have HHH := Lib.hid hh
  have HRR := Lib.hid hr
  obtain ⟨ua, uc, rfl⟩ := hu.form
  obtain ⟨va, vc, rfl⟩ := hv.form
  have HW := Lib.hid (loft_box w p (.slice ua rs.length uc))
  have HB := Lib.hid HW.out.1
  have HU := Lib.hid (Ints.at (hu.all HW.out.2))
  have HV := Lib.hid (Ints.at (hv.all HW.out.2))
  have HS := Lib.hid (fun k => wm_succ rs hs k)
  have H0 : Hid (Lf.wm rs hs 0 = 0) := Lib.hid rfl
  have H5 := Lib.hid h5
  have hl5 : 5 ≤ rs.length := by omega
  have x1 : World.cell? _ _ = some (.slice ua rs.length uc) := HW.out.1.cell 1
  obtain ⟨E, hE⟩ : ∃ E, E = Lf.wm rs hs hs.length := ⟨_, rfl⟩
  rw [← hE]
  have HE := Lib.hid hE
  clear hu hv h5 hr hh hE
  go_enter Try.func75, Try.ntmps75
  go_wp2
  go_loopw [5, 6] (fun s t wr => ∃ k : Nat, k ≤ hs.length ∧ t = .int .i64 k ∧ ∃ x : Int, (0 ≤ x ∧ x ≤ 1000) ∧ s = .int .i64 x ∧ ∃ nd : Nat, wr = (w.alloc (.cells (loftA p (.slice ua rs.length uc)) LoftT)).drewN nd ∧ Hid (x = Lf.wm rs hs k)) (fun _ t _ => hs.length - (intOf t).toNat)
  case atStart => exact ⟨0, Nat.zero_le _, rfl, 0, ⟨by omega, by omega⟩, rfl, 0, rfl, Lib.hid H0.out.symm⟩
  case round =>
    obtain ⟨k, hk, rfl, x, ⟨hx0, hx1⟩, rfl, nd, rfl, hg⟩ := hrel
    by_cases hlt : k < hs.length
    · obtain ⟨b, off, rfl, hb, c0⟩ := HV.out k hlt
      have hy := HHH.out k hlt
      have HS1 := HS.out k
      rw [← hg.out] at HS1
      have hbd := HBD.out (k + 1) (by omega)
      rw [HS1] at hbd
      generalize hs.getD k 0 = y at *
      obtain ⟨n, hn⟩ : ∃ n : Nat, y = (n : Int) := ⟨y.toNat, by omega⟩
      subst hn
      rw [show ((n : Int)).toNat = n from rfl] at HS1 hbd
      have hn5 : n < rs.length := by omega
      obtain ⟨b2, off2, rfl, hb2, d0⟩ := HU.out n hn5
      have hz := HRR.out n (by omega)
      generalize rs.getD n 0 = z at *
      have HS2 := Lib.hid HS1
      clear HS1 hg hbd
      obtain ⟨hz0, hz1⟩ := hz
      have g1 : IntKind.i64.wrap (x + z) = x + z := IntWalk.i64_in _ ⟨by omega, by omega⟩
      go_upto_region 5 with fail
      go_quiet (fail)
      clear g1
      go_wp2
      go_roundw
      case rel => exact ⟨k + 1, by omega, by go_num, x + z, ⟨by omega, by have := HBD.out (k + 1) (by omega); have := HS2.out; omega⟩, rfl, _, rfl, Lib.hid HS2.out.symm⟩
      case measure => simp [intOf]; omega
    · obtain rfl : k = hs.length := by omega
      have HX := Lib.hid (hg.out.trans HE.out.symm)
      clear hg
      go_wp2
      go_ret
      exact ⟨ret_int HX.out, below_drewN HW.out.2 _⟩
end Go.Proofs.Ytabfcnfddemblaa.Lo
