/- The ripeness of a place and its range: of the program and of the reference. -/
import Derived.Test.YtabfcnfddemblaaLf3
namespace Go.Proofs.Ytabfcnfddemblaa.Lo
open Go.RowKit

theorem rip_succ {l : List Lf.H} {p : Int} {k : Nat} (h : k < l.length) : Lf.rip l p (k + 1) = Lf.rip l p k + Lf.ri l[k] p := by
  rw [Lf.rip, show l.getD k default = l[k] by simp [h]]
theorem ri_def (h : Lf.H) (p : Int) : Lf.ri h p = h.y * (h.r - h.f * Lf.hgt h p) := rfl
/-- A hanging lies in a list. -/
def HgA (b o : Nat) (h : Lf.H) (W : World) : Prop :=
  (W.cell? ⟨b, o, none⟩ = some (.int .i64 h.d) ∧ W.cell? ⟨b, o + 1, none⟩ = some (.int .i64 h.s) ∧ W.cell? ⟨b, o + 2, none⟩ = some (.int .i64 h.y) ∧ W.cell? ⟨b, o + 3, none⟩ = some (.int .i64 h.r) ∧ W.cell? ⟨b, o + 4, none⟩ = some (.int .i64 h.f)) ∧ b < W.heap.size
theorem HgA.below {b o N : Nat} {h : Lf.H} {W W2 : World} (hh : HgA b o h W) (hb : Below N W W2) (hN : b < N) : HgA b o h W2 :=
  ⟨⟨(hb.cell (p := ⟨b, o, none⟩) hN).trans hh.1.1, (hb.cell (p := ⟨b, o + 1, none⟩) hN).trans hh.1.2.1, (hb.cell (p := ⟨b, o + 2, none⟩) hN).trans hh.1.2.2.1, (hb.cell (p := ⟨b, o + 3, none⟩) hN).trans hh.1.2.2.2.1, (hb.cell (p := ⟨b, o + 4, none⟩) hN).trans hh.1.2.2.2.2⟩, Nat.lt_of_lt_of_le hh.2 hb.size⟩
set_option maxRecDepth 100000 in
set_option maxHeartbeats 4000000 in
theorem ripe_any (v : Value) (l : List Lf.H) (p : Int) (w : World) (hl : Hangs w v l) (hv : ∀ k (hk : k < l.length), Lf.vH l[k] = true) (h8 : l.length ≤ 8) (hp : 0 ≤ p ∧ p ≤ 1000000) :
    Calls Try.prog 64 #[v, .int .i64 p] w fun e w' => e = .returned (.int .i64 (Lf.rip l p l.length)) ∧ Below w.heap.size w w' := by
  obtain ⟨ao, c, rfl, _, hlk⟩ := hl
  have HK := Lib.hid hlk
  have HV := Lib.hid hv
  have HP := Lib.hid hp
  have hw0 := Lib.hid (Below.refl w.heap.size w)
  have FH := Lib.hid (fun h W hv => height_any h p W hv hp)
  have HBD := Lib.hid (fun k hk => Lf.rip_bd hv p k hk)
  have HS := Lib.hid (fun k (hk : k < l.length) => rip_succ (p := p) hk)
  have HRB := Lib.hid (fun k (hk : k < l.length) => Lf.ri_bd (hv k hk) p)
  have HFB := Lib.hid (fun k (hk : k < l.length) => Lf.fh_bd (hv k hk) p)
  have H0 : Hid (Lf.rip l p 0 = 0) := Lib.hid rfl
  obtain ⟨E, hE⟩ : ∃ E, E = Lf.rip l p l.length := ⟨_, rfl⟩
  rw [← hE]
  have HE := Lib.hid hE
  clear hlk hv hp hE
  go_enter Try.func64, Try.ntmps64
  go_wp2
  go_loopw [5, 10] (fun s t wr => ∃ k : Nat, k ≤ l.length ∧ t = .int .i64 k ∧ ∃ x : Int, (0 ≤ x ∧ x ≤ 9600000) ∧ s = .int .i64 x ∧ Hid (x = Lf.rip l p k ∧ Below w.heap.size w wr)) (fun _ t _ => l.length - (intOf t).toNat)
  case atStart => exact ⟨0, Nat.zero_le _, rfl, 0, ⟨by omega, by omega⟩, rfl, Lib.hid ⟨H0.out.symm, hw0.out⟩⟩
  case round =>
    obtain ⟨k, hk, rfl, x, ⟨hx0, hx1⟩, rfl, hg⟩ := hrel
    clear hw0 H0
    by_cases hlt : k < l.length
    · obtain ⟨b, off, rfl, hb, hr⟩ := HK.out k hlt
      have hcs := hang_at (hr.below hg.out.2 hb)
      have hbw := Nat.lt_of_lt_of_le hb hg.out.2.size
      have FH1 := Lib.hid (fun W => FH.out l[k] W (HV.out k hlt))
      have hrb := HRB.out k hlt
      have hfb := HFB.out k hlt
      have hbd := HBD.out (k + 1) (by omega)
      have HS1 := HS.out k hlt
      have HV1 := Lf.vH_iff.1 (HV.out k hlt)
      have hri := ri_def l[k] p
      rw [← hg.out.1] at HS1
      obtain ⟨c0, c1, c2, c3, c4⟩ := hcs
      have HB1 := Lib.hid (And.intro (HgB.of (BlockAt.new wr (hangA l[k]) HangT).drew) (below_drewN (below_alloc2 hg.out.2 (.cells (hangA l[k]) HangT)) 1))
      clear hr hg FH HV HRB HFB HBD HS
      generalize Lf.ri l[k] p = R at *
      generalize hG : Lf.hgt l[k] p = G at *
      clear hG
      obtain ⟨x2, hx2⟩ : ∃ x2, x2 = Lf.rip l p (k + 1) := ⟨_, rfl⟩
      rw [← hx2] at HS1 hbd
      have HX2 := Lib.hid hx2
      clear hx2
      have hl8 : (k : Int) ≤ 7 := by omega
      generalize l[k] = a at *
      obtain ⟨hd, hs, hy, hr, hf⟩ := a
      dsimp only at *
      obtain ⟨_, _, ⟨y1, y2⟩, ⟨r1, r2⟩, _⟩ := HV1
      have HS2 := Lib.hid (show x2 = x + R from HS1)
      have hxb : 0 ≤ x2 ∧ x2 ≤ 9600000 := ⟨hbd.1, by omega⟩
      clear HS1 hbd
      generalize hF : hf * G = FG at *
      generalize hY : hy * (hr - FG) = YR at *
      subst hri
      have g1 : IntKind.i64.wrap FG = FG := IntWalk.i64_in _ ⟨by omega, by omega⟩
      have g2 : IntKind.i64.wrap (hr - FG) = hr - FG := IntWalk.i64_in _ ⟨by omega, by omega⟩
      have g3 : IntKind.i64.wrap R = R := IntWalk.i64_in _ ⟨by omega, by omega⟩
      have g4 : IntKind.i64.wrap (x + R) = x2 := by rw [← HS2.out]; exact IntWalk.i64_in _ ⟨by omega, by omega⟩
      go_upto_region 5 with fail
      refine wp_region_seq [(0, true), (1, true), (2, true), (3, true), (4, true), (5, true), (6, true), (7, true), (8, true), (9, false), (10, true), (11, true), (12, true), (13, true), (14, true)] (fun W => HgB wr.heap.size ⟨hd, hs, hy, hr, hf⟩ W)
        (by kernel_rfl) (by kernel_rfl) (by kernel_rfl) (by kernel_rfl) (fun d _ _ _ _ h => by cases d <;> exact h) HB1.out.1 (fun _ => ?_)
      repeat (first | (refine SeqH.take (v := ?_) rfl (by rfl) ?_ ?_; rotate_left; (· intro w hSw; (try dsimp only at hSw); obtain ⟨⟨a0, a1, a2, a3, a4⟩, _⟩ := hSw; go_simp; (try with_reducible rfl)); simp only [Act.put, List.setIfInBounds_toArray, List.set_cons_zero, List.set_cons_succ]) | (refine SeqH.skip rfl (by rfl) ?_; simp only [Act.put, List.setIfInBounds_toArray, List.set_cons_zero, List.set_cons_succ]))
      refine SeqH.step rfl (by rfl) (fun K hK => ?_)
      go_simp
      go_at_call 61
      refine (FH1.out _).mono ?_
      rintro e w7 ⟨rfl, hb1⟩
      try dsimp only
      have HN := Lib.hid (below_step HB1.out.2 hb1)
      refine hK.out _ _ (HB1.out.1.below hb1 HB1.out.1.2) (fun _ => ?_)
      clear hK K
      try simp only [Act.put, List.setIfInBounds_toArray, List.set_cons_zero, List.set_cons_succ]
      clear hb1
      repeat (first | (refine SeqH.take (v := ?_) rfl (by rfl) ?_ ?_; rotate_left; (· intro w hSw; (try dsimp only at hSw); obtain ⟨⟨a0, a1, a2, a3, a4⟩, _⟩ := hSw; go_simp; (try rw [hF]); (try rw [g1]); (try rw [g2]); (try rw [hY]); (try rw [g3]); (try rw [g4]); (try with_reducible rfl)); simp only [Act.put, List.setIfInBounds_toArray, List.set_cons_zero, List.set_cons_succ]) | (refine SeqH.skip rfl (by rfl) ?_; simp only [Act.put, List.setIfInBounds_toArray, List.set_cons_zero, List.set_cons_succ]))
      refine SeqH.done ?_
      clear g1 g2 g3 g4 hF hY
      go_wp2
      go_roundw
      case rel => exact ⟨k + 1, by omega, by go_num, x2, hxb, rfl, Lib.hid ⟨HX2.out, HN.out⟩⟩
      case measure => simp [intOf]; omega
    · obtain rfl : k = l.length := by omega
      have HX := Lib.hid (hg.out.1.trans HE.out.symm)
      have HG := Lib.hid hg.out.2
      clear hg
      go_wp2
      go_ret
      exact ⟨ret_int HX.out, HG.out⟩
set_option maxRecDepth 100000 in
set_option maxHeartbeats 4000000 in
theorem rripe_any (v : Value) (l : List Lf.H) (p : Int) (w : World) (hl : Hangs w v l) (hv : ∀ k (hk : k < l.length), Lf.vH l[k] = true) (h8 : l.length ≤ 8) (hp : 0 ≤ p ∧ p ≤ 1000000) :
    Calls Try.prog 66 #[v, .int .i64 p] w fun e w' => e = .returned (.int .i64 (Lf.rip l p l.length)) ∧ Below w.heap.size w w' := by
  obtain ⟨ao, c, rfl, _, hlk⟩ := hl
  have HK := Lib.hid hlk
  have HV := Lib.hid hv
  have HP := Lib.hid hp
  have hw0 := Lib.hid (Below.refl w.heap.size w)
  have FH := Lib.hid (fun h W hv => rheight_any h p W hv hp)
  have HBD := Lib.hid (fun k hk => Lf.rip_bd hv p k hk)
  have HS := Lib.hid (fun k (hk : k < l.length) => rip_succ (p := p) hk)
  have HRB := Lib.hid (fun k (hk : k < l.length) => Lf.ri_bd (hv k hk) p)
  have HFB := Lib.hid (fun k (hk : k < l.length) => Lf.fh_bd (hv k hk) p)
  have H0 : Hid (Lf.rip l p 0 = 0) := Lib.hid rfl
  obtain ⟨E, hE⟩ : ∃ E, E = Lf.rip l p l.length := ⟨_, rfl⟩
  rw [← hE]
  have HE := Lib.hid hE
  clear hlk hv hp hE
  go_enter Try.func66, Try.ntmps66
  go_wp2
  go_loopw [5, 6] (fun s t wr => ∃ k : Nat, k ≤ l.length ∧ t = .int .i64 k ∧ ∃ x : Int, (0 ≤ x ∧ x ≤ 9600000) ∧ s = .int .i64 x ∧ Hid (x = Lf.rip l p k ∧ Below w.heap.size w wr)) (fun _ t _ => l.length - (intOf t).toNat)
  case atStart => exact ⟨0, Nat.zero_le _, rfl, 0, ⟨by omega, by omega⟩, rfl, Lib.hid ⟨H0.out.symm, hw0.out⟩⟩
  case round =>
    obtain ⟨k, hk, rfl, x, ⟨hx0, hx1⟩, rfl, hg⟩ := hrel
    clear hw0 H0
    by_cases hlt : k < l.length
    · obtain ⟨b, off, rfl, hb, hr⟩ := HK.out k hlt
      have hcs := hang_at (hr.below hg.out.2 hb)
      have hbw := Nat.lt_of_lt_of_le hb hg.out.2.size
      have FH1 := Lib.hid (fun W => FH.out l[k] W (HV.out k hlt))
      have hrb := HRB.out k hlt
      have hfb := HFB.out k hlt
      have hbd := HBD.out (k + 1) (by omega)
      have HS1 := HS.out k hlt
      have HV1 := Lf.vH_iff.1 (HV.out k hlt)
      have hri := ri_def l[k] p
      rw [← hg.out.1] at HS1
      have HB1 := Lib.hid (And.intro (show HgA b (off + k * 5) l[k] wr.drew from ⟨hcs, hbw⟩) (below_drewN hg.out.2 1))
      clear hcs
      clear hr hg FH HV HRB HFB HBD HS
      generalize Lf.ri l[k] p = R at *
      generalize hG : Lf.hgt l[k] p = G at *
      clear hG
      obtain ⟨x2, hx2⟩ : ∃ x2, x2 = Lf.rip l p (k + 1) := ⟨_, rfl⟩
      rw [← hx2] at HS1 hbd
      have HX2 := Lib.hid hx2
      clear hx2
      have hl8 : (k : Int) ≤ 7 := by omega
      generalize l[k] = a at *
      obtain ⟨hd, hs, hy, hr, hf⟩ := a
      dsimp only at *
      obtain ⟨_, _, ⟨y1, y2⟩, ⟨r1, r2⟩, _⟩ := HV1
      have HS2 := Lib.hid (show x2 = x + R from HS1)
      have hxb : 0 ≤ x2 ∧ x2 ≤ 9600000 := ⟨hbd.1, by omega⟩
      clear HS1 hbd
      generalize hF : hf * G = FG at *
      generalize hY : hy * (hr - FG) = YR at *
      subst hri
      have g1 : IntKind.i64.wrap FG = FG := IntWalk.i64_in _ ⟨by omega, by omega⟩
      have g2 : IntKind.i64.wrap (hr - FG) = hr - FG := IntWalk.i64_in _ ⟨by omega, by omega⟩
      have g3 : IntKind.i64.wrap R = R := IntWalk.i64_in _ ⟨by omega, by omega⟩
      have g4 : IntKind.i64.wrap (x + R) = x2 := by rw [← HS2.out]; exact IntWalk.i64_in _ ⟨by omega, by omega⟩
      go_upto_region 5 with fail
      refine wp_region_seq [(0, true), (1, true), (2, true), (3, true), (4, true), (5, true), (6, true), (7, true), (8, true), (9, true), (10, true), (11, true), (12, true), (13, true), (14, true), (15, true), (16, true), (17, true), (18, true), (19, true), (20, true), (21, false), (22, true), (23, true), (24, true), (25, true), (26, true)] (fun W => HgA b (off + k * 5) ⟨hd, hs, hy, hr, hf⟩ W)
        (by kernel_rfl) (by kernel_rfl) (by kernel_rfl) (by kernel_rfl) (fun d _ _ _ _ h => by cases d <;> exact h) HB1.out.1 (fun _ => ?_)
      repeat (first | (refine SeqH.take (v := ?_) rfl (by rfl) ?_ ?_; rotate_left; (· intro w hSw; (try dsimp only at hSw); obtain ⟨⟨a0, a1, a2, a3, a4⟩, _⟩ := hSw; go_simp; (try with_reducible rfl)); simp only [Act.put, List.setIfInBounds_toArray, List.set_cons_zero, List.set_cons_succ]) | (refine SeqH.skip rfl (by rfl) ?_; simp only [Act.put, List.setIfInBounds_toArray, List.set_cons_zero, List.set_cons_succ]))
      refine SeqH.step rfl (by rfl) (fun K hK => ?_)
      go_simp
      go_at_call 62
      refine (FH1.out _).mono ?_
      rintro e w7 ⟨rfl, hb1⟩
      try dsimp only
      have HN := Lib.hid (below_step HB1.out.2 hb1)
      refine hK.out _ _ (HB1.out.1.below hb1 HB1.out.1.2) (fun _ => ?_)
      clear hK K
      try simp only [Act.put, List.setIfInBounds_toArray, List.set_cons_zero, List.set_cons_succ]
      clear hb1
      repeat (first | (refine SeqH.take (v := ?_) rfl (by rfl) ?_ ?_; rotate_left; (· intro w hSw; (try dsimp only at hSw); obtain ⟨⟨a0, a1, a2, a3, a4⟩, _⟩ := hSw; go_simp; (try rw [hF]); (try rw [g1]); (try rw [g2]); (try rw [hY]); (try rw [g3]); (try rw [g4]); (try with_reducible rfl)); simp only [Act.put, List.setIfInBounds_toArray, List.set_cons_zero, List.set_cons_succ]) | (refine SeqH.skip rfl (by rfl) ?_; simp only [Act.put, List.setIfInBounds_toArray, List.set_cons_zero, List.set_cons_succ]))
      refine SeqH.done ?_
      clear g1 g2 g3 g4 hF hY
      go_wp2
      go_roundw
      case rel => exact ⟨k + 1, by omega, by go_num, x2, hxb, rfl, Lib.hid ⟨HX2.out, HN.out⟩⟩
      case measure => simp [intOf]; omega
    · obtain rfl : k = l.length := by omega
      have HX := Lib.hid (hg.out.1.trans HE.out.symm)
      have HG := Lib.hid hg.out.2
      clear hg
      go_wp2
      go_ret
      exact ⟨ret_int HX.out, HG.out⟩
end Go.Proofs.Ytabfcnfddemblaa.Lo
