/- The share of a lot in another one as the sum over all paths. -/
import Derived.Test.YtccjbefmcifaeaaTopN
import Derived.Test.YtccjbefmcifaeaaSeq3
import Derived.Deep.QuietTactic
import Derived.BigQuiet
namespace Go.Proofs.Ytccjbefmcifaeaa
open Go.RowKit

theorem Kb.own {bm : Nat} {w w1 : World} (h : Kb bm w w1) (i : Nat) (v : Value) : Kb bm w (w1.setCell ⟨bm, i, none⟩ v) :=
  ⟨h.os, h.tape, h.output, by simpa [World.setCell] using h.size, fun j hj hn => by
    have hne : bm ≠ j := fun e => hn (by rw [e])
    exact (Below.heap_setCell _ _ _ _ (fun e => hne e.symm)).trans (h.block j hj hn)⟩
theorem sum_boundsT (an ad bn bd : Int) : (-1099511627776 ≤ Fr.sumN an ad bn bd ∧ Fr.sumN an ad bn bd ≤ 1099511627776) ∧ 0 ≤ Fr.sumD an ad bn bd ∧ Fr.sumD an ad bn bd ≤ 1048576 := by
  unfold Fr.sumN Fr.sumD
  split
  · exact ⟨Fr.nu_bound _ _, Fr.de_bound _ _⟩
  · decide
theorem mul_boundsT (an ad bn bd : Int) : (-1099511627776 ≤ Fr.mulN an ad bn bd ∧ Fr.mulN an ad bn bd ≤ 1099511627776) ∧ 0 ≤ Fr.mulD an ad bn bd ∧ Fr.mulD an ad bn bd ≤ 1048576 := by
  unfold Fr.mulN Fr.mulD
  split
  · exact ⟨Fr.nu_bound _ _, Fr.de_bound _ _⟩
  · decide
/-- What a call leaves: the steps that are left, and a share if it says so. -/
def PathR (ls : List Lt.L) (of i ps : Nat) (w w' : World) (st a b : Int) (ok : Bool) : Prop :=
  Fr.ok a b = true ∧ (ok = true → Tp.IsS a b (Sh.D ls (i + 1) : Int) (Sh.S ls (oneO of) i : Int)) ∧ (∃ st', (0 ≤ st' ∧ st' ≤ st) ∧ BlockAt w' ps #[.int .i64 st'] 3) ∧ Kb ps w w'
/-- What lies in memory while the parts are gone through: the steps, the sum, the result. -/
def PM (w W : World) (pz r q : Nat) (st a b : Int) : Prop :=
  Kb pz w W ∧ BlockAt W pz #[.int .i64 st] 3 ∧ BlockAt W q #[.int .i64 a, .int .i64 b] 43 ∧ BlockAt W r #[.int .i64 0, .int .i64 0] 43
theorem PM.below {w W W' : World} {pz r q : Nat} {st a b : Int} (h : PM w W pz r q st a b) (hb : Below W.heap.size W W') : PM w W' pz r q st a b :=
  ⟨h.1.below hb, h.2.1.below hb h.2.1.lt, h.2.2.1.below hb h.2.2.1.lt, h.2.2.2.below hb h.2.2.2.lt⟩
theorem PM.kb {w W W' : World} {pz r q : Nat} {st st2 a b : Int} (h : PM w W pz r q st a b) (hk : Kb pz W W') (hs : BlockAt W' pz #[.int .i64 st2] 3) (hr : r ≠ pz) (hq : q ≠ pz) : PM w W' pz r q st2 a b :=
  ⟨h.1.trans hk, hs, h.2.2.1.kb hk hq, h.2.2.2.kb hk hr⟩
theorem path_step {ls : List Lt.L} (herr : ∀ j, j < ls.length → Lt.errAt ls j = 0) {S : Nat → Nat} {i j p : Nat} (hi : i < ls.length) (hj : j < (ls.getD i default).ps.length) (hp : (ls.getD i default).ps[j].l = (p : Int)) (hpi : p < i) {a b sn sd : Int}
    (h : Tp.IsS a b (Sh.D ls (i + 1) : Int) (Sh.sumS ls i S ((ls.getD i default).ps.take j) : Int)) (hs : Tp.IsS sn sd (Sh.D ls (p + 1) : Int) (S p : Int))
    (hk : Fr.er (ls.getD i default).ps[j].m (Lt.takes (ls.getD i default).ps) = 0)
    (hm : Fr.mulE sn sd (Fr.nu (ls.getD i default).ps[j].m (Lt.takes (ls.getD i default).ps)) (Fr.de (ls.getD i default).ps[j].m (Lt.takes (ls.getD i default).ps)) = 0)
    (hg : Fr.sumE a b (Fr.mulN sn sd (Fr.nu (ls.getD i default).ps[j].m (Lt.takes (ls.getD i default).ps)) (Fr.de (ls.getD i default).ps[j].m (Lt.takes (ls.getD i default).ps))) (Fr.mulD sn sd (Fr.nu (ls.getD i default).ps[j].m (Lt.takes (ls.getD i default).ps)) (Fr.de (ls.getD i default).ps[j].m (Lt.takes (ls.getD i default).ps))) = 0) :
    Tp.IsS (Fr.sumN a b (Fr.mulN sn sd (Fr.nu (ls.getD i default).ps[j].m (Lt.takes (ls.getD i default).ps)) (Fr.de (ls.getD i default).ps[j].m (Lt.takes (ls.getD i default).ps))) (Fr.mulD sn sd (Fr.nu (ls.getD i default).ps[j].m (Lt.takes (ls.getD i default).ps)) (Fr.de (ls.getD i default).ps[j].m (Lt.takes (ls.getD i default).ps))))
      (Fr.sumD a b (Fr.mulN sn sd (Fr.nu (ls.getD i default).ps[j].m (Lt.takes (ls.getD i default).ps)) (Fr.de (ls.getD i default).ps[j].m (Lt.takes (ls.getD i default).ps))) (Fr.mulD sn sd (Fr.nu (ls.getD i default).ps[j].m (Lt.takes (ls.getD i default).ps)) (Fr.de (ls.getD i default).ps[j].m (Lt.takes (ls.getD i default).ps))))
      (Sh.D ls (i + 1) : Int) (Sh.sumS ls i S ((ls.getD i default).ps.take (j + 1)) : Int) := by
  have hf := Lt.fine_of (herr i hi)
  have hb : (Sh.be ls i : Int) = Lt.takes (ls.getD i default).ps := Sh.be_full rfl hf (by omega)
  have hmass := hf.2.2 _ (List.getElem_mem hj)
  rw [Sh.sumS_succ ls i S hj, hp, Int.toNat_natCast]
  rw [← hb] at hk hm hg ⊢
  generalize (ls.getD i default).ps[j].m = m at *
  have hko := Fr.ok_mk hk
  have hkv := Fr.val_mk hk
  have hkd := Fr.ok_iff.1 hko
  generalize Fr.nu m (Sh.be ls i : Int) = kn at *
  generalize Fr.de m (Sh.be ls i : Int) = kd at *
  have ht := Tp.IsS.mul (pr := (Sh.pr (Sh.be ls) (p + 1) (i - (p + 1)) : Int)) (T := (Sh.be ls i : Int)) (m := m) (X := (Sh.D ls (i + 1) : Int)) hs (by omega) hkv hm (by
    rw [Sh.D_succ, Sh.pr_split ls hpi]; simp only [Int.natCast_mul])
  have := Tp.IsS.step h ht hg
  rw [Int.natCast_add, Int.natCast_mul, Int.natCast_mul, show ((m.toNat : Nat) : Int) = m by omega]
  exact this

set_option maxRecDepth 20000 in
set_option maxHeartbeats 4000000 in
theorem byPaths_any (v : Value) (ls : List Lt.L) (of pz : Nat) (w0 : World) (hl : ls.length ≤ 24) (herr : ∀ j, j < ls.length → Lt.errAt ls j = 0) (hv : Lots w0 v ls) (ho : of < ls.length) (hps : w0.heap.size ≤ pz) :
    ∀ i, i < ls.length → ∀ (w : World) (st : Int), 0 < st → st ≤ 3000 → BlockAt w pz #[.int .i64 st] 3 → Below w0.heap.size w0 w →
    Calls Try.prog 57 #[v, .int .i64 of, .int .i64 i, ptr pz] w fun e w' => ∃ a b ok, e = .returned (.tuple #[rat a b, .bool ok]) ∧ Hid (PathR ls of i pz w w' st a b ok) := by
  intro i
  induction i using Nat.strongRecOn with
  | ind i ih =>
    intro hi w st hs1 hs2 hb hw
    have hE := early_of herr
    have IH := Lib.hid ih
    have bS := hb.set 0 (.int .i64 (st - 1))
    have hsz : (w.setCell ⟨pz, 0, none⟩ (.int .i64 (st - 1))).heap.size = w.heap.size := by simp [World.setCell]
    have bR := BlockAt.new (w.setCell ⟨pz, 0, none⟩ (.int .i64 (st - 1))) #[.int .i64 0, .int .i64 0] 43
    rw [hsz] at bR
    have bS1 := bS.alloc (.cells #[.int .i64 0, .int .i64 0] 43)
    have hk1 := ((Kb.refl pz w).own 0 (.int .i64 (st - 1))).alloc (.cells #[.int .i64 0, .int .i64 0] 43)
    have hw1 := below_kb hw hps hk1
    have c0 := hb.cell 0
    have f0 := hb.frozen 0
    have hpl := hb.lt
    obtain ⟨W1, hW1⟩ : ∃ W1, W1 = (w.setCell ⟨pz, 0, none⟩ (.int .i64 (st - 1))).alloc (.cells #[.int .i64 0, .int .i64 0] 43) := ⟨_, rfl⟩
    rw [← hW1] at bR bS1 hk1 hw1
    have hsz1 : W1.heap.size = w.heap.size + 1 := by rw [hW1]; simp [World.setCell]
    have H0 := Lib.hid (And.intro bR (And.intro bS1 (And.intro hk1 (And.intro hw1 hsz1))))
    have HW1 := Lib.hid hW1
    have HB := Lib.hid (And.intro hb (And.intro hv (And.intro hw hpl)))
    clear ih bS hsz bR bS1 hk1 hw1 hsz1 hb hv hw
    by_cases hoi : of = i
    · subst hoi
      have hq : ((of : Int) == (of : Int)) = true := by simp
      clear hW1
      go_enter Try.func57, Try.ntmps57
      go_wp2
      rw [← HW1.out]
      clear HW1
      have c0 := H0.out.2.1.cell 0
      have r0 := H0.out.1.cell 0
      have r1 := H0.out.1.cell 1
      have g0 := H0.out.1.frozen 0
      have g1 := H0.out.1.frozen 1
      have hrl := H0.out.1.lt
      go_region
      obtain ⟨W2, hW2⟩ : ∃ W2, W2 = ((W1.setCell ⟨w.heap.size, 0, none⟩ (.int .i64 1)).setCell ⟨w.heap.size, 1, none⟩ (.int .i64 1)).drew := ⟨_, rfl⟩
      have bR2 : BlockAt W2 w.heap.size #[.int .i64 1, .int .i64 1] 43 := by rw [hW2]; exact ((H0.out.1.set 0 _).set 1 _).drew
      have bS2 : BlockAt W2 pz #[.int .i64 (st - 1)] 3 := by rw [hW2]; exact ((H0.out.2.1.other (by have := HB.out.2.2.2; omega) _).other (by have := HB.out.2.2.2; omega) _).drew
      have hk2 : Kb pz w W2 := by rw [hW2]; exact ((H0.out.2.2.1.set (p := ⟨w.heap.size, 0, none⟩) (Nat.le_refl _) _).set (p := ⟨w.heap.size, 1, none⟩) (Nat.le_refl _) _).drew
      rw [← hW2]
      have HR : Hid (PathR ls of of pz w W2 st 1 1 (decide (1 < st))) := Lib.hid ⟨by decide, fun _ => by
        rw [Sh.S_eq hE _ hi, if_pos (by unfold oneO; simp)]
        exact Tp.IsS.one _, ⟨st - 1, by omega, bS2⟩, hk2⟩
      have r0 := bR2.cell 0
      have r1 := bR2.cell 1
      clear hW2 c0 g0 g1 bR2 bS2 hk2
      go_wp2
      exact bodyPost_ret (v := .tuple #[rat 1 1, .bool (decide (1 < st))]) (by simp [results, Try.results57, go_sem, r0, r1]) rfl ⟨1, 1, _, rfl, HR⟩
    · have hq : ((of : Int) == (i : Int)) = false := by simp; omega
      have HS : Hid (Sh.S ls (oneO of) i = Sh.sumS ls i (Sh.S ls (oneO of)) (ls.getD i default).ps) := Lib.hid (by rw [Sh.S_eq hE _ hi, if_neg (by unfold oneO; simpa using fun h => hoi h.symm)])
      have hwq := H0.out.2.2.2.1
      obtain ⟨a, c, rfl, hlk⟩ := HB.out.2.1.look
      obtain ⟨bb, off, u, rfl, hbl, hlot⟩ := hlk i hi
      have hf := Lt.fine_of (herr i hi)
      have h6 := hf.2.1
      have HF := Lib.hid hf
      have HBF := Lib.hid (fun j (hj : j < (ls.getD i default).ps.length) => part_before (herr i hi) hj)
      have HST := Lib.hid (fun (j p : Nat) (hj : j < (ls.getD i default).ps.length) hp hpi (a b sn sd : Int) h hs => path_step (S := Sh.S ls (oneO of)) herr (i := i) (p := p) hi hj hp hpi (a := a) (b := b) (sn := sn) (sd := sd) h hs)
      have HI := Lib.hid (And.intro hi hl)
      obtain ⟨q, hq0⟩ : ∃ q, q = W1.heap.size := ⟨_, rfl⟩
      have hq1 : q = w.heap.size + 1 := by rw [hq0]; exact H0.out.2.2.2.2
      have hpm : PM w (W1.alloc (.cells #[.int .i64 0, .int .i64 1] 43)) pz w.heap.size q (st - 1) 0 1 := by
        rw [hq0]
        exact ⟨H0.out.2.2.1.alloc _, H0.out.2.1.alloc _, BlockAt.new _ _ _, H0.out.1.alloc _⟩
      have HQ : Hid (q ≠ pz ∧ w.heap.size ≠ pz ∧ w.heap.size < q) := Lib.hid ⟨by have := H0.out.2.2.2.2; have := HB.out.2.2.2; omega, by have := HB.out.2.2.2; omega, by have := H0.out.2.2.2.2; omega⟩
      have HP0 := Lib.hid hpm
      generalize hx : ls.getD i default = x at *
      obtain ⟨xk, xm, qs⟩ := x
      dsimp only at *
      obtain ⟨e0, e1, e2, hps'⟩ := hlot
      obtain ⟨pa, pc, rfl, hpk⟩ := hps'.look
      have HC := Lib.hid (And.intro e0 (And.intro e1 e2))
      have HPS := Lib.hid hps'
      have HPK := Lib.hid hpk
      have HBL := Lib.hid hbl
      clear e0 e1 e2 hps' hpk hlk hpm hwq hf herr hE hW1
      go_enter Try.func57, Try.ntmps57
      go_wp2
      rw [← HW1.out]
      clear HW1 c0 f0
      rw [← hq1]
      clear hq1 hq0
      go_loopw [11] (fun t wr => ∃ (j : Nat) (a b st2 : Int), j ≤ qs.length ∧ t = .int .i64 j ∧ Hid (Tp.IsS a b (Sh.D ls (i + 1) : Int) (Sh.sumS ls i (Sh.S ls (oneO of)) (qs.take j) : Int) ∧ (0 ≤ st2 ∧ st2 ≤ st) ∧ PM w wr pz w.heap.size q st2 a b)) (fun t _ => qs.length - (intOf t).toNat)
      case atStart => exact ⟨0, 0, 1, st - 1, Nat.zero_le _, rfl, Lib.hid ⟨Tp.IsS.zero _, by omega, HP0.out⟩⟩
      case round =>
        obtain ⟨j, sa, sb, st2, hj, rfl, hg⟩ := hrel
        clear HP0
        have hwr := below_kb HB.out.2.2.1 hps hg.out.2.2.1
        have c2 := (hwr.cell (p := ⟨bb, off + i * 3 + 2, none⟩) HBL.out).trans HC.out.2.2
        have s0 := hg.out.2.2.2.1.cell 0
        have hpl2 := hg.out.2.2.2.1.lt
        have hwr := Lib.hid hwr
        have hst := hg.out.2.1
        by_cases hjl : j < qs.length
        · by_cases hstep : 0 < st2
          · have hd1 : decide ((j : Int) < (qs.length : Int)) = true := decide_eq_true (by omega)
            have hd2 : decide (0 < st2) = true := decide_eq_true hstep
            obtain ⟨p, hp, hpi⟩ := HBF.out j hjl
            obtain ⟨pb, poff, rfl, hpb, hpt⟩ := HPK.out j hjl
            rw [getD_P hjl] at hpt
            have hpm := HF.out.2.2 _ (List.getElem_mem hjl)
            have HST1 := Lib.hid (fun (a b sn sd : Int) h hs => HST.out j p hjl hp hpi a b sn sd h hs)
            have d0 := (hwr.out.cell (p := ⟨pb, poff + j * 2, none⟩) hpb).trans hpt.1
            have HD1 := Lib.hid (And.intro hpb hpt.2)
            rw [hp] at d0
            have hpl3 : p < ls.length := by have := HI.out.1; omega
            have REC := Lib.hid (IH.out p hpi hpl3 wr st2 hstep (by omega) hg.out.2.2.2.1 hwr.out)
            generalize qs[j] = pp at *
            obtain ⟨pl, pm⟩ := pp
            dsimp only at *
            clear hpt hp
            go_wp2_with fail
            refine REC.out.mono ?_
            rintro e w3 ⟨sn, sd, sok, rfl, hP⟩
            clear REC
            obtain ⟨hok, hval, ⟨st3, hst3, bs3⟩, hk3⟩ := hP.out
            have hp3 := hg.out.2.2.kb hk3 bs3 HQ.out.2.1 HQ.out.1
            have hw3 := below_kb hwr.out hps hk3
            have bY := BlockAt.new w3 #[.int .i64 sn, .int .i64 sd] 43
            have hba := below_alloc (Below.refl w3.heap.size w3) (.cells #[.int .i64 sn, .int .i64 sd] 43)
            have hp4 := hp3.below hba
            have hw4 := below_alloc hw3 (.cells #[.int .i64 sn, .int .i64 sd] 43)
            obtain ⟨y, hy⟩ : ∃ y, y = w3.heap.size := ⟨_, rfl⟩
            obtain ⟨w4, hw4e⟩ : ∃ X, X = w3.alloc (.cells #[.int .i64 sn, .int .i64 sd] 43) := ⟨_, rfl⟩
            rw [← hy, ← hw4e] at bY
            rw [← hw4e] at hp4 hw4
            have HE4 := Lib.hid hw4e
            have HY := Lib.hid hy
            have H4 := Lib.hid (And.intro bY (And.intro hp4 (And.intro hw4 (And.intro hok (And.intro hval hst3)))))
            have hsb := Fr.ok_iff.1 hok
            clear bs3 hk3 hp3 hw3 bY hba hp4 hw4 hw4e hy hP s0 c2 d0 hd1 hd2 hpl2 hval hst3
            go_wp2
            rw [← HE4.out, ← HY.out]
            clear HE4
            have HMS := HF.out
            have TK := Lib.hid (fun W (hW : Below w0.heap.size w0 W) => ref_takes_any ⟨xk, xm, qs⟩ (.slice (some ⟨pb, poff, none⟩) qs.length pc) W (HPS.out.all hW) (tame_of HMS))
            have hmb := HMS.2.2
            have htb := Lt.takes_bd hmb
            have hmj : 1 ≤ pm ∧ pm ≤ 100000 := hpm
            clear HMS hmb
            dsimp only at TK htb
            obtain ⟨tk, htk⟩ : ∃ tk, tk = Lt.takes qs := ⟨_, rfl⟩
            rw [← htk] at TK htb HST1
            have MK := Lib.hid (fun W => make_any pm tk W (by omega) (by omega) (by omega) (by omega))
            have hkb := And.intro (Fr.nu_bound pm tk) (Fr.de_bound pm tk)
            generalize Fr.nu pm tk = kn at *
            generalize Fr.de pm tk = kd at *
            generalize Fr.er pm tk = ke at *
            have HCC := Lib.hid (show ∀ W, Below w0.heap.size w0 W → (fun W => W.cell? ⟨bb, off + i * 3, none⟩ = some (.int .i64 xk) ∧ W.cell? ⟨bb, off + i * 3 + 1, none⟩ = some (.int .i64 xm) ∧ W.cell? ⟨bb, off + i * 3 + 2, none⟩ = some (.slice (some ⟨pb, poff, none⟩) qs.length pc) ∧ W.cell? ⟨pb, poff + j * 2 + 1, none⟩ = some (.int .i64 pm)) W from fun W hW => ⟨(hW.cell (p := ⟨bb, off + i * 3, none⟩) HBL.out).trans HC.out.1, (hW.cell (p := ⟨bb, off + i * 3 + 1, none⟩) HBL.out).trans HC.out.2.1, (hW.cell (p := ⟨bb, off + i * 3 + 2, none⟩) HBL.out).trans HC.out.2.2, (hW.cell (p := ⟨pb, poff + j * 2 + 1, none⟩) HD1.out.1).trans HD1.out.2⟩)
            have HW4 := Lib.hid H4.out.2.2.1
            have HS4 : Hid (∀ W, Below w4.heap.size w4 W → Below w0.heap.size w0 W) := Lib.hid (fun W hW => below_step HW4.out hW)
            have HKB := Lib.hid hkb
            have HSB := Lib.hid hsb
            clear hkb hsb htk
            refine wp_region_meet (β := Nat) (.take 0 (.take 1 (.take 2 (.take 3 (.take 4 (.take 5 (.take 6 (.take 7 (.take 8 (.take 9 (.take 10 (.take 11 (.take 12 (.two 13 (.two 14 (.take 15 (.take 16 (.take 17 (.one 18 (.one 19 (.take 20 .done)))))) 18 (.one 14 (.take 15 (.take 16 (.take 17 (.one 19 (.take 20 .done))))))) 18 (.one 13 (.one 14 (.take 15 (.take 16 (.take 17 (.one 19 (.take 20 .done)))))))))))))))))))))
              (fun W => W.cell? ⟨bb, off + i * 3, none⟩ = some (.int .i64 xk) ∧ W.cell? ⟨bb, off + i * 3 + 1, none⟩ = some (.int .i64 xm) ∧ W.cell? ⟨bb, off + i * 3 + 2, none⟩ = some (.slice (some ⟨pb, poff, none⟩) qs.length pc) ∧ W.cell? ⟨pb, poff + j * 2 + 1, none⟩ = some (.int .i64 pm))
              (fun x => [(67, .slice (some ⟨bb, off, none⟩) ls.length c), (68, .int .i64 i), (69, .pointer (some ⟨bb, off + i * 3, none⟩)), (70, .pointer (some ⟨bb, off + i * 3 + 2, none⟩)), (71, .slice (some ⟨pb, poff, none⟩) qs.length pc), (72, .int .i64 j), (73, .pointer (some ⟨pb, poff + j * 2, none⟩)), (74, .pointer (some ⟨pb, poff + j * 2 + 1, none⟩)), (75, .int .i64 pm), (76, .slice (some ⟨bb, off, none⟩) ls.length c), (77, .int .i64 i), (78, .pointer (some ⟨bb, off + i * 3, none⟩)), (79, .agg #[.int .i64 xk, .int .i64 xm, .slice (some ⟨pb, poff, none⟩) qs.length pc]), (80, .int .i64 tk), (81, .tuple #[rat kn kd, .int .i64 ke]), (66, .tuple #[rat kn kd, .int .i64 ke]), (82, rat kn kd), (83, .int .i64 ke), (14, .pointer (some ⟨x, 0, none⟩)), (15, .int .i64 ke)])
              (fun x Y => Below w4.heap.size w4 Y ∧ BlockAt Y x #[.int .i64 kn, .int .i64 kd] 43 ∧ w4.heap.size ≤ x)
              (by kernel_rfl) (by kernel_rfl) (by kernel_rfl) (by kernel_rfl) (HCC.out _ (below_drewN HW4.out 0 |> fun _ => HS4.out _ (Below.refl w4.heap.size w4).drew)) (fun hS => ?_) ?_
            · have HM := Lib.hid ((Below.refl w4.heap.size w4).drew)
              generalize w4.drew = X0 at *
              clear hS
              repeat (refine SeqT.ld (v := ?_) rfl (by rfl) ?_ ?_; rotate_left; (· intro w hSw; (try dsimp only at hSw); (try (obtain ⟨f0, f1, f2, f3⟩ := hSw)); go_simp; (try with_reducible rfl)); simp only [Act.put, List.setIfInBounds_toArray, List.set_cons_zero, List.set_cons_succ])
              refine ⟨wpOp_stepS rfl (by rfl) (fun K hK => ?_), wpOp_stepS rfl (by rfl) (fun K hK => ?_)⟩
              · skip
                go_simp
                refine (TK.out _ (HS4.out _ HM.out)).mono ?_
                rintro e X1 ⟨rfl, hbY⟩
                have HM := Lib.hid (below_step HM.out hbY)
                clear hbY
                try dsimp only
                refine hK.out _ _ (HCC.out _ (HS4.out _ HM.out)) (fun _ => ?_)
                clear hK K
                try simp only [Act.put, List.setIfInBounds_toArray, List.set_cons_zero, List.set_cons_succ]
                repeat (refine SeqT.ld (v := ?_) rfl (by rfl) ?_ ?_; rotate_left; (· intro w hSw; (try dsimp only at hSw); (try (obtain ⟨f0, f1, f2, f3⟩ := hSw)); go_simp; (try with_reducible rfl)); simp only [Act.put, List.setIfInBounds_toArray, List.set_cons_zero, List.set_cons_succ])
                refine ⟨wpOp_stepS rfl (by rfl) (fun K hK => ?_), wpOp_stepS rfl (by rfl) (fun K hK => ?_)⟩
                · skip
                  go_simp
                  refine (MK.out _).mono ?_
                  rintro e X2 ⟨rfl, hbY⟩
                  have HM := Lib.hid (below_step HM.out hbY)
                  clear hbY
                  try dsimp only
                  refine hK.out _ _ (HCC.out _ (HS4.out _ HM.out)) (fun _ => ?_)
                  clear hK K
                  try simp only [Act.put, List.setIfInBounds_toArray, List.set_cons_zero, List.set_cons_succ]
                  repeat (refine SeqT.ld (v := ?_) rfl (by rfl) ?_ ?_; rotate_left; (· intro w hSw; (try dsimp only at hSw); (try (obtain ⟨f0, f1, f2, f3⟩ := hSw)); go_simp; (try with_reducible rfl)); simp only [Act.put, List.setIfInBounds_toArray, List.set_cons_zero, List.set_cons_succ])
                  refine wpOp_stepS rfl (by rfl) (fun K hK => ?_)
                  go_simp
                  have hxs5 := HM.out.size
                  obtain ⟨X3, hY⟩ : ∃ Y, X2.alloc (.cells #[.int .i64 0, .int .i64 0] 43) = Y := ⟨_, rfl⟩
                  have hN : BlockAt X3 X2.heap.size #[.int .i64 0, .int .i64 0] 43 := by rw [← hY]; exact BlockAt.new _ _ _
                  have HM := Lib.hid (show Below w4.heap.size w4 X3 by rw [← hY]; exact below_alloc HM.out _)
                  rw [hY]
                  generalize X2.heap.size = x at *
                  have HA := Lib.hid (And.intro hN hxs5)
                  clear hY hN hxs5
                  try dsimp only
                  refine hK.out _ _ (HCC.out _ (HS4.out _ HM.out)) (fun _ => ?_)
                  clear hK K
                  try simp only [Act.put, List.setIfInBounds_toArray, List.set_cons_zero, List.set_cons_succ]
                  repeat (refine SeqT.ld (v := ?_) rfl (by rfl) ?_ ?_; rotate_left; (· intro w hSw; (try dsimp only at hSw); (try (obtain ⟨f0, f1, f2, f3⟩ := hSw)); go_simp; (try with_reducible rfl)); simp only [Act.put, List.setIfInBounds_toArray, List.set_cons_zero, List.set_cons_succ])
                  refine wpOp_stepS rfl (by rfl) (fun K hK => ?_)
                  have d0 := HA.out.1.cell 0
                  have d1 := HA.out.1.cell 1
                  have e0 := HA.out.1.frozen 0
                  have e1' := HA.out.1.frozen 1
                  have hxs := HA.out.1.lt
                  go_simp
                  obtain ⟨X4, hY⟩ : ∃ Y, (X3.setCell ⟨x, 0, none⟩ (.int .i64 kn)).setCell ⟨x, 1, none⟩ (.int .i64 kd) = Y := ⟨_, rfl⟩
                  have hN : BlockAt X4 x #[.int .i64 kn, .int .i64 kd] 43 := by rw [← hY]; exact (HA.out.1.set 0 _).set 1 _
                  have HM := Lib.hid (show Below w4.heap.size w4 X4 by rw [← hY]; exact (HM.out.setCell (p := ⟨x, 0, none⟩) HA.out.2 _).setCell (p := ⟨x, 1, none⟩) HA.out.2 _)
                  rw [hY]
                  have HA := Lib.hid (And.intro hN HA.out.2)
                  clear hY hN d0 d1 e0 e1' hxs
                  try dsimp only
                  refine hK.out _ _ (HCC.out _ (HS4.out _ HM.out)) (fun _ => ?_)
                  clear hK K
                  try simp only [Act.put, List.setIfInBounds_toArray, List.set_cons_zero, List.set_cons_succ]
                  repeat (refine SeqT.ld (v := ?_) rfl (by rfl) ?_ ?_; rotate_left; (· intro w hSw; (try dsimp only at hSw); (try (obtain ⟨f0, f1, f2, f3⟩ := hSw)); go_simp; (try with_reducible rfl)); simp only [Act.put, List.setIfInBounds_toArray, List.set_cons_zero, List.set_cons_succ])
                  exact SeqT.fin ⟨rfl, x, by simp only [putAll, Act.put, List.setIfInBounds_toArray, List.set_cons_zero, List.set_cons_succ], HM.out, HA.out.1, HA.out.2⟩
                · skip
                  go_simp
                  have hxs5 := HM.out.size
                  obtain ⟨X2, hY⟩ : ∃ Y, X1.alloc (.cells #[.int .i64 0, .int .i64 0] 43) = Y := ⟨_, rfl⟩
                  have hN : BlockAt X2 X1.heap.size #[.int .i64 0, .int .i64 0] 43 := by rw [← hY]; exact BlockAt.new _ _ _
                  have HM := Lib.hid (show Below w4.heap.size w4 X2 by rw [← hY]; exact below_alloc HM.out _)
                  rw [hY]
                  generalize X1.heap.size = x at *
                  have HA := Lib.hid (And.intro hN hxs5)
                  clear hY hN hxs5
                  try dsimp only
                  refine hK.out _ _ (HCC.out _ (HS4.out _ HM.out)) (fun _ => ?_)
                  clear hK K
                  try simp only [Act.put, List.setIfInBounds_toArray, List.set_cons_zero, List.set_cons_succ]
                  repeat (refine SeqT.ld (v := ?_) rfl (by rfl) ?_ ?_; rotate_left; (· intro w hSw; (try dsimp only at hSw); (try (obtain ⟨f0, f1, f2, f3⟩ := hSw)); go_simp; (try with_reducible rfl)); simp only [Act.put, List.setIfInBounds_toArray, List.set_cons_zero, List.set_cons_succ])
                  refine wpOp_stepS rfl (by rfl) (fun K hK => ?_)
                  go_simp
                  refine (MK.out _).mono ?_
                  rintro e X3 ⟨rfl, hbY⟩
                  have HM := Lib.hid (below_step HM.out hbY)
                  have HA := Lib.hid (And.intro (HA.out.1.below hbY HA.out.1.lt) HA.out.2)
                  clear hbY
                  try dsimp only
                  refine hK.out _ _ (HCC.out _ (HS4.out _ HM.out)) (fun _ => ?_)
                  clear hK K
                  try simp only [Act.put, List.setIfInBounds_toArray, List.set_cons_zero, List.set_cons_succ]
                  repeat (refine SeqT.ld (v := ?_) rfl (by rfl) ?_ ?_; rotate_left; (· intro w hSw; (try dsimp only at hSw); (try (obtain ⟨f0, f1, f2, f3⟩ := hSw)); go_simp; (try with_reducible rfl)); simp only [Act.put, List.setIfInBounds_toArray, List.set_cons_zero, List.set_cons_succ])
                  refine wpOp_stepS rfl (by rfl) (fun K hK => ?_)
                  have d0 := HA.out.1.cell 0
                  have d1 := HA.out.1.cell 1
                  have e0 := HA.out.1.frozen 0
                  have e1' := HA.out.1.frozen 1
                  have hxs := HA.out.1.lt
                  go_simp
                  obtain ⟨X4, hY⟩ : ∃ Y, (X3.setCell ⟨x, 0, none⟩ (.int .i64 kn)).setCell ⟨x, 1, none⟩ (.int .i64 kd) = Y := ⟨_, rfl⟩
                  have hN : BlockAt X4 x #[.int .i64 kn, .int .i64 kd] 43 := by rw [← hY]; exact (HA.out.1.set 0 _).set 1 _
                  have HM := Lib.hid (show Below w4.heap.size w4 X4 by rw [← hY]; exact (HM.out.setCell (p := ⟨x, 0, none⟩) HA.out.2 _).setCell (p := ⟨x, 1, none⟩) HA.out.2 _)
                  rw [hY]
                  have HA := Lib.hid (And.intro hN HA.out.2)
                  clear hY hN d0 d1 e0 e1' hxs
                  try dsimp only
                  refine hK.out _ _ (HCC.out _ (HS4.out _ HM.out)) (fun _ => ?_)
                  clear hK K
                  try simp only [Act.put, List.setIfInBounds_toArray, List.set_cons_zero, List.set_cons_succ]
                  repeat (refine SeqT.ld (v := ?_) rfl (by rfl) ?_ ?_; rotate_left; (· intro w hSw; (try dsimp only at hSw); (try (obtain ⟨f0, f1, f2, f3⟩ := hSw)); go_simp; (try with_reducible rfl)); simp only [Act.put, List.setIfInBounds_toArray, List.set_cons_zero, List.set_cons_succ])
                  exact SeqT.fin ⟨rfl, x, by simp only [putAll, Act.put, List.setIfInBounds_toArray, List.set_cons_zero, List.set_cons_succ], HM.out, HA.out.1, HA.out.2⟩
              · skip
                go_simp
                have hxs5 := HM.out.size
                obtain ⟨X1, hY⟩ : ∃ Y, X0.alloc (.cells #[.int .i64 0, .int .i64 0] 43) = Y := ⟨_, rfl⟩
                have hN : BlockAt X1 X0.heap.size #[.int .i64 0, .int .i64 0] 43 := by rw [← hY]; exact BlockAt.new _ _ _
                have HM := Lib.hid (show Below w4.heap.size w4 X1 by rw [← hY]; exact below_alloc HM.out _)
                rw [hY]
                generalize X0.heap.size = x at *
                have HA := Lib.hid (And.intro hN hxs5)
                clear hY hN hxs5
                try dsimp only
                refine hK.out _ _ (HCC.out _ (HS4.out _ HM.out)) (fun _ => ?_)
                clear hK K
                try simp only [Act.put, List.setIfInBounds_toArray, List.set_cons_zero, List.set_cons_succ]
                repeat (refine SeqT.ld (v := ?_) rfl (by rfl) ?_ ?_; rotate_left; (· intro w hSw; (try dsimp only at hSw); (try (obtain ⟨f0, f1, f2, f3⟩ := hSw)); go_simp; (try with_reducible rfl)); simp only [Act.put, List.setIfInBounds_toArray, List.set_cons_zero, List.set_cons_succ])
                refine wpOp_stepS rfl (by rfl) (fun K hK => ?_)
                go_simp
                refine (TK.out _ (HS4.out _ HM.out)).mono ?_
                rintro e X2 ⟨rfl, hbY⟩
                have HM := Lib.hid (below_step HM.out hbY)
                have HA := Lib.hid (And.intro (HA.out.1.below hbY HA.out.1.lt) HA.out.2)
                clear hbY
                try dsimp only
                refine hK.out _ _ (HCC.out _ (HS4.out _ HM.out)) (fun _ => ?_)
                clear hK K
                try simp only [Act.put, List.setIfInBounds_toArray, List.set_cons_zero, List.set_cons_succ]
                repeat (refine SeqT.ld (v := ?_) rfl (by rfl) ?_ ?_; rotate_left; (· intro w hSw; (try dsimp only at hSw); (try (obtain ⟨f0, f1, f2, f3⟩ := hSw)); go_simp; (try with_reducible rfl)); simp only [Act.put, List.setIfInBounds_toArray, List.set_cons_zero, List.set_cons_succ])
                refine wpOp_stepS rfl (by rfl) (fun K hK => ?_)
                go_simp
                refine (MK.out _).mono ?_
                rintro e X3 ⟨rfl, hbY⟩
                have HM := Lib.hid (below_step HM.out hbY)
                have HA := Lib.hid (And.intro (HA.out.1.below hbY HA.out.1.lt) HA.out.2)
                clear hbY
                try dsimp only
                refine hK.out _ _ (HCC.out _ (HS4.out _ HM.out)) (fun _ => ?_)
                clear hK K
                try simp only [Act.put, List.setIfInBounds_toArray, List.set_cons_zero, List.set_cons_succ]
                repeat (refine SeqT.ld (v := ?_) rfl (by rfl) ?_ ?_; rotate_left; (· intro w hSw; (try dsimp only at hSw); (try (obtain ⟨f0, f1, f2, f3⟩ := hSw)); go_simp; (try with_reducible rfl)); simp only [Act.put, List.setIfInBounds_toArray, List.set_cons_zero, List.set_cons_succ])
                refine wpOp_stepS rfl (by rfl) (fun K hK => ?_)
                have d0 := HA.out.1.cell 0
                have d1 := HA.out.1.cell 1
                have e0 := HA.out.1.frozen 0
                have e1' := HA.out.1.frozen 1
                have hxs := HA.out.1.lt
                go_simp
                obtain ⟨X4, hY⟩ : ∃ Y, (X3.setCell ⟨x, 0, none⟩ (.int .i64 kn)).setCell ⟨x, 1, none⟩ (.int .i64 kd) = Y := ⟨_, rfl⟩
                have hN : BlockAt X4 x #[.int .i64 kn, .int .i64 kd] 43 := by rw [← hY]; exact (HA.out.1.set 0 _).set 1 _
                have HM := Lib.hid (show Below w4.heap.size w4 X4 by rw [← hY]; exact (HM.out.setCell (p := ⟨x, 0, none⟩) HA.out.2 _).setCell (p := ⟨x, 1, none⟩) HA.out.2 _)
                rw [hY]
                have HA := Lib.hid (And.intro hN HA.out.2)
                clear hY hN d0 d1 e0 e1' hxs
                try dsimp only
                refine hK.out _ _ (HCC.out _ (HS4.out _ HM.out)) (fun _ => ?_)
                clear hK K
                try simp only [Act.put, List.setIfInBounds_toArray, List.set_cons_zero, List.set_cons_succ]
                repeat (refine SeqT.ld (v := ?_) rfl (by rfl) ?_ ?_; rotate_left; (· intro w hSw; (try dsimp only at hSw); (try (obtain ⟨f0, f1, f2, f3⟩ := hSw)); go_simp; (try with_reducible rfl)); simp only [Act.put, List.setIfInBounds_toArray, List.set_cons_zero, List.set_cons_succ])
                exact SeqT.fin ⟨rfl, x, by simp only [putAll, Act.put, List.setIfInBounds_toArray, List.set_cons_zero, List.set_cons_succ], HM.out, HA.out.1, HA.out.2⟩
            · intro x X hF
              have HM := Lib.hid hF.1
              have HA := Lib.hid hF.2
              clear hF
              simp only [putAll, Act.put, List.setIfInBounds_toArray, List.set_cons_zero, List.set_cons_succ]
              clear TK MK HCC HS4 HW4
              have HST2 := Lib.hid (HST1.out sa sb sn sd hg.out.1)
              have bY := H4.out.1.below HM.out H4.out.1.lt
              have hp5 := H4.out.2.1.below HM.out
              have hbX := HA.out.1
              have y0 := bY.cell 0
              have y1 := bY.cell 1
              have x0 := hbX.cell 0
              have x1 := hbX.cell 1
              have HP5 := Lib.hid hp5
              have HSS := Lib.hid (And.intro hg.out.1 (And.intro hg.out.2.1 (And.intro H4.out.2.2.2.2.1 H4.out.2.2.2.2.2)))
              have ML := Lib.hid (fun W => numMul_any sn sd kn kd W (by have := HSB.out; omega) (by have := HSB.out; omega) (by have := HSB.out; omega) (by have := HSB.out; omega) (by have := HKB.out; omega) (by have := HKB.out; omega) (by have := HKB.out; omega) (by have := HKB.out; omega))
              have hmb := mul_boundsT sn sd kn kd
              obtain ⟨tn, htn⟩ : ∃ t, t = Fr.mulN sn sd kn kd := ⟨_, rfl⟩
              obtain ⟨td, htd⟩ : ∃ t, t = Fr.mulD sn sd kn kd := ⟨_, rfl⟩
              obtain ⟨te, hte⟩ : ∃ t, t = Fr.mulE sn sd kn kd := ⟨_, rfl⟩
              rw [← htn, ← htd, ← hte] at ML
              rw [← htn, ← htd] at hmb
              rw [← htn, ← htd, ← hte] at HST2
              have AD := Lib.hid (fun W => numAdd_any sa sb tn td W (by have := Fr.ok_iff.1 hg.out.1.1; omega) (by have := Fr.ok_iff.1 hg.out.1.1; omega) (by have := Fr.ok_iff.1 hg.out.1.1; omega) (by have := Fr.ok_iff.1 hg.out.1.1; omega) (by omega) (by omega) (by omega) (by omega))
              obtain ⟨un, hun⟩ : ∃ t, t = Fr.sumN sa sb tn td := ⟨_, rfl⟩
              obtain ⟨ud, hud⟩ : ∃ t, t = Fr.sumD sa sb tn td := ⟨_, rfl⟩
              obtain ⟨ue, hue⟩ : ∃ t, t = Fr.sumE sa sb tn td := ⟨_, rfl⟩
              rw [← hun, ← hud, ← hue] at AD
              rw [← hun, ← hud, ← hue] at HST2
              clear HST HST1 htn htd hte hun hud hue hmb hg H4 HA HM hbX bY hp5 HY hmj htb hst
              go_wp2_with fail
              refine (ML.out _).mono ?_
              rintro e w6 ⟨rfl, hb6⟩
              have HP6 := Lib.hid (HP5.out.below hb6)
              have z0 := (BlockAt.new w6 #[.int .i64 tn, .int .i64 td] 43).cell 0
              have z1 := (BlockAt.new w6 #[.int .i64 tn, .int .i64 td] 43).cell 1
              have q0 := (HP6.out.2.2.1.alloc (.cells #[.int .i64 tn, .int .i64 td] 43)).cell 0
              have q1 := (HP6.out.2.2.1.alloc (.cells #[.int .i64 tn, .int .i64 td] 43)).cell 1
              clear y0 y1 x0 x1 ML HP5 hb6
              go_wp2_with fail
              refine (AD.out _).mono ?_
              rintro e w8 ⟨rfl, hb8⟩
              have HP8 := Lib.hid ((HP6.out.below (below_alloc (Below.refl w6.heap.size w6) (.cells #[.int .i64 tn, .int .i64 td] 43))).below hb8)
              clear z0 z1 q0 q1 AD HP6 hb8
              cases sok with
              | false =>
                have HPR : Hid (BlockAt w8 w.heap.size #[.int .i64 0, .int .i64 0] 43 ∧ BlockAt w8 q #[.int .i64 sa, .int .i64 sb] 43 ∧ BlockAt w8 pz #[.int .i64 st3] 3 ∧ Kb pz w w8) := Lib.hid ⟨HP8.out.2.2.2, HP8.out.2.2.1, HP8.out.2.1, HP8.out.1⟩
                have s0 := HPR.out.2.1.cell 0
                have s1 := HPR.out.2.1.cell 1
                have hql := HPR.out.2.1.lt
                have r0 := HPR.out.1.cell 0
                have r1 := HPR.out.1.cell 1
                have g0 := HPR.out.1.frozen 0
                have g1 := HPR.out.1.frozen 1
                have hrl := HPR.out.1.lt
                clear HP8
                go_wp2
                obtain ⟨W2, hW2⟩ : ∃ W2, W2 = ((w8.setCell ⟨w.heap.size, 0, none⟩ (.int .i64 sa)).setCell ⟨w.heap.size, 1, none⟩ (.int .i64 sb)).alloc (.cells #[.int .i64 un, .int .i64 ud] 43) := ⟨_, rfl⟩
                have bR2 : BlockAt W2 w.heap.size #[.int .i64 sa, .int .i64 sb] 43 := by rw [hW2]; exact ((HPR.out.1.set 0 _).set 1 _).alloc _
                have bS2 : BlockAt W2 pz #[.int .i64 st3] 3 := by rw [hW2]; exact ((HPR.out.2.2.1.other HQ.out.2.1.symm _).other HQ.out.2.1.symm _).alloc _
                have hk2 : Kb pz w W2 := by rw [hW2]; exact ((HPR.out.2.2.2.set (p := ⟨w.heap.size, 0, none⟩) (Nat.le_refl _) _).set (p := ⟨w.heap.size, 1, none⟩) (Nat.le_refl _) _).alloc _
                rw [← hW2]
                have HR : Hid (PathR ls of i pz w W2 st sa sb false) := Lib.hid ⟨HSS.out.1.1, (fun h => Bool.noConfusion h), ⟨st3, by have := HSS.out.2.1; have := HSS.out.2.2.2; omega, bS2⟩, hk2⟩
                have r0 := bR2.cell 0
                have r1 := bR2.cell 1
                exact bodyPost_ret (v := .tuple #[rat sa sb, .bool false]) (by simp [results, Try.results57, go_sem, r0, r1]) rfl ⟨sa, sb, _, rfl, HR⟩
              | true =>
                by_cases hke : ke = 0
                · skip
                  by_cases hte : te = 0
                  · skip
                    by_cases hue : ue = 0
                    · skip
                      subst hke hte hue
                      have HVL := Lib.hid (HST2.out (HSS.out.2.2.1 rfl) rfl rfl rfl)
                      have s0 := HP8.out.2.2.1.cell 0
                      have s1 := HP8.out.2.2.1.cell 1
                      have g0 := HP8.out.2.2.1.frozen 0
                      have g1 := HP8.out.2.2.1.frozen 1
                      have hql := HP8.out.2.2.1.lt
                      obtain ⟨W2, hW2⟩ : ∃ W2, W2 = ((w8.setCell ⟨q, 0, none⟩ (.int .i64 un)).setCell ⟨q, 1, none⟩ (.int .i64 ud)).alloc (.cells #[.int .i64 un, .int .i64 ud] 43) := ⟨_, rfl⟩
                      have hpN : PM w W2 pz w.heap.size q st3 un ud := by
                        rw [hW2]
                        exact ⟨((HP8.out.1.set (p := ⟨q, 0, none⟩) (Nat.le_of_lt HQ.out.2.2) _).set (p := ⟨q, 1, none⟩) (Nat.le_of_lt HQ.out.2.2) _).alloc _, ((HP8.out.2.1.other HQ.out.1.symm _).other HQ.out.1.symm _).alloc _, ((HP8.out.2.2.1.set 0 _).set 1 _).alloc _, ((HP8.out.2.2.2.other (Nat.ne_of_lt HQ.out.2.2) _).other (Nat.ne_of_lt HQ.out.2.2) _).alloc _⟩
                      have HN := Lib.hid hpN
                      have HW2 := Lib.hid hW2
                      clear hpN hW2 HP8
                      go_wp2
                      go_roundw
                      case rel => exact ⟨j + 1, un, ud, st3, by omega, by go_num, Lib.hid ⟨HVL.out, by have := HSS.out.2.1; have := HSS.out.2.2.2; omega, by rw [HW2.out] at HN; exact HN.out⟩⟩
                      case measure => simp [intOf]; omega
                    · skip
                      have hne : (ue != 0) = true := by simpa using hue
                      subst hke
                      subst hte
                      clear hue
                      have HPR : Hid (BlockAt w8 w.heap.size #[.int .i64 0, .int .i64 0] 43 ∧ BlockAt w8 q #[.int .i64 sa, .int .i64 sb] 43 ∧ BlockAt w8 pz #[.int .i64 st3] 3 ∧ Kb pz w w8) := Lib.hid ⟨HP8.out.2.2.2, HP8.out.2.2.1, HP8.out.2.1, HP8.out.1⟩
                      have s0 := HPR.out.2.1.cell 0
                      have s1 := HPR.out.2.1.cell 1
                      have hql := HPR.out.2.1.lt
                      have r0 := HPR.out.1.cell 0
                      have r1 := HPR.out.1.cell 1
                      have g0 := HPR.out.1.frozen 0
                      have g1 := HPR.out.1.frozen 1
                      have hrl := HPR.out.1.lt
                      clear HP8
                      go_wp2
                      obtain ⟨W2, hW2⟩ : ∃ W2, W2 = ((w8.setCell ⟨w.heap.size, 0, none⟩ (.int .i64 sa)).setCell ⟨w.heap.size, 1, none⟩ (.int .i64 sb)).alloc (.cells #[.int .i64 un, .int .i64 ud] 43) := ⟨_, rfl⟩
                      have bR2 : BlockAt W2 w.heap.size #[.int .i64 sa, .int .i64 sb] 43 := by rw [hW2]; exact ((HPR.out.1.set 0 _).set 1 _).alloc _
                      have bS2 : BlockAt W2 pz #[.int .i64 st3] 3 := by rw [hW2]; exact ((HPR.out.2.2.1.other HQ.out.2.1.symm _).other HQ.out.2.1.symm _).alloc _
                      have hk2 : Kb pz w W2 := by rw [hW2]; exact ((HPR.out.2.2.2.set (p := ⟨w.heap.size, 0, none⟩) (Nat.le_refl _) _).set (p := ⟨w.heap.size, 1, none⟩) (Nat.le_refl _) _).alloc _
                      rw [← hW2]
                      have HR : Hid (PathR ls of i pz w W2 st sa sb false) := Lib.hid ⟨HSS.out.1.1, (fun h => Bool.noConfusion h), ⟨st3, by have := HSS.out.2.1; have := HSS.out.2.2.2; omega, bS2⟩, hk2⟩
                      have r0 := bR2.cell 0
                      have r1 := bR2.cell 1
                      exact bodyPost_ret (v := .tuple #[rat sa sb, .bool false]) (by simp [results, Try.results57, go_sem, r0, r1]) rfl ⟨sa, sb, _, rfl, HR⟩
                  · skip
                    have hne : (te != 0) = true := by simpa using hte
                    subst hke
                    clear hte
                    have HPR : Hid (BlockAt w8 w.heap.size #[.int .i64 0, .int .i64 0] 43 ∧ BlockAt w8 q #[.int .i64 sa, .int .i64 sb] 43 ∧ BlockAt w8 pz #[.int .i64 st3] 3 ∧ Kb pz w w8) := Lib.hid ⟨HP8.out.2.2.2, HP8.out.2.2.1, HP8.out.2.1, HP8.out.1⟩
                    have s0 := HPR.out.2.1.cell 0
                    have s1 := HPR.out.2.1.cell 1
                    have hql := HPR.out.2.1.lt
                    have r0 := HPR.out.1.cell 0
                    have r1 := HPR.out.1.cell 1
                    have g0 := HPR.out.1.frozen 0
                    have g1 := HPR.out.1.frozen 1
                    have hrl := HPR.out.1.lt
                    clear HP8
                    go_wp2
                    obtain ⟨W2, hW2⟩ : ∃ W2, W2 = ((w8.setCell ⟨w.heap.size, 0, none⟩ (.int .i64 sa)).setCell ⟨w.heap.size, 1, none⟩ (.int .i64 sb)).alloc (.cells #[.int .i64 un, .int .i64 ud] 43) := ⟨_, rfl⟩
                    have bR2 : BlockAt W2 w.heap.size #[.int .i64 sa, .int .i64 sb] 43 := by rw [hW2]; exact ((HPR.out.1.set 0 _).set 1 _).alloc _
                    have bS2 : BlockAt W2 pz #[.int .i64 st3] 3 := by rw [hW2]; exact ((HPR.out.2.2.1.other HQ.out.2.1.symm _).other HQ.out.2.1.symm _).alloc _
                    have hk2 : Kb pz w W2 := by rw [hW2]; exact ((HPR.out.2.2.2.set (p := ⟨w.heap.size, 0, none⟩) (Nat.le_refl _) _).set (p := ⟨w.heap.size, 1, none⟩) (Nat.le_refl _) _).alloc _
                    rw [← hW2]
                    have HR : Hid (PathR ls of i pz w W2 st sa sb false) := Lib.hid ⟨HSS.out.1.1, (fun h => Bool.noConfusion h), ⟨st3, by have := HSS.out.2.1; have := HSS.out.2.2.2; omega, bS2⟩, hk2⟩
                    have r0 := bR2.cell 0
                    have r1 := bR2.cell 1
                    exact bodyPost_ret (v := .tuple #[rat sa sb, .bool false]) (by simp [results, Try.results57, go_sem, r0, r1]) rfl ⟨sa, sb, _, rfl, HR⟩
                · skip
                  have hne : (ke != 0) = true := by simpa using hke
                  clear hke
                  have HPR : Hid (BlockAt w8 w.heap.size #[.int .i64 0, .int .i64 0] 43 ∧ BlockAt w8 q #[.int .i64 sa, .int .i64 sb] 43 ∧ BlockAt w8 pz #[.int .i64 st3] 3 ∧ Kb pz w w8) := Lib.hid ⟨HP8.out.2.2.2, HP8.out.2.2.1, HP8.out.2.1, HP8.out.1⟩
                  have s0 := HPR.out.2.1.cell 0
                  have s1 := HPR.out.2.1.cell 1
                  have hql := HPR.out.2.1.lt
                  have r0 := HPR.out.1.cell 0
                  have r1 := HPR.out.1.cell 1
                  have g0 := HPR.out.1.frozen 0
                  have g1 := HPR.out.1.frozen 1
                  have hrl := HPR.out.1.lt
                  clear HP8
                  go_wp2
                  obtain ⟨W2, hW2⟩ : ∃ W2, W2 = ((w8.setCell ⟨w.heap.size, 0, none⟩ (.int .i64 sa)).setCell ⟨w.heap.size, 1, none⟩ (.int .i64 sb)).alloc (.cells #[.int .i64 un, .int .i64 ud] 43) := ⟨_, rfl⟩
                  have bR2 : BlockAt W2 w.heap.size #[.int .i64 sa, .int .i64 sb] 43 := by rw [hW2]; exact ((HPR.out.1.set 0 _).set 1 _).alloc _
                  have bS2 : BlockAt W2 pz #[.int .i64 st3] 3 := by rw [hW2]; exact ((HPR.out.2.2.1.other HQ.out.2.1.symm _).other HQ.out.2.1.symm _).alloc _
                  have hk2 : Kb pz w W2 := by rw [hW2]; exact ((HPR.out.2.2.2.set (p := ⟨w.heap.size, 0, none⟩) (Nat.le_refl _) _).set (p := ⟨w.heap.size, 1, none⟩) (Nat.le_refl _) _).alloc _
                  rw [← hW2]
                  have HR : Hid (PathR ls of i pz w W2 st sa sb false) := Lib.hid ⟨HSS.out.1.1, (fun h => Bool.noConfusion h), ⟨st3, by have := HSS.out.2.1; have := HSS.out.2.2.2; omega, bS2⟩, hk2⟩
                  have r0 := bR2.cell 0
                  have r1 := bR2.cell 1
                  exact bodyPost_ret (v := .tuple #[rat sa sb, .bool false]) (by simp [results, Try.results57, go_sem, r0, r1]) rfl ⟨sa, sb, _, rfl, HR⟩
          · have hd1 : decide ((j : Int) < (qs.length : Int)) = true := decide_eq_true (by omega)
            have hd2 : decide (0 < st2) = false := decide_eq_false hstep
            have hp := hg.out.2.2
            have HPR := Lib.hid hp
            have HVV := Lib.hid (And.intro hg.out.1 hg.out.2.1)
            have s1 := hp.2.2.1.cell 1
            have q0 := hp.2.2.1.cell 0
            have hql := hp.2.2.1.lt
            have r0 := hp.2.2.2.cell 0
            have r1 := hp.2.2.2.cell 1
            have g0 := hp.2.2.2.frozen 0
            have g1 := hp.2.2.2.frozen 1
            have hrl := hp.2.2.2.lt
            clear hg hp hwr
            go_wp2
            go_region
            go_wp2
            obtain ⟨W2, hW2⟩ : ∃ W2, W2 = ((wr.setCell ⟨w.heap.size, 0, none⟩ (.int .i64 sa)).setCell ⟨w.heap.size, 1, none⟩ (.int .i64 sb)).drew := ⟨_, rfl⟩
            have bR2 : BlockAt W2 w.heap.size #[.int .i64 sa, .int .i64 sb] 43 := by rw [hW2]; exact ((HPR.out.2.2.2.set 0 _).set 1 _).drew
            have bS2 : BlockAt W2 pz #[.int .i64 st2] 3 := by rw [hW2]; exact ((HPR.out.2.1.other HQ.out.2.1.symm _).other HQ.out.2.1.symm _).drew
            have hk2 : Kb pz w W2 := by rw [hW2]; exact ((HPR.out.1.set (p := ⟨w.heap.size, 0, none⟩) (Nat.le_refl _) _).set (p := ⟨w.heap.size, 1, none⟩) (Nat.le_refl _) _).drew
            rw [← hW2]
            have HR : Hid (PathR ls of i pz w W2 st sa sb false) := Lib.hid ⟨HVV.out.1.1, (fun h => Bool.noConfusion h), ⟨st2, HVV.out.2, bS2⟩, hk2⟩
            have r0 := bR2.cell 0
            have r1 := bR2.cell 1
            exact bodyPost_ret (v := .tuple #[rat sa sb, .bool false]) (by simp [results, Try.results57, go_sem, r0, r1]) rfl ⟨sa, sb, _, rfl, HR⟩
        · have hd1 : decide ((j : Int) < (qs.length : Int)) = false := decide_eq_false (by omega)
          obtain rfl : j = qs.length := by omega
          by_cases hstep : 0 < st2
          · have hd2 : decide (0 < st2) = true := decide_eq_true hstep
            have hp := hg.out.2.2
            have HPR := Lib.hid hp
            have HVV := Lib.hid (And.intro hg.out.1 hg.out.2.1)
            have s1 := hp.2.2.1.cell 1
            have q0 := hp.2.2.1.cell 0
            have hql := hp.2.2.1.lt
            have r0 := hp.2.2.2.cell 0
            have r1 := hp.2.2.2.cell 1
            have g0 := hp.2.2.2.frozen 0
            have g1 := hp.2.2.2.frozen 1
            have hrl := hp.2.2.2.lt
            clear hg hp hwr
            go_wp2
            go_region
            go_wp2
            obtain ⟨W2, hW2⟩ : ∃ W2, W2 = ((wr.setCell ⟨w.heap.size, 0, none⟩ (.int .i64 sa)).setCell ⟨w.heap.size, 1, none⟩ (.int .i64 sb)).drew := ⟨_, rfl⟩
            have bR2 : BlockAt W2 w.heap.size #[.int .i64 sa, .int .i64 sb] 43 := by rw [hW2]; exact ((HPR.out.2.2.2.set 0 _).set 1 _).drew
            have bS2 : BlockAt W2 pz #[.int .i64 st2] 3 := by rw [hW2]; exact ((HPR.out.2.1.other HQ.out.2.1.symm _).other HQ.out.2.1.symm _).drew
            have hk2 : Kb pz w W2 := by rw [hW2]; exact ((HPR.out.1.set (p := ⟨w.heap.size, 0, none⟩) (Nat.le_refl _) _).set (p := ⟨w.heap.size, 1, none⟩) (Nat.le_refl _) _).drew
            rw [← hW2]
            have HR : Hid (PathR ls of i pz w W2 st sa sb true) := Lib.hid ⟨HVV.out.1.1, (fun _ => by have := HVV.out.1; rw [List.take_length] at this; rw [HS.out]; exact this), ⟨st2, HVV.out.2, bS2⟩, hk2⟩
            have r0 := bR2.cell 0
            have r1 := bR2.cell 1
            exact bodyPost_ret (v := .tuple #[rat sa sb, .bool true]) (by simp [results, Try.results57, go_sem, r0, r1]) rfl ⟨sa, sb, _, rfl, HR⟩
          · have hd2 : decide (0 < st2) = false := decide_eq_false hstep
            have hp := hg.out.2.2
            have HPR := Lib.hid hp
            have HVV := Lib.hid (And.intro hg.out.1 hg.out.2.1)
            have s1 := hp.2.2.1.cell 1
            have q0 := hp.2.2.1.cell 0
            have hql := hp.2.2.1.lt
            have r0 := hp.2.2.2.cell 0
            have r1 := hp.2.2.2.cell 1
            have g0 := hp.2.2.2.frozen 0
            have g1 := hp.2.2.2.frozen 1
            have hrl := hp.2.2.2.lt
            clear hg hp hwr
            go_wp2
            go_region
            go_wp2
            obtain ⟨W2, hW2⟩ : ∃ W2, W2 = ((wr.setCell ⟨w.heap.size, 0, none⟩ (.int .i64 sa)).setCell ⟨w.heap.size, 1, none⟩ (.int .i64 sb)).drew := ⟨_, rfl⟩
            have bR2 : BlockAt W2 w.heap.size #[.int .i64 sa, .int .i64 sb] 43 := by rw [hW2]; exact ((HPR.out.2.2.2.set 0 _).set 1 _).drew
            have bS2 : BlockAt W2 pz #[.int .i64 st2] 3 := by rw [hW2]; exact ((HPR.out.2.1.other HQ.out.2.1.symm _).other HQ.out.2.1.symm _).drew
            have hk2 : Kb pz w W2 := by rw [hW2]; exact ((HPR.out.1.set (p := ⟨w.heap.size, 0, none⟩) (Nat.le_refl _) _).set (p := ⟨w.heap.size, 1, none⟩) (Nat.le_refl _) _).drew
            rw [← hW2]
            have HR : Hid (PathR ls of i pz w W2 st sa sb false) := Lib.hid ⟨HVV.out.1.1, (fun h => Bool.noConfusion h), ⟨st2, HVV.out.2, bS2⟩, hk2⟩
            have r0 := bR2.cell 0
            have r1 := bR2.cell 1
            exact bodyPost_ret (v := .tuple #[rat sa sb, .bool false]) (by simp [results, Try.results57, go_sem, r0, r1]) rfl ⟨sa, sb, _, rfl, HR⟩
end Go.Proofs.Ytccjbefmcifaeaa
