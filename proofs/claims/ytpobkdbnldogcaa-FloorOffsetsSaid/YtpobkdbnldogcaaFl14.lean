/- The plans for one roll that end earliest: of the program. -/
import Derived.Test.YtpobkdbnldogcaaFl13
import Derived.Test.YtpobkdbnldogcaaFlP2
namespace Go.Proofs.Ytpobkdbnldogcaa
open Go.RowKit

theorem bit_and : ∀ a : Nat, a < 64 → ∀ i : Nat, i < 6 → bits .and .i64 (a : Int) ((2 ^ i : Nat) : Int) = ((a &&& 2 ^ i : Nat) : Int) := by decide +kernel
theorem bit_not : ∀ a : Nat, a < 64 → ∀ i : Nat, i < 6 → bits .andNot .i64 (a : Int) ((2 ^ i : Nat) : Int) = ((a - (a &&& 2 ^ i) : Nat) : Int) := by decide +kernel
/-- What lies in memory while the plans of a roll are found. -/
def TiS (w : World) (jc : Array Value) (B6 : Nat) (r : Fl.L) (g N c : Nat) (ps : List Fl.P) (wr : World) : Prop :=
  BlockAt wr w.heap.size jc JobT ∧ BlockAt wr B6 (rolA r) RolT ∧ Pls (w.heap.size + 1) wr (.slice (some ⟨g, 0, none⟩) N c) ps ∧ Below w.heap.size w wr ∧ g < B6 ∧ w.heap.size < g
theorem TiS.below {w wr w2 : World} {jc : Array Value} {B6 g N c : Nat} {r : Fl.L} {ps : List Fl.P} (h : TiS w jc B6 r g N c ps wr) (hb : Below wr.heap.size wr w2) : TiS w jc B6 r g N c ps w2 :=
  ⟨h.1.below hb h.1.lt, h.2.1.below hb h.2.1.lt, h.2.2.1.all hb, below_step h.2.2.2.1 hb, h.2.2.2.2⟩
theorem TiS.set {w wr : World} {jc : Array Value} {B6 g N c : Nat} {r : Fl.L} {ps : List Fl.P} (h : TiS w jc B6 r g N c ps wr) (hn : N = ps.length) {k : Nat} (hk : k < ps.length) (p : Fl.P) {u : Value} (hu : CutsT wr u p.l) :
    TiS w jc B6 r g N c (ps.set k p) (((wr.setCell ⟨g, k * 3, none⟩ (.bool p.b)).setCell ⟨g, k * 3 + 1, none⟩ (.int .i64 p.c)).setCell ⟨g, k * 3 + 2, none⟩ u) := by
  obtain ⟨h1, h2, h3, h4, h5, h6⟩ := h
  exact ⟨((h1.other (by omega) _).other (by omega) _).other (by omega) _, ((h2.other (by omega) _).other (by omega) _).other (by omega) _, h3.set hn hk p hu,
    below_set (below_set (below_set h4 (by omega) _) (by omega) _) (by omega) _, h5, h6⟩
/-- .. and the boxes of a round. -/
def TiB (w : World) (jc : Array Value) (B6 : Nat) (r : Fl.L) (g N c : Nat) (ps : List Fl.P) (B9 : Nat) (s : Fl.S) (B10 : Nat) (q : Fl.P) (u : Value) (W : World) : Prop :=
  TiS w jc B6 r g N c ps W ∧ BlockAt W B9 (stripA s.x s.f s.t) StripT ∧ BlockAt W B10 (planA q.b q.c u) PlanT ∧ CutsT W u q.l
theorem TiB.below {w wr w2 : World} {jc : Array Value} {B6 g N c B9 B10 : Nat} {r : Fl.L} {ps : List Fl.P} {s : Fl.S} {q : Fl.P} {u : Value} (h : TiB w jc B6 r g N c ps B9 s B10 q u wr) (hb : Below wr.heap.size wr w2) : TiB w jc B6 r g N c ps B9 s B10 q u w2 :=
  ⟨h.1.below hb, h.2.1.below hb h.2.1.lt, h.2.2.1.below hb h.2.2.1.lt, h.2.2.2.below hb⟩
set_option maxRecDepth 100000 in
set_option maxHeartbeats 8000000 in
theorem tight_any (sv rv : Value) (j : Fl.J) (k : Nat) (w : World) (hs : Strips w sv j.ss) (hr : Rols w rv j.rs) (hj : Fl.jobE j = 0) (hk : k < j.rs.length) :
    Calls Try.prog 129 #[jobV sv rv j.m, .int .i64 k] w fun e w' => ∃ g c, e = .returned (.slice (some ⟨g, 0, none⟩) (2 ^ j.ss.length) c) ∧ Pls w.heap.size w' (.slice (some ⟨g, 0, none⟩) (2 ^ j.ss.length) c) (Fl.tig j k (2 ^ j.ss.length)) ∧ Below w.heap.size w w' := by
  obtain ⟨hn6, hr5, hoS, hoL, hm1, hm2⟩ := Fl.jobE_zero.1 hj
  have hpow : 2 ^ j.ss.length ≤ 2 ^ 6 := Nat.pow_le_pow_right (by omega) hn6
  have hpos : 0 < 2 ^ j.ss.length := Nat.pow_pos (by omega)
  have FP := Lib.hid (fun c i W (hW : Below w.heap.size w W) (hi : i < j.ss.length) hc h0 h1 => places_any sv rv j.ss j.m c i W (hs.all hW) hi hc (by omega) (hoS i hi) h0 h1)
  obtain ⟨sa, sc, rfl, hsc, hsk⟩ := hs
  obtain ⟨ra, rc, rfl, hrc, hrk⟩ := hr
  have HSK := Lib.hid hsk
  obtain ⟨rb, ro, rfl, hrb, hrr⟩ := hrk k hk
  have HRR := Lib.hid hrr
  have NP := Lib.hid (noPlans_any sa (some ⟨rb, ro, none⟩) j.ss.length sc j.rs.length rc j.m (w.alloc (.cells #[.slice sa j.ss.length sc, .slice (some ⟨rb, ro, none⟩) j.rs.length rc, .int .i64 j.m] JobT)) hn6)
  have HW := Lib.hid (And.intro (BlockAt.new w #[.slice sa j.ss.length sc, .slice (some ⟨rb, ro, none⟩) j.rs.length rc, .int .i64 j.m] JobT) (below_alloc2 (Below.refl w.heap.size w) (.cells #[.slice sa j.ss.length sc, .slice (some ⟨rb, ro, none⟩) j.rs.length rc, .int .i64 j.m] JobT)))
  have HT := Lib.hid (fun (ps : List Fl.P) (a i X A1 : Nat) (t e : Int) (hi : i < j.ss.length) ha hX hA hA1 ht he => Fl.tst_all (j := j) (k := k) (a := a) (i := i) (ps := ps) hk hi ha (X := X) (A1 := A1) hX hA hA1 (t := t) (e := e) ht he)
  have HTL := Lib.hid (fun a i => (Fl.tin_len j k (Fl.tig j k a) a i).trans (Fl.tig_len j k a))
  have HGL := Lib.hid (fun a => Fl.tig_len j k a)
  have HTC := Lib.hid (fun a i hi => Fl.tin_cst hj hk (Fl.tig_cst hj hk a) a (i := i) hi)
  have HTB := Lib.hid (fun a i => Fl.tin_lnB j k (Fl.tig_lnB j k a) a i)
  have HOL := Lib.hid (fun i (hi : i < j.ss.length) => Fl.okS_iff.1 (hoS i hi))
  have HOR := Fl.okL_iff.1 (hoL k hk)
  have HI0 : Hid (∀ a, Fl.tin j k (Fl.tig j k a) a 0 = Fl.tig j k a) := Lib.hid fun _ => rfl
  have HIS : Hid (∀ a i, Fl.tin j k (Fl.tig j k a) a (i + 1) = Fl.tst j k (Fl.tin j k (Fl.tig j k a) a i) a i) := Lib.hid fun _ _ => rfl
  have HAS : Hid (∀ a, Fl.tig j k (a + 1) = Fl.tin j k (Fl.tig j k a) a j.ss.length) := Lib.hid fun _ => rfl
  have HA0 : Hid (Fl.tig j k 0 = Fl.noP j.ss.length) := Lib.hid rfl
  have HNX := Lib.hid (fun (a : Int) (s : Fl.S) => Fl.nxt_bd (r := j.rs[k]) (a := a) (s := s) hm1 hm2)
  have FN := Lib.hid (fun (a : Int) (s : Fl.S) W ha ha2 hf hf2 => next_any j.rs[k] j.m a s W hm1 hm2 ha ha2 (by omega) (by omega) hf hf2)
  obtain ⟨⟨hl0, hl1⟩, ⟨hp0, hp1⟩, _⟩ := HOR
  clear hsk hrk hrr hoS hoL hj
  have HPW : Hid (2 ^ j.ss.length = 2 ^ j.ss.length) := Lib.hid rfl
  obtain ⟨N, hN⟩ : ∃ N, N = 2 ^ j.ss.length := ⟨_, rfl⟩
  rw [← hN] at hpow hpos NP HTL HGL ⊢
  clear hN HPW
  generalize hrol : j.rs[k] = r at *
  have HGEN := Lib.hid hrol
  clear hrol
  go_enter Try.func129, Try.ntmps129
  go_wp2_with fail
  refine NP.out.mono ?_
  rintro e w1 ⟨g, c, rfl, hp1', hb1⟩
  have hgl := (hp1'.form (by rw [Fl.noP_len]; exact Nat.pow_pos (by omega)))
  obtain ⟨g', c', hge, hg1, hg2, hgc⟩ := hgl
  simp only [Value.slice.injEq, Option.some.injEq, Addr.mk.injEq, and_true] at hge
  obtain ⟨hga, hnn, hcc⟩ := hge
  clear hnn
  subst hga
  subst hcc
  simp only [World.size_alloc] at hg1 hp1'
  obtain ⟨c0, c1, c2⟩ := rol_at (HRR.out.below (below_step HW.out.2 hb1) hrb)
  have y1 : World.cell? _ _ = some (.slice (some ⟨rb, ro, none⟩) j.rs.length rc) := (HW.out.1.below hb1 (by simp)).cell 1
  have TI0 := Lib.hid (show TiS w #[.slice sa j.ss.length sc, .slice (some ⟨rb, ro, none⟩) j.rs.length rc, .int .i64 j.m] w1.heap.size r g N c (Fl.tig j k 0) (w1.alloc (.cells (rolA r) RolT)) from
    ⟨(HW.out.1.below hb1 (by simp)).alloc _, BlockAt.new w1 (rolA r) RolT, by rw [HA0.out]; exact hp1'.all (below_alloc2 (Below.refl _ _) _), below_alloc2 (below_step HW.out.2 hb1) _, hg2, by omega⟩)
  have hgw := hg1
  clear hp1' hb1 NP HRR HA0
  go_wp2
  clear c0 c1 c2 y1
  have hBg : g < w1.heap.size := hg2
  generalize w1.heap.size = B6 at *
  go_loopw [22] (fun t wr => ∃ a : Nat, a ≤ N ∧ t = .int .i64 a ∧ Hid (TiS w #[.slice sa j.ss.length sc, .slice (some ⟨rb, ro, none⟩) j.rs.length rc, .int .i64 j.m] B6 r g N c (Fl.tig j k a) wr)) (fun t _ => N - (intOf t).toNat)
  case atStart => exact ⟨0, Nat.zero_le _, rfl, TI0⟩
  case round =>
    obtain ⟨a, haN, rfl, hg⟩ := hrel
    clear TI0
    by_cases halt : a < N
    · have x0 : World.cell? _ _ = some (.slice sa j.ss.length sc) := hg.out.1.cell 0
      have hda : decide ((a : Int) < (N : Int)) = true := decide_eq_true (by omega)
      have hda2 : decide (a < N) = true := decide_eq_true halt
      have HGa := Lib.hid (show TiS w #[.slice sa j.ss.length sc, .slice (some ⟨rb, ro, none⟩) j.rs.length rc, .int .i64 j.m] B6 r g N c (Fl.tin j k (Fl.tig j k a) a 0) wr by rw [HI0.out]; exact hg.out)
      clear hg
      go_wp2
      clear x0
      go_loopw [28] (fun t wr => ∃ i : Nat, i ≤ j.ss.length ∧ t = .int .i64 i ∧ Hid (TiS w #[.slice sa j.ss.length sc, .slice (some ⟨rb, ro, none⟩) j.rs.length rc, .int .i64 j.m] B6 r g N c (Fl.tin j k (Fl.tig j k a) a i) wr)) (fun t _ => j.ss.length - (intOf t).toNat)
      case atStart => exact ⟨0, Nat.zero_le _, rfl, HGa⟩
      case round =>
        obtain ⟨i, hin, rfl, hg⟩ := hrel
        clear HGa
        by_cases hil : i < j.ss.length
        · have HFPi := Lib.hid (fun c W hW hc h0 h1 => FP.out c i W hW hil hc h0 h1)
          obtain ⟨sb, so, rfl, hsb, hsr⟩ := HSK.out i hil
          obtain ⟨_, _, of0, oft, ot⟩ := HOL.out i hil
          obtain ⟨X, hX⟩ : ∃ X, X = a &&& 2 ^ i := ⟨_, rfl⟩
          obtain ⟨A1, hA1⟩ : ∃ A1, A1 = a - X := ⟨_, rfl⟩
          have hand := (bit_and a (by omega) i (by omega)).trans (by rw [← hX])
          have hnot := (bit_not a (by omega) i (by omega)).trans (by rw [← hX, ← hA1])
          have hsh := shl_pow (n := i) (by omega)
          have hll := HTL.out a i
          have HTC1 := HTC.out a i (by omega)
          have HTB1 := HTB.out a i
          have HIS1 := Lib.hid (HIS.out a i)
          have HT1 := HT.out (Fl.tin j k (Fl.tig j k a) a i) a i X A1
          obtain ⟨ps1, hps1⟩ : ∃ y, y = Fl.tin j k (Fl.tig j k a) a (i + 1) := ⟨_, rfl⟩
          rw [← hps1] at HIS1
          have HNEXT := Lib.hid hps1
          generalize Fl.tin j k (Fl.tig j k a) a i = ps at *
          have hAl : A1 < ps.length := by omega
          have hal : a < ps.length := by omega
          have hcb := HTC1 A1 hAl
          have hlb := HTB1 A1 hAl
          have HT2 := fun t e => HT1 t e hil hal hX hA1 hAl
          generalize hts : Fl.tst j k ps a i = TS at *
          generalize 2 ^ i = p2 at *
          have TI1 := Lib.hid (hg.out.below (below_alloc2 (Below.refl wr.heap.size wr) (.cells (stripA j.ss[i].x j.ss[i].f j.ss[i].t) StripT)))
          obtain ⟨ua, um, ⟨q0, q1, q2⟩, hcu, hum⟩ := TI1.out.2.2.1.get hAl
          obtain ⟨c0, c1, c2⟩ := strip_at (hsr.below hg.out.2.2.2.1 hsb)
          have HTS := Lib.hid (fun t e ht he => HT2 t e ht he)
          have TB2 := Lib.hid (show TiB w #[.slice (some ⟨sb, so, none⟩) j.ss.length sc, .slice (some ⟨rb, ro, none⟩) j.rs.length rc, .int .i64 j.m] B6 r g N c ps wr.heap.size j.ss[i] (wr.heap.size + 1) ps[A1] (.slice ua ps[A1].l.length um) ((wr.alloc (.cells (stripA j.ss[i].x j.ss[i].f j.ss[i].t) StripT)).alloc (.cells (planA ps[A1].b ps[A1].c (.slice ua ps[A1].l.length um)) PlanT)) from
            ⟨TI1.out.below (below_alloc2 (Below.refl _ _) _), (BlockAt.new wr _ StripT).alloc _, by have := BlockAt.new (wr.alloc (.cells (stripA j.ss[i].x j.ss[i].f j.ss[i].t) StripT)) (planA ps[A1].b ps[A1].c (.slice ua ps[A1].l.length um)) PlanT; simpa using this, hcu.below (below_alloc2 (Below.refl _ _) _)⟩)
          have HPA := Lib.hid (show ps[a]'hal = ps[a]'hal from rfl)
          have HTC2 := Lib.hid (HTC1 a hal)
          clear hsr hg TI1 hcu HT1 HT2 HTC1 HTB1 hps1 hts
          generalize hq : ps[A1] = q at *
          generalize hp0q : ps[a] = P0 at *
          generalize hsq : j.ss[i] = s at *
          have HQ := Lib.hid hq
          have HP0 := Lib.hid hp0q
          clear hq hp0q hsq hX hA1 HPA
          obtain ⟨qb, qc, ql⟩ := q
          dsimp only at *
          by_cases hX0 : X = 0
          · have HE := Lib.hid (HIS1.out.trans ((HTS.out _ _ rfl rfl).1 hX0))
            have hand0 : bits .and .i64 (a : Int) (p2 : Int) = 0 := by rw [hand, hX0]; rfl
            have HF := Lib.hid TB2.out.1
            clear hand hX0 HTS TB2
            go_wp2
            go_roundw
            case rel => exact ⟨i + 1, by omega, by go_num, Lib.hid (by rw [← HNEXT.out, HE.out]; exact HF.out)⟩
            case measure => simp [intOf]; omega
          have hX1 : ((X : Int) == 0) = false := beq_eq_false_iff_ne.2 (by omega)
          cases qb
          · have HE := Lib.hid (HIS1.out.trans ((HTS.out _ _ rfl rfl).2.1 rfl))
            have HF := Lib.hid TB2.out.1
            clear HTS TB2
            go_wp2
            go_roundw
            case rel => exact ⟨i + 1, by omega, by go_num, Lib.hid (by rw [← HNEXT.out, HE.out]; exact HF.out)⟩
            case measure => simp [intOf]; omega
          have hnb := HNX.out qc s
          have CN := Lib.hid (FN.out qc s ((wr.alloc (.cells (stripA s.x s.f s.t) StripT)).alloc (.cells (planA true qc (.slice ua ql.length um)) PlanT)) (by omega) (by omega) (by omega) (by omega))
          generalize hT : Fl.nxt r j.m qc s = T at *
          obtain ⟨E, hE⟩ : ∃ E, E = T + s.t - s.f := ⟨_, rfl⟩
          obtain ⟨_, _, t3, t4, t5⟩ := HTS.out T E rfl hE
          have HT3 := Lib.hid (fun h => HIS1.out.trans (t3 h))
          have HT4 := Lib.hid (fun h => HIS1.out.trans (t4 h))
          have HT5 := Lib.hid (fun h1 h => HIS1.out.trans (t5 hX0 rfl h1 h))
          have r0 : World.cell? _ _ = some (.int .i64 r.l) := TB2.out.1.2.1.cell 0
          have r1 : World.cell? _ _ = some (.int .i64 r.p) := TB2.out.1.2.1.cell 1
          have r2 : World.cell? _ _ = some (.int .i64 r.c) := TB2.out.1.2.1.cell 2
          have m2 : World.cell? _ _ = some (.int .i64 j.m) := TB2.out.1.1.cell 2
          have s0 : World.cell? _ _ = some (.int .i64 s.x) := TB2.out.2.1.cell 0
          have s1 : World.cell? _ _ = some (.int .i64 s.f) := TB2.out.2.1.cell 1
          have s2 : World.cell? _ _ = some (.int .i64 s.t) := TB2.out.2.1.cell 2
          clear t3 t4 t5 HTS hT
          go_wp2_with fail
          refine CN.out.mono ?_
          rintro e w3 ⟨rfl, hb3⟩
          have TB4 := Lib.hid ((TB2.out.below hb3).below (below_alloc2 (Below.refl w3.heap.size w3) (.cells (cutA ⟨i, k, T⟩) CutT)))
          have BC4 := Lib.hid (BlockAt.new w3 (cutA ⟨i, k, T⟩) CutT)
          have CP := Lib.hid (HFPi.out ⟨i, k, T⟩ _ TB4.out.1.2.2.2.1 rfl (by show 0 ≤ T; omega) (by show T ≤ 1000000; omega))
          rw [← hE] at CP
          have hfs := fun w => fldS1 (.int .i64 T) (.int .i64 E) w
          clear r0 r1 r2 m2 s0 s1 s2 q0 q1 q2 c0 c1 c2 hb3 TB2 CN
          have m0 : World.cell? _ _ = some (.slice (some ⟨sb, so, none⟩) j.ss.length sc) := TB4.out.1.1.cell 0
          have m1 : World.cell? _ _ = some (.slice (some ⟨rb, ro, none⟩) j.rs.length rc) := TB4.out.1.1.cell 1
          have m2 : World.cell? _ _ = some (.int .i64 j.m) := TB4.out.1.1.cell 2
          have k0 : World.cell? _ _ = some (.int .i64 (i : Int)) := BC4.out.cell 0
          have k1 : World.cell? _ _ = some (.int .i64 (k : Int)) := BC4.out.cell 1
          have k2 : World.cell? _ _ = some (.int .i64 T) := BC4.out.cell 2
          go_wp2_with fail
          refine CP.out.mono ?_
          rintro e w5 ⟨rfl, hb5⟩
          have TB5 := Lib.hid (TB4.out.below hb5)
          have BC5 := Lib.hid (BC4.out.below hb5 BC4.out.lt)
          clear m0 m1 m2 k0 k1 k2 hb5 TB4 BC4 CP
          have r0 : World.cell? _ _ = some (.int .i64 r.l) := TB5.out.1.2.1.cell 0
          have hEb : 0 ≤ E ∧ E ≤ 1000 := by omega
          by_cases hfit : E ≤ r.l
          case neg =>
            have HE := Lib.hid (HT3.out (by omega))
            have HF := Lib.hid TB5.out.1
            clear HT3 HT4 HT5 TB5 BC5 hE
            go_wp2
            go_roundw
            case rel => exact ⟨i + 1, by omega, by go_num, Lib.hid (by rw [← HNEXT.out, HE.out]; exact HF.out)⟩
            case measure => simp [intOf]; omega
          obtain ⟨va, vm, ⟨p0, p1, p2'⟩, hcv, hvm⟩ := TB5.out.1.2.2.1.get hal
          rw [HP0.out] at p0 p1 p2' hvm
          have CA := Lib.hid (fun W => isAbove_any P0 va P0.l.length vm E W)
          generalize hAB : Fl.above P0 E = AB at *
          clear hcv hE hAB
          have hoo : AB = true ∨ AB = false := by cases AB <;> simp
          rcases hoo with ho | ho
          case inr =>
            have HE := Lib.hid (HT4.out ho)
            rw [ho] at CA
            clear HT3 HT4 HT5 ho
            go_wp2_with fail
            refine (CA.out _).mono ?_
            rintro e w6 ⟨rfl, hb6⟩
            have HF := Lib.hid (TB5.out.1.below hb6)
            clear TB5 BC5 hb6 p0 p1 p2' r0
            go_wp2
            go_roundw
            case rel => exact ⟨i + 1, by omega, by go_num, Lib.hid (by rw [← HNEXT.out, HE.out]; exact HF.out)⟩
            case measure => simp [intOf]; omega
          have HE := Lib.hid (HT5.out hfit ho)
          rw [ho] at CA
          clear HT3 HT4 HT5 ho
          go_wp2_with fail
          refine (CA.out _).mono ?_
          rintro e w6 ⟨rfl, hb6⟩
          have TB6 := Lib.hid (TB5.out.below hb6)
          have BC6 := Lib.hid (BC5.out.below hb6 BC5.out.lt)
          clear TB5 BC5 hb6 p0 p1 p2' r0
          have CT := Lib.hid (then_any true qc E (.slice ua ql.length um) (.slice (some ⟨w6.heap.size, 0, none⟩) 1 1) ql [⟨i, k, T⟩] (w6.alloc (.cells (cutA ⟨i, k, T⟩) CutT)) (TB6.out.2.2.2.below (below_alloc2 (Below.refl _ _) _)) (CutsT.one (BlockAt.new w6 (cutA ⟨i, k, T⟩) CutT)) (by simp; omega))
          have b0 : World.cell? _ _ = some (.bool true) := TB6.out.2.2.1.cell 0
          have b1 : World.cell? _ _ = some (.int .i64 qc) := TB6.out.2.2.1.cell 1
          have b2 : World.cell? _ _ = some (.slice ua ql.length um) := TB6.out.2.2.1.cell 2
          have k0 : World.cell? _ _ = some (.int .i64 (i : Int)) := BC6.out.cell 0
          have k1 : World.cell? _ _ = some (.int .i64 (k : Int)) := BC6.out.cell 1
          have k2 : World.cell? _ _ = some (.int .i64 T) := BC6.out.cell 2
          go_wp2_with fail
          refine CT.out.mono ?_
          rintro e w8 ⟨a8, n8, rfl, hc8, hb8⟩
          have TI8 := Lib.hid ((TB6.out.1.below (below_alloc2 (Below.refl w6.heap.size w6) (.cells (cutA ⟨i, k, T⟩) CutT))).below hb8)
          obtain ⟨va, vm, ⟨p0, p1, p2'⟩, _, _⟩ := TI8.out.2.2.1.get hal
          have f0 := TI8.out.2.2.1.frozen (a * 3)
          have f1 := TI8.out.2.2.1.frozen (a * 3 + 1)
          have f2 := TI8.out.2.2.1.frozen (a * 3 + 2)
          have HF := Lib.hid (TI8.out.set hll.symm hal (Fl.thn ⟨true, qc, ql⟩ E [⟨i, k, T⟩]) hc8)
          clear TB6 BC6 hb8 b0 b1 b2 k0 k1 k2 CT hc8 TI8
          go_wp2
          go_roundw
          case rel => exact ⟨i + 1, by omega, by go_num, Lib.hid (by rw [← HNEXT.out, HE.out]; exact HF.out)⟩
          case measure => simp [intOf]; omega
        · obtain rfl : i = j.ss.length := by omega
          have HE := Lib.hid (HAS.out a)
          go_wp2
          go_roundw
          case rel => exact ⟨a + 1, by omega, by go_num, Lib.hid (by rw [HE.out]; exact hg.out)⟩
          case measure => simp [intOf]; omega
    · obtain rfl : a = N := by omega
      have HF := Lib.hid hg.out
      clear hg
      go_wp2
      go_ret
      exact ⟨g, c, rfl, HF.out.2.2.1.mono (by omega), HF.out.2.2.2.1⟩
end Go.Proofs.Ytpobkdbnldogcaa
