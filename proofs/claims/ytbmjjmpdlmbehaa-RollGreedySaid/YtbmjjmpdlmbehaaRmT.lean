/- The last piece of a best cutting of a beginning. Lists of pieces that a call makes; a best cutting, from the end of the band to its beginning. The program's Best: its band laid, its worths, and its cut read off from them. -/
import Derived.Test.YtbmjjmpdlmbehaaRmU
import Derived.Test.YtbmjjmpdlmbehaaRmQ
import Derived.Test.YtbmjjmpdlmbehaaRmR
namespace Go.Proofs.Ytbmjjmpdlmbehaa
open Go.RowKit

/-- What is told of the last piece before an end. -/
def LastSays (ms : List Bd.M) (al : List Ro.A) (e : Nat) (x : Ro.X) (ok : Bool) : Prop :=
  (ok = false → Ro.W ms al e = Ro.W ms al (e - 1)) ∧ (ok = true → ∃ k f : Nat, ∃ hk : k < al.length, x = ⟨f, k⟩ ∧ (f : Int) = e - al[k].l ∧ Ro.fit ms al[k] f = true ∧ Ro.W ms al f + al[k].p = Ro.W ms al e)
def LaS (b9 : Nat) (a : Ro.A) (j : Nat) (u : Value) (g p e : Nat) (v1 v2 : Int) (W : World) : Prop := (BlockAt W b9 (offA a (j : Int) u) OffT ∧ W.cell? ⟨g, p, none⟩ = some (.int .i64 v1) ∧ W.cell? ⟨g, e, none⟩ = some (.int .i64 v2)) ∧ g < W.heap.size
theorem LaS.below {b9 : Nat} {a : Ro.A} {j : Nat} {u : Value} {g p e : Nat} {v1 v2 : Int} {W W2 : World} (h : LaS b9 a j u g p e v1 v2 W) (hb : Below W.heap.size W W2) : LaS b9 a j u g p e v1 v2 W2 :=
  ⟨⟨h.1.1.below hb h.1.1.lt, (hb.cell (p := ⟨g, p, none⟩) h.2).trans h.1.2.1, (hb.cell (p := ⟨g, e, none⟩) h.2).trans h.1.2.2⟩, Nat.lt_of_lt_of_le h.2 hb.size⟩

set_option maxRecDepth 20000 in
set_option maxHeartbeats 4000000 in
theorem last_any (bv ov : Value) (N N1 : Nat) (hN1 : N1 = N + 1) (rs : List Bd.R) (al : List Ro.A) (g e : Nat) (w : World) (ho : Offs w ov rs al) (hf : Bd.fine rs) (hok : Ro.okAs al) (hal : al.length ≤ 5) (hN : N ≤ 300) (hNe : (Bd.exp rs).length = N)
    (hg : BlockAt w g (fnC N1 (Ro.W (Bd.exp rs) al)) 3) (he1 : 1 ≤ e) (he2 : e ≤ N) :
    Calls Try.prog 62 #[tabV bv (N : Int) ov, .slice (some ⟨g, 0, none⟩) N1 N1, .int .i64 e] w fun r w' => ∃ x ok, r = .returned (.tuple #[pcV x, .bool ok]) ∧ LastSays (Bd.exp rs) al e x ok ∧ Below w.heap.size w w' := by
  obtain ⟨oa, oc, rfl, hk⟩ := ho
  have HA := Lib.hid hk
  have HF := Lib.hid (fun (j : Nat) (hj : j < al.length) (f : Int) (u : Value) (W : World) (hl : 1 ≤ al[j].l ∧ al[j].l ≤ 300) (hsp : Spns W u (spaA rs al[j])) => fitsAt_any al[j] (j : Int) u f (spaA rs al[j]) W hl hsp (spaA_ok rs _) (spaA_len hf _))
  have HE := Lib.hid (fun (j : Nat) (hj : j < al.length) (f : Int) => spaA_fit hf (Ro.okA_iff.1 (hok _ (List.getElem_mem hj))).1.1 f)
  have HL := Lib.hid (fun (j : Nat) (hj : j < al.length) => Ro.okA_iff.1 (hok _ (List.getElem_mem hj)))
  have HWR := Lib.hid (fun k => And.intro (Ro.W_nonneg (Bd.exp rs) al k) (Ro.W_bound (ms := Bd.exp rs) hok k))
  obtain ⟨d, hd⟩ : ∃ d, e = d + 1 := ⟨e - 1, by omega⟩
  have HLAST := Lib.hid (Ro.W_last (ms := Bd.exp rs) hok d)
  rw [← hd] at HLAST
  have HFT : Hid (∀ (a : Ro.A) (f : Int), Ro.fit (Bd.exp rs) a f = true → 0 ≤ f ∧ f + a.l ≤ N) := Lib.hid fun a f hh => by
    have := Ro.fit_iff.1 hh
    omega
  have HNO : Hid (∀ x, Ro.W (Bd.exp rs) al e = Ro.W (Bd.exp rs) al d → LastSays (Bd.exp rs) al e x false) := Lib.hid fun x h => ⟨fun _ => by rw [show e - 1 = d by omega]; exact h, fun h => by cases h⟩
  have HYES : Hid (∀ (k f : Nat) (hk : k < al.length), (f : Int) = e - al[k].l → Ro.fit (Bd.exp rs) al[k] f = true → Ro.W (Bd.exp rs) al f + al[k].p = Ro.W (Bd.exp rs) al e → LastSays (Bd.exp rs) al e ⟨f, k⟩ true) := Lib.hid fun k f hk h1 h2 h3 => ⟨fun h => (by cases h), fun _ => ⟨k, f, hk, rfl, h1, h2, h3⟩⟩
  have hce := (hg.cell e).trans (fnC_at (n := N1) (f := Ro.W (Bd.exp rs) al) (i := e) (by omega))
  have hcd := (hg.cell d).trans (fnC_at (n := N1) (f := Ro.W (Bd.exp rs) al) (i := d) (by omega))
  have HCP : Hid (∀ p, p < N1 → w.cell? ⟨g, p, none⟩ = some (.int .i64 (Ro.W (Bd.exp rs) al p))) := Lib.hid fun p hp => (hg.cell p).trans (fnC_at hp)
  have hglt := hg.lt
  clear hk hok hf hNe hg
  generalize Bd.exp rs = ms at *
  have hwd : IntKind.i64.wrap ((e : Int) - 1) = (d : Int) := by rw [IntWalk.i64_in _ ⟨by omega, by omega⟩]; omega
  have b6 := BlockAt.new (w.alloc (.cells (tabA bv (N : Int) (.slice oa al.length oc)) TabT)) #[.int .i64 0, .int .i64 0] PcT
  simp only [World.size_alloc] at b6
  have bT := (BlockAt.new w (tabA bv (N : Int) (.slice oa al.length oc)) TabT).alloc (.cells #[.int .i64 0, .int .i64 0] PcT)
  have hw := below_alloc2 (below_alloc2 (Below.refl w.heap.size w) (.cells (tabA bv (N : Int) (.slice oa al.length oc)) TabT)) (.cells #[.int .i64 0, .int .i64 0] PcT)
  have HB := Lib.hid (And.intro bT (And.intro b6 hw))
  have c1 := (hw.cell (p := ⟨g, e, none⟩) hglt).trans hce
  have c2 := (hw.cell (p := ⟨g, d, none⟩) hglt).trans hcd
  have heN : e < N1 := by omega
  have hdN : d < N1 := by omega
  have HNN := Lib.hid hN1
  have HD := Lib.hid hd
  clear hN1 hd
  clear b6 bT hw
  by_cases hsame : Ro.W ms al e = Ro.W ms al d
  · have HR := Lib.hid (HNO.out ⟨0, 0⟩ hsame)
    rw [hsame] at c1
    clear hsame hce hcd HLAST
    generalize Ro.W ms al d = y at *
    have hyy : (y == y) = true := beq_self_eq_true _
    have z0 : World.cell? (((w.alloc (.cells (tabA bv (N : Int) (.slice oa al.length oc)) TabT)).alloc (.cells #[.int .i64 0, .int .i64 0] PcT)).drewN 1) ⟨w.heap.size + 1, 0, none⟩ = some (.int .i64 0) := HB.out.2.1.cell 0
    have z1 : World.cell? (((w.alloc (.cells (tabA bv (N : Int) (.slice oa al.length oc)) TabT)).alloc (.cells #[.int .i64 0, .int .i64 0] PcT)).drewN 1) ⟨w.heap.size + 1, 1, none⟩ = some (.int .i64 0) := HB.out.2.1.cell 1
    go_enter Try.func62, Try.ntmps62
    go_upto_region 1 with fail
    refine wp_region_seq [(0, true), (1, true), (2, true), (3, true), (4, true), (5, true), (6, true), (7, true), (8, true), (9, true)] (fun W => W.cell? ⟨g, e, none⟩ = some (.int .i64 y) ∧ W.cell? ⟨g, d, none⟩ = some (.int .i64 y))
      (by kernel_rfl) (by kernel_rfl) (by kernel_rfl) (by kernel_rfl) (fun d _ _ _ _ h => by cases d <;> exact h) ⟨c1, c2⟩ (fun _ => ?_)
    repeat (first | (refine SeqH.take (v := ?_) rfl (by rfl) ?_ ?_; rotate_left; (· intro w hSw; (try dsimp only at hSw); obtain ⟨d1, d2⟩ := hSw; go_simp; (try with_reducible rfl)); simp only [Act.put, List.setIfInBounds_toArray, List.set_cons_zero, List.set_cons_succ]) | (refine SeqH.skip rfl (by rfl) ?_; simp only [Act.put, List.setIfInBounds_toArray, List.set_cons_zero, List.set_cons_succ]))
    refine SeqH.done ?_
    have f0 : World.frozen? (((w.alloc (.cells (tabA bv (N : Int) (.slice oa al.length oc)) TabT)).alloc (.cells #[.int .i64 0, .int .i64 0] PcT)).drew) ⟨w.heap.size + 1, 0, none⟩ = false := HB.out.2.1.frozen 0
    have f1 : World.frozen? (((w.alloc (.cells (tabA bv (N : Int) (.slice oa al.length oc)) TabT)).alloc (.cells #[.int .i64 0, .int .i64 0] PcT)).drew) ⟨w.heap.size + 1, 1, none⟩ = false := HB.out.2.1.frozen 1
    have HWD := Lib.hid (below_drewN HB.out.2.2 1)
    have hlt6 := HB.out.2.1.lt
    go_wp2
    refine bodyPost_ret (v := .tuple #[.agg #[.int .i64 0, .int .i64 0], .bool false]) (by simp [results, Try.results62, go_sem, z0, z1, hlt6]) rfl ⟨⟨0, 0⟩, false, rfl, HR.out, ?_⟩
    first | exact HWD.out | (trace_state; sorry)
  · have hLAST := HLAST.out.resolve_left hsame
    have hyy : (Ro.W ms al e == Ro.W ms al d) = false := beq_eq_false_iff_ne.2 hsame
    have HLA := Lib.hid hLAST
    have hEW := HWR.out e
    clear hsame hce hcd HLAST hLAST
    generalize hwe : Ro.W ms al e = we at *
    generalize Ro.W ms al d = y at *
    have HWE := Lib.hid hwe
    clear hwe
    go_enter Try.func62, Try.ntmps62
    go_upto_region 1 with fail
    refine wp_region_seq [(0, true), (1, true), (2, true), (3, true), (4, true), (5, true), (6, true), (7, true), (8, true), (9, true)] (fun W => W.cell? ⟨g, e, none⟩ = some (.int .i64 we) ∧ W.cell? ⟨g, d, none⟩ = some (.int .i64 y))
      (by kernel_rfl) (by kernel_rfl) (by kernel_rfl) (by kernel_rfl) (fun d _ _ _ _ h => by cases d <;> exact h) ⟨c1, c2⟩ (fun _ => ?_)
    repeat (first | (refine SeqH.take (v := ?_) rfl (by rfl) ?_ ?_; rotate_left; (· intro w hSw; (try dsimp only at hSw); obtain ⟨d1, d2⟩ := hSw; go_simp; (try with_reducible rfl)); simp only [Act.put, List.setIfInBounds_toArray, List.set_cons_zero, List.set_cons_succ]) | (refine SeqH.skip rfl (by rfl) ?_; simp only [Act.put, List.setIfInBounds_toArray, List.set_cons_zero, List.set_cons_succ]))
    refine SeqH.done ?_
    have HB1 : Hid (BlockAt (((w.alloc (.cells (tabA bv (N : Int) (.slice oa al.length oc)) TabT)).alloc (.cells #[.int .i64 0, .int .i64 0] PcT)).drew) w.heap.size (tabA bv (N : Int) (.slice oa al.length oc)) TabT ∧ BlockAt (((w.alloc (.cells (tabA bv (N : Int) (.slice oa al.length oc)) TabT)).alloc (.cells #[.int .i64 0, .int .i64 0] PcT)).drew) (w.heap.size + 1) #[.int .i64 0, .int .i64 0] PcT ∧ Below w.heap.size w (((w.alloc (.cells (tabA bv (N : Int) (.slice oa al.length oc)) TabT)).alloc (.cells #[.int .i64 0, .int .i64 0] PcT)).drew)) := Lib.hid ⟨HB.out.1, HB.out.2.1, below_drewN HB.out.2.2 1⟩
    have t2 : World.cell? (((w.alloc (.cells (tabA bv (N : Int) (.slice oa al.length oc)) TabT)).alloc (.cells #[.int .i64 0, .int .i64 0] PcT)).drew) ⟨w.heap.size, 2, none⟩ = some (.slice oa al.length oc) := HB1.out.1.cell 2
    have hltT := HB1.out.1.lt
    clear c1 c2 hyy HB hwd
    go_wp2
    clear t2
    go_loopw [25] (fun t wr => ∃ j : Nat, j ≤ al.length ∧ t = .int .i64 j ∧ Hid ((∀ i (hi : i < al.length), i < j → ¬ (Ro.fit ms al[i] ((e : Int) - al[i].l) = true ∧ Ro.W ms al ((e : Int) - al[i].l).toNat + al[i].p = we)) ∧ BlockAt wr (w.heap.size + 1) #[.int .i64 0, .int .i64 0] PcT ∧ Below w.heap.size w wr)) (fun t _ => al.length - (intOf t).toNat)
    case atStart => exact ⟨0, Nat.zero_le _, rfl, Lib.hid ⟨fun i _ h => absurd h (Nat.not_lt_zero _), HB1.out.2⟩⟩
    case round =>
      obtain ⟨j, hj, rfl, hg⟩ := hrel
      clear HB1
      by_cases hjl : j < al.length
      · obtain ⟨b, off, u, rfl, hb, hr, hsp⟩ := HA.out j hjl
        obtain ⟨⟨hl1, hl2⟩, hp1, hp2⟩ := HL.out j hjl
        obtain ⟨⟨c0, c1, c2, c3, c4, c5⟩, c6, c7⟩ := hr.below hg.out.2.2 hb
        obtain ⟨z, hz⟩ : ∃ z : Int, z = (e : Int) - al[j].l := ⟨_, rfl⟩
        have hwz : IntKind.i64.wrap ((e : Int) - al[j].l) = z := by rw [IntWalk.i64_in _ ⟨by omega, by omega⟩]; exact hz.symm
        have HC := Lib.hid (fun W (hW : Below w.heap.size w W) => HF.out j hjl z u W ⟨hl1, hl2⟩ (hsp.all hW))
        rw [HE.out j hjl z] at HC
        have HNJ : Hid (¬ (Ro.fit ms al[j] z = true ∧ Ro.W ms al z.toNat + al[j].p = we) → ∀ i (hi : i < al.length), i < j + 1 → ¬ (Ro.fit ms al[i] ((e : Int) - al[i].l) = true ∧ Ro.W ms al ((e : Int) - al[i].l).toNat + al[i].p = we)) := Lib.hid fun h i hi hij => by
          by_cases e2 : i = j
          · subst e2; rw [← hz]; exact h
          · exact hg.out.1 i hi (by omega)
        have HYJ : Hid (∀ f : Nat, z = f → Ro.fit ms al[j] z = true → Ro.W ms al f + al[j].p = we → LastSays ms al e ⟨f, j⟩ true) := Lib.hid fun f h1 h2 h3 => HYES.out j f hjl (by rw [← h1]; exact hz) (by rw [← h1]; exact h2) h3
        have HFZ : Hid (Ro.fit ms al[j] z = true → 0 ≤ z ∧ z + al[j].l ≤ N) := Lib.hid (HFT.out al[j] z)
        obtain ⟨ua, uc, rfl, hsp2⟩ := hsp
        have HZ := Lib.hid hz
        have HG := Lib.hid (And.intro (hg.out.2.1.alloc (.cells (offA al[j] (j : Int) (.slice ua (spaA rs al[j]).length uc)) OffT)) (below_alloc2 hg.out.2.2 (.cells (offA al[j] (j : Int) (.slice ua (spaA rs al[j]).length uc)) OffT)))
        have HBO := Lib.hid (BlockAt.new wr (offA al[j] (j : Int) (.slice ua (spaA rs al[j]).length uc)) OffT)
        clear hg hsp2 hr hz
        obtain ⟨sl, hsl⟩ : ∃ sl, sl = (spaA rs al[j]).length := ⟨_, rfl⟩
        rw [← hsl] at HC c7 HG HBO
        clear hsl
        generalize hfz : Ro.fit ms al[j] z = r at *
        clear hfz
        generalize al[j] = a at *
        have r0 : World.cell? _ _ = some (.int .i64 a.l) := HBO.out.cell 0
        cases r
        · have HN2 := Lib.hid (HNJ.out (fun h => by cases h.1))
          clear HNJ HYJ HFZ
          have HS0 : Hid (BlockAt (wr.alloc (.cells (offA a (j : Int) (.slice ua sl uc)) OffT)).drew wr.heap.size (offA a (j : Int) (.slice ua sl uc)) OffT) := Lib.hid HBO.out
          go_upto_region 7 with fail
          clear c0 c1 c2 c3 c4 c5 c6 c7 r0
          refine wp_region_seq [(0, true), (1, true), (2, false), (3, true), (4, true), (5, true), (6, true), (7, true), (8, true), (9, true), (10, true), (11, true), (12, true), (13, true), (14, true), (15, true), (16, true), (17, true)] (fun W => BlockAt W wr.heap.size (offA a (j : Int) (.slice ua sl uc)) OffT ∧ True)
            (by kernel_rfl) (by kernel_rfl) (by kernel_rfl) (by kernel_rfl) (fun d _ _ _ _ h => by cases d <;> exact h) ⟨HS0.out, trivial⟩ (fun _ => ?_)
          repeat (first | (refine SeqH.take (v := ?_) rfl (by rfl) ?_ ?_; rotate_left; (· intro w hSw; (try dsimp only at hSw); obtain ⟨hbo, _⟩ := hSw; have c0 : World.cell? _ _ = some (.int .i64 a.l) := hbo.cell 0; have c1 : World.cell? _ _ = some (.int .i64 a.la) := hbo.cell 1; have c2 : World.cell? _ _ = some (.int .i64 a.mo) := hbo.cell 2; have c3 : World.cell? _ _ = some (.int .i64 a.sh) := hbo.cell 3; have c4 : World.cell? _ _ = some (.int .i64 a.fl) := hbo.cell 4; have c5 : World.cell? _ _ = some (.int .i64 a.p) := hbo.cell 5; have c6 : World.cell? _ _ = some (.int .i64 (j : Int)) := hbo.cell 6; have c7 : World.cell? _ _ = some (.slice ua sl uc) := hbo.cell 7; go_simp; (try with_reducible rfl)); simp only [Act.put, List.setIfInBounds_toArray, List.set_cons_zero, List.set_cons_succ]) | (refine SeqH.skip rfl (by rfl) ?_; simp only [Act.put, List.setIfInBounds_toArray, List.set_cons_zero, List.set_cons_succ]))
          refine SeqH.step rfl (by rfl) (fun K hK => ?_)
          go_simp
          go_at_call 33
          refine (HC.out _ (below_drewN HG.out.2 1)).mono ?_
          rintro e3 w3 ⟨rfl, hb3⟩
          try dsimp only
          refine hK.out _ _ ⟨HS0.out.below hb3 HS0.out.lt, trivial⟩ (fun _ => ?_)
          have HG3 := Lib.hid (And.intro (HG.out.1.drew.below hb3 HG.out.1.drew.lt) (below_step (below_drewN HG.out.2 1) hb3))
          clear hK K hb3 HG HC HS0 HBO
          try simp only [Act.put, List.setIfInBounds_toArray, List.set_cons_zero, List.set_cons_succ]
          repeat (first | (refine SeqH.take (v := ?_) rfl (by rfl) ?_ ?_; rotate_left; (· intro w hSw; (try dsimp only at hSw); obtain ⟨hbo, _⟩ := hSw; have c0 : World.cell? _ _ = some (.int .i64 a.l) := hbo.cell 0; have c1 : World.cell? _ _ = some (.int .i64 a.la) := hbo.cell 1; have c2 : World.cell? _ _ = some (.int .i64 a.mo) := hbo.cell 2; have c3 : World.cell? _ _ = some (.int .i64 a.sh) := hbo.cell 3; have c4 : World.cell? _ _ = some (.int .i64 a.fl) := hbo.cell 4; have c5 : World.cell? _ _ = some (.int .i64 a.p) := hbo.cell 5; have c6 : World.cell? _ _ = some (.int .i64 (j : Int)) := hbo.cell 6; have c7 : World.cell? _ _ = some (.slice ua sl uc) := hbo.cell 7; go_simp; (try with_reducible rfl)); simp only [Act.put, List.setIfInBounds_toArray, List.set_cons_zero, List.set_cons_succ]) | (refine SeqH.skip rfl (by rfl) ?_; simp only [Act.put, List.setIfInBounds_toArray, List.set_cons_zero, List.set_cons_succ]))
          refine SeqH.done ?_
          go_wp2
          go_roundw
          case rel => exact ⟨j + 1, by omega, by go_num, Lib.hid ⟨HN2.out, HG3.out⟩⟩
          case measure => simp [intOf]; omega
        · obtain ⟨hz0, hz1⟩ := HFZ.out rfl
          obtain ⟨p, rfl⟩ : ∃ p : Nat, z = p := ⟨z.toNat, by omega⟩
          have hpN : p < N1 := by have := HNN.out; omega
          have hrg := HWR.out p
          have hcp := HCP.out p hpN
          have hcE := HCP.out e heN
          rw [HWE.out] at hcE
          have HY2 : Hid (Ro.W ms al p + a.p = we → LastSays ms al e ⟨(p : Int), (j : Int)⟩ true) := Lib.hid (fun h => HYJ.out p rfl rfl h)
          have HN2 := Lib.hid (fun (h : ¬ Ro.W ms al p + a.p = we) => HNJ.out (fun hh => h (by have := hh.2; rwa [Int.toNat_natCast] at this)))
          have c1' := (HG.out.2.cell (p := ⟨g, p, none⟩) hglt).trans hcp
          have c2' := (HG.out.2.cell (p := ⟨g, e, none⟩) hglt).trans hcE
          have HS0 : Hid (LaS wr.heap.size a j (.slice ua sl uc) g p e (Ro.W ms al p) we (wr.alloc (.cells (offA a (j : Int) (.slice ua sl uc)) OffT)).drew) := Lib.hid ⟨⟨HBO.out, c1', c2'⟩, Nat.lt_of_lt_of_le hglt HG.out.2.size⟩
          clear HNJ HYJ HFZ hcp hcE c1' c2'
          generalize Ro.W ms al p = x at *
          have hwx : IntKind.i64.wrap (x + a.p) = x + a.p := IntWalk.i64_in _ ⟨by omega, by omega⟩
          obtain ⟨dd, hdd⟩ : ∃ dd, (x + a.p == we) = dd := ⟨_, rfl⟩
          go_upto_region 7 with fail
          clear c0 c1 c2 c3 c4 c5 c6 c7 r0
          refine wp_region_seq [(0, true), (1, true), (2, false), (3, true), (4, true), (5, true), (6, true), (7, true), (8, true), (9, true), (10, true), (11, true), (12, true), (13, true), (14, true), (15, true), (16, true), (17, true)] (LaS wr.heap.size a j (.slice ua sl uc) g p e x we)
            (by kernel_rfl) (by kernel_rfl) (by kernel_rfl) (by kernel_rfl) (fun d _ _ _ _ h => by cases d <;> exact h) HS0.out (fun _ => ?_)
          repeat (first | (refine SeqH.take (v := ?_) rfl (by rfl) ?_ ?_; rotate_left; (· intro w hSw; (try dsimp only at hSw); obtain ⟨⟨hbo, d1, d2⟩, _⟩ := hSw; have c0 : World.cell? _ _ = some (.int .i64 a.l) := hbo.cell 0; have c1 : World.cell? _ _ = some (.int .i64 a.la) := hbo.cell 1; have c2 : World.cell? _ _ = some (.int .i64 a.mo) := hbo.cell 2; have c3 : World.cell? _ _ = some (.int .i64 a.sh) := hbo.cell 3; have c4 : World.cell? _ _ = some (.int .i64 a.fl) := hbo.cell 4; have c5 : World.cell? _ _ = some (.int .i64 a.p) := hbo.cell 5; have c6 : World.cell? _ _ = some (.int .i64 (j : Int)) := hbo.cell 6; have c7 : World.cell? _ _ = some (.slice ua sl uc) := hbo.cell 7; go_simp; (try with_reducible rfl)); simp only [Act.put, List.setIfInBounds_toArray, List.set_cons_zero, List.set_cons_succ]) | (refine SeqH.skip rfl (by rfl) ?_; simp only [Act.put, List.setIfInBounds_toArray, List.set_cons_zero, List.set_cons_succ]))
          refine SeqH.step rfl (by rfl) (fun K hK => ?_)
          go_simp
          go_at_call 33
          refine (HC.out _ (below_drewN HG.out.2 1)).mono ?_
          rintro e3 w3 ⟨rfl, hb3⟩
          try dsimp only
          have HS3 := Lib.hid (HS0.out.below hb3)
          refine hK.out _ _ HS3.out (fun _ => ?_)
          have HG3 := Lib.hid (And.intro (HG.out.1.drew.below hb3 HG.out.1.drew.lt) (below_step (below_drewN HG.out.2 1) hb3))
          clear hK K hb3 HG HC HS0 HBO
          try simp only [Act.put, List.setIfInBounds_toArray, List.set_cons_zero, List.set_cons_succ]
          repeat (first | (refine SeqH.take (v := ?_) rfl (by rfl) ?_ ?_; rotate_left; (· intro w hSw; (try dsimp only at hSw); obtain ⟨⟨hbo, d1, d2⟩, _⟩ := hSw; have c0 : World.cell? _ _ = some (.int .i64 a.l) := hbo.cell 0; have c1 : World.cell? _ _ = some (.int .i64 a.la) := hbo.cell 1; have c2 : World.cell? _ _ = some (.int .i64 a.mo) := hbo.cell 2; have c3 : World.cell? _ _ = some (.int .i64 a.sh) := hbo.cell 3; have c4 : World.cell? _ _ = some (.int .i64 a.fl) := hbo.cell 4; have c5 : World.cell? _ _ = some (.int .i64 a.p) := hbo.cell 5; have c6 : World.cell? _ _ = some (.int .i64 (j : Int)) := hbo.cell 6; have c7 : World.cell? _ _ = some (.slice ua sl uc) := hbo.cell 7; go_simp; (try with_reducible rfl)); simp only [Act.put, List.setIfInBounds_toArray, List.set_cons_zero, List.set_cons_succ]) | (refine SeqH.skip rfl (by rfl) ?_; simp only [Act.put, List.setIfInBounds_toArray, List.set_cons_zero, List.set_cons_succ]))
          refine SeqH.done ?_
          cases dd
          · have HN3 := Lib.hid (HN2.out (fun h => by rw [h, beq_self_eq_true] at hdd; cases hdd))
            clear HN2 HY2 hdd HS3
            go_wp2
            go_roundw
            case rel => exact ⟨j + 1, by omega, by go_num, Lib.hid ⟨HN3.out, HG3.out⟩⟩
            case measure => simp [intOf]; omega
          · have HY3 := Lib.hid (HY2.out (beq_iff_eq.1 hdd))
            obtain ⟨⟨hbo, _, _⟩, _⟩ := HS3.out
            have c6 : World.cell? _ _ = some (.int .i64 (j : Int)) := hbo.cell 6
            have z0 : World.cell? w3 ⟨w.heap.size + 1, 0, none⟩ = some (.int .i64 0) := HG3.out.1.cell 0
            have z1 : World.cell? w3 ⟨w.heap.size + 1, 1, none⟩ = some (.int .i64 0) := HG3.out.1.cell 1
            have f0 := HG3.out.1.frozen 0
            have f1 := HG3.out.1.frozen 1
            have hlt6 := HG3.out.1.lt
            clear HN2 HY2 hdd HS3 hbo
            go_wp2
            refine bodyPost_ret (v := .tuple #[.agg #[.int .i64 (p : Int), .int .i64 (j : Int)], .bool true]) (by simp [results, Try.results62, go_sem, z0, z1, hlt6]) rfl ⟨⟨p, j⟩, true, rfl, HY3.out, ?_⟩
            iterate 2 (refine Below.setCell ?_ (by simp) _)
            exact HG3.out.2
      · obtain rfl : j = al.length := by omega
        exfalso
        obtain ⟨a, ha, h1, h2⟩ := HLA.out
        obtain ⟨i, hi, rfl⟩ := List.mem_iff_getElem.1 ha
        exact hg.out.1 i hi hi ⟨h1, h2.symm⟩
end Go.Proofs.Ytbmjjmpdlmbehaa
namespace Go.Proofs.Ytbmjjmpdlmbehaa
open Go.RowKit

def pcC (x : Ro.X) : List Value := [.int .i64 x.f, .int .i64 x.a]
def cellsX : List Ro.X → List Value
  | [] => []
  | s :: b => pcC s ++ cellsX b
theorem cellsX_append (a b : List Ro.X) : cellsX (a ++ b) = cellsX a ++ cellsX b := by
  induction a with
  | nil => rfl
  | cons r a ih => simp [cellsX, ih, List.append_assoc]
def OwnX (base : Nat) (w : World) (v : Value) (xs : List Ro.X) : Prop := w.ownsRow base 31 2 v xs.length (cellsX xs)
theorem OwnX.nil (base : Nat) (w : World) : OwnX base w (.slice none 0 0) [] := World.ownsRow_nil _ _ _ _
theorem OwnX.alloc {base : Nat} {w : World} {v : Value} {xs : List Ro.X} (h : OwnX base w v xs) (o : Obj) : OwnX base (w.alloc o) v xs := World.ownsRow.alloc h o
theorem OwnX.drew {base : Nat} {w : World} {v : Value} {xs : List Ro.X} (h : OwnX base w v xs) : OwnX base w.drew v xs := h
theorem OwnX.all {base : Nat} {w w2 : World} {v : Value} {xs : List Ro.X} (h : OwnX base w v xs) (hb : Below w.heap.size w w2) : OwnX base w2 v xs := ownsRow_all h hb
theorem OwnX.mono {base B : Nat} {w : World} {v : Value} {xs : List Ro.X} (h : OwnX base w v xs) (hB : B ≤ base) : OwnX B w v xs := by
  obtain ⟨h0, h⟩ := h
  rcases h with h | ⟨g, cap, cur, h1, h2, h3⟩
  · exact ⟨h0, .inl h⟩
  · exact ⟨h0, .inr ⟨g, cap, cur, h1, Nat.le_trans hB h2, h3⟩⟩
theorem cellsX_at : ∀ (xs : List Ro.X) (k : Nat), k < xs.length → (cellsX xs)[k * 2]? = some (.int .i64 (xs.getD k default).f) ∧ (cellsX xs)[k * 2 + 1]? = some (.int .i64 (xs.getD k default).a)
  | s :: b, 0, _ => by simp [cellsX, pcC]
  | s :: b, k + 1, h => by
    have ih := cellsX_at b k (by simpa using h)
    have e : ∀ j, (cellsX (s :: b))[(k + 1) * 2 + j]? = (cellsX b)[k * 2 + j]? := by
      intro j
      show (pcC s ++ cellsX b)[(k + 1) * 2 + j]? = _
      rw [List.getElem?_append_right (by simp [pcC]; omega)]
      congr 1; simp [pcC]; omega
    have e0 := e 0
    simp only [Nat.add_zero] at e0
    rw [e0, e 1]
    simpa using ih
theorem getD_pc {xs : List Ro.X} {k : Nat} (h : k < xs.length) : xs.getD k default = xs[k] := by simp [h]
theorem OwnX.form {base : Nat} {w : World} {v : Value} {xs : List Ro.X} (h : OwnX base w v xs) :
    (v = .slice none 0 0 ∧ xs = []) ∨ ∃ g cap, v = .slice (some ⟨g, 0, none⟩) xs.length cap ∧ base ≤ g ∧ g < w.heap.size ∧ xs.length ≤ cap ∧ (∀ j, w.frozen? ⟨g, j, none⟩ = false) ∧ ∀ k, k < xs.length → PcAt w g (k * 2) (xs.getD k default) := by
  have h' := h
  obtain ⟨h0, ⟨h1, h2⟩ | ⟨g, cap, cur, h1, h2, h3, h4, h5⟩⟩ := h'
  · exact .inl ⟨h1, List.length_eq_zero_iff.1 h2⟩
  · subst h1
    refine .inr ⟨g, cap, rfl, h2, (Array.getElem?_eq_some_iff.1 h3).1, h4, fun j => World.ownsRow.frozenAt h j, fun k hk => ?_⟩
    obtain ⟨c0, c1⟩ := cellsX_at xs k hk
    exact ⟨(World.ownsRow.cellAt h (k * 2) (by omega)).trans c0, (World.ownsRow.cellAt h (k * 2 + 1) (by omega)).trans c1⟩
theorem OwnX.pcs {base : Nat} {w : World} {v : Value} {xs : List Ro.X} (h : OwnX base w v xs) : Pcs w v xs := by
  rcases h.form with ⟨rfl, rfl⟩ | ⟨g, cap, rfl, _, h2, _, _, h4⟩
  · exact ⟨none, 0, rfl, fun k hk => by simp at hk⟩
  · exact ⟨_, cap, rfl, fun k hk => ⟨g, 0, rfl, h2, by rw [Nat.zero_add, ← getD_pc hk]; exact h4 k hk⟩⟩
theorem OwnX.pushed {base : Nat} {w : World} {v : Value} {a : List Ro.X} {s : Ro.X} (h : w.ownsRow base 31 2 v (a.length + 1) (cellsX a ++ pcC s)) : OwnX base w v (a ++ [s]) := by
  unfold OwnX
  rw [cellsX_append, show cellsX [s] = pcC s by simp [cellsX], show (a ++ [s]).length = a.length + 1 by simp]
  exact h
theorem pcC_at (w : World) (s : Ro.X) (t : TypeId) : ∀ (j : Nat) (u : Value), (pcC s)[j]? = some u → (w.alloc (.cells #[.int .i64 s.f, .int .i64 s.a] t)).cell? ((⟨w.heap.size, 0, none⟩ : Addr).add j) = some u := by
  intro j u h
  match j, h with
  | 0, h => simp [pcC] at h; subst h; simp [Addr.add]
  | 1, h => simp [pcC] at h; subst h; simp [Addr.add]
  | j + 2, h => simp [pcC] at h
theorem pcC_one (s : Ro.X) : ∀ u ∈ pcC s, u.oneCell' = true := by
  intro u h
  simp [pcC] at h; rcases h with rfl | rfl <;> rfl
theorem infoPc : (Try.prog.info? 31).map (fun i => (i.zero, i.size, i.bytes)) = some (some (.agg #[.int .i64 0, .int .i64 0]), 2, 16) := by kernel_rfl
theorem cellsX_set : ∀ (xs : List Ro.X) (k : Nat) (x : Ro.X), k < xs.length → ((cellsX xs).set (k * 2) (.int .i64 x.f)).set (k * 2 + 1) (.int .i64 x.a) = cellsX (xs.set k x)
  | [], k, x, h => by simp at h
  | r :: b, 0, x, _ => rfl
  | r :: b, k + 1, x, h => by
    have ih := cellsX_set b k x (by simpa using h)
    have e : ∀ (l : List Value) (j : Nat) (u : Value), (pcC r ++ l).set ((k + 1) * 2 + j) u = pcC r ++ l.set (k * 2 + j) u := by
      intro l j u
      rw [List.set_append_right _ _ (by simp [pcC]; omega)]
      congr 2
      simp [pcC]; omega
    have e0 := fun l u => e l 0 u
    simp only [Nat.add_zero] at e0
    show ((pcC r ++ cellsX b).set ((k + 1) * 2) _).set ((k + 1) * 2 + 1) _ = pcC r ++ cellsX (b.set k x)
    rw [e0, e, ih]
abbrev putPc (w : World) (g k : Nat) (x : Ro.X) : World := (w.setCell ⟨g, k * 2, none⟩ (.int .i64 x.f)).setCell ⟨g, k * 2 + 1, none⟩ (.int .i64 x.a)
theorem OwnX.setX {base : Nat} {w : World} {g n cap : Nat} {xs : List Ro.X} (h : OwnX base w (.slice (some ⟨g, 0, none⟩) n cap) xs) (hn : xs.length = n) (k : Nat) (x : Ro.X) (hk : k < n) :
    OwnX base (putPc w g k x) (.slice (some ⟨g, 0, none⟩) n cap) (xs.set k x) := by
  subst hn
  have h1 := (World.ownsRow.stored (World.ownsRow.stored h (k * 2) (.int .i64 x.f)).1 (k * 2 + 1) (.int .i64 x.a)).1
  rw [cellsX_set xs k x hk] at h1
  unfold OwnX
  rw [List.length_set]
  exact h1
theorem below_putPc {B : Nat} {a w : World} (h : Below B a w) {g : Nat} (hg : B ≤ g) (k : Nat) (x : Ro.X) : Below B a (putPc w g k x) :=
  (h.setCell (p := ⟨g, k * 2, none⟩) hg _).setCell (p := ⟨g, k * 2 + 1, none⟩) hg _
/-- A list that is turnedX so far from both ends. -/
def turnedX (rs qs : List Ro.X) (i : Nat) : Prop := qs.length = rs.length ∧ ∀ p, p < rs.length → qs.getD p default = if p < i ∨ rs.length - 1 - i < p then rs.getD (rs.length - 1 - p) default else rs.getD p default
theorem turnedX_start (rs : List Ro.X) : turnedX rs rs 0 := ⟨rfl, fun p hp => by rw [if_neg (by omega)]⟩
theorem turnedX_step {rs qs : List Ro.X} {i : Nat} (h : turnedX rs qs i) (hi : i < rs.length - 1 - i) :
    turnedX rs ((qs.set i (qs.getD (rs.length - 1 - i) default)).set (rs.length - 1 - i) (qs.getD i default)) (i + 1) := by
  obtain ⟨h1, h2⟩ := h
  refine ⟨by simp [h1], fun p hp => ?_⟩
  have hi' := h2 i (by omega)
  have hj' := h2 (rs.length - 1 - i) (by omega)
  have hp' := h2 p hp
  rw [if_neg (by omega)] at hi' hj'
  rw [hi', hj']
  have eq : ∀ (l : List Ro.X) (a b : Nat) (x : Ro.X), b < l.length → (l.set a x).getD b default = if a = b then x else l.getD b default := by
    intro l a b x hb
    simp only [List.getD, List.getElem?_set]
    split
    · rename_i e; subst e; simp [hb]
    · rfl
  rw [eq _ _ _ _ (by simp; omega), eq _ _ _ _ (by omega)]
  by_cases e1 : rs.length - 1 - i = p
  · rw [if_pos e1, if_pos (by omega), ← e1, show rs.length - 1 - (rs.length - 1 - i) = i by omega]
  · rw [if_neg e1]
    by_cases e2 : i = p
    · rw [if_pos e2, if_pos (by omega), e2]
    · rw [if_neg e2, hp']
      by_cases e3 : p < i ∨ rs.length - 1 - i < p
      · rw [if_pos e3, if_pos (by omega)]
      · rw [if_neg e3, if_neg (by omega)]
theorem turnedX_end {rs qs : List Ro.X} {i : Nat} (h : turnedX rs qs i) (hi : rs.length - 1 - i ≤ i) : qs = rs.reverse := by
  obtain ⟨h1, h2⟩ := h
  refine List.ext_getElem (by simp [h1]) fun p hp hp2 => ?_
  have := h2 p (by omega)
  rw [getD_pc hp] at this
  rw [this, List.getElem_reverse]
  by_cases e : p < i ∨ rs.length - 1 - i < p
  · rw [if_pos e, getD_pc (by omega)]
  · rw [if_neg e, getD_pc (by omega)]
    congr 1; omega

set_option maxRecDepth 20000 in
set_option maxHeartbeats 2000000 in
theorem reverseX_any (base : Nat) (v : Value) (rs : List Ro.X) (w : World) (hv : OwnX base w v rs) (hl : rs.length ≤ 1000) :
    Calls Try.prog 63 #[v] w fun e w' => e = .returned (.tuple #[]) ∧ OwnX base w' v rs.reverse ∧ Below base w w' := by
  rcases hv.form with ⟨rfl, rfl⟩ | ⟨g, cap, rfl, hg1, hg2, hg3, hg4, hg5⟩
  · go_enter Try.func63, Try.ntmps63
    go_wp2
    go_loop [2, 3] (fun s t => s = .int .i64 0 ∧ t = .int .i64 (-1)) (fun _ t => (0 - intOf t).toNat)
    case atStart => exact ⟨rfl, rfl⟩
    case round =>
      obtain ⟨rfl, rfl⟩ := hrel
      go_wp2
      go_end0
      exact ⟨rfl, hv, Below.refl _ _⟩
  · generalize hn : rs.length = n at *
    have HN := Lib.hid (And.intro hv hn)
    clear hv hg4 hg5 hg3
    have HZ := Lib.hid hn
    clear hn
    go_enter Try.func63, Try.ntmps63
    go_wp2
    go_loopw [2, 3] (fun s t wr => ∃ (i : Nat), s = .int .i64 i ∧ t = .int .i64 ((n : Int) - 1 - i) ∧ i ≤ n ∧ Hid (∃ qs : List Ro.X, turnedX rs qs i ∧ OwnX base wr (.slice (some ⟨g, 0, none⟩) n cap) qs ∧ Below base w wr)) (fun s _ _ => n - (intOf s).toNat)
    case atStart => exact ⟨0, rfl, by simp, Nat.zero_le _, Lib.hid ⟨rs, turnedX_start rs, HN.out.1, Below.refl _ _⟩⟩
    case round =>
      obtain ⟨i, rfl, rfl, hin, hg⟩ := hrel
      clear HN
      by_cases hlt : (i : Int) < (n : Int) - 1 - i
      · obtain ⟨qs, hq1, hq2, hq3⟩ := hg.out
        have hqn : qs.length = n := hq1.1.trans HZ.out
        obtain ⟨j, hj⟩ : ∃ j : Nat, (j : Int) = (n : Int) - 1 - i := ⟨n - 1 - i, by omega⟩
        have hj' : rs.length - 1 - i = j := by have := HZ.out; omega
        rcases hq2.form with ⟨h, _⟩ | ⟨g', cap', h, _, _, _, hf, hr⟩
        · simp at h
        · rw [hqn] at h
          obtain ⟨rfl, rfl⟩ : g = g' ∧ cap = cap' := by simpa using h
          obtain ⟨c0, c1⟩ := hr i (by omega)
          obtain ⟨d0, d1⟩ := hr j (by omega)
          have hstep := turnedX_step hq1 (by omega)
          rw [hj'] at hstep
          have ho := (hq2.setX hqn i (qs.getD j default) (by omega)).setX (by simp [hqn]) j (qs.getD i default) (by omega)
          have hb := below_putPc (below_putPc hq3 hg1 i (qs.getD j default)) hg1 j (qs.getD i default)
          have HS := Lib.hid (And.intro hstep (And.intro ho hb))
          have f0 := hf (i * 2); have f1 := hf (i * 2 + 1)
          have y0 := hf (j * 2); have y1 := hf (j * 2 + 1)
          clear hg hq1 hq2 hq3 h hf hr hqn hj' hstep ho hb
          rw [← hj]
          have hij : i < j := by omega
          have hjn : j < n := by omega
          have HJ := Lib.hid hj
          clear hj hlt
          generalize qs.getD i default = a at *
          generalize qs.getD j default = b at *
          go_wp2
          go_region
          go_wp2
          go_roundw
          case rel => exact ⟨i + 1, by go_num, by (have := HJ.out); go_num, by omega, Lib.hid ⟨_, HS.out.1, OwnX.drew HS.out.2.1, HS.out.2.2.drew⟩⟩
          case measure => simp [intOf]; omega
      · go_wp2
        go_end0
        obtain ⟨qs, hq1, hq2, hq3⟩ := hg.out
        have := turnedX_end hq1 (by have := HZ.out; omega)
        subst this
        exact ⟨rfl, hq2, hq3⟩

theorem Ro.tail_last {ms : List Bd.M} {al : List Ro.A} {e : Nat} {x : Ro.X} {xs : List Ro.X} (h : Ro.tail ms al e xs) (hs : LastSays ms al e x true) (ho : Ro.okAs al) : ∃ f : Nat, x.f = f ∧ f < e ∧ Ro.tail ms al f (x :: xs) := by
  obtain ⟨k, f, hk, rfl, h1, h2, h3⟩ := hs.2 rfl
  have hl := (Ro.okA_iff.1 (ho _ (List.getElem_mem hk))).1.1
  refine ⟨f, rfl, by omega, ?_⟩
  refine Ro.tail_take h (by omega) (by omega) ?_ ?_ ?_
  · rw [Ro.art_at hk]; exact h1
  · rw [Ro.art_at hk]; exact h2
  · rw [Ro.art_at hk]; exact h3

set_option maxRecDepth 20000 in
set_option maxHeartbeats 4000000 in
theorem cut_any (bv ov : Value) (N N1 : Nat) (hN1 : N1 = N + 1) (rs : List Bd.R) (al : List Ro.A) (g : Nat) (w : World) (ho : Offs w ov rs al) (hf : Bd.fine rs) (hok : Ro.okAs al) (hal : al.length ≤ 5) (hN : N ≤ 300) (hNe : (Bd.exp rs).length = N)
    (hg : BlockAt w g (fnC N1 (Ro.W (Bd.exp rs) al)) 3) :
    Calls Try.prog 38 #[tabV bv (N : Int) ov, .slice (some ⟨g, 0, none⟩) N1 N1] w fun r w' => ∃ u xs, r = .returned u ∧ OwnX w.heap.size w' u xs ∧ Ro.tail (Bd.exp rs) al 0 xs ∧ xs.length ≤ 300 ∧ Below w.heap.size w w' := by
  have LA := Lib.hid (fun (e : Nat) W (hW : Below w.heap.size w W) he1 he2 => last_any bv ov N N1 hN1 rs al g e W (ho.all hW) hf hok hal hN hNe (hg.below hW hg.lt) he1 he2)
  have HT := Lib.hid (fun (e : Nat) (x : Ro.X) (xs : List Ro.X) h hs => Ro.tail_last (ms := Bd.exp rs) (e := e) (x := x) (xs := xs) h hs hok)
  have HS := Lib.hid (fun (e : Nat) (xs : List Ro.X) h hw => Ro.tail_skip (ms := Bd.exp rs) (al := al) (e := e) (xs := xs) h hw)
  have H0 := Lib.hid (Ro.tail_start (Bd.exp rs) al)
  rw [hNe] at H0
  have RV := Lib.hid (fun (v : Value) (xs : List Ro.X) W h hl => reverseX_any w.heap.size v xs W h hl)
  obtain ⟨i0, hi, hz0, hz1, hz2⟩ := info_parts infoPc
  obtain ⟨oa, oc, rfl, _⟩ := ho
  have HB : Hid (BlockAt (w.alloc (.cells (tabA bv (N : Int) (.slice oa al.length oc)) TabT)) w.heap.size (tabA bv (N : Int) (.slice oa al.length oc)) TabT ∧ Below w.heap.size w (w.alloc (.cells (tabA bv (N : Int) (.slice oa al.length oc)) TabT))) := Lib.hid ⟨BlockAt.new _ _ _, below_alloc2 (Below.refl _ _) _⟩
  have t1 : World.cell? (w.alloc (.cells (tabA bv (N : Int) (.slice oa al.length oc)) TabT)) ⟨w.heap.size, 1, none⟩ = some (.int .i64 (N : Int)) := HB.out.1.cell 1
  clear hf hok hNe hg hN1
  generalize Bd.exp rs = ms at *
  go_enter Try.func38, Try.ntmps38
  go_wp2
  clear t1
  go_loopw [5, 6] (fun s t wr => ∃ e : Nat, e ≤ N ∧ t = .int .i64 e ∧ Hid (∃ xs zs : List Ro.X, zs = xs.reverse ∧ OwnX (w.heap.size + 1) wr s zs ∧ Ro.tail ms al e xs ∧ xs.length + e ≤ N ∧ BlockAt wr w.heap.size (tabA bv (N : Int) (.slice oa al.length oc)) TabT ∧ Below w.heap.size w wr)) (fun _ t _ => (intOf t).toNat)
  case atStart => exact ⟨N, Nat.le_refl _, rfl, Lib.hid ⟨[], [], rfl, OwnX.nil _ _, H0.out, by simp, HB.out⟩⟩
  case round =>
    obtain ⟨e, heN, rfl, hg⟩ := hrel
    clear HB H0
    obtain ⟨xs, zs, hzs, hown, htl, hxl, hbt, hw⟩ := hg.out
    have HZS := Lib.hid hzs
    have hzl : zs.length = xs.length := by rw [hzs, List.length_reverse]
    have HZL := Lib.hid hzl
    have hzb : zs.length ≤ 300 := by omega
    clear hzs hzl
    by_cases he : 0 < e
    · obtain ⟨d, hd⟩ : ∃ d, e = d + 1 := ⟨e - 1, by omega⟩
      have hde : decide ((0 : Int) < e) = true := decide_eq_true (by omega)
      have hde' : decide (0 < e) = true := decide_eq_true he
      have C := Lib.hid (LA.out e _ hw he heN)
      have t0 : World.cell? wr ⟨w.heap.size, 0, none⟩ = some bv := hbt.cell 0
      have t1 : World.cell? wr ⟨w.heap.size, 1, none⟩ = some (.int .i64 (N : Int)) := hbt.cell 1
      have t2 : World.cell? wr ⟨w.heap.size, 2, none⟩ = some (.slice oa al.length oc) := hbt.cell 2
      have hltb := hbt.lt
      have HG := Lib.hid (And.intro hown (And.intro htl (And.intro hxl (And.intro hbt hw))))
      have HDD := Lib.hid hd
      have hwd : IntKind.i64.wrap ((e : Int) - 1) = (d : Int) := by rw [IntWalk.i64_in _ ⟨by omega, by omega⟩]; omega
      obtain ⟨ra, rc, hre, _⟩ := hown.pcs
      subst hre
      clear hg hown htl hxl hbt hw hd
      go_wp2_with fail
      refine C.out.mono ?_
      rintro r w1 ⟨x, ok, rfl, hls, hb1⟩
      obtain ⟨xf, xn⟩ := x
      have HLS := Lib.hid hls
      have HG1 := Lib.hid (And.intro (HG.out.1.all hb1) (And.intro (HG.out.2.2.2.1.below hb1 HG.out.2.2.2.1.lt) (below_step HG.out.2.2.2.2 hb1)))
      have HTL := Lib.hid (And.intro HG.out.2.1 HG.out.2.2.1)
      clear hls hb1 C HG t0 t1 t2
      cases ok
      · have HN : Hid (∃ ys us : List Ro.X, us = ys.reverse ∧ OwnX (w.heap.size + 1) (w1.alloc (.cells #[.int .i64 xf, .int .i64 xn] PcT)) (.slice ra zs.length rc) us ∧ Ro.tail ms al d ys ∧ ys.length + d ≤ N ∧ BlockAt (w1.alloc (.cells #[.int .i64 xf, .int .i64 xn] PcT)) w.heap.size (tabA bv (N : Int) (.slice oa al.length oc)) TabT ∧ Below w.heap.size w (w1.alloc (.cells #[.int .i64 xf, .int .i64 xn] PcT))) := Lib.hid (by
          have h1 := HTL.out.1
          have h2 := HLS.out.1 rfl
          have h3 := HTL.out.2
          have h4 := HDD.out
          rw [h4] at h1 h2
          rw [show d + 1 - 1 = d by omega] at h2
          exact ⟨xs, zs, HZS.out, HG1.out.1.alloc _, HS.out d xs h1 h2, by omega, HG1.out.2.1.alloc _, below_alloc2 HG1.out.2.2 _⟩)
        have hde2 : d ≤ N := by have := HDD.out; omega
        clear HLS HTL HG1
        go_wp2
        go_roundw
        case rel => exact ⟨d, hde2, rfl, HN⟩
        case measure => have := HDD.out; simp [intOf]; omega
      · obtain ⟨f, hxf, hfe, htl2⟩ := HT.out e ⟨xf, xn⟩ xs HTL.out.1 HLS.out
        obtain rfl : xf = f := hxf
        have HTL2 := Lib.hid htl2
        have hxl2 := HTL.out.2
        have hfN : f ≤ N := by omega
        have hown : OwnX (w.heap.size + 1) ((w1.alloc (.cells #[.int .i64 (f : Int), .int .i64 xn] PcT))) (.slice ra zs.length rc) zs := HG1.out.1.alloc _
        have hbt := HG1.out.2.1.alloc (.cells #[.int .i64 (f : Int), .int .i64 xn] PcT)
        have hw := below_alloc2 HG1.out.2.2 (.cells #[.int .i64 (f : Int), .int .i64 xn] PcT)
        have hca := pcC_at (w1.alloc (.cells #[.int .i64 (f : Int), .int .i64 xn] PcT)) ⟨(f : Int), xn⟩ PcT
        simp only [World.size_alloc] at hca
        have hsz := hbt.lt
        simp only [World.size_alloc] at hsz
        have hrl1 : zs.length + f ≤ N := by rw [HZL.out]; omega
        have hrl0 : xs.length + 1 + f ≤ N := by omega
        have hrow1 : some w1.heap.size ≠ (Value.slice ra zs.length rc).ownBlock := fun e => by have := (World.ownsRow.lt HG1.out.1 _ e.symm).2; omega
        clear htl2 HLS HTL HG1 hxl2
        go_wp2_with (at_builtin; refine wpList_append_own _ rfl _ _ 26 rfl (w.heap.size + 1) 31 i0 (.agg #[.int .i64 0, .int .i64 0]) 2 16 Try.underlying26 hi hz0 hz1 hz2 rfl (by decide) _ _ _ rfl (hown.alloc _) ⟨w1.heap.size + 1, 0, none⟩ 1 1 (pcC ⟨(f : Int), xn⟩) rfl rfl ?c1 (pcC_one _) ?c3 ?c4 ?c5 ?_)
        case c1 => exact hca
        case c3 => unfold maxLen; omega
        case c4 => omega
        case c5 => simp; omega
        intro v' w9 hr9 hg9 _
        have hne9 : some w.heap.size ≠ (Value.slice ra zs.length rc).ownBlock := fun e => by have := (World.ownsRow.lt hown _ e.symm).1; omega
        have hb9 := (hbt.alloc (.cells #[.int .i64 (f : Int), .int .i64 xn] PcT)).grown hg9 hne9
        have hp9 : OwnX (w.heap.size + 1) w9 v' (zs ++ [⟨(f : Int), xn⟩]) := OwnX.pushed hr9
        have hpb : BlockAt ((w1.alloc (.cells #[.int .i64 (f : Int), .int .i64 xn] PcT)).alloc (.cells #[.int .i64 (f : Int), .int .i64 xn] PcT)) w1.heap.size #[.int .i64 (f : Int), .int .i64 xn] PcT := (BlockAt.new _ _ _).alloc _
        have hw9 := (below_alloc2 hw (.cells #[.int .i64 (f : Int), .int .i64 xn] PcT)).grown hg9 (by simp; omega) (fun j e => by have := (World.ownsRow.lt hown j e).1; omega)
        have x0 : World.cell? w9 ⟨w1.heap.size, 0, none⟩ = some (.int .i64 (f : Int)) := (hpb.grown hg9 hrow1).cell 0 |>.trans rfl
        have HN : Hid (∃ ys us : List Ro.X, us = ys.reverse ∧ OwnX (w.heap.size + 1) w9 v' us ∧ Ro.tail ms al f ys ∧ ys.length + f ≤ N ∧ BlockAt w9 w.heap.size (tabA bv (N : Int) (.slice oa al.length oc)) TabT ∧ Below w.heap.size w w9) := Lib.hid ⟨_, _, by rw [List.reverse_cons, ← HZS.out], hp9, HTL2.out, by rw [List.length_cons]; exact hrl0, hb9, hw9⟩
        clear hown hw hbt hr9 hg9 hca hp9 hb9 hw9 hpb hne9
        go_wp2
        go_roundw
        case rel => exact ⟨f, hfN, rfl, HN⟩
        case measure => simp [intOf]; omega
    · have hde : decide ((0 : Int) < e) = false := decide_eq_false (by omega)
      have hde' : decide (0 < e) = false := decide_eq_false he
      have HE0 : Hid (e = 0) := Lib.hid (by omega)
      have HO := Lib.hid (And.intro (hown.mono (Nat.le_succ _)) (And.intro htl (And.intro hxl hw)))
      obtain ⟨ra, rc, hre, _⟩ := hown.pcs
      subst hre
      have C := Lib.hid (RV.out _ _ wr HO.out.1 (by omega))
      clear hg hown htl hxl hbt hw he
      go_wp2_with fail
      refine C.out.mono ?_
      rintro r w1 ⟨rfl, ho1, hb1⟩
      have HO1 := Lib.hid (And.intro ho1 hb1)
      clear ho1 hb1 C
      go_wp2
      go_ret
      exact ⟨_, xs, rfl, by have h := HO1.out.1; have e : zs.reverse = xs := (by rw [HZS.out, List.reverse_reverse]); rw [e] at h; exact h, by have := HO.out.2.1; rw [HE0.out] at this; exact this, by have := HO.out.2.2.1; omega, HO.out.2.2.2.trans HO1.out.2⟩
end Go.Proofs.Ytbmjjmpdlmbehaa
namespace Go.Proofs.Ytbmjjmpdlmbehaa
open Go.RowKit
theorem results_tmp3 {fn : Func} {t u v : Tmp} (h : fn.results = #[.tmp t, .tmp u, .tmp v]) (tmps : Array Value) (P : Program) (w : World) :
    (results fn tmps).run P w = .ok (.tuple #[tmps.getD t undef, tmps.getD u undef, tmps.getD v undef]) w := by
  simp [results, h]

set_option maxRecDepth 20000 in
set_option maxHeartbeats 4000000 in
theorem best_good (v u : Value) (rs : List Bd.R) (al : List Ro.A) (w : World) (hv : Runs w v rs) (hu : Arts w u al) (hl : rs.length ≤ 1000) (hal : al.length ≤ 1000) (hz : Ro.layE rs al = 0) :
    Calls Try.prog 12 #[v, u] w fun e w' => ∃ a c xs, e = .returned (.tuple #[.slice a xs.length c, .int .i64 (Ro.W (Bd.exp rs) al (Bd.exp rs).length), .int .i64 0]) ∧ OwnX w.heap.size w' (.slice a xs.length c) xs ∧ Ro.tail (Bd.exp rs) al 0 xs ∧ xs.length ≤ 300 ∧ Below w.heap.size w w' := by
  obtain ⟨h1, h2, h3, h4, h5, h6⟩ := Ro.lay_facts hz
  have LY := Lib.hid (lay_good v u rs al w hv hu hl hal hz)
  have WO := Lib.hid (fun (ov : Value) W (ho : Offs W ov rs al) => worth_any v ov rs al W ho h2 h6 h5 h4)
  obtain ⟨N, hN⟩ : ∃ N, N = (Bd.exp rs).length := ⟨_, rfl⟩
  obtain ⟨N1, hN1⟩ : ∃ N1, N1 = N + 1 := ⟨_, rfl⟩
  have hNN : N < N1 := by omega
  have CU := Lib.hid (fun (ov : Value) (g : Nat) W (ho : Offs W ov rs al) hg => cut_any v ov N N1 hN1 rs al g W ho h2 h6 h5 (by rw [hN]; exact h4) hN.symm hg)
  rw [← hN] at LY WO h4 ⊢
  rw [← hN1] at WO
  clear hN hN1 h1 h2 h3 h5 h6
  obtain ⟨va, vc, rfl⟩ := hv.form
  obtain ⟨ua, uc, rfl, _⟩ := hu
  clear hv hz
  generalize Bd.exp rs = ms at *
  obtain ⟨vl, hvl⟩ : ∃ x, x = rs.length := ⟨_, rfl⟩
  rw [← hvl] at LY WO CU ⊢
  clear hvl hl
  obtain ⟨x, hx⟩ : ∃ x, x = Ro.W ms al N := ⟨_, rfl⟩
  rw [← hx]
  have HX := Lib.hid hx
  clear hx
  go_enter Try.func12, Try.ntmps12
  go_wp2_with fail
  refine LY.out.mono ?_
  rintro e w1 ⟨oa, oc, rfl, ho, hb1⟩
  have ho2 := ho.all ((Below.refl _ _).alloc (Nat.le_refl _) (.cells (tabA (.slice va vl vc) (N : Int) (.slice oa al.length oc)) TabT))
  have HB := Lib.hid (And.intro ho2 (And.intro (BlockAt.new w1 (tabA (.slice va vl vc) (N : Int) (.slice oa al.length oc)) TabT) (below_alloc2 hb1 (.cells (tabA (.slice va vl vc) (N : Int) (.slice oa al.length oc)) TabT))))
  have C := Lib.hid (WO.out _ _ ho2)
  clear ho ho2 hb1 LY WO
  go_wp2_with fail
  refine C.out.mono ?_
  rintro e w2 ⟨g, rfl, hg1, hg2, hb2⟩
  have HG := Lib.hid (And.intro (HB.out.1.all hb2) (And.intro hg2 (And.intro (HB.out.2.1.below hb2 HB.out.2.1.lt) (below_step HB.out.2.2 hb2))))
  clear hb2 hg1 hg2 HB C
  have HC := Lib.hid (fun W (hW : Below w2.heap.size w2 W) => CU.out _ g W (HG.out.1.all hW) (HG.out.2.1.below hW HG.out.2.1.lt))
  have hcN := (HG.out.2.1.cell N).trans (fnC_at hNN)
  have hglt := HG.out.2.1.lt
  rw [← HX.out] at hcN
  have HS0 : Hid (BlockAt w2 w1.heap.size (tabA (.slice va vl vc) (N : Int) (.slice oa al.length oc)) TabT ∧ World.cell? w2 ⟨g, N, none⟩ = some (.int .i64 x)) := Lib.hid ⟨HG.out.2.2.1, hcN⟩
  have HD : Hid (BlockAt w2.drew w1.heap.size (tabA (.slice va vl vc) (N : Int) (.slice oa al.length oc)) TabT ∧ World.cell? w2.drew ⟨g, N, none⟩ = some (.int .i64 x)) := Lib.hid ⟨HS0.out.1.drew, hcN⟩
  clear hcN CU
  go_upto_region 5 with fail
  refine wp_region_seq [(0, true), (1, true), (3, true), (4, true), (5, true), (6, true), (7, true), (2, false), (8, true), (9, true), (10, true)] (fun W => BlockAt W w1.heap.size (tabA (.slice va vl vc) (N : Int) (.slice oa al.length oc)) TabT ∧ World.cell? W ⟨g, N, none⟩ = some (.int .i64 x))
    (by kernel_rfl) (by kernel_rfl) (by kernel_rfl) (by kernel_rfl) (fun d _ _ _ _ h => by cases d <;> exact h) HD.out (fun _ => ?_)
  repeat (first | (refine SeqH.take (v := ?_) rfl (by rfl) ?_ ?_; rotate_left; (· intro w hSw; (try dsimp only at hSw); obtain ⟨hbt, hcx⟩ := hSw; have t0 := (hbt.cell 0).trans rfl; have t1 := (hbt.cell 1).trans rfl; have t2 := (hbt.cell 2).trans rfl; go_simp; (try with_reducible rfl)); simp only [Act.put, List.setIfInBounds_toArray, List.set_cons_zero, List.set_cons_succ]) | (refine SeqH.skip rfl (by rfl) ?_; simp only [Act.put, List.setIfInBounds_toArray, List.set_cons_zero, List.set_cons_succ]))
  refine SeqH.step rfl (by rfl) (fun K hK => ?_)
  go_simp
  go_at_call 38
  refine (HC.out _ (below_drewN (Below.refl _ _) 1)).mono ?_
  rintro e3 w3 ⟨uu, xs, rfl, ho3, htl, hxl, hb3⟩
  try dsimp only
  refine hK.out _ _ ⟨HD.out.1.below hb3 HD.out.1.lt, (hb3.cell (p := ⟨g, N, none⟩) hglt).trans HD.out.2⟩ (fun _ => ?_)
  have HG3 := Lib.hid (And.intro ho3 (And.intro htl (And.intro hxl (below_step (below_drewN HG.out.2.2.2 1) hb3))))
  have HWS := Lib.hid HG.out.2.2.2.size
  clear hK K hb3 HG HC HS0 HD ho3 htl hxl
  try simp only [Act.put, List.setIfInBounds_toArray, List.set_cons_zero, List.set_cons_succ]
  repeat (first | (refine SeqH.take (v := ?_) rfl (by rfl) ?_ ?_; rotate_left; (· intro w hSw; (try dsimp only at hSw); obtain ⟨hbt, hcx⟩ := hSw; have t0 := (hbt.cell 0).trans rfl; have t1 := (hbt.cell 1).trans rfl; have t2 := (hbt.cell 2).trans rfl; go_simp; (try with_reducible rfl)); simp only [Act.put, List.setIfInBounds_toArray, List.set_cons_zero, List.set_cons_succ]) | (refine SeqH.skip rfl (by rfl) ?_; simp only [Act.put, List.setIfInBounds_toArray, List.set_cons_zero, List.set_cons_succ]))
  refine SeqH.done ?_
  obtain ⟨ra, rc, hre, _⟩ := HG3.out.1.pcs
  subst hre
  go_wp2
  (try simp only [Exit.inBlock, Exit.then])
  refine bodyPost_ret (results_tmp3 rfl _ _ _) rfl ?_
  exact ⟨_, _, xs, rfl, HG3.out.1.mono HWS.out, HG3.out.2.1, HG3.out.2.2.1, HG3.out.2.2.2⟩

set_option maxRecDepth 20000 in
set_option maxHeartbeats 2000000 in
theorem best_bad (v u : Value) (rs : List Bd.R) (al : List Ro.A) (w : World) (hv : Runs w v rs) (hu : Arts w u al) (hl : rs.length ≤ 1000) (hal : al.length ≤ 1000) (hz : ¬ Ro.layE rs al = 0) :
    Calls Try.prog 12 #[v, u] w fun e w' => e = .returned (.tuple #[.slice none 0 0, .int .i64 0, .int .i64 (Ro.layE rs al)]) ∧ Below w.heap.size w w' := by
  have LY := Lib.hid (lay_bad v u rs al w hv hu hl hal hz)
  obtain ⟨va, vc, rfl⟩ := hv.form
  obtain ⟨ua, uc, rfl, _⟩ := hu
  generalize Ro.layE rs al = q at *
  have hd : (q == 0) = false := beq_eq_false_iff_ne.2 hz
  have hd2 : (q != 0) = true := by rw [bne, hd]; rfl
  clear hv hz
  go_enter Try.func12, Try.ntmps12
  go_wp2_with fail
  refine LY.out.mono ?_
  rintro e w1 ⟨rfl, hb1⟩
  have HB := Lib.hid (below_alloc2 hb1 (.cells (tabA (.slice none 0 0) 0 (.slice none 0 0)) TabT))
  clear hb1 LY
  go_wp2
  (try simp only [Exit.inBlock, Exit.then])
  refine bodyPost_ret (results_tmp3 rfl _ _ _) rfl ?_
  exact ⟨rfl, HB.out⟩
end Go.Proofs.Ytbmjjmpdlmbehaa
