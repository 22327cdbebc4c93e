/- The reading of a posting: of the program. -/
import Derived.Test.YtcljpklgpedolaaGreatDoorBk10
import Derived.Test.YtcljpklgpedolaaGreatDoorMoney5
namespace Go.Proofs.YtcljpklgpedolaaGreatDoor
open Go.RowKit Go.Sort

theorem bef_len : ∀ k : List UInt8, (Bk.bef k).length ≤ k.length
  | [] => Nat.le_refl _
  | c :: r => by
    have := bef_len r
    rw [Bk.bef]; split <;> (simp; try omega)
theorem parMon_any (l : List UInt8) (w : World) (hE : EnvB w) (hs : l.length ≤ 100000) :
    Calls Tryz.prog 82 #[sv l] w (ReadSays (Tx.ansM l (Tx.rT l)) w) := by
  have h := parseMoney_any ⟨l.toArray⟩ w hE.1 (by show l.toArray.size ≤ _; rw [List.size_toArray]; exact hs)
  rw [Tx.money_same fits64] at h
  exact h
/-- What is told of a text that is read as a posting. -/
def PrsSays (l : List UInt8) (w : World) (e : Ending) (w' : World) : Prop :=
  e = .returned (match Bk.prs l with | none => .tuple #[poV ([], [], 0), .int .i64 3] | some x => .tuple #[poV x, .int .i64 0]) ∧ Below w.heap.size w w'
theorem Bk.prs_no {l : List UInt8} (h : ¬ ((32 : UInt8) ∈ Bk.thd l ∧ Bk.bef l = [112, 111, 115, 116] ∧ (Bk.monP l).2 = 0 ∧ Bk.valE [Bk.parP l (Bk.monP l).1] = 0)) : Bk.prs l = none := by
  unfold Bk.prs; exact if_neg h
theorem posts_at {x : Bk.Po} {W : World} {B : Nat} (h : W.heap[B]? = some (.cells (poA x) PostT (0, 0))) : Posts W (.slice (some ⟨B, 0, none⟩) 1 1) [x] := by
  have hB : BlockAt W B (poA x) PostT := h
  refine ⟨_, 1, rfl, Nat.le_refl _, fun k hk => ⟨B, 0, rfl, hB.lt, fun j u hj => ?_⟩⟩
  obtain rfl : k = 0 := by simp at hk; exact hk
  have h := hB.cell j
  rw [show 0 + 0 * 3 + j = j by omega, h, ← hj]; simp [poC]
theorem posts_one (x : Bk.Po) (w : World) : Posts (w.alloc (.cells (poA x) PostT)) (.slice (some ⟨w.heap.size, 0, none⟩) 1 1) [x] := by
  refine ⟨_, 1, rfl, Nat.le_refl _, fun k hk => ⟨w.heap.size, 0, rfl, by simp, fun j u hj => ?_⟩⟩
  obtain rfl : k = 0 := by simp at hk; exact hk
  have h := (BlockAt.new w (poA x) PostT).cell j
  rw [show 0 + 0 * 3 + j = j by omega, h, ← hj]; simp [poC]
set_option maxRecDepth 20000 in
set_option maxHeartbeats 1000000 in
theorem parsePosting_any (s : ByteArray) (w : World) (hE : EnvB w) (hs : s.size ≤ 90000) :
    Calls Tryz.prog 48 #[.string s] w (PrsSays s.data.toList w) := by
  have hl := len_size s
  have hss : Value.string s = sv s.data.toList := by show _ = Value.string ⟨s.data.toList.toArray⟩; rw [mk_list]
  rw [hss]
  clear hss
  generalize s.data.toList = l at *
  have HE := Lib.hid hE
  have HSPL := Lib.hid (fun W hW => splitN_any l 3 W hW (by omega) (by omega))
  have hR : ∃ R, R = (match Bk.prs l with | none => Value.tuple #[poV ([], [], 0), .int .i64 3] | some x => .tuple #[poV x, .int .i64 0]) := ⟨_, rfl⟩
  obtain ⟨R, hR⟩ := hR
  unfold PrsSays
  rw [← hR]
  have hB0 := BlockAt.new w #[.string ⟨#[]⟩, .string ⟨#[]⟩, .int .i64 0] PostT
  rcases Bk.pcs_three l with ⟨hp, m1, m2, m3⟩ | ⟨hp, hm⟩
  case inr =>
    have HR : Hid (R = .tuple #[poV ([], [], 0), .int .i64 3]) := Lib.hid (by rw [hR, Bk.prs_no (fun h => hm h.1)])
    have q1 : decide (((Bk.pcs 3 l).length : Int) < 4) = true := by rw [decide_eq_true_eq]; omega
    clear hR hm hE
    unfold PcsSays at HSPL
    generalize Bk.pcs 3 l = P at *
    go_enter Tryz.func48, Tryz.ntmps48
    go_wp2_with fail
    refine (HSPL.out _ (HE.out.all (below_alloc (Below.refl _ _) _))).mono ?_
    rintro e w1 ⟨cap, rfl, hcap, hcells, hb1⟩
    have hB1 := hB0.below hb1 hB0.lt
    have hw1 := below_step (below_alloc (Below.refl w.heap.size w) (.cells #[.string ⟨#[]⟩, .string ⟨#[]⟩, .int .i64 0] PostT)) hb1
    clear hb1 HSPL hcells hB0
    obtain ⟨c0, c1, c2⟩ : _ ∧ _ ∧ _ := ⟨hB1.cell 0, hB1.cell 1, hB1.cell 2⟩
    obtain ⟨f0, f1, f2⟩ : _ ∧ _ ∧ _ := ⟨hB1.frozen 0, hB1.frozen 1, hB1.frozen 2⟩
    have hB9 := ((hB1.set 0 (.string ⟨#[]⟩)).set 1 (.string ⟨#[]⟩)).set 2 (.int .i64 0)
    have e0 : World.cell? _ _ = some (.string ⟨#[]⟩) := (hB1.set 0 (.string ⟨#[]⟩)).cell 0
    have e1 : World.cell? _ _ = some (.string ⟨#[]⟩) := ((hB1.set 0 (.string ⟨#[]⟩)).set 1 (.string ⟨#[]⟩)).cell 1
    have e2 : World.cell? _ _ = some (.int .i64 0) := hB9.cell 2
    go_wp2
    exact bodyPost_ret (v := .tuple #[poV ([], [], 0), .int .i64 3]) (by simp [results, Tryz.results48, go_sem, e0, e1, e2]) rfl ⟨by rw [HR.out], ((hw1.setCell (Nat.le_refl _) _).setCell (Nat.le_refl _) _).setCell (Nat.le_refl _) _⟩
  obtain ⟨p0, hp0⟩ : ∃ p0, p0 = Bk.bef l := ⟨_, rfl⟩
  obtain ⟨p1, hp1⟩ : ∃ p1, p1 = Bk.bef (Bk.aft l) := ⟨_, rfl⟩
  obtain ⟨p2, hp2⟩ : ∃ p2, p2 = Bk.bef (Bk.thd l) := ⟨_, rfl⟩
  obtain ⟨p3, hp3⟩ : ∃ p3, p3 = Bk.aft (Bk.thd l) := ⟨_, rfl⟩
  have hl1 : p1.length ≤ l.length := by rw [hp1]; exact Nat.le_trans (bef_len _) (Bk.aft_len _)
  have hl2 : p2.length ≤ l.length := by rw [hp2]; exact Nat.le_trans (bef_len _) (Bk.thd_len _)
  have hl3 : p3.length ≤ l.length := by rw [hp3]; exact Nat.le_trans (Bk.aft_len _) (Bk.thd_len _)
  have hmon : Bk.monP l = Tx.ansM p3 (Tx.rT p3) := by rw [hp3]; rfl
  have hpar : ∀ q, Bk.parP l q = (p1, p2, q) := fun q => by rw [hp1, hp2]; rfl
  have hno : ¬ (p0 = [112, 111, 115, 116] ∧ (Bk.monP l).2 = 0 ∧ Bk.valE [(p1, p2, (Bk.monP l).1)] = 0) → R = .tuple #[poV ([], [], 0), .int .i64 3] := fun h => by
    rw [hR, Bk.prs_no (fun e => h ⟨hp0.trans e.2.1, e.2.2.1, by rw [← hpar]; exact e.2.2.2⟩)]
  have hyes : p0 = [112, 111, 115, 116] → (Bk.monP l).2 = 0 → Bk.valE [(p1, p2, (Bk.monP l).1)] = 0 → R = .tuple #[poV (p1, p2, (Bk.monP l).1), .int .i64 0] := fun h1 h2 h3 => by
    rw [hR]
    unfold Bk.prs
    rw [if_pos ⟨m3, hp0.symm.trans h1, h2, by rw [hpar]; exact h3⟩, hpar]
  rw [← hp0, ← hp1, ← hp2, ← hp3] at hp
  have hrng : (Bk.monP l).2 = 0 → -1099511627776 ≤ (Bk.monP l).1 ∧ (Bk.monP l).1 ≤ 1099511627776 := fun h => by
    rw [hmon] at h ⊢
    cases hx : Tx.rT p3 with
    | none => rw [hx] at h; cases h
    | some q =>
      rw [hx] at h
      unfold Tx.ansM at h ⊢
      by_cases hq : Tx.okM p3 q = true
      · dsimp only
        rw [if_pos hq]
        unfold Tx.okM at hq
        rw [Bool.and_eq_true] at hq
        exact Tx.inM_of hq.1
      · dsimp only at h
        rw [if_neg hq] at h; cases h
  have HMN := Lib.hid (fun W hW => parMon_any p3 W hW (by omega))
  rw [← hmon] at HMN
  unfold PcsSays at HSPL
  rw [hp] at HSPL
  unfold ReadSays at HMN
  clear hR hp hp0 hp1 hp2 hp3 hmon hpar hE m1 m2 m3
  generalize hmq : Bk.monP l = mq at *
  obtain ⟨q, qe⟩ := mq
  dsimp only at *
  by_cases h0 : p0 = [112, 111, 115, 116]
  case neg =>
    have HR := Lib.hid (hno (fun h => h0 h.1))
    have q1 : (p0 == [112, 111, 115, 116]) = false := by simpa using h0
    have q2 : (p0 != [112, 111, 115, 116]) = true := by simpa using h0
    clear h0 hno hyes hrng HMN
    go_enter Tryz.func48, Tryz.ntmps48
    go_wp2_with fail
    refine (HSPL.out _ (HE.out.all (below_alloc (Below.refl _ _) _))).mono ?_
    rintro e w1 ⟨cap, rfl, hcap, hcells, hb1⟩
    have hB1 := hB0.below hb1 hB0.lt
    have hw1 := below_step (below_alloc (Below.refl w.heap.size w) (.cells #[.string ⟨#[]⟩, .string ⟨#[]⟩, .int .i64 0] PostT)) hb1
    have k0 : w1.cell? _ = some (sv p0) := hcells 0 p0 rfl
    have k1 : w1.cell? _ = some (sv p1) := hcells 1 p1 rfl
    have k2 : w1.cell? _ = some (sv p2) := hcells 2 p2 rfl
    have k3 : w1.cell? _ = some (sv p3) := hcells 3 p3 rfl
    have hlt0 : w.heap.size + 1 < w1.heap.size := by have := cell_lt k0; simpa using this
    simp only [World.size_alloc] at k0 k1 k2 k3
    clear hb1 HSPL hcells hB0
    obtain ⟨c0, c1, c2⟩ : _ ∧ _ ∧ _ := ⟨hB1.cell 0, hB1.cell 1, hB1.cell 2⟩
    obtain ⟨f0, f1, f2⟩ : _ ∧ _ ∧ _ := ⟨hB1.frozen 0, hB1.frozen 1, hB1.frozen 2⟩
    have hB9 := ((hB1.set 0 (.string ⟨#[]⟩)).set 1 (.string ⟨#[]⟩)).set 2 (.int .i64 0)
    have e0 : World.cell? _ _ = some (.string ⟨#[]⟩) := (hB1.set 0 (.string ⟨#[]⟩)).cell 0
    have e1 : World.cell? _ _ = some (.string ⟨#[]⟩) := ((hB1.set 0 (.string ⟨#[]⟩)).set 1 (.string ⟨#[]⟩)).cell 1
    have e2 : World.cell? _ _ = some (.int .i64 0) := hB9.cell 2
    go_wp2
    exact bodyPost_ret (v := .tuple #[poV ([], [], 0), .int .i64 3]) (by simp [results, Tryz.results48, go_sem, e0, e1, e2]) rfl ⟨by rw [HR.out], ((hw1.setCell (Nat.le_refl _) _).setCell (Nat.le_refl _) _).setCell (Nat.le_refl _) _⟩
  have q1 : (p0 == [112, 111, 115, 116]) = true := by simpa using h0
  have q2 : (p0 != [112, 111, 115, 116]) = false := by simpa using h0
  by_cases hqe : qe = 0
  case neg =>
    have HR := Lib.hid (hno (fun h => hqe h.2.1))
    have q3 : (qe == 0) = false := by simpa using hqe
    have q4 : (qe != 0) = true := by simpa using hqe
    clear h0 hno hyes hrng hqe
    go_enter Tryz.func48, Tryz.ntmps48
    go_wp2_with fail
    refine (HSPL.out _ (HE.out.all (below_alloc (Below.refl _ _) _))).mono ?_
    rintro e w1 ⟨cap, rfl, hcap, hcells, hb1⟩
    have hB1 := hB0.below hb1 hB0.lt
    have hw1 := below_step (below_alloc (Below.refl w.heap.size w) (.cells #[.string ⟨#[]⟩, .string ⟨#[]⟩, .int .i64 0] PostT)) hb1
    have k0 : w1.cell? _ = some (sv p0) := hcells 0 p0 rfl
    have k1 : w1.cell? _ = some (sv p1) := hcells 1 p1 rfl
    have k2 : w1.cell? _ = some (sv p2) := hcells 2 p2 rfl
    have k3 : w1.cell? _ = some (sv p3) := hcells 3 p3 rfl
    have hlt0 : w.heap.size + 1 < w1.heap.size := by have := cell_lt k0; simpa using this
    simp only [World.size_alloc] at k0 k1 k2 k3
    clear hb1 HSPL hcells hB0
    go_wp2_with fail
    refine (HMN.out _ (HE.out.all hw1)).mono ?_
    rintro e w2 ⟨rfl, hb2⟩
    have hB2 := hB1.below hb2 hB1.lt
    have hw2 := below_step hw1 hb2
    clear hb2 HMN hw1 hB1 k0 k1 k2 k3
    obtain ⟨c0, c1, c2⟩ : _ ∧ _ ∧ _ := ⟨hB2.cell 0, hB2.cell 1, hB2.cell 2⟩
    obtain ⟨f0, f1, f2⟩ : _ ∧ _ ∧ _ := ⟨hB2.frozen 0, hB2.frozen 1, hB2.frozen 2⟩
    have hB9 := ((hB2.set 0 (.string ⟨#[]⟩)).set 1 (.string ⟨#[]⟩)).set 2 (.int .i64 0)
    have e0 : World.cell? _ _ = some (.string ⟨#[]⟩) := (hB2.set 0 (.string ⟨#[]⟩)).cell 0
    have e1 : World.cell? _ _ = some (.string ⟨#[]⟩) := ((hB2.set 0 (.string ⟨#[]⟩)).set 1 (.string ⟨#[]⟩)).cell 1
    have e2 : World.cell? _ _ = some (.int .i64 0) := hB9.cell 2
    go_wp2
    exact bodyPost_ret (v := .tuple #[poV ([], [], 0), .int .i64 3]) (by simp [results, Tryz.results48, go_sem, e0, e1, e2]) rfl ⟨by rw [HR.out], ((hw2.setCell (Nat.le_refl _) _).setCell (Nat.le_refl _) _).setCell (Nat.le_refl _) _⟩
  have q3 : (qe == 0) = true := by simpa using hqe
  have q4 : (qe != 0) = false := by simpa using hqe
  obtain ⟨r0, r1⟩ := hrng hqe
  have HVL := Lib.hid (fun (W : World) B (hB : W.heap[B]? = some (.cells (poA (p1, p2, q)) PostT (0, 0))) => validate_any (.slice (some ⟨B, 0, none⟩) 1 1) [(p1, p2, q)] W (posts_at hB) (by simp) (fun k hk => by
    obtain rfl : k = 0 := by simp at hk; exact hk
    exact ⟨by show p1.length ≤ _; omega, by show p2.length ≤ _; omega, by show _ ≤ q; omega, by show q ≤ _; omega⟩))
  have hRR : (Bk.valE [(p1, p2, q)] = 0 ∧ Hid (R = .tuple #[poV (p1, p2, q), .int .i64 0])) ∨ (Bk.valE [(p1, p2, q)] ≠ 0 ∧ Hid (R = .tuple #[poV ([], [], 0), .int .i64 3])) := by
    by_cases hv : Bk.valE [(p1, p2, q)] = 0
    · exact .inl ⟨hv, Lib.hid (hyes h0 hqe hv)⟩
    · exact .inr ⟨hv, Lib.hid (hno fun h => hv h.2.2)⟩
  clear h0 hno hyes hqe hmq hrng
  generalize Bk.valE [(p1, p2, q)] = ve at *
  rcases hRR with ⟨hv, HR⟩ | ⟨hv, HR⟩
  · have q5 : (ve == 0) = true := by simpa using hv
    have q6 : (ve != 0) = false := by simpa using hv
    clear hv
    go_enter Tryz.func48, Tryz.ntmps48
    go_wp2_with fail
    refine (HSPL.out _ (HE.out.all (below_alloc (Below.refl _ _) _))).mono ?_
    rintro e w1 ⟨cap, rfl, hcap, hcells, hb1⟩
    have hB1 := hB0.below hb1 hB0.lt
    have hw1 := below_step (below_alloc (Below.refl w.heap.size w) (.cells #[.string ⟨#[]⟩, .string ⟨#[]⟩, .int .i64 0] PostT)) hb1
    have k0 : w1.cell? _ = some (sv p0) := hcells 0 p0 rfl
    have k1 : w1.cell? _ = some (sv p1) := hcells 1 p1 rfl
    have k2 : w1.cell? _ = some (sv p2) := hcells 2 p2 rfl
    have k3 : w1.cell? _ = some (sv p3) := hcells 3 p3 rfl
    have hlt0 : w.heap.size + 1 < w1.heap.size := by have := cell_lt k0; simpa using this
    simp only [World.size_alloc] at k0 k1 k2 k3
    clear hb1 HSPL hcells hB0
    go_wp2_with fail
    refine (HMN.out _ (HE.out.all hw1)).mono ?_
    rintro e w2 ⟨rfl, hb2⟩
    have hB2 := hB1.below hb2 hB1.lt
    have hw2 := below_step hw1 hb2
    have j1 : w2.cell? ⟨w.heap.size + 1, 1, none⟩ = some (sv p1) := (hb2.cell (p := ⟨w.heap.size + 1, 1, none⟩) hlt0).trans k1
    have j2 : w2.cell? ⟨w.heap.size + 1, 2, none⟩ = some (sv p2) := (hb2.cell (p := ⟨w.heap.size + 1, 2, none⟩) hlt0).trans k2
    clear hb2 HMN hw1 hB1 k0 k1 k2 k3
    go_upto_region 7 with fail
    have hne : w.heap.size + 1 ≠ w2.heap.size := by have := cell_lt j1; omega
    have j3 : (w2.alloc (.cells #[.string ⟨#[]⟩, .string ⟨#[]⟩, .int .i64 0] PostT)).cell? ⟨w.heap.size + 1, 1, none⟩ = some (sv p1) := (World.cell?_alloc_old _ _ _ hne).trans j1
    have j4 : (w2.alloc (.cells #[.string ⟨#[]⟩, .string ⟨#[]⟩, .int .i64 0] PostT)).cell? ⟨w.heap.size + 1, 2, none⟩ = some (sv p2) := (World.cell?_alloc_old _ _ _ hne).trans j2
    go_region
    have hbn : BlockAt (w2.alloc (.cells (poA (p1, p2, q)) PostT)).drew w2.heap.size (poA (p1, p2, q)) PostT := BlockAt.new w2 (poA (p1, p2, q)) PostT
    obtain ⟨d0, d1, d2⟩ : _ ∧ _ ∧ _ := ⟨hbn.cell 0, hbn.cell 1, hbn.cell 2⟩
    have hbs : ((w2.alloc (.cells (poA (p1, p2, q)) PostT)).drew.alloc (.cells (poA (p1, p2, q)) PostT)).heap[w2.heap.size + 1]? = some (.cells (poA (p1, p2, q)) PostT (0, 0)) := by
      have h := BlockAt.new (w2.alloc (.cells (poA (p1, p2, q)) PostT)).drew (poA (p1, p2, q)) PostT
      rw [show (w2.alloc (.cells (poA (p1, p2, q)) PostT)).drew.heap.size = w2.heap.size + 1 from by simp [World.drew, World.size_alloc]] at h
      exact h
    have hw3 : Below w.heap.size w ((w2.alloc (.cells (poA (p1, p2, q)) PostT)).drew.alloc (.cells (poA (p1, p2, q)) PostT)) := below_alloc (below_alloc hw2 _).drew _
    have hbn2 : BlockAt ((w2.alloc (.cells (poA (p1, p2, q)) PostT)).drew.alloc (.cells (poA (p1, p2, q)) PostT)) w2.heap.size (poA (p1, p2, q)) PostT := BlockAt.alloc hbn _
    have hB3 : BlockAt ((w2.alloc (.cells (poA (p1, p2, q)) PostT)).drew.alloc (.cells (poA (p1, p2, q)) PostT)) w.heap.size #[.string ⟨#[]⟩, .string ⟨#[]⟩, .int .i64 0] PostT := (BlockAt.alloc hB2 (.cells (poA (p1, p2, q)) PostT)).drew.alloc _
    have HV := Lib.hid (HVL.out _ _ hbs)
    clear hbs j1 j2 j3 j4 hne HVL hB2 hw2
    go_wp2_with fail
    refine HV.out.mono ?_
    rintro e w4 ⟨rfl, hb4⟩
    have hB4 := hB3.below hb4 hB3.lt
    have hbn4 := hbn2.below hb4 hbn2.lt
    have hw4 := below_step hw3 hb4
    clear HV hb4 hw3 hbn hbn2 hB3 d0 d1 d2
    obtain ⟨d0, d1, d2⟩ : _ ∧ _ ∧ _ := ⟨hbn4.cell 0, hbn4.cell 1, hbn4.cell 2⟩
    obtain ⟨c0, c1, c2⟩ : _ ∧ _ ∧ _ := ⟨hB4.cell 0, hB4.cell 1, hB4.cell 2⟩
    obtain ⟨f0, f1, f2⟩ : _ ∧ _ ∧ _ := ⟨hB4.frozen 0, hB4.frozen 1, hB4.frozen 2⟩
    have hB9 := ((hB4.set 0 (sv p1)).set 1 (sv p2)).set 2 (.int .i64 q)
    have e0 : World.cell? _ _ = some (sv p1) := (hB4.set 0 (sv p1)).cell 0
    have e1 : World.cell? _ _ = some (sv p2) := ((hB4.set 0 (sv p1)).set 1 (sv p2)).cell 1
    have e2 : World.cell? _ _ = some (.int .i64 q) := hB9.cell 2
    go_wp2
    exact bodyPost_ret (v := .tuple #[poV (p1, p2, q), .int .i64 0]) (by simp [results, Tryz.results48, go_sem, e0, e1, e2]) rfl ⟨by rw [HR.out], ((hw4.setCell (Nat.le_refl _) _).setCell (Nat.le_refl _) _).setCell (Nat.le_refl _) _⟩
  · have q5 : (ve == 0) = false := by simpa using hv
    have q6 : (ve != 0) = true := by simpa using hv
    clear hv
    go_enter Tryz.func48, Tryz.ntmps48
    go_wp2_with fail
    refine (HSPL.out _ (HE.out.all (below_alloc (Below.refl _ _) _))).mono ?_
    rintro e w1 ⟨cap, rfl, hcap, hcells, hb1⟩
    have hB1 := hB0.below hb1 hB0.lt
    have hw1 := below_step (below_alloc (Below.refl w.heap.size w) (.cells #[.string ⟨#[]⟩, .string ⟨#[]⟩, .int .i64 0] PostT)) hb1
    have k0 : w1.cell? _ = some (sv p0) := hcells 0 p0 rfl
    have k1 : w1.cell? _ = some (sv p1) := hcells 1 p1 rfl
    have k2 : w1.cell? _ = some (sv p2) := hcells 2 p2 rfl
    have k3 : w1.cell? _ = some (sv p3) := hcells 3 p3 rfl
    have hlt0 : w.heap.size + 1 < w1.heap.size := by have := cell_lt k0; simpa using this
    simp only [World.size_alloc] at k0 k1 k2 k3
    clear hb1 HSPL hcells hB0
    go_wp2_with fail
    refine (HMN.out _ (HE.out.all hw1)).mono ?_
    rintro e w2 ⟨rfl, hb2⟩
    have hB2 := hB1.below hb2 hB1.lt
    have hw2 := below_step hw1 hb2
    have j1 : w2.cell? ⟨w.heap.size + 1, 1, none⟩ = some (sv p1) := (hb2.cell (p := ⟨w.heap.size + 1, 1, none⟩) hlt0).trans k1
    have j2 : w2.cell? ⟨w.heap.size + 1, 2, none⟩ = some (sv p2) := (hb2.cell (p := ⟨w.heap.size + 1, 2, none⟩) hlt0).trans k2
    clear hb2 HMN hw1 hB1 k0 k1 k2 k3
    go_upto_region 7 with fail
    have hne : w.heap.size + 1 ≠ w2.heap.size := by have := cell_lt j1; omega
    have j3 : (w2.alloc (.cells #[.string ⟨#[]⟩, .string ⟨#[]⟩, .int .i64 0] PostT)).cell? ⟨w.heap.size + 1, 1, none⟩ = some (sv p1) := (World.cell?_alloc_old _ _ _ hne).trans j1
    have j4 : (w2.alloc (.cells #[.string ⟨#[]⟩, .string ⟨#[]⟩, .int .i64 0] PostT)).cell? ⟨w.heap.size + 1, 2, none⟩ = some (sv p2) := (World.cell?_alloc_old _ _ _ hne).trans j2
    go_region
    have hbn : BlockAt (w2.alloc (.cells (poA (p1, p2, q)) PostT)).drew w2.heap.size (poA (p1, p2, q)) PostT := BlockAt.new w2 (poA (p1, p2, q)) PostT
    obtain ⟨d0, d1, d2⟩ : _ ∧ _ ∧ _ := ⟨hbn.cell 0, hbn.cell 1, hbn.cell 2⟩
    have hbs : ((w2.alloc (.cells (poA (p1, p2, q)) PostT)).drew.alloc (.cells (poA (p1, p2, q)) PostT)).heap[w2.heap.size + 1]? = some (.cells (poA (p1, p2, q)) PostT (0, 0)) := by
      have h := BlockAt.new (w2.alloc (.cells (poA (p1, p2, q)) PostT)).drew (poA (p1, p2, q)) PostT
      rw [show (w2.alloc (.cells (poA (p1, p2, q)) PostT)).drew.heap.size = w2.heap.size + 1 from by simp [World.drew, World.size_alloc]] at h
      exact h
    have hw3 : Below w.heap.size w ((w2.alloc (.cells (poA (p1, p2, q)) PostT)).drew.alloc (.cells (poA (p1, p2, q)) PostT)) := below_alloc (below_alloc hw2 _).drew _
    have hbn2 : BlockAt ((w2.alloc (.cells (poA (p1, p2, q)) PostT)).drew.alloc (.cells (poA (p1, p2, q)) PostT)) w2.heap.size (poA (p1, p2, q)) PostT := BlockAt.alloc hbn _
    have hB3 : BlockAt ((w2.alloc (.cells (poA (p1, p2, q)) PostT)).drew.alloc (.cells (poA (p1, p2, q)) PostT)) w.heap.size #[.string ⟨#[]⟩, .string ⟨#[]⟩, .int .i64 0] PostT := (BlockAt.alloc hB2 (.cells (poA (p1, p2, q)) PostT)).drew.alloc _
    have HV := Lib.hid (HVL.out _ _ hbs)
    clear hbs j1 j2 j3 j4 hne HVL hB2 hw2
    go_wp2_with fail
    refine HV.out.mono ?_
    rintro e w4 ⟨rfl, hb4⟩
    have hB4 := hB3.below hb4 hB3.lt
    have hbn4 := hbn2.below hb4 hbn2.lt
    have hw4 := below_step hw3 hb4
    clear HV hb4 hw3 hbn hbn2 hB3 d0 d1 d2
    obtain ⟨d0, d1, d2⟩ : _ ∧ _ ∧ _ := ⟨hbn4.cell 0, hbn4.cell 1, hbn4.cell 2⟩
    obtain ⟨c0, c1, c2⟩ : _ ∧ _ ∧ _ := ⟨hB4.cell 0, hB4.cell 1, hB4.cell 2⟩
    obtain ⟨f0, f1, f2⟩ : _ ∧ _ ∧ _ := ⟨hB4.frozen 0, hB4.frozen 1, hB4.frozen 2⟩
    have hB9 := ((hB4.set 0 (.string ⟨#[]⟩)).set 1 (.string ⟨#[]⟩)).set 2 (.int .i64 0)
    have e0 : World.cell? _ _ = some (.string ⟨#[]⟩) := (hB4.set 0 (.string ⟨#[]⟩)).cell 0
    have e1 : World.cell? _ _ = some (.string ⟨#[]⟩) := ((hB4.set 0 (.string ⟨#[]⟩)).set 1 (.string ⟨#[]⟩)).cell 1
    have e2 : World.cell? _ _ = some (.int .i64 0) := hB9.cell 2
    go_wp2
    exact bodyPost_ret (v := .tuple #[poV ([], [], 0), .int .i64 3]) (by simp [results, Tryz.results48, go_sem, e0, e1, e2]) rfl ⟨by rw [HR.out], ((hw4.setCell (Nat.le_refl _) _).setCell (Nat.le_refl _) _).setCell (Nat.le_refl _) _⟩
end Go.Proofs.YtcljpklgpedolaaGreatDoor
