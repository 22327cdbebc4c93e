/- Goods put into the first load in which they fit: of the program. -/
import Derived.Test.YtabfcnfddemblaaLfMg
namespace Go.Proofs.Ytabfcnfddemblaa.Lo
open Go.RowKit

def setL (xs : List Value) : Nat → List Value → List Value
  | _, [] => xs
  | i, v :: r => setL (xs.set i v) (i + 1) r
theorem setL_app : ∀ (vs A R : List Value) (i : Nat), setL (A ++ R) (A.length + i) vs = A ++ setL R i vs
  | [], _, _, _ => rfl
  | v :: r, A, R, i => by
    show setL ((A ++ R).set (A.length + i) v) (A.length + i + 1) r = A ++ setL (R.set i v) (i + 1) r
    rw [List.set_append_right _ _ (by omega), show A.length + i - A.length = i by omega, Nat.add_assoc]
    exact setL_app r A (R.set i v) (i + 1)
theorem setL_kv (k k2 : KV) (R : List Value) : setL (kvC k ++ R) 0 (kvC k2) = kvC k2 ++ R := rfl
theorem setL_flat : ∀ (P : List KV) (i : Nat) (k2 : KV), i < P.length → setL (P.flatMap kvC) (i * 11) (kvC k2) = (P.set i k2).flatMap kvC
  | p :: r, 0, k2, _ => by
    rw [List.flatMap_cons, Nat.zero_mul, setL_kv, List.set_cons_zero, List.flatMap_cons]
  | p :: r, i + 1, k2, h => by
    rw [List.flatMap_cons, show (i + 1) * 11 = (kvC p).length + i * 11 by rw [kvC_len]; omega, setL_app, setL_flat r i k2 (by simpa using h), List.set_cons_succ, List.flatMap_cons]
theorem own_sets {base g n cap size : Nat} {e : TypeId} : ∀ (vs : List Value) (i : Nat) (W : World) (xs : List Value), W.ownsRow base e size (.slice (some ⟨g, 0, none⟩) n cap) n xs → (setsW W g i vs).ownsRow base e size (.slice (some ⟨g, 0, none⟩) n cap) n (setL xs i vs) ∧ W.grownBy (setsW W g i vs) (some g)
  | [], _, _, _, h => ⟨h, rfl, rfl, rfl, Nat.le_refl _, fun _ _ _ => rfl⟩
  | v :: r, i, W, xs, h => by
    obtain ⟨h1, h2⟩ := World.ownsRow.stored h i v
    obtain ⟨h3, h4⟩ := own_sets r (i + 1) _ _ h1
    exact ⟨h3, h2.trans h4⟩
/-- A value's list lies elsewhere than a row. -/
def offV (r v : Value) : Prop := ∀ B, r.ownBlock = some B → ∀ b o i n c, v = .slice (some ⟨b, o, i⟩) n c → b ≠ B
theorem ints_grown {W W2 : World} {v r : Value} {xs : List Int} (h : Ints W v xs) (hg : W.grownBy W2 r.ownBlock) (ho : offV r v) : Ints W2 v xs := by
  obtain ⟨a, cap, e, hc, hk⟩ := h
  refine ⟨a, cap, e, hc, fun k hkl => ?_⟩
  obtain ⟨b, off, e1, hb, hr⟩ := hk k hkl
  have hbl := hg.block b hb (fun e2 => by
    have := ho b e2.symm b off none _ _ (by rw [e, e1])
    exact this rfl)
  refine ⟨b, off, e1, Nat.lt_of_lt_of_le hb hg.size, fun j u hj => ?_⟩
  rw [← hr j u hj]
  simp [World.cell?, hbl]
theorem offV_new {r v : Value} {base B : Nat} {W : World} {xs : List Int} (h : OwnI B W v xs) (hr : ∀ j, r.ownBlock = some j → j < B) : offV r v := by
  intro j hj b o i n c e
  have h1 := hr j hj
  have h2 := (World.ownsRow.lt h b (by rw [e]; rfl)).1
  omega
/-- A load's lists can be read, apart from a row; what is known of it is right, and it is valid. -/
def KvR (ls : List Lf.F) (gs : List Lf.G) (r : Value) (W : World) (k : KV) : Prop := ((Ints W k.u k.x.hs ∧ Ints W k.v k.x.gs) ∧ (offV r k.u ∧ offV r k.v)) ∧ KvN ls gs k ∧ Lf.vLE ls gs k.x = 0
theorem KvR.all {ls : List Lf.F} {gs : List Lf.G} {r : Value} {W W2 : World} {k : KV} (h : KvR ls gs r W k) (hb : Below W.heap.size W W2) : KvR ls gs r W2 k := ⟨⟨⟨h.1.1.1.all hb, h.1.1.2.all hb⟩, h.1.2⟩, h.2⟩
theorem KvR.grown {ls : List Lf.F} {gs : List Lf.G} {r : Value} {W W2 : World} {k : KV} (h : KvR ls gs r W k) (hg : W.grownBy W2 r.ownBlock) : KvR ls gs r W2 k := ⟨⟨⟨ints_grown h.1.1.1 hg h.1.2.1, ints_grown h.1.1.2 hg h.1.2.2⟩, h.1.2⟩, h.2⟩
theorem KvR.w {ls : List Lf.F} {gs : List Lf.G} {r : Value} {W : World} {k : KV} (h : KvR ls gs r W k) (hg8 : gs.length ≤ 8) : KvW W k := by
  obtain ⟨_, h2, h3, h4, h5⟩ := Lf.vLE_iff.1 h.2.2
  have := (Lf.vHt_iff.1 h3).1
  have := Lf.st_len h5
  exact ⟨h.1.1, ⟨by omega, by omega⟩, by omega, by omega⟩
theorem grown_below {w W : World} (h : Below w.heap.size w W) (row : Option Nat) : w.grownBy W row := ⟨h.os, h.tape, h.output, h.size, fun k hk _ => h.block k hk⟩
/-- The first loads do not take the goods. -/
theorem putF_at {ls : List Lf.F} {gs : List Lf.G} {n : Int} : ∀ (P : List Lf.L) (k : Nat) (hk : k < P.length), (∀ j (hj : j < P.length), j < k → Lf.ckx ls gs (Lf.full P[j] n) ≠ 0) → Lf.ckx ls gs (Lf.full P[k] n) = 0 → Lf.putF ls gs n P = some (P.set k (Lf.full P[k] n))
  | x :: r, 0, _, _, h => by
    have h0 : Lf.ckx ls gs (Lf.full x n) = 0 := h
    unfold Lf.putF
    rw [if_pos h0]; rfl
  | x :: r, k + 1, hk, h1, h2 => by
    have h0 : Lf.ckx ls gs (Lf.full x n) ≠ 0 := h1 0 (by simp) (by omega)
    unfold Lf.putF
    rw [if_neg h0, putF_at r k (by simpa using hk) (fun j hj hjk => h1 (j + 1) (by simpa using hj) (by omega)) h2]
    rfl
theorem putF_no {ls : List Lf.F} {gs : List Lf.G} {n : Int} : ∀ (P : List Lf.L), (∀ j (hj : j < P.length), Lf.ckx ls gs (Lf.full P[j] n) ≠ 0) → Lf.putF ls gs n P = none
  | [], _ => rfl
  | x :: r, h => by
    have h0 : Lf.ckx ls gs (Lf.full x n) ≠ 0 := h 0 (by simp)
    unfold Lf.putF
    rw [if_neg h0, putF_no r (fun j hj => h (j + 1) (by simpa using hj))]
    rfl
set_option maxRecDepth 100000 in
set_option maxHeartbeats 16000000 in
theorem put_any (u v : Value) (ls : List Lf.F) (gs : List Lf.G) (P : List KV) (za : Option Addr) (zc base : Nat) (n : Int) (w : World) (hu : Lofts w u ls) (hv : Goods w v gs) (hb0 : Lf.bthE ls gs = 0) (hn0 : 0 ≤ n) (hn : n < gs.length)
    (hz : OwnKv base w (.slice za P.length zc) P) (hP : ∀ j (hj : j < P.length), KvR ls gs (.slice za P.length zc) w P[j] ∧ n ∉ P[j].x.gs) (hPl : P.length ≤ 8) :
    Calls Try.prog 96 #[.agg #[u, v], .slice za P.length zc, .int .i64 n] w fun e w' => ∃ (Q : List KV) (ok : Bool), e = .returned (.bool ok) ∧ Lf.putF ls gs n (P.map KV.x) = (if ok = true then some (Q.map KV.x) else none) ∧ (ok = false → Q = P) ∧ Q.length = P.length ∧ OwnKv base w' (.slice za P.length zc) Q ∧ w.grownBy w' (Value.slice za P.length zc).ownBlock ∧ (∀ j (hj : j < Q.length), KvR ls gs (.slice za P.length zc) w' Q[j]) ∧ ∀ r, (∀ B, r.ownBlock = some B → B < w.heap.size) → (∀ j (hj : j < P.length), offV r P[j].u ∧ offV r P[j].v) → ∀ j (hj : j < Q.length), offV r Q[j].u ∧ offV r Q[j].v := by
  obtain ⟨_, _, _, h8⟩ := bth_ok hb0
  have HZ := Lib.hid hz
  have HP := Lib.hid hP
  have CWI := Lib.hid (fun (x : KV) W h1 h2 h3 h4 h5 => with_any x.v x.x.gs n W h1 h2 h3 h4 h5)
  have CKN := Lib.hid (fun (x : Lf.L) p q W (hW : Below w.heap.size w W) (hp : Ints W p x.hs) (hq : Ints W q x.gs) hx => know_any u v p q ls gs x W (hu.all hW) (hv.all hW) hp hq hb0 hx)
  have HAT := Lib.hid (fun k hk h1 h2 => putF_at (ls := ls) (gs := gs) (n := n) (P.map KV.x) k hk h1 h2)
  have HNO := Lib.hid (fun h => putF_no (ls := ls) (gs := gs) (n := n) (P.map KV.x) h)
  obtain ⟨ua, uc, rfl⟩ := hu.form
  obtain ⟨va, vc, rfl⟩ := hv.form
  have HX := Lib.hid (And.intro (BlockAt.new w #[.slice ua ls.length uc, .slice va gs.length vc] DemT) (below_alloc2 (Below.refl w.heap.size w) (.cells #[.slice ua ls.length uc, .slice va gs.length vc] DemT)))
  clear hu hv hz hP hb0
  go_enter Try.func96, Try.ntmps96
  go_wp2
  go_loopw [12] (fun t wr => ∃ (k : Nat), k ≤ P.length ∧ t = .int .i64 k ∧ Hid ((∀ j (hj : j < P.length), j < k → Lf.ckx ls gs (Lf.full P[j].x n) ≠ 0) ∧ BlockAt wr w.heap.size #[.slice ua ls.length uc, .slice va gs.length vc] DemT ∧ Below w.heap.size w wr)) (fun t _ => P.length - (intOf t).toNat)
  case atStart => exact ⟨0, Nat.zero_le _, rfl, Lib.hid ⟨fun j hj h => absurd h (Nat.not_lt_zero _), HX.out⟩⟩
  case round =>
    obtain ⟨k, hk, rfl, hg⟩ := hrel
    clear HX
    by_cases hlt : k < P.length
    · have hPk := (HP.out k hlt).1.all hg.out.2.2
      have hnk := (HP.out k hlt).2
      obtain ⟨_, _, hzf, hzc, hzk⟩ := OwnG.rows kvC_len (HZ.out.all hg.out.2.2)
      injection hzf with hz1 hz2 hz3
      subst hz1 hz3
      obtain ⟨zb, zo, rfl, hzb, hzr⟩ := hzk k hlt
      obtain ⟨⟨c0, c1, c2, c3⟩, ⟨c4, c5⟩, c6, c7, c8, c9, c10⟩ := kv_at hzr
      obtain ⟨xua, xuc, hxu⟩ := hPk.1.1.1.form
      obtain ⟨xva, xvc, hxv⟩ := hPk.1.1.2.form
      obtain ⟨_, hxa, hxh, hxg, hxs⟩ := Lf.vLE_iff.1 hPk.2.2
      obtain ⟨hst1, hst2⟩ := Lf.stB_set.1 hxs
      have hg8 := Lf.st_len hxs
      have hh12 := (Lf.vHt_iff.1 hxh).1.2
      have HVF := Lib.hid (Lf.vLE_full hPk.2.2 hn0 hn hnk)
      have HG := Lib.hid hg.out
      have HKR := Lib.hid hPk
      have CW1 := Lib.hid (fun W (hW : Below wr.heap.size wr W) => CWI.out P[k] W (hPk.1.1.2.all hW) hst1 hnk hxg (by omega))
      have HF : Hid (Lf.full P[k].x n = ⟨P[k].x.l, P[k].x.a, P[k].x.hs, Lf.insS n P[k].x.gs⟩) := Lib.hid rfl
      have CK1 := Lib.hid (fun (q : Value) W (hW : Below w.heap.size w W) (hp : Ints W (P[k]'hlt).u (P[k]'hlt).x.hs) (hq : Ints W q (Lf.insS n (P[k]'hlt).x.gs)) => CKN.out (Lf.full (P[k]'hlt).x n) (P[k]'hlt).u q W hW hp hq HVF.out)
      have HCX : Hid (Lf.ckx ls gs (Lf.full P[k].x n) = if (Lf.fat ls P[k].x.l).p < (Lf.togA gs (Lf.insS n P[k].x.gs)).p then 6 else if P[k].x.a < (Lf.togA gs (Lf.insS n P[k].x.gs)).a then 7 else if Lf.rng (Lf.togA gs (Lf.insS n P[k].x.gs)).n (Lf.togA gs (Lf.insS n P[k].x.gs)).m (Lf.wm (Lf.fat ls P[k].x.l).rs P[k].x.hs P[k].x.hs.length) = true then (if (Lf.togA gs (Lf.insS n P[k].x.gs)).u < P[k].x.a + (P[k].x.hs.length : Int) then 12 else 0) else 9) := Lib.hid rfl
      have HNX : Hid (Lf.ckx ls gs (Lf.full P[k].x n) ≠ 0 → ∀ j (hj : j < P.length), j < k + 1 → Lf.ckx ls gs (Lf.full P[j].x n) ≠ 0) := Lib.hid fun h j hj hjk => by
        by_cases e : j = k
        · subst e; exact h
        · exact hg.out.1 j hj (by omega)
      have HYS : Hid (Lf.ckx ls gs (Lf.full P[k].x n) = 0 → Lf.putF ls gs n (P.map KV.x) = some ((P.map KV.x).set k (Lf.full P[k].x n))) := Lib.hid fun h => by
        have h1 := HAT.out k (by rw [List.length_map]; exact hlt) (fun j hj hjk => by rw [List.getElem_map]; exact HG.out.1 j (by rw [List.length_map] at hj; exact hj) hjk) (by rw [List.getElem_map]; exact h)
        rw [List.getElem_map] at h1
        exact h1
      clear hg hPk hnk hzr hzk hst1 hst2 hxs hxh hzc CWI CKN HAT
      generalize hkk : P[k] = x at *
      have HKK := Lib.hid hkk
      clear hkk
      obtain ⟨⟨xl, xa, xh, xg⟩, xu, xv, xr, xm, ⟨xp, xn, xo, xs, xt⟩⟩ := x
      dsimp only at *
      subst hxu hxv
      have hkd : decide (k < P.length) = true := decide_eq_true hlt
      have HB1 := Lib.hid (BlockAt.new wr (kA (⟨⟨xl, xa, xh, xg⟩, .slice xua xh.length xuc, .slice xva xg.length xvc, xr, xm, ⟨xp, xn, xo, xs, xt⟩⟩ : KV)) KvT)
      have HW1 := Lib.hid (below_alloc2 (Below.refl wr.heap.size wr) (.cells (kA (⟨⟨xl, xa, xh, xg⟩, .slice xua xh.length xuc, .slice xva xg.length xvc, xr, xm, ⟨xp, xn, xo, xs, xt⟩⟩ : KV)) KvT))
      have x3 : World.cell? _ _ = some (.slice xva xg.length xvc) := HB1.out.cell 3
      go_wp2_with fail
      refine (CW1.out _ HW1.out).mono ?_
      rintro e w2 ⟨na, nc, rfl, ho, hb1⟩
      clear x3
      have hsz2 : wr.heap.size + 1 ≤ w2.heap.size := by have := hb1.size; simpa using this
      have HN2 := Lib.hid ho
      have HB2 := Lib.hid (HB1.out.below hb1 HB1.out.lt)
      have HW2 := Lib.hid (below_step HW1.out hb1)
      clear ho hb1 HB1 HW1 CW1
      have x3 : World.cell? _ _ = some (.slice xva xg.length xvc) := HB2.out.cell 3
      have f3 := HB2.out.frozen 3
      have hlt2 := HB2.out.lt
      obtain ⟨W3, hW3⟩ : ∃ W, W = w2.setCell ⟨wr.heap.size, 3, none⟩ (.slice na (xg.length + 1) nc) := ⟨_, rfl⟩
      have HB3 := Lib.hid (show BlockAt W3 wr.heap.size (kA (⟨⟨xl, xa, xh, xg⟩, .slice xua xh.length xuc, .slice na (xg.length + 1) nc, xr, xm, ⟨xp, xn, xo, xs, xt⟩⟩ : KV)) KvT from by rw [hW3]; exact HB2.out.set 3 _)
      have HW3 := Lib.hid (show Below wr.heap.size wr W3 from by rw [hW3]; exact HW2.out.setCell (p := ⟨wr.heap.size, 3, none⟩) (Nat.le_refl _) _)
      have HN3 := Lib.hid (show OwnI wr.heap.size W3 (.slice na (xg.length + 1) nc) (Lf.insS n xg) from by rw [hW3]; exact ownI_set HB2.out (HN2.out.mono (by simp)) 3 _)
      have HNF : Hid (∀ b o i n2 c, (Value.slice na (xg.length + 1) nc) = .slice (some ⟨b, o, i⟩) n2 c → wr.heap.size ≤ b) := Lib.hid (fun b o i n2 c e => (World.ownsRow.lt HN3.out b (by rw [e]; rfl)).1)
      have HE3 := Lib.hid hW3.symm
      have x0 : World.cell? _ _ = some (.int .i64 xl) := HB2.out.cell 0
      have x1 : World.cell? _ _ = some (.int .i64 xa) := HB2.out.cell 1
      have x2 : World.cell? _ _ = some (.slice xua xh.length xuc) := HB2.out.cell 2
      have hdb := HG.out.2.1.below HW2.out HG.out.2.1.lt
      have hdlt := HG.out.2.1.lt
      have d0 : World.cell? _ _ = some (.slice ua ls.length uc) := hdb.cell 0
      have d1 : World.cell? _ _ = some (.slice va gs.length vc) := hdb.cell 1
      clear hW3 HN2 HW2
      go_wp2_with fail
      rw [show w2.setCell ⟨wr.heap.size, 3, none⟩ (.slice na (xg.length + 1) nc) = W3 from HE3.out]
      clear x0 x1 x2 x3 f3 d0 d1 hdb hlt2 HB2
      have HWW := Lib.hid (below_step HG.out.2.2 HW3.out)
      have CK2 := Lib.hid (CK1.out (.slice na (xg.length + 1) nc) W3 HWW.out (HKR.out.1.1.1.all HW3.out) (OwnI.ints (by have h1 := HN3.out; have h2 := Lf.insS_len n xg; rw [← h2] at h1 ⊢; exact h1)))
      have HKN : Hid (KvN ls gs ⟨⟨xl, xa, xh, Lf.insS n xg⟩, .slice xua xh.length xuc, .slice na (xg.length + 1) nc, (Lf.fat ls xl).p, Lf.wm (Lf.fat ls xl).rs xh xh.length, Lf.togA gs (Lf.insS n xg)⟩) := Lib.hid ⟨rfl, rfl, rfl⟩
      clear CK1 HE3
      have e5 : Lf.full ⟨xl, xa, xh, xg⟩ n = ⟨xl, xa, xh, Lf.insS n xg⟩ := rfl
      rw [e5] at CK2 HVF HCX HNX HYS
      clear e5 HF
      dsimp only at CK2
      generalize Lf.wm (Lf.fat ls xl).rs xh xh.length = M at *
      generalize Lf.togA gs (Lf.insS n xg) = T at *
      generalize (Lf.fat ls xl).p = F at *
      obtain ⟨tp, tn, tm, ta, tu⟩ := T
      dsimp only at *
      refine CK2.out.mono ?_
      rintro e w4 ⟨rfl, hb1⟩
      have HB4 := Lib.hid (BlockAt.new w4 (kA (⟨⟨xl, xa, xh, Lf.insS n xg⟩, .slice xua xh.length xuc, .slice na (xg.length + 1) nc, F, M, ⟨tp, tn, tm, ta, tu⟩⟩ : KV)) KvT)
      have hb2 := below_alloc2 hb1 (.cells (kA (⟨⟨xl, xa, xh, Lf.insS n xg⟩, .slice xua xh.length xuc, .slice na (xg.length + 1) nc, F, M, ⟨tp, tn, tm, ta, tu⟩⟩ : KV)) KvT)
      have HS4 := Lib.hid (And.intro (below_step HW3.out hb2) (And.intro (below_step HWW.out hb2) (HN3.out.all hb2)))
      clear hb1 hb2 CK2 HW3 HWW HB3 HN3
      have CC := Lib.hid (fun W => checkK_any xl xa xua xh.length xuc (.slice na (xg.length + 1) nc) F M ⟨tp, tn, tm, ta, tu⟩ W ⟨by omega, by omega⟩ (by omega))
      dsimp only at CC
      rw [← HCX.out] at CC
      clear HCX
      have k0 : World.cell? _ _ = some (.int .i64 xl) := HB4.out.cell 0
      have k1 : World.cell? _ _ = some (.int .i64 xa) := HB4.out.cell 1
      have k2 : World.cell? _ _ = some (.slice xua xh.length xuc) := HB4.out.cell 2
      have k3 : World.cell? _ _ = some (.slice na (xg.length + 1) nc) := HB4.out.cell 3
      have k4 : World.cell? _ _ = some (.int .i64 F) := HB4.out.cell 4
      have k5 : World.cell? _ _ = some (.int .i64 M) := HB4.out.cell 5
      have k6 : World.cell? _ _ = some (.int .i64 tp) := HB4.out.cell 6
      have k7 : World.cell? _ _ = some (.int .i64 tn) := HB4.out.cell 7
      have k8 : World.cell? _ _ = some (.int .i64 tm) := HB4.out.cell 8
      have k9 : World.cell? _ _ = some (.int .i64 ta) := HB4.out.cell 9
      have k10 : World.cell? _ _ = some (.int .i64 tu) := HB4.out.cell 10
      go_wp2_with fail
      refine (CC.out _).mono ?_
      rintro e w5 ⟨rfl, hb1⟩
      have HB5 := Lib.hid (HB4.out.below hb1 HB4.out.lt)
      have HS5 := Lib.hid (And.intro (below_step HS4.out.1 hb1) (And.intro (below_step HS4.out.2.1 hb1) (HS4.out.2.2.all hb1)))
      clear hb1 k0 k1 k2 k3 k4 k5 k6 k7 k8 k9 k10 CC HB4 HS4
      by_cases hC : Lf.ckx ls gs ⟨xl, xa, xh, Lf.insS n xg⟩ = 0
      case neg =>
        have HN2 := Lib.hid (HNX.out hC)
        have hd : (Lf.ckx ls gs ⟨xl, xa, xh, Lf.insS n xg⟩ == 0) = false := beq_eq_false_iff_ne.2 hC
        have hd2 : decide (Lf.ckx ls gs ⟨xl, xa, xh, Lf.insS n xg⟩ = 0) = false := decide_eq_false hC
        have HGN := Lib.hid (And.intro (HG.out.2.1.below HS5.out.1 HG.out.2.1.lt) HS5.out.2.1)
        clear HNX HYS hC
        generalize Lf.ckx ls gs ⟨xl, xa, xh, Lf.insS n xg⟩ = C at *
        go_wp2
        go_roundw
        case rel => exact ⟨k + 1, by omega, by go_num, Lib.hid ⟨HN2.out, HGN.out.1, HGN.out.2⟩⟩
        case measure => simp [intOf]; omega
      have HPF := Lib.hid (HYS.out hC)
      rw [hC]
      clear HNX HYS hC
      have hownz := OwnG.form HZ.out
      obtain ⟨rfl, hbase, hzlt⟩ : zo = 0 ∧ base ≤ zb ∧ zb < w.heap.size := by
        rcases hownz with h | ⟨g, cap, e, h1, h2, _⟩
        · exact absurd h.1 (by simp)
        · injection e with e1 e2 e3
          injection e1 with e1
          injection e1 with e1 e4
          exact ⟨e4, by omega, by omega⟩
      have HOZ := Lib.hid (HZ.out.all HS5.out.2.1)
      have hkb : k * 11 + 11 ≤ P.length * 11 := by omega
      have hcz : ∀ q, q < P.length * 11 → ∃ u, World.cell? w5 ⟨zb, q, none⟩ = some u := fun q hq => by
        have h1 := World.ownsRow.cellAt HOZ.out q hq
        have h2 : q < (P.flatMap kvC).length := by rw [flat_len kvC_len]; exact hq
        rw [List.getElem?_eq_getElem h2] at h1
        exact ⟨_, h1⟩
      have hfz : ∀ q, World.frozen? w5 ⟨zb, q, none⟩ = false := fun q => World.ownsRow.frozenAt HOZ.out q
      obtain ⟨u0, z0⟩ := hcz (k * 11) (by omega)
      have f0 := hfz (k * 11)
      obtain ⟨u1, z1⟩ := hcz (k * 11 + 1) (by omega)
      have f1 := hfz (k * 11 + 1)
      obtain ⟨u2, z2⟩ := hcz (k * 11 + 2) (by omega)
      have f2 := hfz (k * 11 + 2)
      obtain ⟨u3, z3⟩ := hcz (k * 11 + 3) (by omega)
      have f3 := hfz (k * 11 + 3)
      obtain ⟨u4, z4⟩ := hcz (k * 11 + 4) (by omega)
      have f4 := hfz (k * 11 + 4)
      obtain ⟨u5, z5⟩ := hcz (k * 11 + 5) (by omega)
      have f5 := hfz (k * 11 + 5)
      obtain ⟨u6, z6⟩ := hcz (k * 11 + 6) (by omega)
      have f6 := hfz (k * 11 + 6)
      obtain ⟨u7, z7⟩ := hcz (k * 11 + 7) (by omega)
      have f7 := hfz (k * 11 + 7)
      obtain ⟨u8, z8⟩ := hcz (k * 11 + 8) (by omega)
      have f8 := hfz (k * 11 + 8)
      obtain ⟨u9, z9⟩ := hcz (k * 11 + 9) (by omega)
      have f9 := hfz (k * 11 + 9)
      obtain ⟨u10, z10⟩ := hcz (k * 11 + 10) (by omega)
      have f10 := hfz (k * 11 + 10)
      have k0 : World.cell? _ _ = some (.int .i64 xl) := HB5.out.cell 0
      have k1 : World.cell? _ _ = some (.int .i64 xa) := HB5.out.cell 1
      have k2 : World.cell? _ _ = some (.slice xua xh.length xuc) := HB5.out.cell 2
      have k3 : World.cell? _ _ = some (.slice na (xg.length + 1) nc) := HB5.out.cell 3
      have k4 : World.cell? _ _ = some (.int .i64 F) := HB5.out.cell 4
      have k5 : World.cell? _ _ = some (.int .i64 M) := HB5.out.cell 5
      have k6 : World.cell? _ _ = some (.int .i64 tp) := HB5.out.cell 6
      have k7 : World.cell? _ _ = some (.int .i64 tn) := HB5.out.cell 7
      have k8 : World.cell? _ _ = some (.int .i64 tm) := HB5.out.cell 8
      have k9 : World.cell? _ _ = some (.int .i64 ta) := HB5.out.cell 9
      have k10 : World.cell? _ _ = some (.int .i64 tu) := HB5.out.cell 10
      clear hcz hfz
      go_wp2
      clear k0 z0 f0 k1 z1 f1 k2 z2 f2 k3 z3 f3 k4 z4 f4 k5 z5 f5 k6 z6 f6 k7 z7 f7 k8 z8 f8 k9 z9 f9 k10 z10 f10
      obtain ⟨Y, hY⟩ : ∃ Z, (((((((((((w5.setCell ⟨zb, k * 11, none⟩ (.int .i64 xl)).setCell ⟨zb, k * 11 + 1, none⟩ (.int .i64 xa)).setCell ⟨zb, k * 11 + 2, none⟩ (.slice xua xh.length xuc)).setCell ⟨zb, k * 11 + 3, none⟩ (.slice na (xg.length + 1) nc)).setCell ⟨zb, k * 11 + 4, none⟩ (.int .i64 F)).setCell ⟨zb, k * 11 + 5, none⟩ (.int .i64 M)).setCell ⟨zb, k * 11 + 6, none⟩ (.int .i64 tp)).setCell ⟨zb, k * 11 + 7, none⟩ (.int .i64 tn)).setCell ⟨zb, k * 11 + 8, none⟩ (.int .i64 tm)).setCell ⟨zb, k * 11 + 9, none⟩ (.int .i64 ta)).setCell ⟨zb, k * 11 + 10, none⟩ (.int .i64 tu)) = Z := ⟨_, rfl⟩
      rw [hY]
      have hYS : setsW w5 zb (k * 11) (kvC (⟨⟨xl, xa, xh, Lf.insS n xg⟩, .slice xua xh.length xuc, .slice na (xg.length + 1) nc, F, M, ⟨tp, tn, tm, ta, tu⟩⟩ : KV)) = Y := hY
      obtain ⟨hO, hGR⟩ := own_sets (kvC (⟨⟨xl, xa, xh, Lf.insS n xg⟩, .slice xua xh.length xuc, .slice na (xg.length + 1) nc, F, M, ⟨tp, tn, tm, ta, tu⟩⟩ : KV)) (k * 11) w5 _ HOZ.out
      rw [hYS, setL_flat P k (⟨⟨xl, xa, xh, Lf.insS n xg⟩, .slice xua xh.length xuc, .slice na (xg.length + 1) nc, F, M, ⟨tp, tn, tm, ta, tu⟩⟩ : KV) hlt] at hO
      rw [hYS] at hGR
      clear hY hYS
      have hGR2 : w5.grownBy Y (Value.slice (some ⟨zb, 0, none⟩) P.length zc).ownBlock := hGR
      have hoff : offV (.slice (some ⟨zb, 0, none⟩) P.length zc) (.slice na (xg.length + 1) nc) := fun B hB b o i2 n2 c2 e => by
        have h1 := HNF.out b o i2 n2 c2 e
        have h2 : zb = B := by simpa [Value.ownBlock] using hB
        have h3 := HG.out.2.2.size
        omega
      have HF := Lib.hid (show Lf.putF ls gs n (P.map KV.x) = some ((P.set k (⟨⟨xl, xa, xh, Lf.insS n xg⟩, .slice xua xh.length xuc, .slice na (xg.length + 1) nc, F, M, ⟨tp, tn, tm, ta, tu⟩⟩ : KV)).map KV.x) ∧ (P.set k (⟨⟨xl, xa, xh, Lf.insS n xg⟩, .slice xua xh.length xuc, .slice na (xg.length + 1) nc, F, M, ⟨tp, tn, tm, ta, tu⟩⟩ : KV)).length = P.length ∧ OwnKv base Y (.slice (some ⟨zb, 0, none⟩) P.length zc) (P.set k (⟨⟨xl, xa, xh, Lf.insS n xg⟩, .slice xua xh.length xuc, .slice na (xg.length + 1) nc, F, M, ⟨tp, tn, tm, ta, tu⟩⟩ : KV)) ∧ w.grownBy Y (some zb) ∧ (∀ j (hj : j < (P.set k (⟨⟨xl, xa, xh, Lf.insS n xg⟩, .slice xua xh.length xuc, .slice na (xg.length + 1) nc, F, M, ⟨tp, tn, tm, ta, tu⟩⟩ : KV)).length), KvR ls gs (.slice (some ⟨zb, 0, none⟩) P.length zc) Y (P.set k (⟨⟨xl, xa, xh, Lf.insS n xg⟩, .slice xua xh.length xuc, .slice na (xg.length + 1) nc, F, M, ⟨tp, tn, tm, ta, tu⟩⟩ : KV))[j]) ∧ ∀ r, (∀ B, r.ownBlock = some B → B < w.heap.size) → (∀ j (hj : j < P.length), offV r P[j].u ∧ offV r P[j].v) → ∀ j (hj : j < (P.set k (⟨⟨xl, xa, xh, Lf.insS n xg⟩, .slice xua xh.length xuc, .slice na (xg.length + 1) nc, F, M, ⟨tp, tn, tm, ta, tu⟩⟩ : KV)).length), offV r ((P.set k (⟨⟨xl, xa, xh, Lf.insS n xg⟩, .slice xua xh.length xuc, .slice na (xg.length + 1) nc, F, M, ⟨tp, tn, tm, ta, tu⟩⟩ : KV))[j]'hj).u ∧ offV r ((P.set k (⟨⟨xl, xa, xh, Lf.insS n xg⟩, .slice xua xh.length xuc, .slice na (xg.length + 1) nc, F, M, ⟨tp, tn, tm, ta, tu⟩⟩ : KV))[j]'hj).v from by
        refine ⟨by rw [HPF.out, List.map_set], List.length_set, ?_, (grown_below HS5.out.2.1 (some zb)).trans hGR, fun j hj => ?_, fun r hr hP2 j hj => ?_⟩
        · unfold OwnKv OwnG
          rw [List.length_set]
          exact hO
        · rw [List.length_set] at hj
          rw [List.getElem_set]
          by_cases e : k = j
          · rw [if_pos e]
            have h5 := HKR.out.1.1.1.all HS5.out.1
            exact ⟨⟨⟨ints_grown h5 hGR2 HKR.out.1.2.1, ints_grown (OwnI.ints (by have h1 := HS5.out.2.2; have h2 := Lf.insS_len n xg; rw [← h2] at h1 ⊢; exact h1)) hGR2 hoff⟩, HKR.out.1.2.1, hoff⟩, HKN.out, HVF.out⟩
          · rw [if_neg e]
            exact ((HP.out j hj).1.all HS5.out.2.1).grown hGR2
        · rw [List.length_set] at hj
          simp only [List.getElem_set]
          by_cases e : k = j
          · subst e
            have h1 := hP2 k hlt
            rw [HKK.out] at h1
            simp only [if_true]
            exact ⟨h1.1, fun B hB b o i2 n2 c2 e => by
              have h1 := HNF.out b o i2 n2 c2 e
              have h2 := hr B hB
              have h3 := HG.out.2.2.size
              omega⟩
          · simp only [if_neg e]
            exact hP2 j hj)
      clear hO hGR hGR2 hoff
      go_ret
      exact ⟨_, true, rfl, HF.out.1, fun h => by (cases h), HF.out.2⟩
    · obtain rfl : k = P.length := by omega
      have HE := Lib.hid (HNO.out (fun j hj => by rw [List.length_map] at hj; rw [List.getElem_map]; exact hg.out.1 j hj hj))
      have HW := Lib.hid hg.out.2.2
      clear hg
      go_wp2
      go_ret
      exact ⟨P, false, rfl, by rw [HE.out]; rfl, fun _ => rfl, rfl, HZ.out.all HW.out, grown_below HW.out _, fun j hj => (HP.out j hj).1.all HW.out, fun r _ h => h⟩
end Go.Proofs.Ytabfcnfddemblaa.Lo
