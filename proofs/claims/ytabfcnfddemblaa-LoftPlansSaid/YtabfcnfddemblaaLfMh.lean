/- The loads planned so far and what is left, in memory and in plain words. What the reference's plan keeps: what is left in order, and its steps. The loads that the reference has planned so far, in memory. -/
import Derived.Test.YtabfcnfddemblaaLf56
namespace Go.Proofs.Ytabfcnfddemblaa.Lo
open Go.RowKit

/-- The plan behind the first goods. -/
def plnS (ls : List Lf.F) (gs : List Lf.G) (k : Nat) : List Lf.L × List Int := ((odr gs).take k).foldl (Lf.stP ls gs) ([], [])
def plP (ls : List Lf.F) (gs : List Lf.G) : List Lf.L := ((odr gs).foldl (Lf.stP ls gs) ([], [])).1
def plF (ls : List Lf.F) (gs : List Lf.G) : List Int := ((odr gs).foldl (Lf.stP ls gs) ([], [])).2
theorem plnS_end (ls : List Lf.F) (gs : List Lf.G) : plnS ls gs gs.length = (plP ls gs, plF ls gs) := by
  unfold plnS plP plF
  rw [List.take_of_length_le (by rw [odr_len]; exact Nat.le_refl _)]
theorem plnS_next (ls : List Lf.F) (gs : List Lf.G) {k : Nat} (hk : k < gs.length) : plnS ls gs (k + 1) = Lf.stP ls gs (plnS ls gs k) ((odr gs).getD k 0) := by
  have h : k < (odr gs).length := by rw [odr_len]; exact hk
  unfold plnS
  rw [List.take_succ_eq_append_getElem h, List.foldl_append, show (odr gs).getD k 0 = (odr gs)[k] by simp [h]]
  rfl
theorem putF_len {ls : List Lf.F} {gs : List Lf.G} {n : Int} {P q : List Lf.L} (h : Lf.putF ls gs n P = some q) : q.length = P.length := by
  obtain ⟨A, x, B, rfl, rfl, _⟩ := Lf.putF_some h
  simp
theorem pln_len (ls : List Lf.F) (gs : List Lf.G) : ∀ k, k ≤ gs.length → (plnS ls gs k).1.length ≤ k ∧ (plnS ls gs k).2.length ≤ k
  | 0, _ => ⟨Nat.le_refl _, Nat.le_refl _⟩
  | k + 1, h => by
    have h1 := pln_len ls gs k (by omega)
    rw [plnS_next ls gs (by omega)]
    generalize plnS ls gs k = s at *
    generalize (odr gs).getD k 0 = n at *
    unfold Lf.stP
    cases hp : Lf.putF ls gs n s.1 with
    | some q => have := putF_len hp; exact ⟨by show q.length ≤ _; omega, by show s.2.length ≤ _; omega⟩
    | none =>
      cases hb : Lf.bgB ls gs s.1 n ls.length with
      | some l => exact ⟨by show (s.1 ++ [l]).length ≤ _; rw [List.length_append]; simp; omega, by show s.2.length ≤ _; omega⟩
      | none => exact ⟨by show s.1.length ≤ _; omega, by show (s.2 ++ [n]).length ≤ _; rw [List.length_append]; simp; omega⟩
theorem pln_PI {ls : List Lf.F} {gs : List Lf.G} (hb0 : Lf.bthE ls gs = 0) (k : Nat) : Lf.PI ls gs (plnS ls gs k).1 (plnS ls gs k).2 ((odr gs).take k) := by
  have := Lf.PI.fold (Lf.valF_zero (Lf.bth_zero hb0).1).2 (Lf.valG_zero (Lf.bth_zero hb0).2).2 ((odr gs).take k) ([], []) [] (Lf.PI.start ls gs) (fun n hn => odr_mem.1 (List.mem_of_mem_take hn)) (by rw [List.nil_append]; exact (odr_nodup gs).sublist (List.take_sublist _ _))
  rwa [List.nil_append] at this
/-- What is known before the next goods. -/
theorem pln_at {ls : List Lf.F} {gs : List Lf.G} (hb0 : Lf.bthE ls gs = 0) {k : Nat} (hk : k < gs.length) {P : List Lf.L} {F : List Int} (h : plnS ls gs k = (P, F)) :
    ((0 ≤ (odr gs).getD k 0 ∧ (odr gs).getD k 0 < gs.length) ∧ P.length ≤ k ∧ F.length ≤ k) ∧ (∀ x ∈ P, (odr gs).getD k 0 ∉ x.gs) ∧ (∀ x ∈ P, Lf.vLE ls gs x = 0 ∧ Lf.ckx ls gs x = 0) ∧
    (∀ (lo : Nat) l, lo < ls.length → Lf.bgI ls gs P ((odr gs).getD k 0) lo = some l → Lf.vLE ls gs l = 0) ∧
    (∀ q, Lf.putF ls gs ((odr gs).getD k 0) P = some q → plnS ls gs (k + 1) = (q, F)) ∧
    (Lf.putF ls gs ((odr gs).getD k 0) P = none → ∀ l, Lf.bgB ls gs P ((odr gs).getD k 0) ls.length = some l → plnS ls gs (k + 1) = (P ++ [l], F) ∧ Lf.vLE ls gs l = 0) ∧
    (Lf.putF ls gs ((odr gs).getD k 0) P = none → Lf.bgB ls gs P ((odr gs).getD k 0) ls.length = none → plnS ls gs (k + 1) = (P, F ++ [(odr gs).getD k 0])) := by
  have h1 := pln_PI hb0 k
  have h2 := pln_len ls gs k (by omega)
  have h3 := plnS_next ls gs hk
  have ho : k < (odr gs).length := by rw [odr_len]; exact hk
  have hd : (odr gs).getD k 0 = (odr gs)[k] := by simp [ho]
  have hm := odr_mem.1 (show (odr gs).getD k 0 ∈ odr gs by rw [hd]; exact List.getElem_mem ho)
  have hF := (Lf.valF_zero (Lf.bth_zero hb0).1).2
  have hG := (Lf.valG_zero (Lf.bth_zero hb0).2).2
  have hnd : (odr gs).getD k 0 ∉ (odr gs).take k := by
    rw [hd]
    intro hc
    obtain ⟨i, hi, e⟩ := List.mem_iff_getElem.1 hc
    rw [List.length_take] at hi
    rw [List.getElem_take] at e
    have := List.pairwise_iff_getElem.1 (odr_nodup gs) i k (by omega) ho (by omega)
    exact this e
  rw [h] at h1 h2 h3
  generalize (odr gs).getD k 0 = n at *
  dsimp only at h1 h2
  refine ⟨⟨hm, h2⟩, fun x hx hc => hnd ((h1.all n).2 (.inr ⟨x, hx, hc⟩)), h1.ok, fun lo l hlo hb => (Lf.bgI_ok hF hG h1 hm.1 hm.2 hlo hb).1.1, fun q hq => ?_, fun hq l hl => ⟨?_, ?_⟩, fun hq hl => ?_⟩
  · rw [h3]; unfold Lf.stP; dsimp only; rw [hq]
  · rw [h3]; unfold Lf.stP; dsimp only; rw [hq]; dsimp only; rw [hl]
  · obtain ⟨lo, e1, e2⟩ := Lf.bgB_from _ hl
    exact (Lf.bgI_ok hF hG h1 hm.1 hm.2 e1 e2).1.1
  · rw [h3]; unfold Lf.stP; dsimp only; rw [hq]; dsimp only; rw [hl]

theorem ints_lt {W : World} {v : Value} {xs : List Int} (h : Ints W v xs) (hp : 0 < xs.length) : ∀ b o i n c, v = .slice (some ⟨b, o, i⟩) n c → b < W.heap.size := by
  intro b o i n c e
  obtain ⟨a2, c2, e1, _, hk⟩ := h
  obtain ⟨b2, o2, e2, hb, _⟩ := hk 0 hp
  rw [e1] at e
  injection e with e
  rw [e2] at e
  injection e with e
  injection e with e
  omega
theorem offV_at {r r2 v : Value} {N M : Nat} (h : offV r v) (hlt : ∀ b o i n c, v = .slice (some ⟨b, o, i⟩) n c → b < N) (hat : r2.ownBlock = r.ownBlock ∨ r2.ownBlock = some M) (hM : N ≤ M) : offV r2 v := by
  intro B hB b o i n c e
  rcases hat with h1 | h1
  · rw [h1] at hB; exact h B hB b o i n c e
  · rw [h1] at hB
    injection hB with hB
    have := hlt b o i n c e
    omega
def OffK (r : Value) (k : KV) : Prop := offV r k.u ∧ offV r k.v
theorem KvR.pos {ls : List Lf.F} {gs : List Lf.G} {r : Value} {W : World} {k : KV} (h : KvR ls gs r W k) : 0 < k.x.hs.length ∧ 0 < k.x.gs.length := by
  obtain ⟨_, _, h3, h4, _⟩ := Lf.vLE_iff.1 h.2.2
  exact ⟨by have := (Lf.vHt_iff.1 h3).1; omega, h4⟩
theorem KvR.lt {ls : List Lf.F} {gs : List Lf.G} {r : Value} {W : World} {k : KV} (h : KvR ls gs r W k) : (∀ b o i n c, k.u = .slice (some ⟨b, o, i⟩) n c → b < W.heap.size) ∧ ∀ b o i n c, k.v = .slice (some ⟨b, o, i⟩) n c → b < W.heap.size :=
  ⟨ints_lt h.1.1.1 h.pos.1, ints_lt h.1.1.2 h.pos.2⟩
theorem OffK.at' {ls : List Lf.F} {gs : List Lf.G} {r r2 s : Value} {W : World} {k : KV} {M : Nat} (h : OffK r k) (hk : KvR ls gs s W k) (hat : r2.ownBlock = r.ownBlock ∨ r2.ownBlock = some M) (hM : W.heap.size ≤ M) : OffK r2 k :=
  ⟨offV_at h.1 hk.lt.1 hat hM, offV_at h.2 hk.lt.2 hat hM⟩
theorem KvR.grow {ls : List Lf.F} {gs : List Lf.G} {r s r2 : Value} {W W2 : World} {k : KV} (h : KvR ls gs r W k) (ho : OffK s k) (hg : W.grownBy W2 s.ownBlock) (h2 : OffK r2 k) : KvR ls gs r2 W2 k :=
  ⟨⟨⟨ints_grown h.1.1.1 hg ho.1, ints_grown h.1.1.2 hg ho.2⟩, h2⟩, h.2⟩
/-- The loads and what is left, in memory. -/
def PlH (ls : List Lf.F) (gs : List Lf.G) (B0 : Nat) (zs fs : Value) (L : List KV) (F : List Int) (W : World) : Prop :=
  OwnKv B0 W zs L ∧ OwnI B0 W fs F ∧ ∀ j (hj : j < L.length), KvR ls gs zs W L[j] ∧ OffK fs L[j]
section
variable {ls : List Lf.F} {gs : List Lf.G} {B0 : Nat} {zs fs : Value} {L : List KV} {F : List Int} {W W2 : World}
theorem PlH.start (ls : List Lf.F) (gs : List Lf.G) (B0 : Nat) (W : World) : PlH ls gs B0 (.slice none 0 0) (.slice none 0 0) [] [] W := ⟨OwnG.nil _ _, OwnG.nil _ _, fun j hj => absurd hj (Nat.not_lt_zero _)⟩
theorem PlH.all (h : PlH ls gs B0 zs fs L F W) (hb : Below W.heap.size W W2) : PlH ls gs B0 zs fs L F W2 := ⟨h.1.all hb, h.2.1.all hb, fun j hj => ⟨(h.2.2 j hj).1.all hb, (h.2.2 j hj).2⟩⟩
theorem PlH.zlt (h : PlH ls gs B0 zs fs L F W) : ∀ j, zs.ownBlock = some j → j < W.heap.size := fun j e => (World.ownsRow.lt h.1 j e).2
theorem PlH.flt (h : PlH ls gs B0 zs fs L F W) : ∀ j, fs.ownBlock = some j → j < W.heap.size := fun j e => (World.ownsRow.lt h.2.1 j e).2
theorem PlH.zbelow {W0 : World} (h : PlH ls gs W0.heap.size zs fs L F W) (hb : Below W0.heap.size W0 W) (hg : W.grownBy W2 zs.ownBlock) : Below W0.heap.size W0 W2 := hb.grown hg (by have := hb.size; omega) (fun j e => (World.ownsRow.lt h.1 j e).1)
theorem PlH.fbelow {W0 : World} (h : PlH ls gs W0.heap.size zs fs L F W) (hb : Below W0.heap.size W0 W) (hg : W.grownBy W2 fs.ownBlock) : Below W0.heap.size W0 W2 := hb.grown hg (by have := hb.size; omega) (fun j e => (World.ownsRow.lt h.2.1 j e).1)
theorem PlH.put {Q : List KV} (h : PlH ls gs B0 zs fs L F W) (hq : OwnKv B0 W2 zs Q) (hg : W.grownBy W2 zs.ownBlock) (hk : ∀ j (hj : j < Q.length), KvR ls gs zs W2 Q[j]) (ho : ∀ j (hj : j < Q.length), offV fs Q[j].u ∧ offV fs Q[j].v) : PlH ls gs B0 zs fs Q F W2 :=
  ⟨hq, ownsRow_other (by decide) h.2.1 h.1 hg, fun j hj => ⟨hk j hj, ho j hj⟩⟩
/-- One more load. -/
theorem PlH.pushK {z2 : Value} {k : KV} {c M : Nat} (h : PlH ls gs B0 zs fs L F W) (hk : OwnI c W k.u k.x.hs ∧ OwnI c W k.v k.x.gs) (hn : KvN ls gs k) (hv : Lf.vLE ls gs k.x = 0) (hz : ∀ j, zs.ownBlock = some j → j < c) (hf : ∀ j, fs.ownBlock = some j → j < c)
    (hr : W2.ownsRow B0 KvT 11 z2 (L.length + 1) (L.flatMap kvC ++ kvC k)) (hg : W.grownBy W2 zs.ownBlock) (hat : z2.ownBlock = zs.ownBlock ∨ z2.ownBlock = some M) (hM : W.heap.size ≤ M) : PlH ls gs B0 z2 fs (L ++ [k]) F W2 := by
  refine ⟨OwnG.pushed hr, ownsRow_other (by decide) h.2.1 h.1 hg, fun j hj => ?_⟩
  have hkz : OffK zs k := ⟨offV_new (base := 0) hk.1 hz, offV_new (base := 0) hk.2 hz⟩
  have hkf : OffK fs k := ⟨offV_new (base := 0) hk.1 hf, offV_new (base := 0) hk.2 hf⟩
  have hkr : KvR ls gs zs W k := ⟨⟨⟨hk.1.ints, hk.2.ints⟩, hkz⟩, hn, hv⟩
  rw [List.length_append] at hj
  by_cases e : j < L.length
  · rw [List.getElem_append_left e]
    obtain ⟨h1, h2⟩ := h.2.2 j e
    exact ⟨h1.grow h1.1.2 hg (OffK.at' h1.1.2 h1 hat hM), h2⟩
  · obtain rfl : j = L.length := by simp at hj; omega
    simp only [List.getElem_append_right (Nat.le_refl _), Nat.sub_self, List.getElem_cons_zero]
    exact ⟨hkr.grow hkz hg (OffK.at' hkz hkr hat hM), hkf⟩
/-- One more goods left. -/
theorem PlH.pushF {f2 : Value} {n : Int} {M : Nat} (h : PlH ls gs B0 zs fs L F W)
    (hr : W2.ownsRow B0 3 1 f2 (F.length + 1) (F.flatMap intL ++ intL n)) (hg : W.grownBy W2 fs.ownBlock) (hat : f2.ownBlock = fs.ownBlock ∨ f2.ownBlock = some M) (hM : W.heap.size ≤ M) : PlH ls gs B0 zs f2 L (F ++ [n]) W2 := by
  refine ⟨ownsRow_other (by decide) h.1 h.2.1 hg, OwnG.pushed hr, fun j hj => ?_⟩
  obtain ⟨h1, h2⟩ := h.2.2 j hj
  exact ⟨h1.grow h2 hg h1.1.2, OffK.at' h2 h1 hat hM⟩
/-- What is left, in order. -/
theorem PlH.sorted {F2 : List Int} (h : PlH ls gs B0 zs fs L F W) (hr : OwnI B0 W2 fs F2) (hg : W.grownBy W2 fs.ownBlock) : PlH ls gs B0 zs fs L F2 W2 :=
  ⟨ownsRow_other (by decide) h.1 h.2.1 hg, hr, fun j hj => ⟨(h.2.2 j hj).1.grow (h.2.2 j hj).2 hg (h.2.2 j hj).1.1.2, (h.2.2 j hj).2⟩⟩
end
/-- The cells of a load alone. -/
def ldK (k : KV) : List Value := [.int .i64 k.x.l, .int .i64 k.x.a, k.u, k.v]
theorem ldK_len (k : KV) : (ldK k).length = 4 := rfl
theorem ldK_one (k : KV) (h1 : k.u.oneCell' = true) (h2 : k.v.oneCell' = true) : ∀ u ∈ ldK k, u.oneCell' = true := by
  intro u hu
  simp only [ldK, List.mem_cons, List.not_mem_nil, or_false] at hu
  rcases hu with rfl | rfl | rfl | rfl
  · rfl
  · rfl
  · exact h1
  · exact h2
theorem loads_kv {W : World} {base : Nat} {v : Value} {L : List KV} (h : OwnG LoadT 4 ldK base W v L) (hI : ∀ j (hj : j < L.length), Ints W L[j].u L[j].x.hs ∧ Ints W L[j].v L[j].x.gs) : Loads W v (L.map KV.x) := by
  obtain ⟨a, c, e, hc, hk⟩ := OwnG.rows ldK_len h
  refine ⟨a, c, by rw [List.length_map]; exact e, by rw [List.length_map]; exact hc, fun j hj => ?_⟩
  rw [List.length_map] at hj
  obtain ⟨b, o, e1, hb, hr⟩ := hk j hj
  refine ⟨b, o, e1, hb, ?_⟩
  rw [List.getElem_map]
  exact ⟨L[j].u, L[j].v, ⟨by have := hr 0 _ rfl; simpa using this, hr 1 _ rfl, hr 2 _ rfl, hr 3 _ rfl⟩, (hI j hj).1, (hI j hj).2⟩
end Go.Proofs.Ytabfcnfddemblaa.Lo
namespace Go.Proofs.Ytabfcnfddemblaa.Lo
open Go.RowKit

theorem ins_sort {n : Int} {F : List Int} (hF : F.Nodup) (hn : n ∉ F) : Lf.insS n (F.mergeSort fun x y => decide (x ≤ y)) = (F ++ [n]).mergeSort fun x y => decide (x ≤ y) := by
  have hp := List.mergeSort_perm F fun x y => decide (x ≤ y)
  refine asc_uniqI (Lf.insS_lt (sort_lt hF) (fun h => hn (hp.mem_iff.1 h))) (sort_lt (by rw [List.nodup_append]; exact ⟨hF, by simp, fun a ha b hb => by rw [List.mem_singleton] at hb; subst hb; rintro rfl; exact hn ha⟩)) fun x => ?_
  rw [Lf.insS_mem, hp.mem_iff, (List.mergeSort_perm (F ++ [n]) _).mem_iff, List.mem_append, List.mem_singleton]
  exact or_comm
theorem pln_left {ls : List Lf.F} {gs : List Lf.G} (hb0 : Lf.bthE ls gs = 0) {k : Nat} (hk : k < gs.length) : (odr gs).getD k 0 ∉ (plnS ls gs k).2 := by
  intro h
  have h1 := ((pln_PI hb0 k).all _).2 (.inl h)
  have ho : k < (odr gs).length := by rw [odr_len]; exact hk
  rw [show (odr gs).getD k 0 = (odr gs)[k] by simp [ho]] at h1
  obtain ⟨i, hi, e⟩ := List.mem_iff_getElem.1 h1
  rw [List.length_take] at hi
  rw [List.getElem_take] at e
  exact List.pairwise_iff_getElem.1 (odr_nodup gs) i k (by omega) ho (by omega) e
theorem pln_nodup {ls : List Lf.F} {gs : List Lf.G} (hb0 : Lf.bthE ls gs = 0) : ∀ k, k ≤ gs.length → (plnS ls gs k).2.Nodup
  | 0, _ => List.nodup_nil
  | k + 1, h => by
    have h1 := pln_nodup hb0 k (by omega)
    have h2 := pln_left hb0 (k := k) (by omega)
    rw [plnS_next ls gs (by omega)]
    generalize plnS ls gs k = s at *
    generalize (odr gs).getD k 0 = n at *
    unfold Lf.stP
    cases hp : Lf.putF ls gs n s.1 with
    | some q => exact h1
    | none =>
      cases hb : Lf.bgB ls gs s.1 n ls.length with
      | some l => exact h1
      | none =>
        show (s.2 ++ [n]).Nodup
        rw [List.nodup_append]
        exact ⟨h1, by simp, fun a ha b hb => by rw [List.mem_singleton] at hb; subst hb; rintro rfl; exact h2 ha⟩
/-- What is left behind the first goods, in order. -/
def lfS (ls : List Lf.F) (gs : List Lf.G) (k : Nat) : List Int := (plnS ls gs k).2.mergeSort fun x y => decide (x ≤ y)
theorem lfS_ins {ls : List Lf.F} {gs : List Lf.G} (hb0 : Lf.bthE ls gs = 0) {k : Nat} (hk : k < gs.length) {P : List Lf.L} {F : List Int} (h : plnS ls gs k = (P, F)) (h2 : plnS ls gs (k + 1) = (P, F ++ [(odr gs).getD k 0])) : lfS ls gs (k + 1) = Lf.insS ((odr gs).getD k 0) (lfS ls gs k) := by
  have h3 := pln_left hb0 hk
  have h4 := pln_nodup hb0 k (by omega)
  unfold lfS
  rw [h, h2]
  rw [h] at h3 h4
  exact (ins_sort h4 h3).symm
theorem lfS_same {ls : List Lf.F} {gs : List Lf.G} {k : Nat} {P Q : List Lf.L} {F : List Int} (h : plnS ls gs k = (P, F)) (h2 : plnS ls gs (k + 1) = (Q, F)) : lfS ls gs (k + 1) = lfS ls gs k := by unfold lfS; rw [h, h2]
theorem lfS_end (ls : List Lf.F) (gs : List Lf.G) : lfS ls gs gs.length = (plF ls gs).mergeSort fun x y => decide (x ≤ y) := by unfold lfS; rw [plnS_end]
/-- The reference asks the same of a load with one more goods. -/
theorem by_full {ls : List Lf.F} {gs : List Lf.G} {x : Lf.L} {n : Int} (h : Lf.vLE ls gs x = 0) (h0 : 0 ≤ n) (hn : n < gs.length) (hx : n ∉ x.gs) : Lf.slE ls gs (Lf.full x n) = Lf.ckx ls gs (Lf.full x n) := Lf.slE_of (Lf.vLE_full h h0 hn hx)
end Go.Proofs.Ytabfcnfddemblaa.Lo
namespace Go.Proofs.Ytabfcnfddemblaa.Lo
open Go.RowKit

/-- A load of four cells, with what would be known of it. -/
def kvOf (ls : List Lf.F) (gs : List Lf.G) (x : Lf.L) (u v : Value) : KV := ⟨x, u, v, (Lf.fat ls x.l).p, Lf.wm (Lf.fat ls x.l).rs x.hs x.hs.length, Lf.togA gs x.gs⟩
theorem kvOf_n (ls : List Lf.F) (gs : List Lf.G) (x : Lf.L) (u v : Value) : KvN ls gs (kvOf ls gs x u v) := ⟨rfl, rfl, rfl⟩
abbrev OwnLd (base : Nat) (w : World) (v : Value) (xs : List KV) : Prop := OwnG LoadT 4 ldK base w v xs
theorem setL_ld (k k2 : KV) (R : List Value) : setL (ldK k ++ R) 0 (ldK k2) = ldK k2 ++ R := rfl
theorem setL_flat4 : ∀ (P : List KV) (i : Nat) (k2 : KV), i < P.length → setL (P.flatMap ldK) (i * 4) (ldK k2) = (P.set i k2).flatMap ldK
  | p :: r, 0, k2, _ => by
    rw [List.flatMap_cons, Nat.zero_mul, setL_ld, List.set_cons_zero, List.flatMap_cons]
  | p :: r, i + 1, k2, h => by
    rw [List.flatMap_cons, show (i + 1) * 4 = (ldK p).length + i * 4 by rw [ldK_len]; omega, setL_app, setL_flat4 r i k2 (by simpa using h), List.set_cons_succ, List.flatMap_cons]
/-- The reference's loads and what is left, in memory. -/
def PrH (ls : List Lf.F) (gs : List Lf.G) (B0 : Nat) (zs fs : Value) (L : List KV) (F : List Int) (W : World) : Prop :=
  OwnLd B0 W zs L ∧ OwnI B0 W fs F ∧ ∀ j (hj : j < L.length), KvR ls gs zs W L[j]
section
variable {ls : List Lf.F} {gs : List Lf.G} {B0 : Nat} {zs fs : Value} {L : List KV} {F : List Int} {W W2 : World}
theorem PrH.start (ls : List Lf.F) (gs : List Lf.G) (B0 : Nat) (W : World) : PrH ls gs B0 (.slice none 0 0) (.slice none 0 0) [] [] W := ⟨OwnG.nil _ _, OwnG.nil _ _, fun j hj => absurd hj (Nat.not_lt_zero _)⟩
theorem PrH.all (h : PrH ls gs B0 zs fs L F W) (hb : Below W.heap.size W W2) : PrH ls gs B0 zs fs L F W2 := ⟨h.1.all hb, h.2.1.all hb, fun j hj => (h.2.2 j hj).all hb⟩
theorem PrH.zlt (h : PrH ls gs B0 zs fs L F W) : ∀ j, zs.ownBlock = some j → j < W.heap.size := fun j e => (World.ownsRow.lt h.1 j e).2
theorem PrH.zbelow {W0 : World} (h : PrH ls gs W0.heap.size zs fs L F W) (hb : Below W0.heap.size W0 W) (hg : W.grownBy W2 zs.ownBlock) : Below W0.heap.size W0 W2 := hb.grown hg (by have := hb.size; omega) (fun j e => (World.ownsRow.lt h.1 j e).1)
/-- Its loads can be read as loads. -/
theorem PrH.loads (h : PrH ls gs B0 zs fs L F W) : Loads W zs (L.map KV.x) := loads_kv h.1 (fun j hj => (h.2.2 j hj).1.1)
/-- Another list of what is left. -/
theorem PrH.leave {f2 : Value} {F2 : List Int} (h : PrH ls gs B0 zs fs L F W) (h2 : OwnI B0 W f2 F2) : PrH ls gs B0 zs f2 L F2 W := ⟨h.1, h2, h.2.2⟩
/-- One more load. -/
theorem PrH.push {z2 : Value} {k : KV} {c M : Nat} (h : PrH ls gs B0 zs fs L F W) (hk : OwnI c W k.u k.x.hs ∧ OwnI c W k.v k.x.gs) (hn : KvN ls gs k) (hv : Lf.vLE ls gs k.x = 0) (hz : ∀ j, zs.ownBlock = some j → j < c)
    (hr : W2.ownsRow B0 LoadT 4 z2 (L.length + 1) (L.flatMap ldK ++ ldK k)) (hg : W.grownBy W2 zs.ownBlock) (hat : z2.ownBlock = zs.ownBlock ∨ z2.ownBlock = some M) (hM : W.heap.size ≤ M) : PrH ls gs B0 z2 fs (L ++ [k]) F W2 := by
  refine ⟨OwnG.pushed hr, ownsRow_other (by decide) h.2.1 h.1 hg, fun j hj => ?_⟩
  have hkz : OffK zs k := ⟨offV_new (base := 0) hk.1 hz, offV_new (base := 0) hk.2 hz⟩
  have hkr : KvR ls gs zs W k := ⟨⟨⟨hk.1.ints, hk.2.ints⟩, hkz⟩, hn, hv⟩
  rw [List.length_append] at hj
  by_cases e : j < L.length
  · rw [List.getElem_append_left e]
    have h1 := h.2.2 j e
    exact h1.grow h1.1.2 hg (OffK.at' h1.1.2 h1 hat hM)
  · obtain rfl : j = L.length := by simp at hj; omega
    simp only [List.getElem_append_right (Nat.le_refl _), Nat.sub_self, List.getElem_cons_zero]
    exact hkr.grow hkz hg (OffK.at' hkz hkr hat hM)
/-- A load altered in place. -/
theorem PrH.alter {g k c : Nat} {y : KV} (h : PrH ls gs B0 (.slice (some ⟨g, 0, none⟩) L.length c) fs L F W) (hk : k < L.length) (hy : KvR ls gs (.slice (some ⟨g, 0, none⟩) L.length c) W y) :
    PrH ls gs B0 (.slice (some ⟨g, 0, none⟩) (L.set k y).length c) fs (L.set k y) F (setsW W g (k * 4) (ldK y)) ∧ W.grownBy (setsW W g (k * 4) (ldK y)) (some g) := by
  obtain ⟨h1, h2⟩ := own_sets (ldK y) (k * 4) W _ h.1
  rw [setL_flat4 L k y hk] at h1
  have h2' : W.grownBy (setsW W g (k * 4) (ldK y)) (Value.slice (some ⟨g, 0, none⟩) L.length c).ownBlock := h2
  refine ⟨⟨?_, ownsRow_other (by decide) h.2.1 h.1 h2', fun j hj => ?_⟩, h2⟩
  · unfold OwnLd OwnG
    rw [List.length_set]
    exact h1
  · rw [List.length_set] at hj ⊢
    rw [List.getElem_set]
    by_cases e : k = j
    · rw [if_pos e]; exact hy.grow hy.1.2 h2' hy.1.2
    · rw [if_neg e]
      have h3 := h.2.2 j hj
      exact h3.grow h3.1.2 h2' h3.1.2
end
end Go.Proofs.Ytabfcnfddemblaa.Lo
