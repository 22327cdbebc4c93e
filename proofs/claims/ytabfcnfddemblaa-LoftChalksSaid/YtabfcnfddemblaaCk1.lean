/- A band with the marks of its poles, place by place, and how many runs it has: plain. -/
import Derived.Test.YtabfcnfddemblaaBand26
import Derived.Test.YtabfcnfddemblaaBand30
namespace Go.Proofs.Ytabfcnfddemblaa
open Go.RowKit

namespace Bd
theorem at_in {rs : List Bd.R} {p : Int} (h : Bd.valE rs = 0) (h1 : 0 ≤ p) (h2 : p < Bd.len rs) : Bd.atE rs p = 0 := by
  unfold Bd.atE
  rw [if_pos h, if_pos ⟨h1, h2⟩]
theorem le_len {b : List R} (h : pos b) : ∀ {r : R}, r ∈ b → r.l ≤ len b := by
  induction b with
  | nil => intro r hr; cases hr
  | cons q b ih =>
    intro r hr
    obtain ⟨h1, h2⟩ := pos_cons.1 h
    have h3 := len_nonneg h2
    rcases List.mem_cons.1 hr with rfl | hr
    · simp only [len]; omega
    · have := ih h2 hr; simp only [len]; omega
theorem mem_exp {b : List R} (h : pos b) : ∀ {r : R}, r ∈ b → r.m ∈ exp b := by
  induction b with
  | nil => intro r hr; cases hr
  | cons q b ih =>
    intro r hr
    obtain ⟨h1, h2⟩ := pos_cons.1 h
    rcases List.mem_cons.1 hr with rfl | hr
    · exact List.mem_append_left _ (List.mem_replicate.2 ⟨by omega, rfl⟩)
    · exact List.mem_append_right _ (ih h2 hr)
theorem exp_mem : ∀ {b : List R} {m : M}, m ∈ exp b → ∃ r ∈ b, r.m = m
  | [], m, h => by cases h
  | q :: b, m, h => by
    rcases List.mem_append.1 h with h | h
    · exact ⟨q, by simp, (List.mem_replicate.1 h).2.symm⟩
    · obtain ⟨r, h1, h2⟩ := exp_mem h
      exact ⟨r, by simp [h1], h2⟩
theorem valE_told {b : List R} (hp : pos b) (ho : ∀ m ∈ exp b, okM m = true) (ht : toldE b = 0) : valE (toldR b) = 0 ∧ toldR b = norm b := by
  by_cases h : 40 < (norm b).length ∨ 1000000 < len b
  · rw [(told_large h).1] at ht; omega
  · rw [(told_fits h).2]
    have hq := nrm_pos (norm_nrm hp)
    refine ⟨?_, rfl⟩
    have ha : (norm b).all okR = true := by
      rw [List.all_eq_true]
      intro r hr
      have h1 := le_len hq hr
      have h2 := hq r hr
      rw [norm_len] at h1
      have h3 := mem_exp hq hr
      rw [norm_exp hp] at h3
      simp only [okR, Bool.and_eq_true, decide_eq_true_eq]
      exact ⟨⟨by omega, by omega⟩, ho _ h3⟩
    unfold valE
    rw [if_neg (by omega), if_neg (by rw [ha]; simp), norm_len, if_neg (by omega)]
theorem exp_mapR (c : M → M) : ∀ b : List R, exp (mapR c b) = (exp b).map c
  | [] => rfl
  | r :: b => by
    have := exp_mapR c b
    simp only [mapR, List.map_cons, exp, List.map_append, List.map_replicate] at this ⊢
    rw [this]
theorem exp_okM {b : List R} (h : valE b = 0) : ∀ m ∈ exp b, okM m = true := by
  intro m hm
  obtain ⟨r, h1, rfl⟩ := exp_mem hm
  have := (valE_zero h).2.1 r h1
  simp only [okR, Bool.and_eq_true] at this
  exact this.2
theorem exp_repL {rs patch : List R} {fr : Int} (hv : valE rs = 0) (h1 : 0 ≤ fr) (hp : pos patch) (h2 : fr + len patch ≤ len rs) :
    exp (repL rs fr patch) = (exp rs).take fr.toNat ++ (exp patch ++ (exp rs).drop (fr + len patch).toNat) := by
  have hf := fine_of_valid hv
  have hl := len_exp hf.2.1
  have hn := len_nonneg hp
  unfold repL
  rw [exp_append, exp_append, exp_cutL hf (Int.le_refl 0), exp_cutL hf (by omega), hl]
  simp
theorem atM_in {rs : List R} {p : Int} (h : valE rs = 0) (h1 : 0 ≤ p) (h2 : p < len rs) : atM rs p = (exp rs)[p.toNat]?.getD ⟨0, 0, 0⟩ := by
  unfold atM; rw [if_pos ⟨h, h1, h2⟩]
theorem or_15 : ∀ a b : Fin 16, 0 ≤ orV (a.val : Int) (b.val : Int) ∧ orV (a.val : Int) (b.val : Int) ≤ 15 := by decide
theorem okM_F {fl : Int} (h : chFOk fl = true) (m : M) (hm : okM m = true) : okM (chF fl m) = true := by
  simp only [chFOk, Bool.and_eq_true, decide_eq_true_eq] at h
  simp only [okM, chF, Bool.and_eq_true, decide_eq_true_eq] at hm ⊢
  have e := or_15 ⟨m.f.toNat, by omega⟩ ⟨fl.toNat, by omega⟩
  dsimp only at e
  rw [Int.toNat_of_nonneg (by omega), Int.toNat_of_nonneg (by omega)] at e
  obtain ⟨⟨⟨a1, a2⟩, a3, a4⟩, a5, a6⟩ := hm
  exact ⟨⟨⟨decide_eq_true a1, decide_eq_true a2⟩, decide_eq_true a3, decide_eq_true a4⟩, decide_eq_true e.1, decide_eq_true e.2⟩
/-- A band is valid, normal, and has these marks. -/
def Is (b : List R) (ms : List M) : Prop := valE b = 0 ∧ nrm b ∧ exp b = ms
theorem is_told {b : List R} (hp : pos b) (ho : ∀ m ∈ exp b, okM m = true) (ht : toldE b = 0) : Is (toldR b) (exp b) := by
  obtain ⟨h1, h2⟩ := valE_told hp ho ht
  exact ⟨h1, by rw [h2]; exact norm_nrm hp, by rw [h2, norm_exp hp]⟩
theorem is_join {rs qs : List R} (h : joinE rs qs = 0) : Is (joinR rs qs) (exp rs ++ exp qs) := by
  unfold joinE at h
  by_cases hb : bothE rs qs = 0
  · rw [if_pos hb] at h
    obtain ⟨h1, h2⟩ := bothE_zero.1 hb
    unfold joinR
    rw [if_pos hb, ← exp_append]
    refine is_told (pos_append.2 ⟨valE_pos h1, valE_pos h2⟩) (fun m hm => ?_) h
    rw [exp_append] at hm
    rcases List.mem_append.1 hm with hm | hm
    · exact exp_okM h1 m hm
    · exact exp_okM h2 m hm
  · rw [if_neg hb] at h; exact absurd h hb
theorem is_uniq {a b : List R} {ms : List M} (h1 : Is a ms) (h2 : Is b ms) : a = b := nrm_unique h1.2.1 h2.2.1 (by rw [h1.2.2, h2.2.2])
theorem is_slice {rs : List R} {fr to : Int} (h : sliE rs fr to = 0) : Is (sliR rs fr to) (((exp rs).take to.toNat).drop fr.toNat) := by
  obtain ⟨t1, t2⟩ := told_cut h
  obtain ⟨hv, s1, s2, s3⟩ := sliE_zero.1 h
  have hf := fine_of_valid hv
  have he := exp_cutL hf (to := to) s1
  have h1 := is_told (pos_cutL rs fr to) (fun m hm => by
    rw [he] at hm
    exact exp_okM hv m (List.mem_of_mem_take (List.mem_of_mem_drop hm))) t1
  rw [t2, he] at h1
  unfold sliR
  rw [if_pos h]
  exact h1
/-- How many runs marks make. -/
def rc : List M → Nat
  | [] => 0
  | [_] => 1
  | a :: b :: l => (if a = b then 0 else 1) + rc (b :: l)
theorem rc_pos : ∀ (l : List M) (a : M), 1 ≤ rc (a :: l)
  | [], a => Nat.le_refl _
  | b :: l, a => by
    have := rc_pos l b
    unfold rc
    omega
theorem rc_cons (a : M) (l : List M) : rc l ≤ rc (a :: l) := by
  cases l with
  | nil => exact Nat.zero_le _
  | cons b l => show rc (b :: l) ≤ (if a = b then 0 else 1) + rc (b :: l); omega
theorem rc_right : ∀ x y : List M, rc y ≤ rc (x ++ y)
  | [], y => Nat.le_refl _
  | a :: x, y => Nat.le_trans (rc_right x y) (rc_cons a (x ++ y))
theorem rc_left : ∀ x y : List M, rc x ≤ rc (x ++ y)
  | [], y => Nat.zero_le _
  | [a], y => rc_pos y a
  | a :: b :: x, y => by
    have := rc_left (b :: x) y
    show (if a = b then 0 else 1) + rc (b :: x) ≤ (if a = b then 0 else 1) + rc (b :: (x ++ y))
    have e : rc (b :: x ++ y) = rc (b :: (x ++ y)) := rfl
    omega
theorem rc_rep {m : M} {x : List M} (hx : x.head? ≠ some m) : ∀ n, rc (List.replicate (n + 1) m ++ x) = 1 + rc x
  | 0 => by
    cases x with
    | nil => rfl
    | cons c x =>
      have hc : ¬ m = c := fun e => hx (by rw [e]; rfl)
      show (if m = c then 0 else 1) + rc (c :: x) = 1 + rc (c :: x)
      rw [if_neg hc]
  | n + 1 => by
    have := rc_rep hx n
    show (if m = m then 0 else 1) + rc (List.replicate (n + 1) m ++ x) = 1 + rc x
    rw [if_pos rfl, this]; omega
theorem nrm_rc : ∀ {b : List R}, nrm b → b.length = rc (exp b)
  | [], _ => rfl
  | r :: b, h => by
    have h1 := nrm_head h
    have h2 := nrm_pos h r (by simp)
    obtain ⟨_, h3, _⟩ := nrm_append (a := [r]) (b := b) |>.1 h
    have h4 := nrm_rc h3
    show b.length + 1 = rc (List.replicate r.l.toNat r.m ++ exp b)
    obtain ⟨k, hk⟩ : ∃ k, r.l.toNat = k + 1 := ⟨r.l.toNat - 1, by omega⟩
    rw [hk, rc_rep h1 k, h4]; omega
theorem told_rc {b : List R} (hp : pos b) (hl : len b ≤ 1000000) : toldE b = if 40 < rc (exp b) then 4 else 0 := by
  have h := nrm_rc (norm_nrm hp)
  rw [norm_exp hp] at h
  unfold toldE
  rw [h]
  by_cases c : 40 < rc (exp b)
  · rw [if_pos (.inl c), if_pos c]
  · rw [if_neg (by omega), if_neg c]
theorem seg {f j : Nat} (F : List M) (h : f ≤ j) : F.drop f = (F.take j).drop f ++ F.drop j := by
  by_cases c : j ≤ F.length
  · have h1 : F.take j ++ F.drop j = F := List.take_append_drop j F
    have h2 : (F.take j ++ F.drop j).drop f = (F.take j).drop f ++ F.drop j := List.drop_append_of_le_length (by rw [List.length_take]; omega)
    rw [h1] at h2
    exact h2
  · rw [List.take_of_length_le (by omega), (List.drop_eq_nil_of_le (by omega) : F.drop j = []), List.append_nil]
/-- The marks from a place on, with those of the poles that are left. -/
def ch (E : List M) : Int → List Int → List M
  | f, [] => E.drop f.toNat
  | f, p :: ps => (E.take p.toNat).drop f.toNat ++ chF 1 (E.getD p.toNat default) :: ch E (p + 1) ps
/-- Poles in order from a place on. -/
def okP (n : Int) : Int → List Int → Prop
  | f, [] => f ≤ n
  | f, p :: ps => f ≤ p ∧ p < n ∧ okP n (p + 1) ps
theorem okP_le {n : Int} : ∀ {ps : List Int} {f : Int}, okP n f ps → f ≤ n
  | [], _, h => h
  | _ :: _, _, h => by have := h.1; have := h.2.1; omega
theorem okP_of {n : Int} : ∀ {ps : List Int} {f : Int}, f ≤ n → (∀ p ∈ ps, f ≤ p ∧ p < n) → ps.Pairwise (· < ·) → okP n f ps
  | [], _, h, _, _ => h
  | p :: ps, f, h, h1, h2 => by
    obtain ⟨h3, h4⟩ := List.pairwise_cons.1 h2
    have h5 := h1 p (by simp)
    exact ⟨h5.1, h5.2, okP_of (by omega) (fun q hq => by have := h3 q hq; have := (h1 q (by simp [hq])).2; omega) h4⟩
theorem ch_skip {E : List M} {f j : Int} (h0 : 0 ≤ f) (h1 : f ≤ j) : ∀ {ps : List Int}, okP E.length j ps → ch E f ps = (E.take j.toNat).drop f.toNat ++ ch E j ps
  | [], _ => seg E (by omega)
  | p :: ps, h => by
    have h2 := h.1
    show (E.take p.toNat).drop f.toNat ++ _ = (E.take j.toNat).drop f.toNat ++ ((E.take p.toNat).drop j.toNat ++ _)
    rw [seg (E.take p.toNat) (f := f.toNat) (j := j.toNat) (by omega), List.take_take, Nat.min_eq_left (by omega), List.append_assoc]
theorem ch_len {E : List M} : ∀ {ps : List Int} {f : Int}, 0 ≤ f → okP E.length f ps → (ch E f ps).length = E.length - f.toNat
  | [], f, _, _ => by show (E.drop f.toNat).length = _; rw [List.length_drop]
  | p :: ps, f, h0, h => by
    obtain ⟨h1, h2, h3⟩ := h
    have h4 := ch_len (f := p + 1) (by omega) h3
    show ((E.take p.toNat).drop f.toNat ++ _ :: ch E (p + 1) ps).length = _
    rw [List.length_append, List.length_cons, h4, List.length_drop, List.length_take]
    omega
theorem ch_at {E : List M} : ∀ {ps : List Int} {f p : Int}, 0 ≤ f → okP E.length f ps → p ∈ ps → f ≤ p ∧ p < E.length ∧ (ch E f ps)[(p - f).toNat]? = some (chF 1 (E.getD p.toNat default))
  | q :: ps, f, p, h0, h, hp => by
    obtain ⟨h1, h2, h3⟩ := h
    have hl : ((E.take q.toNat).drop f.toNat).length = (q - f).toNat := by rw [List.length_drop, List.length_take]; omega
    show f ≤ p ∧ p < E.length ∧ ((E.take q.toNat).drop f.toNat ++ chF 1 (E.getD q.toNat default) :: ch E (q + 1) ps)[(p - f).toNat]? = _
    rcases List.mem_cons.1 hp with rfl | hp
    · refine ⟨h1, h2, ?_⟩
      rw [List.getElem?_append_right (by omega), hl, Nat.sub_self]
      rfl
    · obtain ⟨h4, h5, h6⟩ := ch_at (f := q + 1) (by omega) h3 hp
      refine ⟨by omega, h5, ?_⟩
      rw [List.getElem?_append_right (by omega), hl]
      obtain ⟨k, hk⟩ : ∃ k, (p - f).toNat - (q - f).toNat = k + 1 := ⟨(p - f).toNat - (q - f).toNat - 1, by omega⟩
      rw [hk, List.getElem?_cons_succ, ← h6]
      congr 1
      omega
theorem okM_1 {m : M} (h : okM m = true) : okM (chF 1 m) = true := okM_F (by decide) m h
theorem ch_ok {E : List M} (hE : ∀ m ∈ E, okM m = true) : ∀ {ps : List Int} {f : Int}, 0 ≤ f → okP E.length f ps → ∀ m ∈ ch E f ps, okM m = true
  | [], f, _, _, m, hm => hE m (List.mem_of_mem_drop hm)
  | q :: ps, f, h0, h, m, hm => by
    obtain ⟨h1, h2, h3⟩ := h
    rcases List.mem_append.1 hm with hm | hm
    · exact hE m (List.mem_of_mem_take (List.mem_of_mem_drop hm))
    · rcases List.mem_cons.1 hm with rfl | hm
      · refine okM_1 (hE _ ?_)
        have : q.toNat < E.length := by omega
        simp [this]
      · exact ch_ok hE (f := q + 1) (by omega) h3 m hm
theorem or_1 : ∀ a : Fin 16, bits BinOp.and IntKind.i64 (orV (a.val : Int) 1) 1 = 1 := by decide
/-- A marked place is a pole's. -/
theorem pole_mark {m : M} (h : okM m = true) : bits BinOp.and IntKind.i64 (chF 1 m).f 1 = 1 := by
  simp only [okM, Bool.and_eq_true, decide_eq_true_eq] at h
  have e := or_1 ⟨m.f.toNat, by omega⟩
  dsimp only at e
  rw [Int.toNat_of_nonneg (by omega)] at e
  exact e
/-- The marks of a piece up to a pole, with the pole's. -/
def pcM (E : List M) (f p : Int) : List M := (E.take p.toNat).drop f.toNat ++ [chF 1 (E.getD p.toNat default)]
theorem ch_pc (E : List M) (f p : Int) (ps : List Int) : ch E f (p :: ps) = pcM E f p ++ ch E (p + 1) ps := by
  show (E.take p.toNat).drop f.toNat ++ chF 1 (E.getD p.toNat default) :: ch E (p + 1) ps = _
  unfold pcM
  rw [List.append_assoc]
  rfl
theorem piece_ok {rs : List R} {f p : Int} (hv : valE rs = 0) (h0 : 0 ≤ f) (h1 : f ≤ p) (h2 : p < len rs) :
    sliE rs f (p + 1) = 0 ∧ (sliR rs f (p + 1)).length ≤ 40 ∧ chaE (sliR rs f (p + 1)) (p - f) (p - f + 1) (chFOk 1) (chF 1) = (if 40 < rc (pcM (exp rs) f p) then 4 else 0) ∧
    (rc (pcM (exp rs) f p) ≤ 40 → Is (chaR (sliR rs f (p + 1)) (p - f) (p - f + 1) (chFOk 1) (chF 1)) (pcM (exp rs) f p)) := by
  have hs : sliE rs f (p + 1) = 0 := sliE_zero.2 ⟨hv, h0, by omega, by omega⟩
  have hq := is_slice hs
  have hn := len_exp (valE_pos hv)
  have hok := exp_okM hv
  refine ⟨hs, (valE_zero hq.1).1, ?_⟩
  generalize sliR rs f (p + 1) = q at *
  obtain ⟨q1, q2, q3⟩ := hq
  have hqp := valE_pos q1
  have hql := len_exp hqp
  have hYl : (((exp rs).take (p + 1).toNat).drop f.toNat).length = (p - f).toNat + 1 := by rw [List.length_drop, List.length_take]; omega
  have hlq : len q = p - f + 1 := by rw [hql, q3, hYl]; omega
  have hs2 : sliE q (p - f) (p - f + 1) = 0 := sliE_zero.2 ⟨q1, by omega, by omega, by omega⟩
  obtain ⟨e1, e2⟩ := cha_ok (c := chF 1) hs2 (show chFOk 1 = true by decide)
  rw [e1, e2]
  have hf := fine_of_valid q1
  have hlc := len_cutL hf (fr := p - f) (to := p - f + 1) (by omega) (by omega) (by omega)
  have hpm := pos_mapR (c := chF 1) (pos_cutL q (p - f) (p - f + 1))
  have hlm := len_mapR (chF 1) (cutL q (p - f) (p - f + 1))
  have hpx : pos (repL q (p - f) (mapR (chF 1) (cutL q (p - f) (p - f + 1)))) := pos_append.2 ⟨pos_cutL _ _ _, pos_append.2 ⟨hpm, pos_cutL _ _ _⟩⟩
  have hex := exp_repL q1 (fr := p - f) (by omega) hpm (by omega)
  rw [hlm, hlc, exp_mapR, exp_cutL hf (by omega), q3] at hex
  have hX : exp (repL q (p - f) (mapR (chF 1) (cutL q (p - f) (p - f + 1)))) = pcM (exp rs) f p := by
    rw [hex]
    unfold pcM
    have a1 : (((exp rs).take (p + 1).toNat).drop f.toNat).take (p - f).toNat = ((exp rs).take p.toNat).drop f.toNat := by
      rw [List.take_drop, List.take_take]
      congr 2
      omega
    have a2 : (((exp rs).take (p + 1).toNat).drop f.toNat).drop (p - f + (p - f + 1 - (p - f))).toNat = [] := List.drop_eq_nil_of_le (by rw [hYl]; omega)
    have a3 : ((((exp rs).take (p + 1).toNat).drop f.toNat).take (p - f + 1).toNat).drop (p - f).toNat = [(exp rs).getD p.toNat default] := by
      rw [List.take_of_length_le (by rw [hYl]; omega), List.drop_drop, show f.toNat + (p - f).toNat = p.toNat by omega]
      have hlt : p.toNat < (exp rs).length := by omega
      rw [show (p + 1).toNat = p.toNat + 1 by omega, List.take_succ_eq_append_getElem hlt, List.drop_append_of_le_length (by rw [List.length_take]; omega), List.drop_eq_nil_of_le (by rw [List.length_take]; omega)]
      simp [hlt]
    rw [a1, a2, a3, List.append_nil]
    rfl
  have hXl : (pcM (exp rs) f p).length = (p - f).toNat + 1 := by
    unfold pcM
    rw [List.length_append, List.length_drop, List.length_take]
    simp only [List.length_cons, List.length_nil]
    omega
  have hlx : len (repL q (p - f) (mapR (chF 1) (cutL q (p - f) (p - f + 1)))) ≤ 1000000 := by
    rw [len_exp hpx, hX, hXl]
    have := (valE_zero hv).2.2
    omega
  have ht := told_rc hpx hlx
  rw [hX] at ht
  refine ⟨ht, fun hr => ?_⟩
  have h4 := is_told hpx (fun m hm => by
    rw [hX] at hm
    rcases List.mem_append.1 hm with hm | hm
    · exact hok m (List.mem_of_mem_take (List.mem_of_mem_drop hm))
    · rw [List.mem_singleton] at hm
      subst hm
      refine okM_1 (hok _ ?_)
      have : p.toNat < (exp rs).length := by omega
      simp [this]) (by rw [ht, if_neg (by omega)])
  rw [hX] at h4
  exact h4
theorem join_ok {a b : List R} {A B : List M} (ha : Is a A) (hb : Is b B) (hl : A.length + B.length ≤ 1000000) : joinE a b = (if 40 < rc (A ++ B) then 4 else 0) ∧ (rc (A ++ B) ≤ 40 → Is (joinR a b) (A ++ B)) := by
  obtain ⟨a1, a2, rfl⟩ := ha
  obtain ⟨b1, b2, rfl⟩ := hb
  have hp := pos_append.2 ⟨valE_pos a1, valE_pos b1⟩
  have h1 : joinE a b = if 40 < rc (exp a ++ exp b) then 4 else 0 := by
    unfold joinE
    rw [if_pos (bothE_zero.2 ⟨a1, b1⟩), told_rc hp (by rw [len_exp hp, exp_append, List.length_append]; omega), exp_append]
  exact ⟨h1, fun h => is_join (by rw [h1, if_neg (by omega)])⟩
/-- Marks as runs of one place each. -/
def ofM (l : List M) : List R := l.map fun m => ⟨1, m⟩
theorem ofM_pos (l : List M) : pos (ofM l) := fun r hr => by
  obtain ⟨m, _, rfl⟩ := List.mem_map.1 hr
  exact (by decide : (0 : Int) < 1)
theorem ofM_exp : ∀ l : List M, exp (ofM l) = l
  | [] => rfl
  | m :: l => by
    show List.replicate (1 : Int).toNat m ++ exp (ofM l) = m :: l
    rw [ofM_exp l]; rfl
theorem ofM_is {l : List M} (h : ∀ m ∈ l, okM m = true) (hr : rc l ≤ 40) (hl : l.length ≤ 1000000) : Is (norm (ofM l)) l := by
  have hp := ofM_pos l
  have he := ofM_exp l
  have hln : len (ofM l) ≤ 1000000 := by rw [len_exp hp, he]; omega
  have ht := told_rc hp hln
  rw [he, if_neg (by omega)] at ht
  have h1 := is_told hp (fun m hm => h m (by rwa [he] at hm)) ht
  rw [he] at h1
  have h2 := valE_told hp (fun m hm => h m (by rwa [he] at hm)) ht
  rw [h2.2] at h1
  exact h1
end Bd
end Go.Proofs.Ytabfcnfddemblaa
