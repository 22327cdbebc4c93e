/- Offers in the order in which they are preferred: plain, and how a row of them is sorted. The offers of a table in the order in which they are preferred: the program's. The offers of a table in the order in which they are preferred: sorted. -/
import Derived.Test.YtbmjjmpdlmbehaaRoll32
import Derived.Test.YtbmjjmpdlmbehaaShelf
import Derived.Sort.OwnSorted
import Derived.Laws.CopyOwn
import Derived.Laws.MakeOwn
namespace Go.Proofs.Ytbmjjmpdlmbehaa
open Go.RowKit
open Go.Sort hiding Below

/-- An offer: an article, its number, and where its spans lie. -/
structure Ro.O where
  a : Ro.A
  n : Int
  ua : Option Addr
  un : Nat
  uc : Nat
instance : Inhabited Ro.O := ⟨⟨default, 0, none, 0, 0⟩⟩
namespace Ro
def O.u (o : O) : Value := .slice o.ua o.un o.uc
def encO (o : O) : List Value := offC o.a o.n o.u
def cfO (x y : O) : Int := if Lib.compareInt y.a.p x.a.p ≠ 0 then Lib.compareInt y.a.p x.a.p else Lib.compareInt x.n y.n
theorem encO_len (o : O) : (encO o).length = 8 := rfl
theorem encO_one (o : O) : ∀ v ∈ encO o, v.oneCell' = true := by
  intro v hv
  simp only [encO, offC, List.mem_cons, List.not_mem_nil, or_false] at hv
  rcases hv with rfl | rfl | rfl | rfl | rfl | rfl | rfl | rfl <;> rfl
theorem ltO {x y : O} : ltOf cfO x y = true ↔ y.a.p < x.a.p ∨ (y.a.p = x.a.p ∧ x.n < y.n) := by
  unfold ltOf cfO Lib.compareInt
  rw [decide_eq_true_eq]
  split <;> split <;> (try split) <;> (try split) <;> omega
theorem ltO_no {x y : O} : ltOf cfO x y = false ↔ ¬ (y.a.p < x.a.p ∨ (y.a.p = x.a.p ∧ x.n < y.n)) := by
  rw [← ltO, Bool.not_eq_true]
theorem swoO : Sort.SWO (ltOf cfO) where
  irrefl x := ltO_no.2 (by omega)
  trans x y z h1 h2 := by rw [ltO] at *; omega
  ntrans x y z h1 h2 := by rw [ltO_no] at *; omega
/-- The first offer with a property. -/
def fnd (Q : A → Bool) : List O → Int
  | [] => -1
  | o :: r => if Q o.a = true then o.n else fnd Q r
/-- The offers of these articles, in the order in which they are preferred. -/
structure Rkd (al : List A) (L : List O) : Prop where
  num : ∀ o ∈ L, 0 ≤ o.n ∧ o.n < al.length ∧ o.a = art al o.n
  all : ∀ m : Nat, m < al.length → ∃ o ∈ L, o.n = m
  asc : L.Pairwise fun x y => ltOf cfO y x = false
  len : L.length = al.length
theorem fnd_pk {Q : A → Bool} {al : List A} {L : List O} (h : Rkd al L) : fnd Q L = pk Q al al.length := by
  refine isPk_one (Q := Q) (al := al) ?_ (pk_is Q al)
  have key : ∀ R : List O, (∀ o ∈ R, o ∈ L) → R.Pairwise (fun x y => ltOf cfO y x = false) → (fnd Q R = -1 ∧ ∀ o ∈ R, Q o.a = false) ∨ ∃ o ∈ R, fnd Q R = o.n ∧ Q o.a = true ∧ ∀ x ∈ R, Q x.a = true → ltOf cfO x o = false := by
    intro R
    induction R with
    | nil => exact fun _ _ => .inl ⟨rfl, fun o ho => by cases ho⟩
    | cons o r ih =>
      intro hm hp
      obtain ⟨p1, p2⟩ := List.pairwise_cons.1 hp
      cases hq : Q o.a with
      | true =>
        refine .inr ⟨o, by simp, by unfold fnd; rw [if_pos hq], hq, fun x hx hxq => ?_⟩
        rcases List.mem_cons.1 hx with rfl | hx
        · exact swoO.irrefl _
        · exact p1 x hx
      | false =>
        have e : fnd Q (o :: r) = fnd Q r := by show (if Q o.a = true then o.n else fnd Q r) = _; rw [hq]; rfl
        rw [e]
        rcases ih (fun x hx => hm x (by simp [hx])) p2 with ⟨i1, i2⟩ | ⟨x, i1, i2, i3, i4⟩
        · refine .inl ⟨i1, fun x hx => ?_⟩
          rcases List.mem_cons.1 hx with rfl | hx
          · exact hq
          · exact i2 x hx
        · refine .inr ⟨x, by simp [i1], i2, i3, fun y hy hyq => ?_⟩
          rcases List.mem_cons.1 hy with rfl | hy
          · rw [hq] at hyq; cases hyq
          · exact i4 y hy hyq
  rcases key L (fun o ho => ho) h.asc with ⟨i1, i2⟩ | ⟨o, i1, i2, i3, i4⟩
  · refine .inl ⟨i1, fun m hm => ?_⟩
    obtain ⟨x, hx, e⟩ := h.all m hm
    have := i2 x hx
    rwa [(h.num x hx).2.2, e] at this
  · obtain ⟨n1, n2, n3⟩ := h.num o i1
    refine .inr ⟨by omega, by omega, by rw [i2, ← n3]; exact i3, fun m hm hq => ?_⟩
    obtain ⟨x, hx, e⟩ := h.all m hm
    have hxa := (h.num x hx).2.2
    rw [e] at hxa
    have h1 := ltO_no.1 (i4 x hx (by rw [hxa]; exact hq))
    rw [hxa, n3] at h1
    rw [i2]
    omega
end Ro
theorem flat_at {f : Ro.O → List Value} (hf : ∀ x, (f x).length = 8) : ∀ (l : List Ro.O) (k j : Nat), k < l.length → j < 8 → (l.flatMap f)[k * 8 + j]? = (f (l.getD k default))[j]?
  | o :: r, 0, j, _, hj => by
    rw [List.flatMap_cons, Nat.zero_mul, Nat.zero_add, List.getElem?_append_left (by rw [hf]; exact hj)]; rfl
  | o :: r, k + 1, j, hk, hj => by
    rw [List.flatMap_cons, List.getElem?_append_right (by rw [hf]; omega), hf, show (k + 1) * 8 + j - 8 = k * 8 + j by omega, flat_at hf r k j (by simpa using hk) hj]; rfl
theorem flat_len8 {f : Ro.O → List Value} (hf : ∀ x, (f x).length = 8) : ∀ l : List Ro.O, (l.flatMap f).length = l.length * 8
  | [] => rfl
  | o :: r => by rw [List.flatMap_cons, List.length_append, hf, flat_len8 hf r, List.length_cons]; omega
/-- A block that holds offers. -/
theorem holds_offs {W : World} {g : Nat} {e : TypeId} {L : List Ro.O} (h : W.heap[g]? = some (.cells (L.flatMap Ro.encO).toArray e (0, 0))) : HoldsK Ro.encO 8 W g 0 L.toArray := by
  intro j hj
  rw [size_flatK] at hj
  have hj' : j < L.length * 8 := by simpa using hj
  have hjl : j < (L.flatMap Ro.encO).length := by rw [flat_len8 Ro.encO_len]; exact hj'
  refine ⟨?_, by simp [World.frozen?, h]⟩
  rw [get_flatK _ _ _ _ hj]
  have h1 := flat_at Ro.encO_len L (j / 8) (j % 8) (by omega) (by omega)
  rw [show j / 8 * 8 + j % 8 = j by omega] at h1
  have h2 : (L.toArray[j / 8]! : Ro.O) = L.getD (j / 8) default := by
    have : j / 8 < L.length := by omega
    simp [this]
  rw [h2]
  have h3 : ((Ro.encO (L.getD (j / 8) default))[j % 8]? : Option Value) = some ((Ro.encO (L.getD (j / 8) default))[j % 8]!) := by
    have : j % 8 < (Ro.encO (L.getD (j / 8) default)).length := by rw [Ro.encO_len]; omega
    rw [List.getElem?_eq_getElem this, getElem!_pos (Ro.encO (L.getD (j / 8) default)) (j % 8) this]
  rw [List.getElem?_eq_getElem hjl] at h1
  simp only [World.cell?, h, Nat.zero_add]
  simp only [Option.isSome_none, Bool.false_eq_true, if_false, id]
  rw [List.getElem?_toArray, List.getElem?_eq_getElem hjl, h1, h3]
theorem grownO {W : World} {g n : Nat} {os : Array Obj} (d : Array Ro.O) : W.grownBy (sortWorldK Ro.encO 8 W g 0 n d os) (some g) := by
  refine ⟨rfl, rfl, rfl, by simp [sortWorldK, putRowK], fun k hk hne => ?_⟩
  unfold sortWorldK putRowK
  rw [heap_grow_old _ _ (by simpa using hk)]
  have : g ≠ k := fun e => hne (by rw [e])
  simp [putRow, mapBlock, ahead, Array.getElem?_modify, this]
theorem run_copy8 {P : Program} (w : World) (dT sT ty elem : TypeId) (g dLen dCap : Nat) (a : Addr) (sLen sCap : Nat) (cur : Array Value) (t : TypeId) (cs : List Value)
    (hu : P.underlying dT = some (.slice elem)) (hs : (P.info? elem).map (·.size) = some 8)
    (hg : w.heap[g]? = some (.cells cur t (0, 0))) (hn : cs.length = Nat.min sLen dLen * 8)
    (hsrc : ∀ j v, cs[j]? = some v → w.cell? (a.add j) = some v) (hfit : cs.length = cur.size) (h1 : ∀ v ∈ cs, v.oneCell' = true) :
    (Builtin.copy_ #[dT, sT] ty #[.slice (some ⟨g, 0, none⟩) dLen dCap, .slice (some a) sLen sCap]).run P w = .ok (goInt (Nat.min sLen dLen)) (w.setRow g cs.toArray) := by
  have hl := run_loadCells_list (P := P) w a cs hsrc
  have hst := run_storeCells_at P g 0 t cs 0 cur w hg (by omega) h1
  have e : (cur.toList.take (0 + 0) ++ cs ++ cur.toList.drop (0 + 0 + cs.length)).toArray = cs.toArray := by
    have : cur.toList.length = cs.length := by rw [hfit]; simp
    simp [List.drop_eq_nil_of_le (Nat.le_of_eq this)]
  rw [e] at hst
  rw [hn] at hl
  cases hq : P.info? elem with
  | none => simp [hq] at hs
  | some i =>
    have hi : i.size = 8 := by simpa [hq] using hs
    simp [Builtin.copy_, run_underlying hu, Builtin.lenOf, Builtin.firstCells, sizeOf, typeInfo, hq, hi, hl, hst]
end Go.Proofs.Ytbmjjmpdlmbehaa
namespace Go.Proofs.Ytbmjjmpdlmbehaa
open Go.RowKit
open Go.Sort hiding Below

set_option maxRecDepth 20000 in
theorem cmpOr_any (a b : Int) (B : Nat) (w : World) (h0 : w.cell? ⟨B, 0, none⟩ = some (.int .i64 a)) (h1 : w.cell? ⟨B, 1, none⟩ = some (.int .i64 b)) :
    Calls Try.prog 76 #[.slice (some ⟨B, 0, none⟩) 2 2] w fun e w' => e = .returned (.int .i64 (if a ≠ 0 then a else b)) ∧ w' = w := by
  go_enter Try.func76, Try.ntmps76
  go_wp2
  go_loop [8] (fun t => ∃ k : Nat, (k = 0 ∨ (k = 1 ∧ a = 0) ∨ (k = 2 ∧ a = 0 ∧ b = 0)) ∧ t = .int .i64 k) (fun t => (2 - intOf t).toNat)
  case atStart => exact ⟨0, .inl rfl, rfl⟩
  case round =>
    obtain ⟨k, hk, rfl⟩ := hrel
    rcases hk with rfl | ⟨rfl, rfl⟩ | ⟨rfl, rfl, rfl⟩
    · by_cases ha : a = 0
      · subst ha
        go_wp2
        go_round
        case rel => exact ⟨1, by simp, by go_num⟩
        case measure => simp [intOf]
      · have d1 : (a == 0) = false := beq_eq_false_iff_ne.2 ha
        have d2 : (a != 0) = true := by rw [bne, d1]; rfl
        go_wp2
        go_ret
        first | exact ⟨rfl, rfl⟩ | exact ⟨congrArg (fun z => Ending.returned (Value.int .i64 z)) (if_pos ha).symm, rfl⟩
    · by_cases hb : b = 0
      · subst hb
        go_wp2
        go_round
        case rel => exact ⟨2, by simp, by go_num⟩
        case measure => simp [intOf]
      · have d1 : (b == 0) = false := beq_eq_false_iff_ne.2 hb
        have d2 : (b != 0) = true := by rw [bne, d1]; rfl
        go_wp2
        go_ret
        exact ⟨congrArg (fun z => Ending.returned (Value.int .i64 z)) (show b = (if (0 : Int) ≠ 0 then 0 else b) by simp), rfl⟩
    · go_wp2
      go_ret
      exact ⟨congrArg (fun z => Ending.returned (Value.int .i64 z)) (show (0 : Int) = (if (0 : Int) ≠ 0 then 0 else 0) by simp), rfl⟩
set_option maxRecDepth 20000 in
set_option maxHeartbeats 2000000 in
theorem compareO_any (x y : Ro.O) (w : World) : Calls Try.prog 55 #[.agg (Ro.encO x).toArray, .agg (Ro.encO y).toArray] w fun e w' => e = .returned (.int .i64 (Ro.cfO x y)) ∧ ∃ q os', w' = grow (w.drewN q) os' := by
  have C1 := fun W => Try.cmp_Compare_int y.a.p x.a.p W
  have C2 := fun W => Try.cmp_Compare_int x.n y.n W
  unfold Ro.cfO
  generalize Lib.compareInt y.a.p x.a.p = c1 at *
  generalize Lib.compareInt x.n y.n = c2 at *
  have CO := Lib.hid (fun B W h0 h1 => cmpOr_any c1 c2 B W h0 h1)
  generalize (if c1 ≠ 0 then c1 else c2) = R at *
  obtain ⟨⟨xl, xla, xmo, xsh, xfl, xp⟩, xn, xua, xun, xuc⟩ := x
  obtain ⟨⟨yl, yla, ymo, ysh, yfl, yp⟩, yn, yua, yun, yuc⟩ := y
  dsimp only at C1 C2
  change Calls Try.prog 55 #[.agg #[.int .i64 xl, .int .i64 xla, .int .i64 xmo, .int .i64 xsh, .int .i64 xfl, .int .i64 xp, .int .i64 xn, .slice xua xun xuc], .agg #[.int .i64 yl, .int .i64 yla, .int .i64 ymo, .int .i64 ysh, .int .i64 yfl, .int .i64 yp, .int .i64 yn, .slice yua yun yuc]] w _
  have B1 := BlockAt.new w #[.int .i64 xl, .int .i64 xla, .int .i64 xmo, .int .i64 xsh, .int .i64 xfl, .int .i64 xp, .int .i64 xn, .slice xua xun xuc] 87
  have B1 := B1.alloc (.cells #[.int .i64 yl, .int .i64 yla, .int .i64 ymo, .int .i64 ysh, .int .i64 yfl, .int .i64 yp, .int .i64 yn, .slice yua yun yuc] 87)
  have B2 := BlockAt.new (w.alloc (.cells #[.int .i64 xl, .int .i64 xla, .int .i64 xmo, .int .i64 xsh, .int .i64 xfl, .int .i64 xp, .int .i64 xn, .slice xua xun xuc] 87)) #[.int .i64 yl, .int .i64 yla, .int .i64 ymo, .int .i64 ysh, .int .i64 yfl, .int .i64 yp, .int .i64 yn, .slice yua yun yuc] 87
  have hs1 : (w.alloc (.cells #[.int .i64 xl, .int .i64 xla, .int .i64 xmo, .int .i64 xsh, .int .i64 xfl, .int .i64 xp, .int .i64 xn, .slice xua xun xuc] 87)).heap.size = w.heap.size + 1 := by simp
  rw [hs1] at B2
  obtain ⟨W2, hW2⟩ : ∃ Z, ((w.alloc (.cells #[.int .i64 xl, .int .i64 xla, .int .i64 xmo, .int .i64 xsh, .int .i64 xfl, .int .i64 xp, .int .i64 xn, .slice xua xun xuc] 87)).alloc (.cells #[.int .i64 yl, .int .i64 yla, .int .i64 ymo, .int .i64 ysh, .int .i64 yfl, .int .i64 yp, .int .i64 yn, .slice yua yun yuc] 87)) = Z := ⟨_, rfl⟩
  have HW2 := Lib.hid hW2
  rw [hW2] at B1 B2
  have HS := Lib.hid (show (fun W => W.cell? ⟨w.heap.size + 1, 5, none⟩ = some (.int .i64 yp) ∧ W.cell? ⟨w.heap.size, 5, none⟩ = some (.int .i64 xp) ∧ W.cell? ⟨w.heap.size, 6, none⟩ = some (.int .i64 xn) ∧ W.cell? ⟨w.heap.size + 1, 6, none⟩ = some (.int .i64 yn)) W2.drew from ⟨B2.cell 5, B1.cell 5, B1.cell 6, B2.cell 6⟩)
  have HSZ := Lib.hid (show W2.heap.size = w.heap.size + 2 by rw [← hW2]; simp)
  clear B1 B2 hs1 hW2
  go_enter Try.func55, Try.ntmps55
  go_wp2_with fail
  rw [show ((w.alloc (.cells #[.int .i64 xl, .int .i64 xla, .int .i64 xmo, .int .i64 xsh, .int .i64 xfl, .int .i64 xp, .int .i64 xn, .slice xua xun xuc] 87)).alloc (.cells #[.int .i64 yl, .int .i64 yla, .int .i64 ymo, .int .i64 ysh, .int .i64 yfl, .int .i64 yp, .int .i64 yn, .slice yua yun yuc] 87)) = W2 from HW2.out]
  refine wp_region_seq [(0, true), (1, true), (2, true), (3, true), (4, true), (5, true), (7, true), (8, true), (9, true), (10, true), (6, false), (11, false), (12, false), (13, false), (14, true)] (fun W => W.cell? ⟨w.heap.size + 1, 5, none⟩ = some (.int .i64 yp) ∧ W.cell? ⟨w.heap.size, 5, none⟩ = some (.int .i64 xp) ∧ W.cell? ⟨w.heap.size, 6, none⟩ = some (.int .i64 xn) ∧ W.cell? ⟨w.heap.size + 1, 6, none⟩ = some (.int .i64 yn))
    (by kernel_rfl) (by kernel_rfl) (by kernel_rfl) (by kernel_rfl) (fun d _ _ _ _ h => by cases d <;> exact h) HS.out (fun _ => ?_)
  repeat (first | (refine SeqH.take (v := ?_) rfl (by rfl) ?_ ?_; rotate_left; (· intro w hSw; (try dsimp only at hSw); obtain ⟨q0, q1, q2, q3⟩ := hSw; go_simp; (try with_reducible rfl)); simp only [Act.put, List.setIfInBounds_toArray, List.set_cons_zero, List.set_cons_succ]) | (refine SeqH.skip rfl (by rfl) ?_; simp only [Act.put, List.setIfInBounds_toArray, List.set_cons_zero, List.set_cons_succ]))
  refine SeqH.step rfl (by rfl) (fun K hK => ?_)
  go_simp
  go_at_call 77
  refine (C1 _).mono ?_
  rintro e w7 ⟨rfl, rfl⟩
  try dsimp only
  refine hK.out _ _ HS.out (fun _ => ?_)
  clear hK K
  try simp only [Act.put, List.setIfInBounds_toArray, List.set_cons_zero, List.set_cons_succ]
  repeat (first | (refine SeqH.take (v := ?_) rfl (by rfl) ?_ ?_; rotate_left; (· intro w hSw; (try dsimp only at hSw); obtain ⟨q0, q1, q2, q3⟩ := hSw; go_simp; (try with_reducible rfl)); simp only [Act.put, List.setIfInBounds_toArray, List.set_cons_zero, List.set_cons_succ]) | (refine SeqH.skip rfl (by rfl) ?_; simp only [Act.put, List.setIfInBounds_toArray, List.set_cons_zero, List.set_cons_succ]))
  refine SeqH.step rfl (by rfl) (fun K hK => ?_)
  go_simp
  go_at_call 77
  refine (C2 _).mono ?_
  rintro e w7 ⟨rfl, rfl⟩
  try dsimp only
  refine hK.out _ _ HS.out (fun _ => ?_)
  clear hK K
  try simp only [Act.put, List.setIfInBounds_toArray, List.set_cons_zero, List.set_cons_succ]
  repeat (first | (refine SeqH.take (v := ?_) rfl (by rfl) ?_ ?_; rotate_left; (· intro w hSw; (try dsimp only at hSw); obtain ⟨q0, q1, q2, q3⟩ := hSw; go_simp; (try with_reducible rfl)); simp only [Act.put, List.setIfInBounds_toArray, List.set_cons_zero, List.set_cons_succ]) | (refine SeqH.skip rfl (by rfl) ?_; simp only [Act.put, List.setIfInBounds_toArray, List.set_cons_zero, List.set_cons_succ]))
  refine SeqH.step rfl (by rfl) (fun K hK => ?_)
  go_simp
  obtain ⟨X, hX⟩ : ∃ Z, (W2.alloc (.cells #[.int .i64 c1, .int .i64 c2] 3)).drew = Z := ⟨_, rfl⟩
  have hb : BlockAt (W2.alloc (.cells #[.int .i64 c1, .int .i64 c2] 3)).drew W2.heap.size #[.int .i64 c1, .int .i64 c2] 3 := BlockAt.new W2 #[.int .i64 c1, .int .i64 c2] 3
  rw [hX] at hb
  have HB := Lib.hid hb
  have hbl := below_drewN (below_alloc2 (Below.refl W2.heap.size W2) (.cells #[.int .i64 c1, .int .i64 c2] 3)) 1
  change Below W2.heap.size W2 (W2.alloc (.cells #[.int .i64 c1, .int .i64 c2] 3)).drew at hbl
  rw [hX] at hbl
  have HSX := Lib.hid (show (fun W => W.cell? ⟨w.heap.size + 1, 5, none⟩ = some (.int .i64 yp) ∧ W.cell? ⟨w.heap.size, 5, none⟩ = some (.int .i64 xp) ∧ W.cell? ⟨w.heap.size, 6, none⟩ = some (.int .i64 xn) ∧ W.cell? ⟨w.heap.size + 1, 6, none⟩ = some (.int .i64 yn)) X from by
    have hz : W2.heap.size = w.heap.size + 2 := HSZ.out
    obtain ⟨s0, s1, s2, s3⟩ := HS.out
    exact ⟨(hbl.cell (p := ⟨w.heap.size + 1, 5, none⟩) (by rw [hz]; dsimp only; omega)).trans s0, (hbl.cell (p := ⟨w.heap.size, 5, none⟩) (by rw [hz]; dsimp only; omega)).trans s1, (hbl.cell (p := ⟨w.heap.size, 6, none⟩) (by rw [hz]; dsimp only; omega)).trans s2, (hbl.cell (p := ⟨w.heap.size + 1, 6, none⟩) (by rw [hz]; dsimp only; omega)).trans s3⟩)
  have HX := Lib.hid hX
  rw [hX]
  try dsimp only
  refine hK.out _ _ HSX.out (fun _ => ?_)
  clear hK K hX hb hbl
  try simp only [Act.put, List.setIfInBounds_toArray, List.set_cons_zero, List.set_cons_succ]
  refine SeqH.step rfl (by rfl) (fun K hK => ?_)
  go_simp
  go_at_call 76
  refine (CO.out _ X (HB.out.cell 0) (HB.out.cell 1)).mono ?_
  rintro e w7 ⟨rfl, rfl⟩
  try dsimp only
  refine hK.out _ _ HSX.out (fun _ => ?_)
  clear hK K
  try simp only [Act.put, List.setIfInBounds_toArray, List.set_cons_zero, List.set_cons_succ]
  repeat (first | (refine SeqH.take (v := ?_) rfl (by rfl) ?_ ?_; rotate_left; (· intro w hSw; (try dsimp only at hSw); obtain ⟨q0, q1, q2, q3⟩ := hSw; go_simp; (try with_reducible rfl)); simp only [Act.put, List.setIfInBounds_toArray, List.set_cons_zero, List.set_cons_succ]) | (refine SeqH.skip rfl (by rfl) ?_; simp only [Act.put, List.setIfInBounds_toArray, List.set_cons_zero, List.set_cons_succ]))
  refine SeqH.done ?_
  go_wp2
  go_ret
  refine ⟨rfl, 1, #[.cells #[.int .i64 xl, .int .i64 xla, .int .i64 xmo, .int .i64 xsh, .int .i64 xfl, .int .i64 xp, .int .i64 xn, .slice xua xun xuc] 87, .cells #[.int .i64 yl, .int .i64 yla, .int .i64 ymo, .int .i64 ysh, .int .i64 yfl, .int .i64 yp, .int .i64 yn, .slice yua yun yuc] 87, .cells #[.int .i64 c1, .int .i64 c2] 3], ?_⟩
  rw [← HX.out, ← HW2.out, alloc_eq_grow, alloc_eq_grow, alloc_eq_grow, grow_grow, grow_grow]
  rfl
end Go.Proofs.Ytbmjjmpdlmbehaa
namespace Go.Proofs.Ytbmjjmpdlmbehaa
open Go.RowKit
open Go.Sort hiding Below

theorem sortO_any (L0 : List Ro.O) (g cap : Nat) (e : TypeId) (W : World) (hg : W.heap[g]? = some (.cells (L0.flatMap Ro.encO).toArray e (0, 0))) (h12 : L0.length ≤ 12) :
    Calls Try.prog 54 #[.slice (some ⟨g, 0, none⟩) L0.length cap, .func (.func 55) #[] #[]] W fun e w' => e = .returned (.tuple #[]) ∧ ∃ L : List Ro.O, L.Perm L0 ∧ L.Pairwise (fun x y => ltOf Ro.cfO y x = false) ∧ W.grownBy w' (some g) ∧ W.heap.size ≤ w'.heap.size ∧ ∀ k (hk : k < L.length) j u, (Ro.encO L[k])[j]? = some u → w'.cell? ⟨g, k * 8 + j, none⟩ = some u := by
  have eg : ∀ args w, (callFunc 55 args).run Try.prog w = .ok (.enter 55 args) w := Go.Proofs.enters_of Try.func55 (by kernel_rfl) rfl
  have hlen : ∀ (n : Nat) (W : World), n ≤ 12 → Calls Try.prog 75 #[.int .u64 n] W fun e w' => (∃ l : Int, e = .returned (.int .i64 l)) ∧ w' = W := fun n W h => (Try.bits_Len n W (by omega) (by omega)).mono fun _ _ ⟨he, hw⟩ => ⟨⟨_, he⟩, hw⟩
  have hlt : g < W.heap.size := (Array.getElem?_eq_some_iff.1 hg).1
  have hH := holds_offs hg
  have hcon := AnyQ.slices_SortFunc_small_sorted Try.laysSort 8 Try.isAgg87 Try.sizeOf87 Ro.encO Ro.encO_len Ro.encO_one Ro.cfO 55 #[] Ro.swoO g 0 cap L0.toArray W eg (fun _ _ _ _ x y => compareO_any x y _) hH hlt (by simpa using h12) hlen
  change Calls Try.prog 54 _ _ _ at hcon
  refine hcon.mono ?_
  rintro e w' ⟨rfl, d', n, os, ⟨p1, _, p3⟩, hs, rfl⟩
  have hsz : d'.size = L0.length := by simpa using p1
  refine ⟨rfl, d'.toList, ?_, ?_, grownO d', (grownO (n := n) (os := os) (g := g) d').size, fun k hk j u hu => ?_⟩
  · have e1 : d'.extract 0 L0.toArray.size = d' := by rw [← p1]; simp
    have e2 : L0.toArray.extract 0 L0.toArray.size = L0.toArray := by simp
    rw [e1, e2] at p3
    exact p3
  · rw [List.pairwise_iff_getElem]
    intro i j hi hj hij
    have hi' : i < d'.size := by simpa using hi
    have hj' : j < d'.size := by simpa using hj
    have h1 := hs i j (Nat.zero_le _) hij (by simpa using (show j < L0.length by omega))
    rw [getElem!_pos d' i hi', getElem!_pos d' j hj'] at h1
    simpa using h1
  · have hk' : k < d'.size := by simpa using hk
    have hj8 : j < 8 := by have := (List.getElem?_eq_some_iff.1 hu).1; rwa [Ro.encO_len] at this
    have hH2 : HoldsK Ro.encO 8 (sortWorldK Ro.encO 8 W g 0 n d' os) g 0 d' :=
      holdsK_grow Ro.encO 8 (putRowK Ro.encO 8 (Go.Sort.ahead W n) g 0 d') os g 0 d' (by simpa [putRowK, putRow, mapBlock, Go.Sort.ahead] using hlt) (holdsK_putRowK Ro.encO 8 (Go.Sort.ahead W n) g 0 L0.toArray d' (holdsK_ahead Ro.encO 8 W n g 0 _ hH) (by simpa using hsz))
    have h1 := (hH2.cell hk' hj8).1
    rw [Nat.zero_add] at h1
    rw [h1, getElem!_pos d' k hk']
    have h2 : d'.toList[k] = d'[k] := by simp
    rw [h2] at hu
    rw [getElem!_pos (Ro.encO d'[k]) j (by rw [Ro.encO_len]; exact hj8)]
    rw [← hu, List.getElem?_eq_getElem]
/-- The offers of articles with their spans' places. -/
def mkO : List Ro.A → List Value → Int → List Ro.O
  | a :: al, .slice p q r :: us, n => ⟨a, n, p, q, r⟩ :: mkO al us (n + 1)
  | a :: al, _ :: us, n => ⟨a, n, none, 0, 0⟩ :: mkO al us (n + 1)
  | _, _, _ => []
theorem mkO_ok : ∀ (al : List Ro.A) (us : List Value) (n : Int), us.length = al.length → (∀ k, k < al.length → ∃ p q r, us[k]? = some (.slice p q r)) →
    (mkO al us n).flatMap Ro.encO = offsC al us n ∧ (mkO al us n).length = al.length ∧ ∀ k (hk : k < (mkO al us n).length), al[k]? = some (mkO al us n)[k].a ∧ (mkO al us n)[k].n = n + k ∧ us[k]? = some (mkO al us n)[k].u
  | [], [], n, _, _ => ⟨rfl, rfl, fun k hk => by simp [mkO] at hk⟩
  | a :: al, u :: us, n, h, hs => by
    obtain ⟨p, q, r, hu⟩ := hs 0 (by simp)
    have hu' : u = .slice p q r := by simpa using hu
    subst hu'
    obtain ⟨i1, i2, i3⟩ := mkO_ok al us (n + 1) (by simpa using h) (fun k hk => by simpa using hs (k + 1) (by simpa using hk))
    have e : mkO (a :: al) (.slice p q r :: us) n = ⟨a, n, p, q, r⟩ :: mkO al us (n + 1) := by rw [mkO]
    rw [e]
    refine ⟨by rw [List.flatMap_cons, i1]; rfl, by simp [i2], fun k hk => ?_⟩
    cases k with
    | zero => exact ⟨rfl, by simp, rfl⟩
    | succ k =>
      obtain ⟨j1, j2, j3⟩ := i3 k (by simpa using hk)
      refine ⟨by simpa using j1, ?_, by simpa using j3⟩
      show ((mkO al us (n + 1))[k]'(by simpa using hk)).n = _
      rw [j2]; omega
  | [], _ :: _, _, h, _ => by simp at h
  | _ :: _, [], _, h, _ => by simp at h
theorem mkO_rkd {al : List Ro.A} {us : List Value} (h : us.length = al.length) (hs : ∀ k, k < al.length → ∃ p q r, us[k]? = some (.slice p q r)) {L : List Ro.O} (hp : L.Perm (mkO al us 0)) (ha : L.Pairwise fun x y => ltOf Ro.cfO y x = false) : Ro.Rkd al L := by
  obtain ⟨i1, i2, i3⟩ := mkO_ok al us 0 h hs
  refine ⟨fun o ho => ?_, fun m hm => ?_, ha, by rw [hp.length_eq, i2]⟩
  · obtain ⟨k, hk, rfl⟩ := List.mem_iff_getElem.1 (hp.mem_iff.1 ho)
    obtain ⟨j1, j2, _⟩ := i3 k hk
    rw [i2] at hk
    refine ⟨by omega, by omega, ?_⟩
    unfold Ro.art
    rw [j2, show ((0 : Int) + (k : Int)).toNat = k by omega, List.getD_eq_getElem?_getD, j1]; rfl
  · have hk : m < (mkO al us 0).length := by rw [i2]; exact hm
    exact ⟨(mkO al us 0)[m], hp.mem_iff.2 (List.getElem_mem hk), by rw [(i3 m hk).2.1]; omega⟩
theorem mkO_mem {al : List Ro.A} {us : List Value} (h : us.length = al.length) (hs : ∀ k, k < al.length → ∃ p q r, us[k]? = some (.slice p q r)) {o : Ro.O} (ho : o ∈ mkO al us 0) : ∃ k, ∃ hk : k < al.length, o.a = al[k] ∧ us[k]? = some o.u := by
  obtain ⟨i1, i2, i3⟩ := mkO_ok al us 0 h hs
  obtain ⟨k, hk, rfl⟩ := List.mem_iff_getElem.1 ho
  obtain ⟨j1, _, j3⟩ := i3 k hk
  rw [i2] at hk
  refine ⟨k, hk, ?_, j3⟩
  rw [List.getElem?_eq_getElem hk] at j1
  exact (Option.some.inj j1).symm
set_option maxRecDepth 20000 in
set_option maxHeartbeats 4000000 in
theorem ranked_any (bv ov : Value) (n : Int) (rs : List Bd.R) (al : List Ro.A) (us : List Value) (base : Nat) (w : World) (ho : OwnO base w ov rs al us) (h5 : al.length ≤ 5) :
    Calls Try.prog 30 #[tabV bv n ov] w fun e w' => ∃ (g : Nat) (L : List Ro.O), e = .returned (.slice (some ⟨g, 0, none⟩) al.length al.length) ∧ Ro.Rkd al L ∧ Below w.heap.size w w' ∧ g < w'.heap.size ∧ (∀ k (hk : k < L.length) j u, (Ro.encO L[k])[j]? = some u → w'.cell? ⟨g, k * 8 + j, none⟩ = some u) ∧ ∀ o ∈ L, Spns w' o.u (spaA rs o.a) := by
  obtain ⟨oa, oc, rfl⟩ := ho.form
  obtain ⟨hul, hrow, husp⟩ := ho
  have hs : ∀ k, k < al.length → ∃ p q r, us[k]? = some (.slice p q r) := fun k hk => by
    obtain ⟨u, h1, h2⟩ := husp k hk
    obtain ⟨a, c, e, _⟩ := h2.spns
    exact ⟨a, _, c, by rw [h1, e]⟩
  obtain ⟨i1, i2, _⟩ := mkO_ok al us 0 hul hs
  have HRK : Hid (∀ L : List Ro.O, L.Perm (mkO al us 0) → L.Pairwise (fun x y => ltOf Ro.cfO y x = false) → Ro.Rkd al L) := Lib.hid (fun L hp ha => mkO_rkd hul hs hp ha)
  have HSP : Hid (∀ o ∈ mkO al us 0, Spns w o.u (spaA rs o.a)) := Lib.hid (fun o hm => by
    obtain ⟨k, hk, e1, e2⟩ := mkO_mem hul hs hm
    obtain ⟨u, h1, h2⟩ := husp k hk
    rw [e2] at h1
    injection h1 with h1
    rw [e1, h1]
    exact h2.spns)
  have hmk : ∀ W : World, (Instr.makeSlice 79 (.int .i64 (al.length : Int)) (.int .i64 (al.length : Int))).run Try.prog W = .ok (.slice (some ⟨W.heap.size, 0, none⟩) al.length al.length) (W.alloc (.cells (madeCells #[.int .i64 0, .int .i64 0, .int .i64 0, .int .i64 0, .int .i64 0, .int .i64 0, .int .i64 0, .slice none 0 0] (al.length * 8)) 87)) := by
    intro W
    obtain ⟨i0, hi, hz0, hz1, hz2⟩ := info_ofR infoOff
    have := run_makeSlice (P := Try.prog) (w := W) 79 87 i0 zOff Try.underlying79 hi hz0 .i64 .i64 (al.length : Int) (al.length : Int) (by omega) (by omega) (by rw [hz1]; omega) (by rw [hz2]; omega) (by omega)
    rw [this, hz1, show ((al.length : Int)).toNat = al.length by omega]
    rfl
  obtain ⟨W1, hW1⟩ : ∃ Z, ((w.alloc (.cells #[bv, .int .i64 n, .slice oa al.length oc] TabT)).alloc (.cells (madeCells #[.int .i64 0, .int .i64 0, .int .i64 0, .int .i64 0, .int .i64 0, .int .i64 0, .int .i64 0, .slice none 0 0] (al.length * 8)) 87)) = Z := ⟨_, rfl⟩
  have hg1 : W1.heap[w.heap.size + 1]? = some (.cells (madeCells #[.int .i64 0, .int .i64 0, .int .i64 0, .int .i64 0, .int .i64 0, .int .i64 0, .int .i64 0, .slice none 0 0] (al.length * 8)) 87 (0, 0)) := by
    have h1 : BlockAt ((w.alloc (.cells #[bv, .int .i64 n, .slice oa al.length oc] TabT)).alloc (.cells (madeCells #[.int .i64 0, .int .i64 0, .int .i64 0, .int .i64 0, .int .i64 0, .int .i64 0, .int .i64 0, .slice none 0 0] (al.length * 8)) 87)) ((w.alloc (.cells #[bv, .int .i64 n, .slice oa al.length oc] TabT)).heap.size) (madeCells #[.int .i64 0, .int .i64 0, .int .i64 0, .int .i64 0, .int .i64 0, .int .i64 0, .int .i64 0, .slice none 0 0] (al.length * 8)) 87 := BlockAt.new _ _ _
    rw [show (w.alloc (.cells #[bv, .int .i64 n, .slice oa al.length oc] TabT)).heap.size = w.heap.size + 1 by simp, hW1] at h1
    exact h1
  have hb1 : Below w.heap.size w W1 := by rw [← hW1]; exact below_alloc2 (below_alloc2 (Below.refl w.heap.size w) _) _
  have hcp : ∃ x W2, (Builtin.copy_ #[79, 79] 3 #[.slice (some ⟨w.heap.size + 1, 0, none⟩) al.length al.length, .slice oa al.length oc]).run Try.prog W1 = .ok x W2 ∧ W2.heap[w.heap.size + 1]? = some (.cells ((mkO al us 0).flatMap Ro.encO).toArray 87 (0, 0)) ∧ Below w.heap.size w W2 := by
    have hinf : (Try.prog.info? 87).map (·.size) = some 8 := by
      obtain ⟨i0, hi, _, hz1, _⟩ := info_ofR infoOff
      rw [hi]; simp [hz1]
    rw [i1]
    rcases id hrow.2 with ⟨h1, h2⟩ | ⟨g, cap, cur, h1, h2, h3, h4, h6, h7, h8⟩
    · have ha : al = [] := List.length_eq_zero_iff.1 h2
      have hu0 : us = [] := List.length_eq_zero_iff.1 (by rw [hul, h2])
      refine ⟨goInt 0, W1, ?_, ?_, hb1⟩
      · rw [h1]
        exact run_copy_nil Try.prog W1 79 79 3 87 ⟨w.heap.size + 1, 0, none⟩ al.length al.length Try.underlying79 (by rw [hinf]; rfl)
      · rw [hg1]
        subst ha hu0
        simp [madeCells, offsC]
    · have hol : (offsC al us 0).length = al.length * 8 := offsC_len hul 0
      have hcells := World.ownsRow.cells hrow (g := g) (by rw [h1]; rfl)
      have hglt : g < w.heap.size := (World.ownsRow.lt hrow g (by rw [h1]; rfl)).2
      refine ⟨goInt (Nat.min al.length al.length), W1.setRow (w.heap.size + 1) (offsC al us 0).toArray, ?_, setRow_heap W1 (w.heap.size + 1) _ _ _ _ hg1, below_setRow hb1 (by omega) _⟩
      rw [h1]
      refine run_copy8 W1 79 79 3 87 (w.heap.size + 1) al.length al.length ⟨g, 0, none⟩ al.length cap _ _ (offsC al us 0) Try.underlying79 hinf hg1 (by rw [hol, show Nat.min al.length al.length = al.length from Nat.min_self _]) (fun j v hj => ?_) (by rw [hol]; simp [size_madeCells]) (fun v hv => ?_)
      · have h9 := hcells j v hj
        have e : (⟨g, 0, none⟩ : Addr).add j = ⟨g, j, none⟩ := by
          unfold Addr.add
          split <;> simp_all
        rw [e] at h9 ⊢
        exact (hb1.cell (p := ⟨g, j, none⟩) hglt).trans h9
      · rw [← i1] at hv
        obtain ⟨o, _, hm⟩ := List.mem_flatMap.1 hv
        exact Ro.encO_one o v hm
  obtain ⟨x, W2, hcr, hg2, hb2⟩ := hcp
  rw [← hW1] at hcr
  have HB2 := Lib.hid hb2
  have CS := Lib.hid (sortO_any (mkO al us 0) (w.heap.size + 1) al.length 87 W2 hg2 (by omega))
  rw [i2] at CS
  have HG2 := Lib.hid (Array.getElem?_eq_some_iff.1 hg2).1
  have HX := Lib.hid (BlockAt.new w #[bv, .int .i64 n, .slice oa al.length oc] TabT)
  clear hul hrow husp hs i1 i2 hg1 hb1 hg2 hb2 hW1
  have x2 : World.cell? _ _ = some (.slice oa al.length oc) := HX.out.cell 2
  have hb3 := (HX.out.alloc (.cells (madeCells #[.int .i64 0, .int .i64 0, .int .i64 0, .int .i64 0, .int .i64 0, .int .i64 0, .int .i64 0, .slice none 0 0] (al.length * 8)) 87))
  have y2 : World.cell? _ _ = some (.slice oa al.length oc) := hb3.cell 2
  clear hb3
  go_enter Try.func30, Try.ntmps30
  go_wp2_with fail
  clear x2 y2 hcr hmk
  refine CS.out.mono ?_
  rintro e w3 ⟨rfl, L, hp, ha, hg, hsz, hc⟩
  have HF := Lib.hid (show Ro.Rkd al L ∧ Below w.heap.size w w3 ∧ w.heap.size + 1 < w3.heap.size ∧ (∀ k (hk : k < L.length) j u, (Ro.encO L[k])[j]? = some u → w3.cell? ⟨w.heap.size + 1, k * 8 + j, none⟩ = some u) ∧ ∀ o ∈ L, Spns w3 o.u (spaA rs o.a) from by
    have hb3 : Below w.heap.size w w3 := HB2.out.grown hg HB2.out.size (fun j e => by injection e with e; omega)
    exact ⟨HRK.out L hp ha, hb3, by have := HG2.out; omega, hc, fun o hm => (HSP.out o (hp.mem_iff.1 hm)).all hb3⟩)
  clear hp ha hg hsz hc HRK HSP CS
  go_wp2
  go_ret
  exact ⟨w.heap.size + 1, L, rfl, HF.out⟩
end Go.Proofs.Ytbmjjmpdlmbehaa
