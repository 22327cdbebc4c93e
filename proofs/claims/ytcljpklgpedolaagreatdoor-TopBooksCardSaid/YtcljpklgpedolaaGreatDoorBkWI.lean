/- The accounts of postings: of the program. The balance of an account: of both sides. The balance of an account: of the reference; Balance of both sides. -/
import Derived.Test.YtcljpklgpedolaaGreatDoorBkQC
import Derived.Test.YtcljpklgpedolaaGreatDoorBkQI
namespace Go.Proofs.YtcljpklgpedolaaGreatDoor
open Go.RowKit Go.Sort

/-- An account of a posting: whether it is the debited one. -/
abbrev Bk.Ac := Bool × Bk.Po
def Bk.acN (a : Bk.Ac) : List UInt8 := if a.1 = true then a.2.1 else a.2.2.1
def Bk.acG (a : Bk.Ac) : Int := if a.1 = true then a.2.2.2 else - a.2.2.2
def Bk.acL (l : List Bk.Po) : List Bk.Ac := l.flatMap fun x => [(true, x), (false, x)]
def acC (a : Bk.Ac) : List Value := [.iface (if a.1 = true then 151 else 152) (poV a.2)]
@[go_sem] theorem as_dd (v : Value) (w : World) : (Instr.typeAssert (.iface 151 v) 115 151 true).run Tryz.prog w = .ok (.tuple #[v, .bool true]) w := by kernel_rfl
@[go_sem] theorem as_cd (v : Value) (w : World) : (Instr.typeAssert (.iface 152 v) 115 151 true).run Tryz.prog w = .ok (.tuple #[.agg #[.string ⟨#[]⟩, .string ⟨#[]⟩, .int .i64 0], .bool false]) w := by kernel_rfl
@[go_sem] theorem as_cc (v : Value) (w : World) : (Instr.typeAssert (.iface 152 v) 115 152 true).run Tryz.prog w = .ok (.tuple #[v, .bool true]) w := by kernel_rfl
set_option maxRecDepth 20000 in
set_option maxHeartbeats 1000000 in
theorem gain_any (a : Bk.Ac) (w : World) (h1 : -9223372036854775807 ≤ a.2.2.2) (h2 : a.2.2.2 ≤ 9223372036854775807) :
    Calls Tryz.prog 97 #[.iface (if a.1 = true then 151 else 152) (poV a.2)] w fun e w' => e = .returned (.int .i64 (Bk.acG a)) ∧ Below w.heap.size w w' := by
  obtain ⟨d, xd, xc, xp⟩ := a
  have h1 : -9223372036854775807 ≤ xp := h1
  have h2 : xp ≤ 9223372036854775807 := h2
  cases d with
  | true =>
    rw [if_pos rfl]
    have hB := BlockAt.new w (poA (xd, xc, xp)) 151
    obtain ⟨c0, c1, c2⟩ : _ ∧ _ ∧ _ := ⟨hB.cell 0, hB.cell 1, hB.cell 2⟩
    go_enter Tryz.func97, Tryz.ntmps97
    go_wp2
    go_ret
    exact ⟨rfl, below_alloc (Below.refl _ _) _⟩
  | false =>
    rw [if_neg (by simp)]
    have hB := BlockAt.new w (poA (xd, xc, xp)) 152
    obtain ⟨c0, c1, c2⟩ : _ ∧ _ ∧ _ := ⟨hB.cell 0, hB.cell 1, hB.cell 2⟩
    have hn : IntKind.i64.wrap (-xp) = -xp := IntWalk.i64_in _ ⟨by omega, by omega⟩
    go_enter Tryz.func97, Tryz.ntmps97
    go_wp2
    go_ret
    exact ⟨rfl, below_alloc (Below.refl _ _) _⟩
theorem nameD_any (x : Bk.Po) (w : World) : Calls Tryz.prog 212 #[poV x] w fun e w' => e = .returned (sv x.1) ∧ Below w.heap.size w w' := by
  have hB := BlockAt.new w (poA x) 151
  obtain ⟨c0, c1, c2⟩ : _ ∧ _ ∧ _ := ⟨hB.cell 0, hB.cell 1, hB.cell 2⟩
  go_enter Tryz.func212, Tryz.ntmps212
  go_wp2
  go_ret
  exact ⟨rfl, below_alloc (Below.refl _ _) _⟩
theorem nameC_any (x : Bk.Po) (w : World) : Calls Tryz.prog 213 #[poV x] w fun e w' => e = .returned (sv x.2.1) ∧ Below w.heap.size w w' := by
  have hB := BlockAt.new w (poA x) 152
  obtain ⟨c0, c1, c2⟩ : _ ∧ _ ∧ _ := ⟨hB.cell 0, hB.cell 1, hB.cell 2⟩
  go_enter Tryz.func213, Tryz.ntmps213
  go_wp2
  go_ret
  exact ⟨rfl, below_alloc (Below.refl _ _) _⟩
theorem acC_len (a : Bk.Ac) : (acC a).length = 1 := rfl
theorem acC_one (a : Bk.Ac) : ∀ u ∈ acC a, u.oneCell' = true := by
  intro u h; simp [acC] at h; subst h; rfl
theorem infoAc : (Tryz.prog.info? 115).map (fun i => (i.zero, i.size, i.bytes)) = some (some .nilIface, 1, 16) := by kernel_rfl
theorem ul_acs : Tryz.prog.underlying 112 = some (.slice 115) := Tryz.underlying112
abbrev OwnA (base : Nat) (w : World) (v : Value) (xs : List Bk.Ac) : Prop := OwnG 115 1 acC base w v xs
theorem OwnG.pushed2 {α : Type} {t : TypeId} {c : Nat} {cs : α → List Value} {base : Nat} {w : World} {v : Value} {xs : List α} {x y : α} (h : w.ownsRow base t c v (xs.length + 2) (xs.flatMap cs ++ (cs x ++ cs y))) : OwnG t c cs base w v (xs ++ [x, y]) := by
  unfold OwnG
  rw [List.flatMap_append, show [x, y].flatMap cs = cs x ++ cs y by simp, show (xs ++ [x, y]).length = xs.length + 2 by simp]
  exact h
theorem Bk.acL_next {l : List Bk.Po} {k : Nat} (h : k < l.length) : Bk.acL (l.take (k + 1)) = Bk.acL (l.take k) ++ [(true, l[k]), (false, l[k])] := by
  unfold Bk.acL
  rw [List.take_succ_eq_append_getElem h, List.flatMap_append]; simp
theorem Bk.acL_len : ∀ l : List Bk.Po, (Bk.acL l).length = 2 * l.length
  | [] => rfl
  | x :: r => by
    have := Bk.acL_len r
    unfold Bk.acL at this ⊢
    rw [List.flatMap_cons, List.length_append, this, List.length_cons]; simp; omega
set_option maxRecDepth 20000 in
set_option maxHeartbeats 1000000 in
theorem accountsOf_any (v : Value) (l : List Bk.Po) (w : World) (hv : Posts w v l) (hl : l.length ≤ 1000) :
    Calls Tryz.prog 96 #[v] w fun e w' => ∃ u, e = .returned u ∧ OwnA w.heap.size w' u (Bk.acL l) ∧ Below w.heap.size w w' := by
  obtain ⟨i0, hi, hz0, hz1, hz2⟩ := info_parts infoAc
  obtain ⟨va, vc, rfl, hcap, hvk⟩ := hv
  have HV := Lib.hid hvk
  have HNX := Lib.hid (fun k (h : k < l.length) => Bk.acL_next h)
  have HLN := Lib.hid (fun k => Bk.acL_len (l.take k))
  have HF : Hid (Bk.acL l = Bk.acL (l.take l.length)) := Lib.hid (by rw [List.take_length])
  rw [HF.out]
  obtain ⟨G, hG⟩ : ∃ G : Nat → List Bk.Ac, G = fun k => Bk.acL (l.take k) := ⟨_, rfl⟩
  have hGk : ∀ k, Bk.acL (l.take k) = G k := fun k => by rw [hG]
  simp only [hGk] at HNX HLN ⊢
  have h0 : G 0 = [] := by rw [← hGk]; rfl
  clear hvk HF hG hGk
  go_enter Tryz.func96, Tryz.ntmps96
  go_wp2
  go_loopw [3, 8] (fun ls t wr => ∃ (k : Nat) (a : Option Addr) (c : Nat), k ≤ l.length ∧ ls = .slice a (G k).length c ∧ t = .int .i64 (k : Int) ∧ Hid (OwnA w.heap.size wr (.slice a (G k).length c) (G k) ∧ Below w.heap.size w wr)) (fun _ t _ => l.length - (intOf t).toNat)
  case atStart => exact ⟨0, none, 0, Nat.zero_le _, by rw [h0]; rfl, rfl, Lib.hid ⟨by rw [h0]; exact OwnG.nil _ _, Below.refl _ _⟩⟩
  case round =>
    obtain ⟨k, a, c, hk, rfl, rfl, hg⟩ := hrel
    by_cases hlt : k < l.length
    · obtain ⟨b, off, rfl, hbl, hr⟩ := HV.out k hlt
      obtain ⟨c0, c1, c2⟩ := po_at (hr.below hg.out.2 hbl)
      have HN := Lib.hid (HNX.out k hlt)
      have hln : (G k).length ≤ 2000 := by
        have := HLN.out k
        rw [List.length_take] at this; omega
      clear hr
      generalize l[k] = x at *
      obtain ⟨xd, xc, xp⟩ := x
      have hB := BlockAt.new wr (poA (xd, xc, xp)) PostT
      obtain ⟨d0, d1, d2⟩ : _ ∧ _ ∧ _ := ⟨hB.cell 0, hB.cell 1, hB.cell 2⟩
      have hw2 := below_alloc hg.out.2 (.cells (poA (xd, xc, xp)) PostT)
      have hown := hg.out.1.alloc (.cells (poA (xd, xc, xp)) PostT)
      have hsz := hg.out.2.size
      have hca := cells_new (cs := acC (true, (xd, xc, xp)) ++ acC (false, (xd, xc, xp))) (wr.alloc (.cells (poA (xd, xc, xp)) PostT)) 115
      simp only [World.size_alloc] at hca
      have hone : ∀ u ∈ acC (true, (xd, xc, xp)) ++ acC (false, (xd, xc, xp)), u.oneCell' = true := fun u h => (List.mem_append.1 h).elim (acC_one _ u) (acC_one _ u)
      go_wp2_with (at_builtin; refine wpList_append_own _ rfl _ _ 112 rfl w.heap.size 115 i0 .nilIface 1 16 ul_acs hi hz0 hz1 hz2 rfl (by decide) _ _ _ rfl (hown.alloc _) ⟨wr.heap.size + 1, 0, none⟩ 2 2 (acC (true, (xd, xc, xp)) ++ acC (false, (xd, xc, xp))) rfl rfl ?c1 hone ?c3 ?c4 ?c5 ?_)
      case c1 => first | exact hca | exact fun j u h => h
      case c3 => unfold maxLen; omega
      case c4 => omega
      case c5 => first | omega | (simp; omega)
      intro v' w9 hr9 hg9 _
      have hw9 := (below_alloc hw2 (.cells (acC (true, (xd, xc, xp)) ++ acC (false, (xd, xc, xp))).toArray 115)).grown hg9 (by simp; omega) (fun j e => (World.ownsRow.lt hown j e).1)
      have hp9 : OwnA w.heap.size w9 v' (G k ++ [(true, (xd, xc, xp)), (false, (xd, xc, xp))]) := OwnG.pushed2 hr9
      rw [← HN.out] at hp9
      obtain ⟨a9, c9, e9⟩ := (hp9.rows acC_len).form
      subst e9
      have HG9 := Lib.hid (And.intro hp9 hw9)
      clear hown hB hw2 hca hr9 hg9 hw9 hp9 d0 d1 d2 c0 c1 c2
      go_wp2
      go_roundw
      case rel => exact ⟨k + 1, a9, c9, by omega, rfl, by go_num, Lib.hid HG9.out⟩
      case measure => simp [intOf]; omega
    · obtain rfl : k = l.length := by omega
      go_wp2
      go_ret
      exact ⟨_, rfl, hg.out.1, hg.out.2⟩
end Go.Proofs.YtcljpklgpedolaaGreatDoor
namespace Go.Proofs.YtcljpklgpedolaaGreatDoor
open Go.RowKit Go.Sort

def Bk.balA : List Bk.Ac → List UInt8 → Int
  | [], _ => 0
  | a :: r, s => (if Bk.acN a = s then Bk.acG a else 0) + Bk.balA r s
theorem Bk.balA_app : ∀ (A B : List Bk.Ac) (s : List UInt8), Bk.balA (A ++ B) s = Bk.balA A s + Bk.balA B s
  | [], B, s => by simp [Bk.balA]
  | a :: r, B, s => by rw [List.cons_append, Bk.balA, Bk.balA, Bk.balA_app r]; omega
theorem Bk.balA_next {A : List Bk.Ac} {j : Nat} (h : j < A.length) (s : List UInt8) : Bk.balA (A.take (j + 1)) s = Bk.balA (A.take j) s + (if Bk.acN A[j] = s then Bk.acG A[j] else 0) := by
  rw [List.take_succ_eq_append_getElem h, Bk.balA_app]; simp [Bk.balA]
theorem Bk.balA_all : ∀ (l : List Bk.Po) (s : List UInt8), Bk.balA (Bk.acL l) s = Bk.bal l s
  | [], _ => rfl
  | x :: r, s => by
    have h : Bk.acL (x :: r) = (true, x) :: (false, x) :: Bk.acL r := rfl
    have := Bk.balA_all r s
    rw [h, Bk.balA, Bk.balA, this, Bk.bal]
    unfold Bk.gain Bk.acN Bk.acG
    simp only [if_true, Bool.false_eq_true, if_false]
    split <;> split <;> omega
/-- Postings whose sums are in bounds. -/
def Bk.Fine (l : List Bk.Po) : Prop := ∀ x ∈ l, 0 ≤ x.2.2 ∧ x.2.2 ≤ 1099511627776
theorem Bk.Fine.ac {l : List Bk.Po} (h : Bk.Fine l) : ∀ a ∈ Bk.acL l, 0 ≤ a.2.2.2 ∧ a.2.2.2 ≤ 1099511627776 := by
  intro a ha
  unfold Bk.acL at ha
  rw [List.mem_flatMap] at ha
  obtain ⟨x, hx, hm⟩ := ha
  have := h x hx
  simp at hm
  rcases hm with rfl | rfl <;> exact this
theorem Bk.balA_in : ∀ {A : List Bk.Ac} (s : List UInt8), (∀ a ∈ A, 0 ≤ a.2.2.2 ∧ a.2.2.2 ≤ 1099511627776) → -(A.length * 1099511627776 : Int) ≤ Bk.balA A s ∧ Bk.balA A s ≤ A.length * 1099511627776
  | [], _, _ => by simp [Bk.balA]
  | a :: r, s, h => by
    have h1 := Bk.balA_in (A := r) s (fun b hb => h b (List.mem_cons_of_mem _ hb))
    have h2 := h a (by simp)
    rw [Bk.balA, List.length_cons]
    unfold Bk.acG
    push_cast
    split <;> (try split) <;> omega
@[go_sem] theorem meth_d (v : Value) (w : World) : (method 325 151 v "linoleum/book.name").run Tryz.prog w = .ok (212, v) w := by kernel_rfl
@[go_sem] theorem meth_c (v : Value) (w : World) : (method 325 152 v "linoleum/book.name").run Tryz.prog w = .ok (213, v) w := by kernel_rfl
set_option maxRecDepth 20000 in
set_option maxHeartbeats 1000000 in
theorem balanceOf_any (v : Value) (l : List Bk.Po) (s : List UInt8) (w : World) (hv : Posts w v l) (hl : l.length ≤ 1000) (hf : Bk.Fine l) :
    Calls Tryz.prog 72 #[v, sv s] w fun e w' => e = .returned (.int .i64 (Bk.bal l s)) ∧ Below w.heap.size w w' := by
  have C := Lib.hid (accountsOf_any v l w hv hl)
  obtain ⟨va, vc, rfl⟩ := hv.form
  rw [← Bk.balA_all]
  have hAl := Bk.acL_len l
  have hAl2 : (Bk.acL l).length ≤ 2000 := by omega
  have hfa := hf.ac
  have HFA := Lib.hid hfa
  have HBI := Lib.hid (fun j => Bk.balA_in (A := (Bk.acL l).take j) s (fun a ha => hfa a (List.mem_of_mem_take ha)))
  have HNX := Lib.hid (fun j (h : j < (Bk.acL l).length) => Bk.balA_next h s)
  have HTT : Hid (Bk.balA ((Bk.acL l).take (Bk.acL l).length) s = Bk.balA (Bk.acL l) s) := Lib.hid (by rw [List.take_length])
  clear hAl hfa hv
  generalize Bk.acL l = A at *
  go_enter Tryz.func72, Tryz.ntmps72
  go_wp2_with fail
  refine C.out.mono ?_
  rintro e w1 ⟨u, rfl, ho, hb⟩
  have hro := ho.rows acC_len
  obtain ⟨ua, uc, e, hcap, hx⟩ := id hro
  subst e
  have HV := Lib.hid hx
  have HB1 := Lib.hid hb
  clear ho hro hx hb C
  go_wp2
  go_loopw [5, 11] (fun b t wr => ∃ j : Nat, j ≤ A.length ∧ b = .int .i64 (Bk.balA (A.take j) s) ∧ t = .int .i64 (j : Int) ∧ Hid (Below w1.heap.size w1 wr)) (fun _ t _ => A.length - (intOf t).toNat)
  case atStart => exact ⟨0, Nat.zero_le _, rfl, rfl, Lib.hid (Below.refl _ _)⟩
  case round =>
    obtain ⟨j, hj, rfl, rfl, hg⟩ := hrel
    by_cases hlt : j < A.length
    · obtain ⟨b, off, rfl, hbl, hr⟩ := HV.out j hlt
      have c0 := (hr.below hg.out hbl) 0 _ rfl
      have HN := HNX.out j hlt
      have hfj := HFA.out A[j] (List.getElem_mem hlt)
      have hbi := HBI.out j
      have htl : (A.take j).length ≤ 2000 := by rw [List.length_take]; omega
      simp only [Nat.mul_one, Nat.add_zero] at c0
      clear hr
      generalize A[j] = x at *
      obtain ⟨d, y⟩ := x
      cases d with
      | true =>
        simp only [if_true] at c0
        have hfj : 0 ≤ y.2.2 ∧ y.2.2 ≤ 1099511627776 := hfj
        have HNM := Lib.hid (fun W => nameD_any y W)
        have HGN := Lib.hid (fun W => gain_any (true, y) W (by show _ ≤ y.2.2; have := hfj.1; omega) (by show y.2.2 ≤ _; have := hfj.2; omega))
        have e1 : Bk.acN (true, y) = y.1 := rfl
        have e2 : Bk.acG (true, y) = y.2.2 := rfl
        rw [e1, e2] at HN
        rw [e2] at HGN
        simp only [if_true] at HGN
        clear e1 e2
        by_cases hs : y.1 = s
        · rw [if_pos hs] at HN
          have HN2 := Lib.hid HN
          have hq : (y.1 == s) = true := by rw [hs]; exact beq_self_eq_true s
          have hwr : IntKind.i64.wrap (Bk.balA (A.take j) s + y.2.2) = Bk.balA (A.take j) s + y.2.2 := IntWalk.i64_in _ ⟨by have := hfj.1; have := hfj.2; omega, by have := hfj.1; have := hfj.2; omega⟩
          clear HN hs hbi hfj htl
          generalize Bk.balA (A.take j) s = bj at *
          obtain ⟨yd, yc, yp⟩ := y
          dsimp only at hq hwr HNM HGN HN2
          go_wp2_with fail
          refine (HNM.out _).mono ?_
          rintro e w2 ⟨rfl, hb2⟩
          have hw2 := below_step hg.out hb2
          clear hb2 HNM c0
          go_wp2_with fail
          refine (HGN.out _).mono ?_
          rintro e w3 ⟨rfl, hb3⟩
          have hw3 := below_step hw2 hb3
          clear hb3 HGN hw2
          go_wp2
          go_roundw
          case rel => exact ⟨j + 1, by omega, by rw [HN2.out], by go_num, Lib.hid hw3⟩
          case measure => simp [intOf]; omega
        · rw [if_neg hs, Int.add_zero] at HN
          have HN2 := Lib.hid HN
          have hq : (y.1 == s) = false := beq_eq_false_iff_ne.2 hs
          clear HN hs hbi hfj htl HGN
          generalize Bk.balA (A.take j) s = bj at *
          obtain ⟨yd, yc, yp⟩ := y
          dsimp only at hq HNM HN2
          go_wp2_with fail
          refine (HNM.out _).mono ?_
          rintro e w2 ⟨rfl, hb2⟩
          have hw2 := below_step hg.out hb2
          clear hb2 HNM c0
          go_wp2
          go_roundw
          case rel => exact ⟨j + 1, by omega, by rw [HN2.out], by go_num, Lib.hid hw2⟩
          case measure => simp [intOf]; omega
      | false =>
        simp only [Bool.false_eq_true, if_false] at c0
        have hfj : 0 ≤ y.2.2 ∧ y.2.2 ≤ 1099511627776 := hfj
        have HNM := Lib.hid (fun W => nameC_any y W)
        have HGN := Lib.hid (fun W => gain_any (false, y) W (by show _ ≤ y.2.2; have := hfj.1; omega) (by show y.2.2 ≤ _; have := hfj.2; omega))
        have e1 : Bk.acN (false, y) = y.2.1 := rfl
        have e2 : Bk.acG (false, y) = -y.2.2 := rfl
        rw [e1, e2] at HN
        rw [e2] at HGN
        simp only [Bool.false_eq_true, if_false] at HGN
        clear e1 e2
        by_cases hs : y.2.1 = s
        · rw [if_pos hs] at HN
          have HN2 := Lib.hid HN
          have hq : (y.2.1 == s) = true := by rw [hs]; exact beq_self_eq_true s
          have hwr : IntKind.i64.wrap (Bk.balA (A.take j) s + (-y.2.2)) = Bk.balA (A.take j) s + (-y.2.2) := IntWalk.i64_in _ ⟨by have := hfj.1; have := hfj.2; omega, by have := hfj.1; have := hfj.2; omega⟩
          clear HN hs hbi hfj htl
          generalize Bk.balA (A.take j) s = bj at *
          obtain ⟨yd, yc, yp⟩ := y
          dsimp only at hq hwr HNM HGN HN2
          go_wp2_with fail
          refine (HNM.out _).mono ?_
          rintro e w2 ⟨rfl, hb2⟩
          have hw2 := below_step hg.out hb2
          clear hb2 HNM c0
          go_wp2_with fail
          refine (HGN.out _).mono ?_
          rintro e w3 ⟨rfl, hb3⟩
          have hw3 := below_step hw2 hb3
          clear hb3 HGN hw2
          go_wp2
          go_roundw
          case rel => exact ⟨j + 1, by omega, by rw [HN2.out], by go_num, Lib.hid hw3⟩
          case measure => simp [intOf]; omega
        · rw [if_neg hs, Int.add_zero] at HN
          have HN2 := Lib.hid HN
          have hq : (y.2.1 == s) = false := beq_eq_false_iff_ne.2 hs
          clear HN hs hbi hfj htl HGN
          generalize Bk.balA (A.take j) s = bj at *
          obtain ⟨yd, yc, yp⟩ := y
          dsimp only at hq HNM HN2
          go_wp2_with fail
          refine (HNM.out _).mono ?_
          rintro e w2 ⟨rfl, hb2⟩
          have hw2 := below_step hg.out hb2
          clear hb2 HNM c0
          go_wp2
          go_roundw
          case rel => exact ⟨j + 1, by omega, by rw [HN2.out], by go_num, Lib.hid hw2⟩
          case measure => simp [intOf]; omega
    · obtain rfl : j = A.length := by omega
      go_wp2
      go_ret
      exact ⟨by rw [← HTT.out]; rfl, HB1.out.trans (hg.out.mono HB1.out.size)⟩
end Go.Proofs.YtcljpklgpedolaaGreatDoor
namespace Go.Proofs.YtcljpklgpedolaaGreatDoor
open Go.RowKit Go.Sort

theorem Bk.bal_next {l : List Bk.Po} {k : Nat} (h : k < l.length) (s : List UInt8) : Bk.bal (l.take (k + 1)) s = Bk.bal (l.take k) s + Bk.gain l[k] s := by
  rw [List.take_succ_eq_append_getElem h, Bk.bal_snoc]
theorem Bk.bal_in {l : List Bk.Po} (s : List UInt8) (h : Bk.Fine l) : -(2 * l.length * 1099511627776 : Int) ≤ Bk.bal l s ∧ Bk.bal l s ≤ 2 * l.length * 1099511627776 := by
  have := Bk.balA_in (A := Bk.acL l) s h.ac
  rw [Bk.balA_all, Bk.acL_len] at this
  push_cast at this
  exact this
set_option maxRecDepth 20000 in
set_option maxHeartbeats 1000000 in
theorem refBalance0_any (v : Value) (l : List Bk.Po) (s : List UInt8) (w : World) (hv : Posts w v l) (hl : l.length ≤ 1000) (hf : Bk.Fine l) :
    Calls Tryz.prog 73 #[v, sv s] w fun e w' => e = .returned (.int .i64 (Bk.bal l s)) ∧ Below w.heap.size w w' := by
  obtain ⟨va, vc, rfl, _, hvk⟩ := hv
  have HV := Lib.hid hvk
  have HF := Lib.hid hf
  have HBI := Lib.hid (fun j => Bk.bal_in (l := l.take j) s (fun a ha => hf a (List.mem_of_mem_take ha)))
  have HNX := Lib.hid (fun j (h : j < l.length) => Bk.bal_next h s)
  have HTT : Hid (Bk.bal (l.take l.length) s = Bk.bal l s) := Lib.hid (by rw [List.take_length])
  clear hvk hf
  go_enter Tryz.func73, Tryz.ntmps73
  go_wp2
  go_loopw [5, 6] (fun b t wr => ∃ j : Nat, j ≤ l.length ∧ b = .int .i64 (Bk.bal (l.take j) s) ∧ t = .int .i64 (j : Int) ∧ Hid (wr = w)) (fun _ t _ => l.length - (intOf t).toNat)
  case atStart => exact ⟨0, Nat.zero_le _, rfl, rfl, Lib.hid rfl⟩
  case round =>
    obtain ⟨j, hj, rfl, rfl, hg⟩ := hrel
    obtain rfl := hg.out
    by_cases hlt : j < l.length
    · obtain ⟨b, off, rfl, hbl, hr⟩ := HV.out j hlt
      obtain ⟨c0, c1, c2⟩ := po_at hr
      have HN := HNX.out j hlt
      have hfj := HF.out l[j] (List.getElem_mem hlt)
      have hbi := HBI.out j
      have htl : (l.take j).length ≤ 1000 := by rw [List.length_take]; omega
      clear hr
      generalize l[j] = x at *
      obtain ⟨xd, xc, xp⟩ := x
      have hfj : 0 ≤ xp ∧ xp ≤ 1099511627776 := hfj
      unfold Bk.gain at HN
      dsimp only at HN
      generalize Bk.bal (l.take j) s = bj at *
      by_cases hd : xd = s
      · rw [if_pos hd] at HN
        have q1 : (xd == s) = true := by rw [hd]; exact beq_self_eq_true s
        have w1 : IntKind.i64.wrap (bj + xp) = bj + xp := IntWalk.i64_in _ ⟨by omega, by omega⟩
        by_cases hc : xc = s
        · rw [if_pos hc] at HN
          have q2 : (xc == s) = true := by rw [hc]; exact beq_self_eq_true s
          have w2 : IntKind.i64.wrap bj = bj := IntWalk.i64_in _ ⟨by omega, by omega⟩
          have W2 := Lib.hid w2
          have HN2 : Hid (Bk.bal (l.take (j + 1)) s = bj) := Lib.hid (by rw [HN]; omega)
          clear HN hd hc hbi hfj htl
          go_wp2
          go_roundw
          case rel => exact ⟨j + 1, by omega, by rw [HN2.out]; first | done | exact congrArg (Value.int IntKind.i64) W2.out, by go_num, Lib.hid (by first | rfl | trivial)⟩
          case measure => simp [intOf]; omega
        · rw [if_neg hc] at HN
          have q2 : (xc == s) = false := beq_eq_false_iff_ne.2 hc
          have HN2 : Hid (Bk.bal (l.take (j + 1)) s = bj + xp) := Lib.hid (by rw [HN]; omega)
          clear HN hd hc hbi hfj htl
          go_wp2
          go_roundw
          case rel => exact ⟨j + 1, by omega, by rw [HN2.out], by go_num, Lib.hid (by first | rfl | trivial)⟩
          case measure => simp [intOf]; omega
      · rw [if_neg hd] at HN
        have q1 : (xd == s) = false := beq_eq_false_iff_ne.2 hd
        by_cases hc : xc = s
        · rw [if_pos hc] at HN
          have q2 : (xc == s) = true := by rw [hc]; exact beq_self_eq_true s
          have w2 : IntKind.i64.wrap (bj - xp) = bj - xp := IntWalk.i64_in _ ⟨by omega, by omega⟩
          have HN2 : Hid (Bk.bal (l.take (j + 1)) s = bj - xp) := Lib.hid (by rw [HN]; omega)
          clear HN hd hc hbi hfj htl
          go_wp2
          go_roundw
          case rel => exact ⟨j + 1, by omega, by rw [HN2.out], by go_num, Lib.hid (by first | rfl | trivial)⟩
          case measure => simp [intOf]; omega
        · rw [if_neg hc] at HN
          have q2 : (xc == s) = false := beq_eq_false_iff_ne.2 hc
          have HN2 : Hid (Bk.bal (l.take (j + 1)) s = bj) := Lib.hid (by rw [HN]; omega)
          clear HN hd hc hbi hfj htl
          go_wp2
          go_roundw
          case rel => exact ⟨j + 1, by omega, by rw [HN2.out], by go_num, Lib.hid (by first | rfl | trivial)⟩
          case measure => simp [intOf]; omega
    · obtain rfl : j = l.length := by omega
      go_wp2
      go_ret
      exact ⟨by rw [← HTT.out]; rfl, Below.refl _ _⟩
theorem Bk.val_fine {l : List Bk.Po} (h : Bk.valE l = 0) : l.length ≤ 64 ∧ Bk.Fine l ∧ l.all Bk.nms = true := by
  unfold Bk.valE at h
  by_cases h1 : 64 < l.length
  · rw [if_pos h1] at h; cases h
  · rw [if_neg h1] at h
    by_cases h2 : l.all Bk.nms = false
    · rw [if_pos h2] at h; cases h
    · rw [if_neg h2] at h
      by_cases h3 : l.all Bk.fit = false
      · rw [if_pos h3] at h; cases h
      · refine ⟨by omega, fun x hx => ?_, by simpa using h2⟩
        have := List.all_eq_true.1 (by simpa using h3 : l.all Bk.fit = true) x hx
        unfold Bk.fit at this
        simp only [Bool.and_eq_true, decide_eq_true_eq] at this
        omega
set_option maxRecDepth 20000 in
theorem balance_any (v : Value) (l : List Bk.Po) (s : List UInt8) (w : World) (hv : Posts w v l) (hl : l.length ≤ 1000) (hw : ∀ k (hk : k < l.length), Bk.wide l[k]) :
    Calls Tryz.prog 37 #[v, sv s] w fun e w' => e = .returned (.tuple #[.int .i64 (if Bk.valE l = 0 then Bk.bal l s else 0), .int .i64 (Bk.valE l)]) ∧ Below w.heap.size w w' := by
  have C := Lib.hid (validate_any v l w hv (by omega) hw)
  have HV := Lib.hid hv
  obtain ⟨va, vc, rfl⟩ := hv.form
  by_cases h0 : Bk.valE l = 0
  · obtain ⟨h64, hf, _⟩ := Bk.val_fine h0
    have B := Lib.hid (fun W (hb : Below w.heap.size w W) => balanceOf_any (.slice va l.length vc) l s W (HV.out.all hb) (by omega) hf)
    rw [h0] at C ⊢
    rw [if_pos rfl]
    clear hv h0 hf HV
    generalize Bk.bal l s = R at *
    go_enter Tryz.func37, Tryz.ntmps37
    go_wp2_with fail
    refine C.out.mono ?_
    rintro e w1 ⟨rfl, hb1⟩
    clear C
    go_wp2_with fail
    refine (B.out _ hb1).mono ?_
    rintro e w2 ⟨rfl, hb2⟩
    have hw2 := below_step hb1 hb2
    clear hb1 hb2 B
    go_wp2
    go_ret2
    exact ⟨rfl, hw2⟩
  · rw [if_neg h0]
    have q1 : (Bk.valE l == 0) = false := by simpa using h0
    have q2 : (Bk.valE l != 0) = true := by simpa using h0
    clear hv h0 HV
    generalize Bk.valE l = R at *
    go_enter Tryz.func37, Tryz.ntmps37
    go_wp2_with fail
    refine C.out.mono ?_
    rintro e w1 ⟨rfl, hb1⟩
    clear C
    go_wp2
    go_ret2
    exact ⟨rfl, hb1⟩
set_option maxRecDepth 20000 in
theorem refBalance_any (v : Value) (l : List Bk.Po) (s : List UInt8) (w : World) (hv : Posts w v l) (hl : l.length ≤ 1000) (hw : ∀ k (hk : k < l.length), Bk.wide l[k]) :
    Calls Tryz.prog 38 #[v, sv s] w fun e w' => e = .returned (.tuple #[.int .i64 (if Bk.valE l = 0 then Bk.bal l s else 0), .int .i64 (Bk.valE l)]) ∧ Below w.heap.size w w' := by
  have C := Lib.hid (refValidate_any v l w hv (by omega) hw)
  have HV := Lib.hid hv
  obtain ⟨va, vc, rfl⟩ := hv.form
  by_cases h0 : Bk.valE l = 0
  · obtain ⟨h64, hf, _⟩ := Bk.val_fine h0
    have B := Lib.hid (fun W (hb : Below w.heap.size w W) => refBalance0_any (.slice va l.length vc) l s W (HV.out.all hb) (by omega) hf)
    rw [h0] at C ⊢
    rw [if_pos rfl]
    clear hv h0 hf HV
    generalize Bk.bal l s = R at *
    go_enter Tryz.func38, Tryz.ntmps38
    go_wp2_with fail
    refine C.out.mono ?_
    rintro e w1 ⟨rfl, hb1⟩
    clear C
    go_wp2_with fail
    refine (B.out _ hb1).mono ?_
    rintro e w2 ⟨rfl, hb2⟩
    have hw2 := below_step hb1 hb2
    clear hb1 hb2 B
    go_wp2
    go_ret2
    exact ⟨rfl, hw2⟩
  · rw [if_neg h0]
    have q1 : (Bk.valE l == 0) = false := by simpa using h0
    have q2 : (Bk.valE l != 0) = true := by simpa using h0
    clear hv h0 HV
    generalize Bk.valE l = R at *
    go_enter Tryz.func38, Tryz.ntmps38
    go_wp2_with fail
    refine C.out.mono ?_
    rintro e w1 ⟨rfl, hb1⟩
    clear C
    go_wp2
    go_ret2
    exact ⟨rfl, hb1⟩
end Go.Proofs.YtcljpklgpedolaaGreatDoor
