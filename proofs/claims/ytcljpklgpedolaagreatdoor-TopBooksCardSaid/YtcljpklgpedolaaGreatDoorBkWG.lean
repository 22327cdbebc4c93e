/- Writing to a strings.Builder, out of the laying for strings.Join. The lines of a book since a number: of the program. The lines of a book since a number: of the reference. The lines of a book since a number, of the reference; a line of a book, of both sides. The law on finding. -/
import Derived.Test.YtcljpklgpedolaaGreatDoorShelf
import Derived.Shelf.Strings.Builder1
import Derived.Shelf.Strings.Builder2
import Derived.Shelf.Strings.OnBuilder
import Derived.Test.YtcljpklgpedolaaGreatDoorBkQG
import Derived.Test.YtcljpklgpedolaaGreatDoorBkWE
namespace Go.Proofs.YtcljpklgpedolaaGreatDoor
open Go.RowKit Go.Sort

theorem lays_write : Lays.n166 Tryz.prog Tryz.lays156_ren where
  mixed := Tryz.lays156.mixed
  f166 := Tryz.lays156.f166
  f240 := Tryz.lays156.f240
  f276 := Tryz.lays156.f276
  t0 := Tryz.lays156.t0
  a0 := Tryz.lays156.a0
  z0 := Tryz.lays156.z0
  v0 := Tryz.lays156.v0
  t3 := Tryz.lays156.t3
  a3 := Tryz.lays156.a3
  z3 := Tryz.lays156.z3
  v3 := Tryz.lays156.v3
  t4 := Tryz.lays156.t4
  a4 := Tryz.lays156.a4
  z4 := Tryz.lays156.z4
  v4 := Tryz.lays156.v4
  t9 := Tryz.lays156.t9
  a9 := Tryz.lays156.a9
  z9 := Tryz.lays156.z9
  v9 := Tryz.lays156.v9
  t20 := Tryz.lays156.t20
  a20 := Tryz.lays156.a20
  z20 := Tryz.lays156.z20
  v20 := Tryz.lays156.v20
  t37 := Tryz.lays156.t37
  a37 := Tryz.lays156.a37
  z37 := Tryz.lays156.z37
  v37 := Tryz.lays156.v37
  t70 := Tryz.lays156.t70
  a70 := Tryz.lays156.a70
  z70 := Tryz.lays156.z70
  v70 := Tryz.lays156.v70
  t72 := Tryz.lays156.t72
  a72 := Tryz.lays156.a72
  z72 := Tryz.lays156.z72
  v72 := Tryz.lays156.v72
  t75 := Tryz.lays156.t75
  a75 := Tryz.lays156.a75
  z75 := Tryz.lays156.z75
  v75 := Tryz.lays156.v75
  t164 := Tryz.lays156.t164
  a164 := Tryz.lays156.a164
  z164 := Tryz.lays156.z164
  v164 := Tryz.lays156.v164
theorem write_string (B b : Nat) (bs : List Value) (s : ByteArray) (w : World) (h : Lib.IsBuilder 90 5 B b bs w) (hlen : bs.length + s.size ≤ 140737488355328) (hBw : B ≤ w.heap.size) :
    Calls Tryz.prog 68 #[.pointer (some ⟨b, 0, none⟩), .string s] w fun e w' => e = .returned (.tuple #[.int .i64 s.size, .nilIface]) ∧ Lib.BuilderAt 90 5 B b (.pointer (some ⟨b, 0, none⟩)) (bs ++ Lib.strCells s) w' ∧ Below B w w' := Any.Builder_WriteString lays_write Tryz.Builder_Extra_156 B b bs s w h hlen hBw
theorem builder_string (B b : Nat) (l : List UInt8) (w : World) (h : Lib.IsBuilder 90 5 B b (Lib.byteCells l) w) (hBw : B ≤ w.heap.size) :
    Calls Tryz.prog 69 #[.pointer (some ⟨b, 0, none⟩)] w fun e w' => e = .returned (sv l) ∧ Below B w w' := Tryz.Builder_String_any B b l w h hBw
end Go.Proofs.YtcljpklgpedolaaGreatDoor
namespace Go.Proofs.YtcljpklgpedolaaGreatDoor
open Go.RowKit Go.Sort

def Bk.sinE (k : List UInt8) (n : Int) : Int := if Bk.rest k ≠ [] then 15 else if n < 1 ∨ ((Bk.ln k).length : Int) + 1 < n then 5 else 0
/-- The texts of some lines. -/
def Bk.fmts (L : List Bk.Ln) : List UInt8 := L.flatMap Bk.fmtL
def Bk.sinS (k : List UInt8) (n : Int) : List UInt8 := if Bk.sinE k n = 0 then Bk.fmts ((Bk.ln k).drop (n - 1).toNat) else []
theorem Bk.fmts_lns : ∀ (ts : List (List UInt8)) (n : Nat) (b : Int), Bk.fmts (Bk.lns n b ts) = Bk.txt n b ts
  | [], _, _ => rfl
  | t :: r, n, b => by
    have := Bk.fmts_lns r (n + 1) (Bk.nxt n b t)
    unfold Bk.fmts at this ⊢
    rw [Bk.lns, List.flatMap_cons, this, ← Bk.wr_fmt, Bk.txt]
theorem Bk.sin_of {k : List UInt8} {n q : Int} (h : Bk.sinE k n = q) (hq : q ≠ 0) : Bk.sinS k n = [] := by unfold Bk.sinS; rw [h, if_neg hq]
theorem Bk.fmts_next {L : List Bk.Ln} {j : Nat} (h : j < L.length) : Bk.fmts (L.take (j + 1)) = Bk.fmts (L.take j) ++ Bk.fmtL L[j] := by
  unfold Bk.fmts
  rw [List.take_succ_eq_append_getElem h, List.flatMap_append]; simp
theorem Bk.lns_mem : ∀ {ts : List (List UInt8)} {n : Nat} {b : Int} {x : Bk.Ln}, x ∈ Bk.lns n b ts → x.1 ≤ n + ts.length ∧ x.2.1 ∈ ts ∧ 0 ≤ x.2.2 ∧ x.2.2 < 1000003
  | [], _, _, _, h => by simp [Bk.lns] at h
  | t :: r, n, b, x, h => by
    rw [Bk.lns] at h
    rcases List.mem_cons.1 h with e | e
    · subst e
      exact ⟨by simp, by simp, (Bk.nxt_in n b t).1, (Bk.nxt_in n b t).2⟩
    · obtain ⟨h1, h2, h3⟩ := Bk.lns_mem e
      exact ⟨by rw [List.length_cons]; omega, List.mem_cons_of_mem _ h2, h3⟩
/-- What a line of a book is like. -/
theorem Bk.ln_like {k : List UInt8} {x : Bk.Ln} (h : x ∈ Bk.ln k) : x.1 ≤ 201 ∧ x.2.1.length ≤ 80 ∧ 0 ≤ x.2.2 ∧ x.2.2 < 1000003 ∧ (Bk.fmtL x).length ≤ 97 := by
  obtain ⟨h1, h2, h3, h4⟩ := Bk.lns_mem h
  have h5 := Bk.tx_len k
  have h6 := Bk.right_len (Bk.tx_right h2)
  have e1 := Bk.itoa_short (n := (x.1 : Int)) (by omega) (by omega)
  have e2 := Bk.itoa_short (n := x.2.2) h3 (by omega)
  refine ⟨by omega, h6, h3, h4, ?_⟩
  unfold Bk.fmtL
  simp only [List.length_append, List.length_cons, List.length_nil]
  omega
theorem Bk.fmts_short {k : List UInt8} : ∀ {L : List Bk.Ln}, (∀ x ∈ L, x ∈ Bk.ln k) → (Bk.fmts L).length ≤ 97 * L.length
  | [], _ => by simp [Bk.fmts]
  | x :: r, h => by
    have h1 := (Bk.ln_like (h x (by simp))).2.2.2.2
    have h2 := Bk.fmts_short (L := r) (fun y hy => h y (List.mem_cons_of_mem _ hy))
    unfold Bk.fmts at h2 ⊢
    rw [List.flatMap_cons, List.length_append, List.length_cons]; omega
/-- A list's lines from a place on can be read. -/
theorem RowsOf.rest {α : Type} {c : Nat} {cs : α → List Value} {w : World} {a : Option Addr} {l cap m : Nat} {xs : List α} (h : RowsOf c cs w (.slice a l cap) xs) :
    ∀ k (hk : k < (xs.drop m).length), ∃ b off, a = some ⟨b, off, none⟩ ∧ b < w.heap.size ∧ CellsAt (cs (xs.drop m)[k]) w b (off + (m + k) * c) := by
  intro k hk
  obtain ⟨a', cap', e, h0, h1⟩ := h
  injection e with e1 e2 e3
  subst e1 e3
  have hk2 : m + k < xs.length := by rw [List.length_drop] at hk; omega
  obtain ⟨b, off, q1, q2, q3⟩ := h1 (m + k) hk2
  refine ⟨b, off, q1, q2, ?_⟩
  rwa [List.getElem_drop]
theorem builder_all {T e : TypeId} {B b : Nat} {bs : List Value} {w w' : World} (h : Lib.IsBuilder T e B b bs w) (hb : Below w.heap.size w w') : Lib.IsBuilder T e B b bs w' := by
  rcases h with ⟨h1, v, h2, h3, h4⟩ | ⟨h1, v, h2, h3, h4⟩
  · exact .inl ⟨h1, v, (hb.block b (Array.getElem?_eq_some_iff.1 h2).1).trans h2, ownsRow_all h3 hb, h4⟩
  · exact .inr ⟨h1, v, (hb.block b (Array.getElem?_eq_some_iff.1 h2).1).trans h2, ownsRow_all h3 hb, h4⟩
theorem builder_new (w : World) : Lib.IsBuilder 90 5 w.heap.size w.heap.size [] (w.alloc (.cells #[.pointer none, .slice none 0 0] 90)) := by
  refine .inl ⟨Nat.le_refl _, .slice none 0 0, ?_, World.ownsRow_nil _ _ _ _, by simp [Value.ownBlock]⟩
  exact BlockAt.new w #[.pointer none, .slice none 0 0] 90
/-- What is told of the lines since a number. -/
def SinSays (k : List UInt8) (n : Int) (w : World) (e : Ending) (w' : World) : Prop := e = .returned (.tuple #[sv (Bk.sinS k n), .int .i64 (Bk.sinE k n)]) ∧ Below w.heap.size w w'
set_option maxRecDepth 20000 in
set_option maxHeartbeats 2000000 in
theorem since_any (k : ByteArray) (n : Int) (w : World) (hE : EnvB w) (hs : k.size ≤ 80000) (n1 : -9223372036854775808 ≤ n) (n2 : n ≤ 9223372036854775807) :
    Calls Tryz.prog 28 #[.string k, .int .i64 n] w (SinSays k.data.toList n w) := by
  unfold SinSays
  have HE := Lib.hid hE
  by_cases hr : Bk.rest k.data.toList = []
  case neg =>
    have hA : Bk.sinE k.data.toList n = 15 := by unfold Bk.sinE; rw [if_pos hr]
    rw [Bk.sin_of hA (by decide), hA]
    have C := Lib.hid (linesOf_bad k w hE hs hr)
    clear hE hr hA
    go_enter Tryz.func28, Tryz.ntmps28
    go_wp2_with fail
    refine C.out.mono ?_
    rintro e w1 ⟨rfl, hb⟩
    go_wp2
    go_ret2
    exact ⟨rfl, hb⟩
  have C := Lib.hid (linesOf_ok k w hE hs hr)
  have hll := Bk.ln_len k.data.toList
  have hl2 := Bk.tx_len k.data.toList
  rw [← hll] at hl2
  clear hll
  by_cases hn : n < 1 ∨ ((Bk.ln k.data.toList).length : Int) + 1 < n
  · have hA : Bk.sinE k.data.toList n = 5 := by unfold Bk.sinE; rw [if_neg (by simp [hr]), if_pos hn]
    rw [Bk.sin_of hA (by decide), hA]
    clear hE hr hA
    generalize Bk.ln k.data.toList = L at *
    have hi : IntKind.i64.wrap ((L.length : Int) + 1) = (L.length : Int) + 1 := IntWalk.i64_in _ ⟨by omega, by omega⟩
    by_cases h1 : n < 1
    · go_enter Tryz.func28, Tryz.ntmps28
      go_wp2_with fail
      refine C.out.mono ?_
      rintro e w1 ⟨v, rfl, ho, hb⟩
      obtain ⟨va, vc, rfl⟩ := (ho.rows lnC_len).form
      clear ho C
      go_wp2
      go_ret2
      exact ⟨rfl, hb⟩
    · have h2 : (L.length : Int) + 1 < n := by omega
      go_enter Tryz.func28, Tryz.ntmps28
      go_wp2_with fail
      refine C.out.mono ?_
      rintro e w1 ⟨v, rfl, ho, hb⟩
      obtain ⟨va, vc, rfl⟩ := (ho.rows lnC_len).form
      clear ho C
      go_wp2
      go_ret2
      exact ⟨rfl, hb⟩
  have hA : Bk.sinE k.data.toList n = 0 := by unfold Bk.sinE; rw [if_neg (by simp [hr]), if_neg hn]
  have hS : Bk.sinS k.data.toList n = Bk.fmts ((Bk.ln k.data.toList).drop (n - 1).toNat) := by unfold Bk.sinS; rw [if_pos hA]
  rw [hA, hS]
  have hm : n - 1 = (((n - 1).toNat : Nat) : Int) := by omega
  have hm2 : (n - 1).toNat ≤ (Bk.ln k.data.toList).length := by omega
  have hi2 : IntKind.i64.wrap (n - 1) = (((n - 1).toNat : Nat) : Int) := by rw [← hm]; exact IntWalk.i64_in _ ⟨by omega, by omega⟩
  have h1 : ¬ n < 1 := by omega
  have h2 : ¬ ((Bk.ln k.data.toList).length : Int) + 1 < n := by omega
  clear hm
  generalize (n - 1).toNat = m at *
  have HLK := Lib.hid (fun x (hx : x ∈ Bk.ln k.data.toList) => Bk.ln_like hx)
  have HSH := Lib.hid (fun j => Bk.fmts_short (k := k.data.toList) (L := ((Bk.ln k.data.toList).drop m).take j) (fun x hx => List.mem_of_mem_drop (List.mem_of_mem_take hx)))
  clear hE hr hA hS hn n1 n2
  generalize Bk.ln k.data.toList = L at *
  have hi : IntKind.i64.wrap ((L.length : Int) + 1) = (L.length : Int) + 1 := IntWalk.i64_in _ ⟨by omega, by omega⟩
  by_cases hmL : m < L.length
  · go_enter Tryz.func28, Tryz.ntmps28
    go_wp2_with fail
    refine C.out.mono ?_
    rintro e w1 ⟨v, rfl, ho, hb⟩
    have hro := ho.rows lnC_len
    obtain ⟨va, vc, e, hcap, _⟩ := id hro
    subst e
    have HA := Lib.hid (hro.rest (m := m))
    have HB1 := Lib.hid hb
    clear ho hro hb C
    have HBU := Lib.hid (builder_new w1)
    have hmc : m < vc := by omega
    obtain ⟨b, off, rfl, _, _⟩ := HA.out 0 (by rw [List.length_drop]; omega)
    go_wp2
    go_loopw [33] (fun t wr => ∃ j : Nat, j ≤ L.length - m ∧ t = .int .i64 (j : Int) ∧ Hid (Lib.IsBuilder 90 5 w1.heap.size w1.heap.size (Lib.byteCells (Bk.fmts ((L.drop m).take j))) wr ∧ Below w1.heap.size w1 wr)) (fun t _ => L.length - m - (intOf t).toNat)
    case atStart => exact ⟨0, Nat.zero_le _, rfl, Lib.hid ⟨HBU.out, below_alloc (Below.refl _ _) _⟩⟩
    case round =>
      obtain ⟨j, hj, rfl, hg⟩ := hrel
      by_cases hlt : j < L.length - m
      · obtain ⟨b', off', e9, hbl, hcells⟩ := HA.out j (by rw [List.length_drop]; exact hlt)
        simp only [Option.some.injEq, Addr.mk.injEq, and_true] at e9
        obtain ⟨rfl, rfl⟩ := e9
        have hx := HLK.out ((L.drop m)[j]'(by rw [List.length_drop]; exact hlt)) (List.mem_of_mem_drop (List.getElem_mem _))
        have HNX := Lib.hid (Bk.fmts_next (L := L.drop m) (j := j) (by rw [List.length_drop]; exact hlt))
        have hsh := HSH.out j
        have hsl : ((L.drop m).take j).length ≤ 200 := by rw [List.length_take, List.length_drop]; omega
        have hc2 := hcells.below hg.out.2 hbl
        rw [Nat.add_mul, ← Nat.add_assoc] at hc2
        obtain ⟨c0, c1, c2⟩ := ln_at hc2
        clear hcells hc2
        generalize (L.drop m)[j]'(by rw [List.length_drop]; exact hlt) = x at *
        obtain ⟨xn, xt, xs⟩ := x
        obtain ⟨x1, x2, x3, x4, x5⟩ := hx
        dsimp only at x1 x2 x3 x4
        have HFM := Lib.hid (fun W hW => format_any (xn, xt, xs) W hW (by show xn ≤ _; omega) (by show xt.length ≤ _; omega) x3 x4)
        have hB := BlockAt.new wr (lnA (xn, xt, xs)) LineT
        obtain ⟨d0, d1, d2⟩ : _ ∧ _ ∧ _ := ⟨hB.cell 0, hB.cell 1, hB.cell 2⟩
        have HW1 := Lib.hid (And.intro (builder_all hg.out.1 (below_alloc (Below.refl _ _) (.cells (lnA (xn, xt, xs)) LineT))) (below_alloc hg.out.2 (.cells (lnA (xn, xt, xs)) LineT)))
        have HNX2 : Hid (Lib.byteCells (Bk.fmts ((L.drop m).take j)) ++ Lib.strCells ⟨(Bk.fmtL (xn, xt, xs)).toArray⟩ = Lib.byteCells (Bk.fmts ((L.drop m).take (j + 1)))) := Lib.hid (by rw [HNX.out, Lib.byteCells_append]; rfl)
        have hfz : (⟨(Bk.fmtL (xn, xt, xs)).toArray⟩ : ByteArray).size ≤ 97 := by show (Bk.fmtL (xn, xt, xs)).toArray.size ≤ _; rw [List.size_toArray]; exact x5
        have HWS := Lib.hid (fun W h hBw => write_string w1.heap.size w1.heap.size (Lib.byteCells (Bk.fmts ((L.drop m).take j))) ⟨(Bk.fmtL (xn, xt, xs)).toArray⟩ W h (by rw [Lib.byteCells_length]; omega) hBw)
        rw [HNX2.out] at HWS
        clear HNX HNX2 hsh hsl hB hfz x5
        obtain ⟨BS2, hBS⟩ : ∃ BS2, BS2 = Lib.byteCells (Bk.fmts ((L.drop m).take (j + 1))) := ⟨_, rfl⟩
        rw [← hBS] at HWS
        have HBS := Lib.hid hBS
        clear hBS
        generalize Bk.fmtL (xn, xt, xs) = F at *
        go_wp2_with fail
        refine (HFM.out _ (HE.out.all (HB1.out.trans (HW1.out.2.mono HB1.out.size)))).mono ?_
        rintro e w2 ⟨rfl, hb2⟩
        have HW2 := Lib.hid (And.intro (builder_all HW1.out.1 hb2) (below_step HW1.out.2 hb2))
        have hsz := (below_step HW1.out.2 hb2).size
        clear hb2 HFM HW1 c0 c1 c2 d0 d1 d2
        go_wp2_with fail
        refine (HWS.out _ HW2.out.1 hsz).mono ?_
        rintro e w3 ⟨rfl, h3, hb3⟩
        have HW3 := Lib.hid (And.intro h3 (HW2.out.2.trans hb3))
        clear h3 hb3 HW2 HWS
        go_wp2
        go_roundw
        case rel => exact ⟨j + 1, by omega, by go_num, Lib.hid ⟨by rw [← HBS.out]; exact .inr HW3.out.1, HW3.out.2⟩⟩
        case measure => simp [intOf]; omega
      · have HST := Lib.hid (builder_string w1.heap.size w1.heap.size (Bk.fmts (L.drop m)) wr (by have := hg.out.1; rwa [List.take_of_length_le (by rw [List.length_drop]; omega)] at this) hg.out.2.size)
        obtain ⟨R, hR⟩ : ∃ R, R = Bk.fmts (L.drop m) := ⟨_, rfl⟩
        rw [← hR] at HST
        have HR := Lib.hid hR
        clear hR
        go_wp2_with fail
        refine HST.out.mono ?_
        rintro e w3 ⟨rfl, hb3⟩
        have hw3 := HB1.out.trans ((hg.out.2.trans hb3).mono HB1.out.size)
        clear hb3 HST
        go_wp2
        go_ret2
        exact ⟨by rw [← HR.out]; rfl, hw3⟩
  · go_enter Tryz.func28, Tryz.ntmps28
    go_wp2_with fail
    refine C.out.mono ?_
    rintro e w1 ⟨v, rfl, ho, hb⟩
    have hro := ho.rows lnC_len
    obtain ⟨va, vc, e, hcap, _⟩ := id hro
    subst e
    have HA := Lib.hid (hro.rest (m := m))
    have HB1 := Lib.hid hb
    clear ho hro hb C
    have HBU := Lib.hid (builder_new w1)
    go_wp2
    all_goals
      go_loopw [33] (fun t wr => ∃ j : Nat, j ≤ L.length - m ∧ t = .int .i64 (j : Int) ∧ Hid (Lib.IsBuilder 90 5 w1.heap.size w1.heap.size (Lib.byteCells (Bk.fmts ((L.drop m).take j))) wr ∧ Below w1.heap.size w1 wr)) (fun t _ => L.length - m - (intOf t).toNat)
      case atStart => exact ⟨0, Nat.zero_le _, rfl, Lib.hid ⟨HBU.out, below_alloc (Below.refl _ _) _⟩⟩
      case round =>
        obtain ⟨j, hj, rfl, hg⟩ := hrel
        by_cases hlt : j < L.length - m
        · exact absurd hlt (by omega)
        · have HST := Lib.hid (builder_string w1.heap.size w1.heap.size (Bk.fmts (L.drop m)) wr (by have := hg.out.1; rwa [List.take_of_length_le (by rw [List.length_drop]; omega)] at this) hg.out.2.size)
          obtain ⟨R, hR⟩ : ∃ R, R = Bk.fmts (L.drop m) := ⟨_, rfl⟩
          rw [← hR] at HST
          have HR := Lib.hid hR
          clear hR
          go_wp2_with fail
          refine HST.out.mono ?_
          rintro e w3 ⟨rfl, hb3⟩
          have hw3 := HB1.out.trans ((hg.out.2.trans hb3).mono HB1.out.size)
          clear hb3 HST
          go_wp2
          go_ret2
          exact ⟨by rw [← HR.out]; rfl, hw3⟩
end Go.Proofs.YtcljpklgpedolaaGreatDoor
namespace Go.Proofs.YtcljpklgpedolaaGreatDoor
open Go.RowKit Go.Sort

theorem Bk.lns_at : ∀ (ts : List (List UInt8)) (n : Nat) (b : Int) (i : Nat) (x : Bk.Ln), (Bk.lns n b ts)[i]? = some x → x.2.2 = Bk.nxt x.1 (Bk.lst n b (ts.take i)) x.2.1
  | [], _, _, _, _, h => by simp [Bk.lns] at h
  | t :: r, n, b, 0, x, h => by
    have e : (n, t, Bk.nxt n b t) = x := by simpa [Bk.lns] using h
    subst e; rfl
  | t :: r, n, b, i + 1, x, h => by
    have h2 : (Bk.lns (n + 1) (Bk.nxt n b t) r)[i]? = some x := by simpa [Bk.lns] using h
    rw [Bk.lns_at r _ _ i x h2]; rfl
theorem Bk.lns_take : ∀ (ts : List (List UInt8)) (n : Nat) (b : Int) (i : Nat), (Bk.lns n b ts).take i = Bk.lns n b (ts.take i)
  | [], _, _, i => by simp [Bk.lns]
  | t :: r, n, b, 0 => by simp [Bk.lns]
  | t :: r, n, b, i + 1 => by rw [Bk.lns, List.take_succ_cons, List.take_succ_cons, Bk.lns, Bk.lns_take r]
/-- A line is written as it stands. -/
theorem Bk.ln_wr {k : List UInt8} {i : Nat} (h : i < (Bk.ln k).length) : Bk.wr ((Bk.ln k)[i]).1 (Bk.lastS ((Bk.ln k).take i)) ((Bk.ln k)[i]).2.1 = Bk.fmtL (Bk.ln k)[i] ∧ 0 ≤ Bk.lastS ((Bk.ln k).take i) ∧ Bk.lastS ((Bk.ln k).take i) < 1000003 := by
  have h1 := Bk.lns_at (Bk.tx k) 1 0 i _ (List.getElem?_eq_getElem h)
  have h2 : Bk.lastS ((Bk.ln k).take i) = Bk.lst 1 0 ((Bk.tx k).take i) := by
    unfold Bk.ln Bk.lastS
    rw [Bk.lns_take, Bk.lst_last]
  have h3 := Bk.lst_in ((Bk.tx k).take i) 1 0 (by omega) (by omega)
  rw [h2]
  refine ⟨?_, h3⟩
  rw [Bk.wr_fmt]
  have h4 : ((Bk.ln k)[i]).2.2 = Bk.nxt ((Bk.ln k)[i]).1 (Bk.lst 1 0 ((Bk.tx k).take i)) ((Bk.ln k)[i]).2.1 := h1
  rw [← h4]
theorem append_two (x y : List UInt8) : (⟨x.toArray⟩ : ByteArray) ++ (⟨y.toArray⟩ : ByteArray) = ⟨(x ++ y).toArray⟩ := bytes_append x y
set_option maxRecDepth 20000 in
set_option maxHeartbeats 2000000 in
theorem texts_any (v : Value) (k : List UInt8) (m : Nat) (w : World) (hE : EnvB w) (hv : Lines w v (Bk.ln k)) (hm : m ≤ (Bk.ln k).length) :
    Calls Tryz.prog 70 #[v, .int .i64 (m : Int)] w fun e w' => e = .returned (sv (Bk.fmts ((Bk.ln k).drop m))) ∧ Below w.heap.size w w' := by
  obtain ⟨va, vc, rfl, hcap, hvk⟩ := id hv
  have HV := Lib.hid hvk
  have HVV := Lib.hid hv
  have HE := Lib.hid hE
  have hll := Bk.ln_len k
  have hl2 := Bk.tx_len k
  rw [← hll] at hl2
  have HLK := Lib.hid (fun x (hx : x ∈ Bk.ln k) => Bk.ln_like hx)
  have HSH := Lib.hid (fun j => Bk.fmts_short (k := k) (L := ((Bk.ln k).drop m).take j) (fun x hx => List.mem_of_mem_drop (List.mem_of_mem_take hx)))
  have HWR := Lib.hid (fun i (h : i < (Bk.ln k).length) => Bk.ln_wr h)
  clear hll hvk hv hE
  generalize Bk.ln k = L at *
  go_enter Tryz.func70, Tryz.ntmps70
  go_wp2
  go_loopw [5, 6] (fun o t wr => ∃ i : Nat, m ≤ i ∧ i ≤ L.length ∧ o = .string ⟨(Bk.fmts ((L.drop m).take (i - m))).toArray⟩ ∧ t = .int .i64 (i : Int) ∧ Hid (Below w.heap.size w wr)) (fun _ t _ => L.length - (intOf t).toNat)
  case atStart => exact ⟨m, Nat.le_refl _, hm, by rw [Nat.sub_self, List.take_zero]; rfl, rfl, Lib.hid (Below.refl _ _)⟩
  case round =>
    obtain ⟨i, hmi, hi, rfl, rfl, hg⟩ := hrel
    obtain ⟨j, hij⟩ : ∃ j, j = i - m := ⟨_, rfl⟩
    rw [← hij]
    by_cases hlt : i < L.length
    · obtain ⟨b, off, rfl, hbl, hcells⟩ := HV.out i hlt
      have hjd : j < (L.drop m).length := by rw [List.length_drop]; omega
      have hx := HLK.out (L[i]) (List.getElem_mem _)
      have HNX := Lib.hid (Bk.fmts_next hjd)
      have hsh := HSH.out j
      have hsl : ((L.drop m).take j).length ≤ 200 := by rw [List.length_take, List.length_drop]; omega
      obtain ⟨hwr, l0, l1⟩ := HWR.out i hlt
      have hge : (L.drop m)[j] = L[i] := by rw [List.getElem_drop]; congr 1; omega
      rw [hge] at HNX
      have HCX : Hid (∀ W, Below w.heap.size w W → W.cell? ⟨b, off + i * 3, none⟩ = some (.int .i64 L[i].1) ∧ W.cell? ⟨b, off + i * 3 + 1, none⟩ = some (sv L[i].2.1) ∧ W.cell? ⟨b, off + i * 3 + 2, none⟩ = some (.int .i64 L[i].2.2)) := Lib.hid (fun W hW => ln_at (hcells.below hW hbl))
      have HLA := Lib.hid (fun W (hW : Below w.heap.size w W) => (last_any (.slice (some ⟨b, off, none⟩) i vc) (L.take i) W ((HVV.out.first (by omega)).all hW) (by rw [List.length_take]; omega)).mono (fun e w' h => (⟨h.1, by rw [h.2]; exact Below.refl _ _⟩ : _ ∧ Below W.heap.size W w')))
      have HW2 := Lib.hid (fun W hW => refWrite_any (L[i].1) (Bk.lastS (L.take i)) (L[i].2.1) W hW (by omega) (by omega) (by omega) (by omega))
      rw [hwr] at HW2
      clear hcells hwr hge hjd
      obtain ⟨x, hxe⟩ : ∃ x, x = L[i] := ⟨_, rfl⟩
      rw [← hxe] at hx HNX HCX HW2
      clear hxe
      generalize Bk.lastS (L.take i) = S at *
      obtain ⟨xn, xt, xs⟩ := x
      obtain ⟨x1, x2, x3, x4, x5⟩ := hx
      dsimp only at x1 x2 x3 x4 HCX HW2
      have hX := append_two (Bk.fmts ((L.drop m).take j)) (Bk.fmtL (xn, xt, xs))
      rw [← HNX.out] at hX
      have HX := Lib.hid hX
      have hA : (Bk.fmts ((L.drop m).take j)).length ≤ 20000 := by omega
      clear hX HNX hsh hsl
      obtain ⟨A, hAe⟩ : ∃ A, A = Bk.fmts ((L.drop m).take j) := ⟨_, rfl⟩
      obtain ⟨A2, hA2⟩ : ∃ A2, A2 = Bk.fmts ((L.drop m).take (i + 1 - m)) := ⟨_, rfl⟩
      rw [← hAe] at hA HX ⊢
      rw [show j + 1 = i + 1 - m by omega, ← hA2] at HX
      have HA2 := Lib.hid hA2
      clear hAe hA2 hij
      generalize Bk.fmtL (xn, xt, xs) = F at *
      have hc : i ≤ vc := by omega
      go_upto_region 5 with fail
      refine wp_region_seq [(0, true), (1, true), (2, true), (3, true), (4, true), (5, true), (6, true), (7, true), (8, true), (10, true), (11, true), (12, true), (13, true), (14, true), (9, false), (15, false), (16, true), (17, true)] (fun W => Below w.heap.size w W)
        (by kernel_rfl) (by kernel_rfl) (by kernel_rfl) (by kernel_rfl) (fun d _ _ _ _ h => by cases d <;> exact h) hg.out.drew (fun hS0 => ?_)
      repeat (first
        | (refine SeqH.take (v := ?_) rfl (by rfl) ?_ ?_; rotate_left; (· intro w hSw; obtain ⟨c0, c1, c2⟩ := HCX.out w hSw; go_simp; (try rw [if_pos (by omega)]); (try rw [if_neg (by omega)]); (try with_reducible rfl)); simp only [Act.put, List.setIfInBounds_toArray, List.set_cons_zero, List.set_cons_succ])
        | (refine SeqH.skip rfl (by rfl) ?_; simp only [Act.put, List.setIfInBounds_toArray, List.set_cons_zero, List.set_cons_succ]))
      refine SeqH.step rfl (by rfl) (fun K hK => ?_)
      go_simp
      go_at_call 67
      refine (HLA.out _ hS0).mono ?_
      rintro e9 y1 ⟨rfl, hb1⟩
      try dsimp only
      refine hK.out _ _ (hS0.trans (hb1.mono hS0.size)) (fun hS1 => ?_)
      clear hK K
      try simp only [Act.put, List.setIfInBounds_toArray, List.set_cons_zero, List.set_cons_succ]
      repeat (first
        | (refine SeqH.take (v := ?_) rfl (by rfl) ?_ ?_; rotate_left; (· intro w hSw; obtain ⟨c0, c1, c2⟩ := HCX.out w hSw; go_simp; (try rw [if_pos (by omega)]); (try rw [if_neg (by omega)]); (try with_reducible rfl)); simp only [Act.put, List.setIfInBounds_toArray, List.set_cons_zero, List.set_cons_succ])
        | (refine SeqH.skip rfl (by rfl) ?_; simp only [Act.put, List.setIfInBounds_toArray, List.set_cons_zero, List.set_cons_succ]))
      refine SeqH.step rfl (by rfl) (fun K hK => ?_)
      go_simp
      go_at_call 66
      refine (HW2.out _ (HE.out.all hS1)).mono ?_
      rintro e9 y2 ⟨rfl, hb2⟩
      try dsimp only
      refine hK.out _ _ (hS1.trans (hb2.mono hS1.size)) (fun hS2 => ?_)
      clear hK K
      try simp only [Act.put, List.setIfInBounds_toArray, List.set_cons_zero, List.set_cons_succ]
      repeat (first
        | (refine SeqH.take (v := ?_) rfl (by rfl) ?_ ?_; rotate_left; (· intro w hSw; obtain ⟨c0, c1, c2⟩ := HCX.out w hSw; go_simp; (try rw [if_pos (by omega)]); (try rw [if_neg (by omega)]); (try with_reducible rfl)); simp only [Act.put, List.setIfInBounds_toArray, List.set_cons_zero, List.set_cons_succ])
        | (refine SeqH.skip rfl (by rfl) ?_; simp only [Act.put, List.setIfInBounds_toArray, List.set_cons_zero, List.set_cons_succ]))
      refine SeqH.done ?_
      go_wp2
      go_roundw
      case rel => exact ⟨i + 1, by omega, by omega, by rw [← HA2.out, ← HX.out], by go_num, Lib.hid hS2⟩
      case measure => simp [intOf]; omega
    · have HEQ : Hid (Bk.fmts ((L.drop m).take j) = Bk.fmts (L.drop m)) := Lib.hid (by rw [List.take_of_length_le (by rw [List.length_drop]; omega)])
      go_wp2
      go_ret
      refine ⟨?_, hg.out⟩
      show Ending.returned (.string ⟨(Bk.fmts ((L.drop m).take j)).toArray⟩) = _
      rw [HEQ.out]
end Go.Proofs.YtcljpklgpedolaaGreatDoor
namespace Go.Proofs.YtcljpklgpedolaaGreatDoor
open Go.RowKit Go.Sort

set_option maxRecDepth 20000 in
set_option maxHeartbeats 2000000 in
theorem refSince_any (k : ByteArray) (n : Int) (w : World) (hE : EnvB w) (hs : k.size ≤ 80000) (n1 : -9223372036854775808 ≤ n) (n2 : n ≤ 9223372036854775807) :
    Calls Tryz.prog 29 #[.string k, .int .i64 n] w (SinSays k.data.toList n w) := by
  unfold SinSays
  have HE := Lib.hid hE
  have C := Lib.hid (refRead_any k w hE hs)
  unfold BookSays at C
  by_cases hr : Bk.rest k.data.toList = []
  case neg =>
    have hA : Bk.sinE k.data.toList n = 15 := by unfold Bk.sinE; rw [if_pos hr]
    rw [Bk.sin_of hA (by decide), hA]
    generalize Bk.ln k.data.toList = L at *
    generalize Bk.rest k.data.toList = R at *
    have q1 : (R == []) = false := by simpa using hr
    have q2 : (R != []) = true := by simpa using hr
    have q3 : R.isEmpty = false := by simpa using hr
    clear hE hr hA n1 n2
    go_enter Tryz.func29, Tryz.ntmps29
    go_wp2_with fail
    refine C.out.mono ?_
    rintro e w1 ⟨v, rfl, ho, hb⟩
    obtain ⟨va, vc, rfl⟩ := (ho.rows lnC_len).form
    clear ho
    go_wp2
    go_ret2
    exact ⟨rfl, hb⟩
  rw [hr] at C
  have hll := Bk.ln_len k.data.toList
  have hl2 := Bk.tx_len k.data.toList
  rw [← hll] at hl2
  clear hll
  by_cases hn : n < 1 ∨ ((Bk.ln k.data.toList).length : Int) + 1 < n
  · have hA : Bk.sinE k.data.toList n = 5 := by unfold Bk.sinE; rw [if_neg (by simp [hr]), if_pos hn]
    rw [Bk.sin_of hA (by decide), hA]
    clear hE hr hA
    generalize Bk.ln k.data.toList = L at *
    have hi : IntKind.i64.wrap ((L.length : Int) + 1) = (L.length : Int) + 1 := IntWalk.i64_in _ ⟨by omega, by omega⟩
    by_cases h1 : n < 1
    · go_enter Tryz.func29, Tryz.ntmps29
      go_wp2_with fail
      refine C.out.mono ?_
      rintro e w1 ⟨v, rfl, ho, hb⟩
      obtain ⟨va, vc, rfl⟩ := (ho.rows lnC_len).form
      clear ho C
      go_wp2
      go_ret2
      exact ⟨rfl, hb⟩
    · have h2 : (L.length : Int) + 1 < n := by omega
      go_enter Tryz.func29, Tryz.ntmps29
      go_wp2_with fail
      refine C.out.mono ?_
      rintro e w1 ⟨v, rfl, ho, hb⟩
      obtain ⟨va, vc, rfl⟩ := (ho.rows lnC_len).form
      clear ho C
      go_wp2
      go_ret2
      exact ⟨rfl, hb⟩
  have hA : Bk.sinE k.data.toList n = 0 := by unfold Bk.sinE; rw [if_neg (by simp [hr]), if_neg hn]
  have hS : Bk.sinS k.data.toList n = Bk.fmts ((Bk.ln k.data.toList).drop (n - 1).toNat) := by unfold Bk.sinS; rw [if_pos hA]
  rw [hA, hS]
  have hm : n - 1 = (((n - 1).toNat : Nat) : Int) := by omega
  have hm2 : (n - 1).toNat ≤ (Bk.ln k.data.toList).length := by omega
  have hi2 : IntKind.i64.wrap (n - 1) = (((n - 1).toNat : Nat) : Int) := by rw [← hm]; exact IntWalk.i64_in _ ⟨by omega, by omega⟩
  have h1 : ¬ n < 1 := by omega
  have h2 : ¬ ((Bk.ln k.data.toList).length : Int) + 1 < n := by omega
  clear hm
  generalize (n - 1).toNat = m at *
  have HT := Lib.hid (fun v W hW hv => texts_any v k.data.toList m W hW hv hm2)
  clear hE hr hA hS hn n1 n2
  generalize Bk.fmts ((Bk.ln k.data.toList).drop m) = F at *
  generalize Bk.ln k.data.toList = L at *
  have hi : IntKind.i64.wrap ((L.length : Int) + 1) = (L.length : Int) + 1 := IntWalk.i64_in _ ⟨by omega, by omega⟩
  go_enter Tryz.func29, Tryz.ntmps29
  go_wp2_with fail
  refine C.out.mono ?_
  rintro e w1 ⟨v, rfl, ho, hb⟩
  have hro := ho.rows lnC_len
  obtain ⟨va, vc, rfl⟩ := hro.form
  have HRO := Lib.hid hro
  clear ho hro C
  go_wp2_with fail
  refine (HT.out _ _ (HE.out.all hb) HRO.out).mono ?_
  rintro e w2 ⟨rfl, hb2⟩
  have hw2 := below_step hb hb2
  clear hb hb2 HT HRO
  go_wp2
  go_ret2
  exact ⟨rfl, hw2⟩
def Bk.finE (k : List UInt8) (n : Int) : Int := if Bk.rest k ≠ [] then 15 else if n < 1 ∨ ((Bk.ln k).length : Int) < n then 5 else 0
def Bk.finX (k : List UInt8) (n : Int) : Bk.Ln := if Bk.finE k n = 0 then (Bk.ln k).getD (n - 1).toNat (0, [], 0) else (0, [], 0)
theorem Bk.fin_of {k : List UInt8} {n q : Int} (h : Bk.finE k n = q) (hq : q ≠ 0) : Bk.finX k n = (0, [], 0) := by unfold Bk.finX; rw [h, if_neg hq]
set_option maxRecDepth 20000 in
set_option maxHeartbeats 2000000 in
theorem find_any (k : ByteArray) (n : Int) (w : World) (hE : EnvB w) (hs : k.size ≤ 80000) (n1 : -9223372036854775808 ≤ n) (n2 : n ≤ 9223372036854775807) :
    Calls Tryz.prog 26 #[.string k, .int .i64 n] w fun e w' => e = .returned (.tuple #[lnV (Bk.finX k.data.toList n), .int .i64 (Bk.finE k.data.toList n)]) ∧ Below w.heap.size w w' := by
  have HE := Lib.hid hE
  have hB0 := BlockAt.new w #[.int .i64 0, .string ⟨#[]⟩, .int .i64 0] LineT
  by_cases hr : Bk.rest k.data.toList = []
  case neg =>
    have hA : Bk.finE k.data.toList n = 15 := by unfold Bk.finE; rw [if_pos hr]
    rw [Bk.fin_of hA (by decide), hA]
    have C := Lib.hid (fun W hW => linesOf_bad k W hW hs hr)
    clear hE hr hA n1 n2
    go_enter Tryz.func26, Tryz.ntmps26
    go_wp2_with fail
    refine (C.out _ (HE.out.all (below_alloc (Below.refl _ _) _))).mono ?_
    rintro e w1 ⟨rfl, hb1⟩
    have hB1 := hB0.below hb1 hB0.lt
    have hw1 := below_step (below_alloc (Below.refl w.heap.size w) (.cells #[.int .i64 0, .string ⟨#[]⟩, .int .i64 0] LineT)) hb1
    clear hb1 hB0 C
    obtain ⟨c0, c1, c2⟩ : _ ∧ _ ∧ _ := ⟨hB1.cell 0, hB1.cell 1, hB1.cell 2⟩
    obtain ⟨f0, f1, f2⟩ : _ ∧ _ ∧ _ := ⟨hB1.frozen 0, hB1.frozen 1, hB1.frozen 2⟩
    have hB9 := ((hB1.set 0 (.int .i64 0)).set 1 (.string ⟨#[]⟩)).set 2 (.int .i64 0)
    have e0 : World.cell? _ _ = some (.int .i64 0) := (hB1.set 0 (.int .i64 0)).cell 0
    have e1 : World.cell? _ _ = some (.string ⟨#[]⟩) := ((hB1.set 0 (.int .i64 0)).set 1 (.string ⟨#[]⟩)).cell 1
    have e2 : World.cell? _ _ = some (.int .i64 0) := hB9.cell 2
    go_wp2
    exact bodyPost_ret (v := .tuple #[lnV (0, [], 0), .int .i64 15]) (by simp [results, Tryz.results26, go_sem, e0, e1, e2]) rfl ⟨rfl, ((hw1.setCell (Nat.le_refl _) _).setCell (Nat.le_refl _) _).setCell (Nat.le_refl _) _⟩
  have C := Lib.hid (fun W hW => linesOf_ok k W hW hs hr)
  have hll := Bk.ln_len k.data.toList
  have hl2 := Bk.tx_len k.data.toList
  rw [← hll] at hl2
  clear hll
  by_cases hn : n < 1 ∨ ((Bk.ln k.data.toList).length : Int) < n
  · have hA : Bk.finE k.data.toList n = 5 := by unfold Bk.finE; rw [if_neg (by simp [hr]), if_pos hn]
    rw [Bk.fin_of hA (by decide), hA]
    clear hE hr hA
    generalize Bk.ln k.data.toList = L at *
    by_cases h1 : n < 1
    · go_enter Tryz.func26, Tryz.ntmps26
      go_wp2_with fail
      refine (C.out _ (HE.out.all (below_alloc (Below.refl _ _) _))).mono ?_
      rintro e w1 ⟨v, rfl, ho, hb1⟩
      obtain ⟨va, vc, rfl⟩ := (ho.rows lnC_len).form
      clear ho
      have hB1 := hB0.below hb1 hB0.lt
      have hw1 := below_step (below_alloc (Below.refl w.heap.size w) (.cells #[.int .i64 0, .string ⟨#[]⟩, .int .i64 0] LineT)) hb1
      clear hb1 hB0 C
      obtain ⟨c0, c1, c2⟩ : _ ∧ _ ∧ _ := ⟨hB1.cell 0, hB1.cell 1, hB1.cell 2⟩
      obtain ⟨f0, f1, f2⟩ : _ ∧ _ ∧ _ := ⟨hB1.frozen 0, hB1.frozen 1, hB1.frozen 2⟩
      have hB9 := ((hB1.set 0 (.int .i64 0)).set 1 (.string ⟨#[]⟩)).set 2 (.int .i64 0)
      have e0 : World.cell? _ _ = some (.int .i64 0) := (hB1.set 0 (.int .i64 0)).cell 0
      have e1 : World.cell? _ _ = some (.string ⟨#[]⟩) := ((hB1.set 0 (.int .i64 0)).set 1 (.string ⟨#[]⟩)).cell 1
      have e2 : World.cell? _ _ = some (.int .i64 0) := hB9.cell 2
      go_wp2
      exact bodyPost_ret (v := .tuple #[lnV (0, [], 0), .int .i64 5]) (by simp [results, Tryz.results26, go_sem, e0, e1, e2]) rfl ⟨rfl, ((hw1.setCell (Nat.le_refl _) _).setCell (Nat.le_refl _) _).setCell (Nat.le_refl _) _⟩
    · have h2 : (L.length : Int) < n := by omega
      go_enter Tryz.func26, Tryz.ntmps26
      go_wp2_with fail
      refine (C.out _ (HE.out.all (below_alloc (Below.refl _ _) _))).mono ?_
      rintro e w1 ⟨v, rfl, ho, hb1⟩
      obtain ⟨va, vc, rfl⟩ := (ho.rows lnC_len).form
      clear ho
      have hB1 := hB0.below hb1 hB0.lt
      have hw1 := below_step (below_alloc (Below.refl w.heap.size w) (.cells #[.int .i64 0, .string ⟨#[]⟩, .int .i64 0] LineT)) hb1
      clear hb1 hB0 C
      obtain ⟨c0, c1, c2⟩ : _ ∧ _ ∧ _ := ⟨hB1.cell 0, hB1.cell 1, hB1.cell 2⟩
      obtain ⟨f0, f1, f2⟩ : _ ∧ _ ∧ _ := ⟨hB1.frozen 0, hB1.frozen 1, hB1.frozen 2⟩
      have hB9 := ((hB1.set 0 (.int .i64 0)).set 1 (.string ⟨#[]⟩)).set 2 (.int .i64 0)
      have e0 : World.cell? _ _ = some (.int .i64 0) := (hB1.set 0 (.int .i64 0)).cell 0
      have e1 : World.cell? _ _ = some (.string ⟨#[]⟩) := ((hB1.set 0 (.int .i64 0)).set 1 (.string ⟨#[]⟩)).cell 1
      have e2 : World.cell? _ _ = some (.int .i64 0) := hB9.cell 2
      go_wp2
      exact bodyPost_ret (v := .tuple #[lnV (0, [], 0), .int .i64 5]) (by simp [results, Tryz.results26, go_sem, e0, e1, e2]) rfl ⟨rfl, ((hw1.setCell (Nat.le_refl _) _).setCell (Nat.le_refl _) _).setCell (Nat.le_refl _) _⟩
  have hA : Bk.finE k.data.toList n = 0 := by unfold Bk.finE; rw [if_neg (by simp [hr]), if_neg hn]
  have hS : Bk.finX k.data.toList n = (Bk.ln k.data.toList).getD (n - 1).toNat (0, [], 0) := by unfold Bk.finX; rw [if_pos hA]
  have hm2 : (n - 1).toNat < (Bk.ln k.data.toList).length := by omega
  rw [List.getD_eq_getElem?_getD, List.getElem?_eq_getElem hm2, Option.getD_some] at hS
  rw [hA, hS]
  have hm : n - 1 = (((n - 1).toNat : Nat) : Int) := by omega
  have hi2 : IntKind.i64.wrap (n - 1) = (((n - 1).toNat : Nat) : Int) := by rw [← hm]; exact IntWalk.i64_in _ ⟨by omega, by omega⟩
  have h1 : ¬ n < 1 := by omega
  have h2 : ¬ ((Bk.ln k.data.toList).length : Int) < n := by omega
  clear hm hA hS
  generalize (n - 1).toNat = m at *
  clear hE hr hn n1 n2
  generalize Bk.ln k.data.toList = L at *
  have HCL : Hid (∀ v W, RowsOf 3 lnC W v L → ∃ b off vc, v = .slice (some ⟨b, off, none⟩) L.length vc ∧ b < W.heap.size ∧ CellsAt (lnC L[m]) W b (off + m * 3)) := Lib.hid (fun v W h => by
    obtain ⟨a, c, e1, _, h3⟩ := h
    obtain ⟨b, off, e2, e3, e4⟩ := h3 m hm2
    exact ⟨b, off, c, by rw [e1, e2], e3, e4⟩)
  generalize L[m] = x at *
  obtain ⟨xn, xt, xs⟩ := x
  go_enter Tryz.func26, Tryz.ntmps26
  go_wp2_with fail
  refine (C.out _ (HE.out.all (below_alloc (Below.refl _ _) _))).mono ?_
  rintro e w1 ⟨v, rfl, ho, hb1⟩
  obtain ⟨b, off, vc, rfl, hbl, hcl⟩ := HCL.out v w1 (ho.rows lnC_len)
  obtain ⟨g0, g1, g2⟩ := ln_at hcl
  have hB1 := hB0.below hb1 hB0.lt
  have hw1 := below_step (below_alloc (Below.refl w.heap.size w) (.cells #[.int .i64 0, .string ⟨#[]⟩, .int .i64 0] LineT)) hb1
  clear hb1 hB0 C HCL ho hcl
  obtain ⟨c0, c1, c2⟩ : _ ∧ _ ∧ _ := ⟨hB1.cell 0, hB1.cell 1, hB1.cell 2⟩
  obtain ⟨f0, f1, f2⟩ : _ ∧ _ ∧ _ := ⟨hB1.frozen 0, hB1.frozen 1, hB1.frozen 2⟩
  have hB9 := ((hB1.set 0 (.int .i64 xn)).set 1 (sv xt)).set 2 (.int .i64 xs)
  have e0 : World.cell? _ _ = some (.int .i64 (xn : Int)) := (hB1.set 0 (.int .i64 xn)).cell 0
  have e1 : World.cell? _ _ = some (sv xt) := ((hB1.set 0 (.int .i64 xn)).set 1 (sv xt)).cell 1
  have e2 : World.cell? _ _ = some (.int .i64 xs) := hB9.cell 2
  go_wp2
  exact bodyPost_ret (v := .tuple #[lnV (xn, xt, xs), .int .i64 0]) (by simp [results, Tryz.results26, go_sem, e0, e1, e2]) rfl ⟨rfl, ((hw1.setCell (Nat.le_refl _) _).setCell (Nat.le_refl _) _).setCell (Nat.le_refl _) _⟩
set_option maxRecDepth 20000 in
set_option maxHeartbeats 2000000 in
theorem refFind_any (k : ByteArray) (n : Int) (w : World) (hE : EnvB w) (hs : k.size ≤ 80000) (n1 : -9223372036854775808 ≤ n) (n2 : n ≤ 9223372036854775807) :
    Calls Tryz.prog 27 #[.string k, .int .i64 n] w fun e w' => e = .returned (.tuple #[lnV (Bk.finX k.data.toList n), .int .i64 (Bk.finE k.data.toList n)]) ∧ Below w.heap.size w w' := by
  have HE := Lib.hid hE
  have hB0 := BlockAt.new w #[.int .i64 0, .string ⟨#[]⟩, .int .i64 0] LineT
  have C := Lib.hid (fun W hW => refRead_any k W hW hs)
  unfold BookSays at C
  by_cases hr : Bk.rest k.data.toList = []
  case neg =>
    have hA : Bk.finE k.data.toList n = 15 := by unfold Bk.finE; rw [if_pos hr]
    rw [Bk.fin_of hA (by decide), hA]
    generalize Bk.ln k.data.toList = L at *
    generalize Bk.rest k.data.toList = R at *
    have q1 : (R == []) = false := by simpa using hr
    have q2 : (R != []) = true := by simpa using hr
    have q3 : R.isEmpty = false := by simpa using hr
    clear hE hr hA n1 n2
    go_enter Tryz.func27, Tryz.ntmps27
    go_wp2_with fail
    refine (C.out _ (HE.out.all (below_alloc (Below.refl _ _) _))).mono ?_
    rintro e w1 ⟨v, rfl, ho, hb1⟩
    obtain ⟨va, vc, rfl⟩ := (ho.rows lnC_len).form
    clear ho
    have hB1 := hB0.below hb1 hB0.lt
    have hw1 := below_step (below_alloc (Below.refl w.heap.size w) (.cells #[.int .i64 0, .string ⟨#[]⟩, .int .i64 0] LineT)) hb1
    clear hb1 hB0 C
    obtain ⟨c0, c1, c2⟩ : _ ∧ _ ∧ _ := ⟨hB1.cell 0, hB1.cell 1, hB1.cell 2⟩
    obtain ⟨f0, f1, f2⟩ : _ ∧ _ ∧ _ := ⟨hB1.frozen 0, hB1.frozen 1, hB1.frozen 2⟩
    have hB9 := ((hB1.set 0 (.int .i64 0)).set 1 (.string ⟨#[]⟩)).set 2 (.int .i64 0)
    have e0 : World.cell? _ _ = some (.int .i64 0) := (hB1.set 0 (.int .i64 0)).cell 0
    have e1 : World.cell? _ _ = some (.string ⟨#[]⟩) := ((hB1.set 0 (.int .i64 0)).set 1 (.string ⟨#[]⟩)).cell 1
    have e2 : World.cell? _ _ = some (.int .i64 0) := hB9.cell 2
    go_wp2
    exact bodyPost_ret (v := .tuple #[lnV (0, [], 0), .int .i64 15]) (by simp [results, Tryz.results27, go_sem, e0, e1, e2]) rfl ⟨rfl, ((hw1.setCell (Nat.le_refl _) _).setCell (Nat.le_refl _) _).setCell (Nat.le_refl _) _⟩
  rw [hr] at C
  have hll := Bk.ln_len k.data.toList
  have hl2 := Bk.tx_len k.data.toList
  rw [← hll] at hl2
  clear hll
  by_cases hn : n < 1 ∨ ((Bk.ln k.data.toList).length : Int) < n
  · have hA : Bk.finE k.data.toList n = 5 := by unfold Bk.finE; rw [if_neg (by simp [hr]), if_pos hn]
    rw [Bk.fin_of hA (by decide), hA]
    clear hE hr hA
    generalize Bk.ln k.data.toList = L at *
    by_cases h1 : n < 1
    · go_enter Tryz.func27, Tryz.ntmps27
      go_wp2_with fail
      refine (C.out _ (HE.out.all (below_alloc (Below.refl _ _) _))).mono ?_
      rintro e w1 ⟨v, rfl, ho, hb1⟩
      obtain ⟨va, vc, rfl⟩ := (ho.rows lnC_len).form
      clear ho
      have hB1 := hB0.below hb1 hB0.lt
      have hw1 := below_step (below_alloc (Below.refl w.heap.size w) (.cells #[.int .i64 0, .string ⟨#[]⟩, .int .i64 0] LineT)) hb1
      clear hb1 hB0 C
      obtain ⟨c0, c1, c2⟩ : _ ∧ _ ∧ _ := ⟨hB1.cell 0, hB1.cell 1, hB1.cell 2⟩
      obtain ⟨f0, f1, f2⟩ : _ ∧ _ ∧ _ := ⟨hB1.frozen 0, hB1.frozen 1, hB1.frozen 2⟩
      have hB9 := ((hB1.set 0 (.int .i64 0)).set 1 (.string ⟨#[]⟩)).set 2 (.int .i64 0)
      have e0 : World.cell? _ _ = some (.int .i64 0) := (hB1.set 0 (.int .i64 0)).cell 0
      have e1 : World.cell? _ _ = some (.string ⟨#[]⟩) := ((hB1.set 0 (.int .i64 0)).set 1 (.string ⟨#[]⟩)).cell 1
      have e2 : World.cell? _ _ = some (.int .i64 0) := hB9.cell 2
      go_wp2
      exact bodyPost_ret (v := .tuple #[lnV (0, [], 0), .int .i64 5]) (by simp [results, Tryz.results27, go_sem, e0, e1, e2]) rfl ⟨rfl, ((hw1.setCell (Nat.le_refl _) _).setCell (Nat.le_refl _) _).setCell (Nat.le_refl _) _⟩
    · have h2 : (L.length : Int) < n := by omega
      go_enter Tryz.func27, Tryz.ntmps27
      go_wp2_with fail
      refine (C.out _ (HE.out.all (below_alloc (Below.refl _ _) _))).mono ?_
      rintro e w1 ⟨v, rfl, ho, hb1⟩
      obtain ⟨va, vc, rfl⟩ := (ho.rows lnC_len).form
      clear ho
      have hB1 := hB0.below hb1 hB0.lt
      have hw1 := below_step (below_alloc (Below.refl w.heap.size w) (.cells #[.int .i64 0, .string ⟨#[]⟩, .int .i64 0] LineT)) hb1
      clear hb1 hB0 C
      obtain ⟨c0, c1, c2⟩ : _ ∧ _ ∧ _ := ⟨hB1.cell 0, hB1.cell 1, hB1.cell 2⟩
      obtain ⟨f0, f1, f2⟩ : _ ∧ _ ∧ _ := ⟨hB1.frozen 0, hB1.frozen 1, hB1.frozen 2⟩
      have hB9 := ((hB1.set 0 (.int .i64 0)).set 1 (.string ⟨#[]⟩)).set 2 (.int .i64 0)
      have e0 : World.cell? _ _ = some (.int .i64 0) := (hB1.set 0 (.int .i64 0)).cell 0
      have e1 : World.cell? _ _ = some (.string ⟨#[]⟩) := ((hB1.set 0 (.int .i64 0)).set 1 (.string ⟨#[]⟩)).cell 1
      have e2 : World.cell? _ _ = some (.int .i64 0) := hB9.cell 2
      go_wp2
      exact bodyPost_ret (v := .tuple #[lnV (0, [], 0), .int .i64 5]) (by simp [results, Tryz.results27, go_sem, e0, e1, e2]) rfl ⟨rfl, ((hw1.setCell (Nat.le_refl _) _).setCell (Nat.le_refl _) _).setCell (Nat.le_refl _) _⟩
  have hA : Bk.finE k.data.toList n = 0 := by unfold Bk.finE; rw [if_neg (by simp [hr]), if_neg hn]
  have hS : Bk.finX k.data.toList n = (Bk.ln k.data.toList).getD (n - 1).toNat (0, [], 0) := by unfold Bk.finX; rw [if_pos hA]
  have hm2 : (n - 1).toNat < (Bk.ln k.data.toList).length := by omega
  rw [List.getD_eq_getElem?_getD, List.getElem?_eq_getElem hm2, Option.getD_some] at hS
  rw [hA, hS]
  have hm : n - 1 = (((n - 1).toNat : Nat) : Int) := by omega
  have hi2 : IntKind.i64.wrap (n - 1) = (((n - 1).toNat : Nat) : Int) := by rw [← hm]; exact IntWalk.i64_in _ ⟨by omega, by omega⟩
  have h1 : ¬ n < 1 := by omega
  have h2 : ¬ ((Bk.ln k.data.toList).length : Int) < n := by omega
  clear hm hA hS
  generalize (n - 1).toNat = m at *
  clear hE hr hn n1 n2
  generalize Bk.ln k.data.toList = L at *
  have HCL : Hid (∀ v W, RowsOf 3 lnC W v L → ∃ b off vc, v = .slice (some ⟨b, off, none⟩) L.length vc ∧ b < W.heap.size ∧ CellsAt (lnC L[m]) W b (off + m * 3)) := Lib.hid (fun v W h => by
    obtain ⟨a, c, e1, _, h3⟩ := h
    obtain ⟨b, off, e2, e3, e4⟩ := h3 m hm2
    exact ⟨b, off, c, by rw [e1, e2], e3, e4⟩)
  generalize L[m] = x at *
  obtain ⟨xn, xt, xs⟩ := x
  go_enter Tryz.func27, Tryz.ntmps27
  go_wp2_with fail
  refine (C.out _ (HE.out.all (below_alloc (Below.refl _ _) _))).mono ?_
  rintro e w1 ⟨v, rfl, ho, hb1⟩
  obtain ⟨b, off, vc, rfl, hbl, hcl⟩ := HCL.out v w1 (ho.rows lnC_len)
  obtain ⟨g0, g1, g2⟩ := ln_at hcl
  have hB1 := hB0.below hb1 hB0.lt
  have hw1 := below_step (below_alloc (Below.refl w.heap.size w) (.cells #[.int .i64 0, .string ⟨#[]⟩, .int .i64 0] LineT)) hb1
  clear hb1 hB0 C HCL ho hcl
  obtain ⟨c0, c1, c2⟩ : _ ∧ _ ∧ _ := ⟨hB1.cell 0, hB1.cell 1, hB1.cell 2⟩
  obtain ⟨f0, f1, f2⟩ : _ ∧ _ ∧ _ := ⟨hB1.frozen 0, hB1.frozen 1, hB1.frozen 2⟩
  have hB9 := ((hB1.set 0 (.int .i64 xn)).set 1 (sv xt)).set 2 (.int .i64 xs)
  have e0 : World.cell? _ _ = some (.int .i64 (xn : Int)) := (hB1.set 0 (.int .i64 xn)).cell 0
  have e1 : World.cell? _ _ = some (sv xt) := ((hB1.set 0 (.int .i64 xn)).set 1 (sv xt)).cell 1
  have e2 : World.cell? _ _ = some (.int .i64 xs) := hB9.cell 2
  go_wp2
  exact bodyPost_ret (v := .tuple #[lnV (xn, xt, xs), .int .i64 0]) (by simp [results, Tryz.results27, go_sem, e0, e1, e2]) rfl ⟨rfl, ((hw1.setCell (Nat.le_refl _) _).setCell (Nat.le_refl _) _).setCell (Nat.le_refl _) _⟩
end Go.Proofs.YtcljpklgpedolaaGreatDoor
namespace Go.Proofs.YtcljpklgpedolaaGreatDoor
open Go.RowKit Go.Sort

set_option maxRecDepth 20000 in
set_option maxHeartbeats 2000000 in
theorem finds_walk (a : ByteArray) (n : Int) (w : World) (hE : EnvB w) (ha : a.size ≤ 9223372036854775807) (n1 : -9223372036854775808 ≤ n) (n2 : n ≤ 9223372036854775807) :
    Calls Tryz.prog 6 #[.string a, .int .i64 n] w fun e w' => e = .returned (.bool true) ∧ Below w.heap.size w w' := by
  have HE := Lib.hid hE
  have SA := Lib.hid (fun W hW => sane_any W hW)
  have hw0 := below_alloc (Below.refl w.heap.size w) (.cells #[.string a] 9)
  have LG := Lib.hid (long_one a w ha)
  clear hE
  by_cases hs : a.size ≤ 30000
  · rw [decide_eq_false (show ¬ 30000 < a.size by omega)] at LG
    have P1 := Lib.hid (fun W hW => find_any a n W hW (by omega) n1 n2)
    have P2 := Lib.hid (fun W hW => refFind_any a n W hW (by omega) n1 n2)
    have P3 := Lib.hid (fun W hW => since_any a n W hW (by omega) n1 n2)
    have P4 := Lib.hid (fun W hW => refSince_any a n W hW (by omega) n1 n2)
    unfold SinSays at P3 P4
    clear n1 n2
    generalize Bk.finX a.data.toList n = x at *
    obtain ⟨xn, xt, xs⟩ := x
    generalize Bk.finE a.data.toList n = E1 at *
    generalize Bk.sinS a.data.toList n = S at *
    generalize Bk.sinE a.data.toList n = E2 at *
    go_enter Tryz.func6, Tryz.ntmps6
    go_wp2_with fail
    refine LG.out.mono ?_
    rintro e w1 ⟨rfl, hb1⟩
    have hw1 := below_step hw0 hb1
    clear hb1 hw0 LG
    go_wp2_with fail
    refine (P1.out _ (HE.out.all hw1)).mono ?_
    rintro e w2 ⟨rfl, hb2⟩
    have hw2 := below_alloc (below_step hw1 hb2) (.cells (lnA (xn, xt, xs)) LineT)
    have hB := BlockAt.new w2 (lnA (xn, xt, xs)) LineT
    clear hb2 hw1 P1
    go_wp2_with fail
    refine (P2.out _ (HE.out.all hw2)).mono ?_
    rintro e w3 ⟨rfl, hb3⟩
    have hw3 := below_alloc (below_step hw2 hb3) (.cells (lnA (xn, xt, xs)) LineT)
    have hB3 := (hB.below hb3 hB.lt).alloc (.cells (lnA (xn, xt, xs)) LineT)
    have hC3 := BlockAt.new w3 (lnA (xn, xt, xs)) LineT
    clear hb3 hw2 P2 hB
    go_wp2_with fail
    refine (P3.out _ (HE.out.all hw3)).mono ?_
    rintro e w4 ⟨rfl, hb4⟩
    have hw4 := below_step hw3 hb4
    have hB4 := hB3.below hb4 hB3.lt
    have hC4 := hC3.below hb4 hC3.lt
    clear hb4 hw3 P3 hB3 hC3
    go_wp2_with fail
    refine (P4.out _ (HE.out.all hw4)).mono ?_
    rintro e w5 ⟨rfl, hb5⟩
    have hw5 := below_step hw4 hb5
    have hB5 := hB4.below hb5 hB4.lt
    have hC5 := hC4.below hb5 hC4.lt
    clear hb5 hw4 P4 hB4 hC4
    obtain ⟨c0, c1, c2⟩ : _ ∧ _ ∧ _ := ⟨hB5.cell 0, hB5.cell 1, hB5.cell 2⟩
    obtain ⟨d0, d1, d2⟩ : _ ∧ _ ∧ _ := ⟨hC5.cell 0, hC5.cell 1, hC5.cell 2⟩
    clear hB5 hC5
    go_wp2_with fail
    refine (SA.out _ (HE.out.all hw5)).mono ?_
    rintro e w9 ⟨rfl, hb9⟩
    have hw9 := below_step hw5 hb9
    clear hb9 hw5 SA
    go_wp2
    go_ret
    exact ⟨rfl, hw9⟩
  · rw [decide_eq_true (show 30000 < a.size by omega)] at LG
    clear hs
    go_enter Tryz.func6, Tryz.ntmps6
    go_wp2_with fail
    refine LG.out.mono ?_
    rintro e w1 ⟨rfl, hb1⟩
    have hw1 := below_step hw0 hb1
    clear hb1 hw0 LG
    go_wp2_with fail
    refine (SA.out _ (HE.out.all hw1)).mono ?_
    rintro e w2 ⟨rfl, hb2⟩
    have hw2 := below_step hw1 hb2
    clear hb2 hw1
    go_wp2
    go_ret
    exact ⟨rfl, hw2⟩
end Go.Proofs.YtcljpklgpedolaaGreatDoor
