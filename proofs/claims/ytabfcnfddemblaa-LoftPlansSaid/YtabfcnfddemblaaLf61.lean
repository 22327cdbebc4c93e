/- The order in which goods are planned: of the reference. -/
import Derived.Test.YtabfcnfddemblaaLfMg
import Derived.Test.YtabfcnfddemblaaLf60
namespace Go.Proofs.Ytabfcnfddemblaa.Lo
open Go.RowKit

/-- The goods among the first ones that are due on a day. -/
def dayN (gs : List Lf.G) (d k : Nat) : List Nat := (List.range k).filter fun i => decide ((gs.getD i default).u = (d : Int))
def preN (gs : List Lf.G) (d : Nat) : List Nat := (List.range d).flatMap fun e => dayN gs e gs.length
theorem dayN_next (gs : List Lf.G) (d k : Nat) : dayN gs d (k + 1) = if (gs.getD k default).u = (d : Int) then dayN gs d k ++ [k] else dayN gs d k := by
  unfold dayN
  rw [List.range_succ, List.filter_append]
  simp only [List.filter_cons, List.filter_nil, decide_eq_true_eq]
  by_cases c : (gs.getD k default).u = (d : Int)
  · rw [if_pos c, if_pos c]
  · rw [if_neg c, if_neg c, List.append_nil]
theorem preN_next (gs : List Lf.G) (d : Nat) : preN gs (d + 1) = preN gs d ++ dayN gs d gs.length := by
  unfold preN
  rw [List.range_succ, List.flatMap_append]; simp
theorem bef_uniq {r : Nat → Int} : ∀ {a b : List Nat}, a.Pairwise (Lr.bef r) → b.Pairwise (Lr.bef r) → (∀ x, x ∈ a ↔ x ∈ b) → a = b
  | [], [], _, _, _ => rfl
  | [], y :: s, _, _, h => absurd ((h y).2 List.mem_cons_self) List.not_mem_nil
  | x :: s, [], _, _, h => absurd ((h x).1 List.mem_cons_self) List.not_mem_nil
  | x :: s, y :: t, ha, hb, h => by
    obtain ⟨a1, a2⟩ := List.pairwise_cons.1 ha
    obtain ⟨b1, b2⟩ := List.pairwise_cons.1 hb
    have e : x = y := by
      rcases List.mem_cons.1 ((h x).1 List.mem_cons_self) with e | e
      · exact e
      · rcases List.mem_cons.1 ((h y).2 List.mem_cons_self) with e2 | e2
        · exact e2.symm
        · exact (Lr.bef_asym (b1 x e) (a1 y e2)).elim
    subst e
    rw [bef_uniq a2 b2 fun z => ?_]
    constructor
    · intro hz
      rcases List.mem_cons.1 ((h z).1 (List.mem_cons_of_mem _ hz)) with e | e
      · subst e; exact (Lr.bef_asym (a1 z hz) (a1 z hz)).elim
      · exact e
    · intro hz
      rcases List.mem_cons.1 ((h z).2 (List.mem_cons_of_mem _ hz)) with e | e
      · subst e; exact (Lr.bef_asym (b1 z hz) (b1 z hz)).elim
      · exact e
theorem preN_odr {gs : List Lf.G} (hG : ∀ k (hk : k < gs.length), 0 ≤ gs[k].u ∧ gs[k].u ≤ 60) : (preN gs 61).map (fun (k : Nat) => (k : Int)) = odr gs := by
  unfold odr
  congr 1
  refine bef_uniq (r := due gs) ?_ (Lr.srt_sorted (due gs) gs.length) fun x => ?_
  · unfold preN
    rw [List.pairwise_flatMap]
    refine ⟨fun d _ => ?_, (List.pairwise_lt_range).imp fun {d e} hde => ?_⟩
    · unfold dayN
      refine ((List.pairwise_lt_range).filter _).imp_of_mem fun {i j} hi hj hij => ?_
      have h1 := of_decide_eq_true (List.mem_filter.1 hi).2
      have h2 := of_decide_eq_true (List.mem_filter.1 hj).2
      unfold Lr.bef due
      omega
    · intro i hi j hj
      unfold dayN at hi hj
      have h1 := of_decide_eq_true (List.mem_filter.1 hi).2
      have h2 := of_decide_eq_true (List.mem_filter.1 hj).2
      unfold Lr.bef due
      omega
  · rw [Lr.srt_mem (due gs)]
    unfold preN dayN
    simp only [List.mem_flatMap, List.mem_filter, List.mem_range, decide_eq_true_eq]
    constructor
    · rintro ⟨d, _, h, _⟩; exact h
    · intro h
      have h1 := hG x h
      have h2 : gs.getD x default = gs[x] := by simp [h]
      exact ⟨gs[x].u.toNat, by omega, h, by rw [h2]; omega⟩
def ofN (l : List Nat) : List Int := l.map fun (k : Nat) => (k : Int)
theorem ofN_app (l : List Nat) (k : Nat) : ofN (l ++ [k]) = ofN l ++ [(k : Int)] := by unfold ofN; rw [List.map_append]; rfl
set_option maxRecDepth 20000 in
set_option maxHeartbeats 4000000 in
theorem rorder_any (v : Value) (gs : List Lf.G) (w : World) (hv : Goods w v gs) (h8 : gs.length ≤ 8) (hG : ∀ k (hk : k < gs.length), 0 ≤ gs[k].u ∧ gs[k].u ≤ 60) :
    Calls Try.prog 99 #[v] w fun e w' => ∃ a c, e = .returned (.slice a (odr gs).length c) ∧ OwnI w.heap.size w' (.slice a (odr gs).length c) (odr gs) ∧ Below w.heap.size w w' := by
  obtain ⟨i0, hi0, hz0, hz1, hz2⟩ := info_parts infoInt
  obtain ⟨va, vc, rfl⟩ := hv.form
  have HV : Hid (∀ k (hk : k < gs.length), ∃ b off, va = some ⟨b, off, none⟩ ∧ b < w.heap.size ∧ w.cell? ⟨b, off + k * 5 + 4, none⟩ = some (.int .i64 (gs.getD k default).u)) := Lib.hid (by
    obtain ⟨a2, c2, e, _, hk⟩ := hv
    injection e with e1 e2 e3
    subst e1
    intro k hkl
    obtain ⟨b, off, e1, hb, hc⟩ := hk k hkl
    exact ⟨b, off, e1, hb, by rw [show gs.getD k default = gs[k] by simp [hkl]]; exact (gd_at hc).2.2.2.2⟩)
  have HO : Hid (ofN (preN gs 61) = odr gs) := Lib.hid (preN_odr hG)
  have HDN := Lib.hid (fun d k => dayN_next gs d k)
  have HPN := Lib.hid (fun d => preN_next gs d)
  clear hv hG
  go_enter Try.func99, Try.ntmps99
  go_wp2
  go_loopw [3, 4] (fun s t wr => ∃ (d : Nat) (L : List Int) (a : Option Addr) (c : Nat), (d ≤ 61 ∧ L.length ≤ 8 * d) ∧ s = .slice a L.length c ∧ t = .int .i64 d ∧ Hid (L = ofN (preN gs d) ∧ OwnI w.heap.size wr (.slice a L.length c) L ∧ Below w.heap.size w wr)) (fun _ t _ => 61 - (intOf t).toNat)
  case atStart => exact ⟨0, [], none, 0, ⟨by omega, by simp⟩, rfl, rfl, Lib.hid ⟨rfl, OwnG.nil _ _, Below.refl _ _⟩⟩
  case round =>
    obtain ⟨d, L0, a0, c0, ⟨hd, hL0⟩, rfl, rfl, hg0⟩ := hrel
    by_cases hlt0 : d < 61
    · have k1 : decide ((d : Int) ≤ 60) = true := decide_eq_true (by omega)
      have k2 : decide (d ≤ 60) = true := decide_eq_true (by omega)
      have HG0 := Lib.hid hg0.out
      clear hg0
      go_wp2
      go_loopw [3, 5] (fun s t w2 => ∃ (k : Nat) (L : List Int) (a : Option Addr) (c : Nat), (k ≤ gs.length ∧ L.length ≤ 8 * d + k) ∧ s = .slice a L.length c ∧ t = .int .i64 k ∧ Hid (L = ofN (preN gs d ++ dayN gs d k) ∧ OwnI w.heap.size w2 (.slice a L.length c) L ∧ Below w.heap.size w w2)) (fun _ t _ => gs.length - (intOf t).toNat)
      case atStart => exact ⟨0, L0, a0, c0, ⟨Nat.zero_le _, by omega⟩, rfl, rfl, Lib.hid ⟨by rw [HG0.out.1]; unfold dayN; simp, HG0.out.2⟩⟩
      case round =>
        obtain ⟨k, L, a, c, ⟨hk, hL⟩, rfl, rfl, hg⟩ := hrel
        clear HG0
        by_cases hlt : k < gs.length
        · obtain ⟨vb, vo, rfl, hvb, hcv⟩ := HV.out k hlt
          have y0 := (hg.out.2.2.cell (p := ⟨vb, vo + k * 5 + 4, none⟩) hvb).trans hcv
          have HD1 := Lib.hid (HDN.out d k)
          have hkd : decide (k < gs.length) = true := decide_eq_true hlt
          clear hcv
          generalize (gs.getD k default).u = x at *
          by_cases hx : x = (d : Int)
          · subst hx
            have HD2 : Hid (L ++ [(k : Int)] = ofN (preN gs d ++ dayN gs d (k + 1))) := Lib.hid (by rw [HD1.out, if_pos rfl, ← List.append_assoc, ofN_app, ← hg.out.1])
            have hown := hg.out.2.1
            have HG := Lib.hid hg.out.2.2
            have hsz := HG.out.size
            have hca := cells_new (cs := intL (k : Int)) wr 3
            clear hg HD1
            go_wp2_with (at_builtin; refine wpList_append_own _ rfl _ _ 24 rfl w.heap.size 3 i0 _ 1 8 Try.underlying24 hi0 hz0 hz1 hz2 rfl (by decide) _ _ _ rfl (hown.alloc _) _ 1 1 (intL (k : Int)) rfl rfl ?c1 (intL_one _) ?c3 ?c4 ?c5 ?_)
            case c1 => first | exact hca | exact fun j u h => h
            case c3 => unfold maxLen; omega
            case c4 => omega
            case c5 => first | omega | (simp; omega)
            intro v' w9 hr9 hg9 _
            have hw9 := (below_alloc2 HG.out (.cells (intL (k : Int)).toArray 3)).grown hg9 (by simp; omega) (fun j e => (World.ownsRow.lt hown j e).1)
            have hp9 : OwnI w.heap.size w9 v' (L ++ [(k : Int)]) := OwnG.pushed hr9
            obtain ⟨a9, c9, e9⟩ := hp9.form
            subst e9
            have H9 := Lib.hid (And.intro HD2.out (And.intro hp9 hw9))
            have hl9 : (L ++ [(k : Int)]).length ≤ 8 * d + (k + 1) := by rw [List.length_append]; simp; omega
            clear hown hsz hca hr9 hg9 hp9 hw9 HG HD2 y0
            generalize L ++ [(k : Int)] = L9 at *
            go_wp2
            go_roundw
            case rel => exact ⟨k + 1, L9, a9, c9, ⟨by omega, hl9⟩, rfl, by go_num, H9⟩
            case measure => simp [intOf]; omega
          · have d1 : decide (x = (d : Int)) = false := decide_eq_false hx
            have d2 : (x == (d : Int)) = false := beq_eq_false_iff_ne.2 hx
            have HD2 : Hid (L = ofN (preN gs d ++ dayN gs d (k + 1)) ∧ OwnI w.heap.size wr (.slice a L.length c) L ∧ Below w.heap.size w wr) := Lib.hid (by rw [HD1.out, if_neg hx]; exact hg.out)
            clear hg HD1
            go_wp2
            go_roundw
            case rel => exact ⟨k + 1, L, a, c, ⟨by omega, by omega⟩, rfl, by go_num, HD2⟩
            case measure => simp [intOf]; omega
        · obtain rfl : k = gs.length := by omega
          have HG := Lib.hid (show L = ofN (preN gs (d + 1)) ∧ OwnI w.heap.size wr (.slice a L.length c) L ∧ Below w.heap.size w wr from ⟨by rw [HPN.out]; exact hg.out.1, hg.out.2⟩)
          clear hg
          go_wp2
          go_roundw
          case rel => exact ⟨d + 1, L, a, c, ⟨by omega, by omega⟩, rfl, by go_num, HG⟩
          case measure => simp [intOf]; omega
    · obtain rfl : d = 61 := by omega
      have HG := Lib.hid (show OwnI w.heap.size wr (.slice a0 L0.length c0) L0 ∧ Below w.heap.size w wr from hg0.out.2)
      have HL := Lib.hid (show L0 = odr gs from hg0.out.1.trans HO.out)
      clear hg0 HO
      go_wp2
      go_ret
      exact ⟨a0, c0, by rw [HL.out]; rfl, by have := HG.out.1; rw [HL.out] at this; exact this, HG.out.2⟩
end Go.Proofs.Ytabfcnfddemblaa.Lo
