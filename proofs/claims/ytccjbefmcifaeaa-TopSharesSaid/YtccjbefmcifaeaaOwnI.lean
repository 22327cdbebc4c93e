/- Lists of numbers that a call makes itself: lots to which a path leads. -/
import Derived.Test.YtccjbefmcifaeaaReach
namespace Go.Proofs.Ytccjbefmcifaeaa
open Go.RowKit

def intL (x : Int) : List Value := [.int .i64 x]
def cellsL : List Int → List Value
  | [] => []
  | x :: b => intL x ++ cellsL b
theorem cellsL_append (a b : List Int) : cellsL (a ++ b) = cellsL a ++ cellsL b := by
  induction a with
  | nil => rfl
  | cons r a ih => simp [cellsL, ih, List.append_assoc]
theorem cellsL_get : ∀ (a : List Int) (k : Nat) (hk : k < a.length), (cellsL a)[k]? = some (.int .i64 a[k])
  | x :: a, 0, _ => rfl
  | x :: a, k + 1, hk => by
    have := cellsL_get a k (by simpa using hk)
    simpa [cellsL, intL] using this
def OwnI (base : Nat) (w : World) (v : Value) (ks : List Int) : Prop := w.ownsRow base 3 1 v ks.length (cellsL ks)
theorem OwnI.nil (base : Nat) (w : World) : OwnI base w (.slice none 0 0) [] := World.ownsRow_nil _ _ _ _
theorem OwnI.pushed {base : Nat} {w : World} {v : Value} {a : List Int} {x : Int} (h : w.ownsRow base 3 1 v (a.length + 1) (cellsL a ++ intL x)) : OwnI base w v (a ++ [x]) := by
  unfold OwnI
  rw [cellsL_append, show cellsL [x] = intL x by simp [cellsL], show (a ++ [x]).length = a.length + 1 by simp]
  exact h
theorem OwnI.ints {base : Nat} {w : World} {v : Value} {ks : List Int} (h : OwnI base w v ks) : Ints w v ks := by
  obtain ⟨h0, ⟨h1, h2⟩ | ⟨g, cap, cur, h1, h2, h3, h4⟩⟩ := id h
  · exact .inl ⟨none, 0, by rw [h1], List.length_eq_zero_iff.1 (by simpa using h2)⟩
  · subst h1
    refine .inr ⟨g, 0, cap, rfl, by omega, (Array.getElem?_eq_some_iff.1 h3).1, fun k hk => ?_⟩
    rw [Nat.zero_add]
    refine (World.ownsRow.cellAt h k (by omega)).trans ?_
    rw [cellsL_get ks k hk]
    simp [hk]
theorem intL_at (w : World) (x : Int) (t : TypeId) : ∀ (j : Nat) (u : Value), (intL x)[j]? = some u → (w.alloc (.cells #[.int .i64 x] t)).cell? ((⟨w.heap.size, 0, none⟩ : Addr).add j) = some u := by
  intro j u h
  match j, h with
  | 0, h => simp [intL] at h; subst h; simp [Addr.add]
  | j + 1, h => simp [intL] at h
theorem intL_one (x : Int) : ∀ u ∈ intL x, u.oneCell' = true := by
  intro u h
  simp [intL] at h; subst h; rfl

/-- The numbers below k that a test accepts. -/
def selK (p : Nat → Bool) (k : Nat) : List Int := ((List.range k).filter p).map (fun j : Nat => (j : Int))
theorem selK_succ (p : Nat → Bool) (k : Nat) : selK p (k + 1) = if p k then selK p k ++ [(k : Int)] else selK p k := by
  unfold selK
  rw [List.range_succ, List.filter_append, List.map_append]
  cases h : p k <;> simp [h]
theorem selK_len (p : Nat → Bool) (k : Nat) : (selK p k).length ≤ k := by
  unfold selK
  rw [List.length_map]
  exact Nat.le_trans (List.length_filter_le _ _) (by simp)
theorem OwnI.alloc {base : Nat} {w : World} {v : Value} {rs : List Int} (h : OwnI base w v rs) (o : Obj) : OwnI base (w.alloc o) v rs := World.ownsRow.alloc h o
theorem OwnI.mono {base B : Nat} {w : World} {v : Value} {rs : List Int} (h : OwnI base w v rs) (hB : B ≤ base) : OwnI B w v rs := by
  obtain ⟨h0, h⟩ := h
  rcases h with h | ⟨g, cap, cur, h1, h2, h3⟩
  · exact ⟨h0, .inl h⟩
  · exact ⟨h0, .inr ⟨g, cap, cur, h1, Nat.le_trans hB h2, h3⟩⟩
theorem OwnI.all {base : Nat} {w w2 : World} {v : Value} {rs : List Int} (h : OwnI base w v rs) (hb : Below w.heap.size w w2) : OwnI base w2 v rs := by
  obtain ⟨h0, h1 | ⟨g, cap, cur, h1, h2, h3, h4⟩⟩ := h
  · exact ⟨h0, .inl h1⟩
  · have hg : g < w.heap.size := (Array.getElem?_eq_some_iff.1 h3).1
    exact ⟨h0, .inr ⟨g, cap, cur, h1, h2, by rw [hb.block g hg]; exact h3, h4⟩⟩

/-- The lots in which a lot is. -/
def descP (ls : List Lt.L) (i : Nat) (j : Nat) : Bool := decide (j ≠ i) && decide (0 < pathsF ls i j)
def descR (ls : List Lt.L) (n : Int) : List Int := if numE ls [n] = 0 then selK (descP ls n.toNat) ls.length else []

set_option maxRecDepth 20000 in
set_option maxHeartbeats 1000000 in
theorem lotDescend_any (v : Value) (ls : List Lt.L) (n : Int) (w : World) (hv : Lots w v ls) (hsh : short ls) :
    Calls Try.prog 45 #[v, .int .i64 n] w fun e w' => ∃ u, e = .returned (.tuple #[u, .int .i64 (numE ls [n])]) ∧ OwnI w.heap.size w' u (descR ls n) ∧ Below w.heap.size w w' := by
  have hb1 := below_alloc (Below.refl w.heap.size w) (.cells #[.int .i64 n] 3)
  have N := Lib.hid (nums_one v ls n w.heap.size _ (hv.all hb1) hsh (BlockAt.new w #[.int .i64 n] 3))
  have HB := Lib.hid (And.intro hb1 hv)
  obtain ⟨i0, hi, hz0, hz1, hz2⟩ := info_parts infoInt
  obtain ⟨a, c, rfl⟩ := hv.form
  clear hb1 hv hsh
  by_cases hz : numE ls [n] = 0
  · obtain ⟨h0, h1, h2⟩ := numE_zero hz
    obtain ⟨hl, herr, _⟩ := Lt.valE_zero h0
    have HR := Lib.hid (show descR ls n = selK (descP ls n.toNat) ls.length by unfold descR; rw [if_pos hz])
    have HZ := Lib.hid hz
    rw [hz] at N
    obtain ⟨i, rfl⟩ : ∃ i : Nat, n = (i : Int) := ⟨n.toNat, by omega⟩
    simp only [Int.toNat_natCast] at HR
    have L := Lib.hid (fun W (hW : Below w.heap.size w W) => paths_any _ ls i W (HB.out.2.all hW) hl herr (by omega))
    clear hz h0 h1 h2 herr
    go_enter Try.func45, Try.ntmps45
    go_wp2_with fail
    refine N.out.mono ?_
    rintro e w1 ⟨rfl, hb⟩
    have hw := below_step HB.out.1 hb
    have L1 := Lib.hid (L.out _ hw)
    clear hb N L
    go_wp2_with fail
    refine L1.out.mono ?_
    rintro e w2 ⟨rfl, hblk, hb2⟩
    have HW2 := Lib.hid (below_step hw hb2)
    have HBK := Lib.hid hblk
    have hs2 := hblk.lt
    clear hblk hb2 L1 hw HB
    go_wp2
    go_loopw [7, 21] (fun s t wr => ∃ k : Nat, k ≤ ls.length ∧ t = .int .i64 k ∧ Hid (OwnI w2.heap.size wr s (selK (descP ls i) k) ∧ Below w2.heap.size w2 wr)) (fun _ t _ => ls.length - (intOf t).toNat)
    case atStart => exact ⟨0, Nat.zero_le _, rfl, Lib.hid ⟨OwnI.nil _ _, Below.refl _ _⟩⟩
    case round =>
      obtain ⟨k, hk, rfl, hg⟩ := hrel
      by_cases hlt : k < ls.length
      · obtain ⟨hown, hw⟩ := hg.out
        have hc := ((HBK.out.below hw hs2).cell k).trans (fnC_at hlt)
        have hsl := selK_len (descP ls i) k
        have HS := Lib.hid (selK_succ (descP ls i) k)
        have hd : descP ls i k = (decide (k ≠ i) && decide (0 < pathsF ls i k)) := rfl
        generalize selK (descP ls i) k = qs at *
        generalize pathsF ls i k = z at *
        generalize descP ls i k = d at *
        by_cases hki : k = i
        · have hne : ((k : Int) != (i : Int)) = false := by rw [hki]; simp
          have hd0 : d = false := by rw [hd]; simp [hki]
          rw [hd0, if_neg (by decide)] at HS
          clear hd hd0 hki hown hw
          go_wp2
          go_roundw
          case rel => exact ⟨k + 1, by omega, by go_num, by rw [HS.out]; exact hg⟩
          case measure => simp [intOf]; omega
        · have hne : ((k : Int) != (i : Int)) = true := bne_iff_ne.2 (by omega)
          by_cases hp : 0 < z
          · have hd1 : d = true := by rw [hd]; simp [hki, hp]
            have hpb : decide (0 < z) = true := by simpa using hp
            rw [hd1, if_pos rfl] at HS
            clear hd hd1 hki hp
            have hro : _ := hown
            unfold OwnI at hro
            go_wp2_with (at_builtin; refine wpList_append_own _ rfl _ _ 54 rfl w2.heap.size 3 i0 (.int .i64 0) 1 8 Try.underlying54 hi hz0 hz1 hz2 rfl (by decide) _ _ _ rfl (hro.alloc _) ⟨_, 0, none⟩ 1 1 (intL k) rfl rfl (intL_at _ _ _) (intL_one _) (by unfold maxLen; omega) (by omega) (by have := hw.size; simp; omega) ?_)
            intro v' w3 hown1 hgrow _
            have hw2 := (hw.alloc hw.size (.cells #[.int .i64 (k : Int)] 3)).grown hgrow (by have := hw.size; simp; omega) (fun j e => (World.ownsRow.lt hown j e).1)
            have hx2 : OwnI w2.heap.size w3 v' (qs ++ [(k : Int)]) := OwnI.pushed hown1
            clear hown1 hgrow hown hw hro hc
            go_wp2
            go_roundw
            case rel => exact ⟨k + 1, by omega, by go_num, Lib.hid ⟨by rw [HS.out]; exact hx2, hw2⟩⟩
            case measure => simp [intOf]; try omega
          · have hd0 : d = false := by rw [hd]; simp [hp]
            have hpb : decide (0 < z) = false := by simpa using hp
            rw [hd0, if_neg (by decide)] at HS
            clear hd hd0 hki hp hown hw
            go_wp2
            go_roundw
            case rel => exact ⟨k + 1, by omega, by go_num, by rw [HS.out]; exact hg⟩
            case measure => simp [intOf]; omega
      · obtain rfl : k = ls.length := by omega
        obtain ⟨hown, hw⟩ := hg.out
        have hx := below_step HW2.out hw
        have ho := hown.mono HW2.out.size
        clear hown hw hg
        go_wp2
        go_ret2
        exact ⟨_, by rw [HZ.out]; rfl, by rw [HR.out]; exact ho, hx⟩
  · have HR := Lib.hid (show descR ls n = [] by unfold descR; rw [if_neg hz])
    have hne : (numE ls [n] != 0) = true := by simpa using hz
    generalize hq : numE ls [n] = q at *
    have HQ := Lib.hid hq
    clear hz hq
    go_enter Try.func45, Try.ntmps45
    go_wp2_with fail
    refine N.out.mono ?_
    rintro e w1 ⟨rfl, hb⟩
    have hw := below_step HB.out.1 hb
    clear hb N
    go_wp2
    go_ret2
    exact ⟨_, rfl, by rw [HR.out]; exact OwnI.nil _ _, hw⟩
end Go.Proofs.Ytccjbefmcifaeaa
