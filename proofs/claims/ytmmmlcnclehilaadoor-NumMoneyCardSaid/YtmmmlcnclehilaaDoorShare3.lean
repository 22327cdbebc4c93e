/- The stable sort of the indices. -/
import Derived.Test.YtmmmlcnclehilaaDoorShare2
namespace Go.Proofs.YtmmmlcnclehilaaDoor
open Go.RowKit Go.Sort

/-- A list of the indices in order, in memory, and what the closure reads. -/
structure Sorts (w : World) (r : Nat → Int) (n bv bR bO : Nat) : Prop where
  pos : 0 < n
  small : n ≤ 16
  var : w.cell? ⟨bv, 0, none⟩ = some (.slice (some ⟨bR, 0, none⟩) n n)
  rem : ∀ k, k < n → w.cell? ⟨bR, k, none⟩ = some (.int .i64 (r k))
  ord : ∀ k, k < n → w.cell? ⟨bO, k, none⟩ = some (.int .i64 k) ∧ w.frozen? ⟨bO, k, none⟩ = false
  nev : bv ≠ bO
  neR : bR ≠ bO
  ltv : bv < w.heap.size
  ltR : bR < w.heap.size

theorem kept_lt {n x : Nat} (h : 0 < n) : kept n x < n := by unfold kept; omega

theorem sort_reads {w : World} {r : Nat → Int} {n bv bR bO : Nat} (h : Sorts w r n bv bR bO) : CmpReads Tryd.prog 26 #[.pointer (some ⟨bv, 0, none⟩)] (idx n) (cmpR r n) bO 0 n w := by
  intro m os dk _ x y
  have hcell : ∀ b k, b < w.heap.size → b ≠ bO → (sortWorld (idx n) w bO 0 m dk os).cell? ⟨b, k, none⟩ = w.cell? ⟨b, k, none⟩ := by
    intro b k hb hne
    unfold sortWorld
    rw [cell?_grow _ _ _ (by show b < (putRow _ _ _ _ _).heap.size; rw [size_putRow]; exact hb), cell?_putRow_other _ _ _ _ _ _ (Or.inl hne)]
    rfl
  exact cmpShare_any r n (kept n x) (kept n y) bv bR _ (kept_lt h.pos) (kept_lt h.pos) (by have := h.small; omega) (by rw [hcell _ _ h.ltv h.nev]; exact h.var) (fun k hk => by rw [hcell _ _ h.ltR h.neR]; exact h.rem k hk)

theorem ins_any {w : World} {r : Nat → Int} {n bv bR bO : Nat} (h : Sorts w r n bv bR bO) :
    Calls Tryd.prog 61 #[.slice (some ⟨bO, 0, none⟩) n n, .int .i64 0, .int .i64 n, .func (.func 26) #[] #[.pointer (some ⟨bv, 0, none⟩)]] w fun e w' => e = .returned (.tuple #[]) ∧ ∃ (D : Array Nat) (q : Nat), D.toList = Lr.srt r n ∧ w' = (putRow (idx n) w bO 0 D).drewN q := by
  have eg : ∀ args w, (callFunc 26 args).run Tryd.prog w = .ok (.enter 26 args) w := enters_of Tryd.func26 (by kernel_rfl) rfl
  obtain ⟨d, hd⟩ : ∃ d : Array Nat, d = (List.range n).toArray := ⟨_, rfl⟩
  have hsz : d.size = n := by rw [hd]; simp
  have hH : Holds (idx n) w bO 0 d := by
    intro j hj
    rw [hsz] at hj
    have := h.ord j hj
    have e : d[j]! = j := by rw [hd]; simp [hj]
    rw [Nat.zero_add, e]
    refine ⟨?_, this.2⟩
    rw [this.1]
    show some (Value.int .i64 (j : Int)) = some (.int .i64 ((min j (n - 1) : Nat) : Int))
    rw [Nat.min_eq_left (by omega)]
  have hr := sort_reads h
  have hn := h.small
  have hp := h.pos
  have hcon := Any.insertionSortCmpFunc_one Tryd.insL (idx n) (fun _ => rfl) (cmpR r n) 26 #[.pointer (some ⟨bv, 0, none⟩)] bO 0 n 0 n d w eg (by rw [hsz]; exact hr) hH (Nat.zero_le _) (by omega) (by omega)
  rw [hsz] at hcon
  refine hcon.mono ?_
  rintro e w' ⟨rfl, q, rfl⟩
  exact ⟨rfl, _, q, sorted_kept hp (by rw [hd]), rfl⟩

set_option maxRecDepth 20000 in
theorem stable_any {w : World} {r : Nat → Int} {n bv bR bO : Nat} (h : Sorts w r n bv bR bO) :
    Calls Tryd.prog 47 #[.slice (some ⟨bO, 0, none⟩) n n, .int .i64 n, .func (.func 26) #[] #[.pointer (some ⟨bv, 0, none⟩)]] w fun e w' => e = .returned (.tuple #[]) ∧ ∃ (D : Array Nat) (q : Nat), D.toList = Lr.srt r n ∧ w' = (putRow (idx n) w bO 0 D).drewN q := by
  have C := Lib.hid (ins_any h)
  have hn : ¬ (20 : Int) ≤ (n : Int) := by have := h.small; omega
  have hn2 : ¬ (20 : Int) < (n : Int) := by omega
  clear h
  go_enter Tryd.func47, Tryd.ntmps47
  go_wp2
  go_loop [7, 8] (fun s t => s = .int .i64 0 ∧ t = .int .i64 20) (fun _ _ => 0)
  case atStart => exact ⟨rfl, rfl⟩
  case round =>
    obtain ⟨rfl, rfl⟩ := hrel
    go_wp2_with fail
    refine C.out.mono ?_
    rintro e w1 ⟨rfl, hw1⟩
    have HW := Lib.hid hw1
    clear hw1 C
    go_wp2
    go_loop [6, 7, 8] (fun s t u => s = .int .i64 20 ∧ t = .int .i64 0 ∧ u = .int .i64 20) (fun _ _ _ => 0)
    case atStart => exact ⟨rfl, rfl, rfl⟩
    case round =>
      obtain ⟨rfl, rfl, rfl⟩ := hrel
      go_wp2
      go_end0
      obtain ⟨D, q, h1, h2⟩ := HW.out
      first | exact ⟨rfl, D, h1, q, h2⟩ | exact ⟨rfl, D, q, h1, h2⟩

theorem sortStable_any {w : World} {r : Nat → Int} {n bv bR bO : Nat} (h : Sorts w r n bv bR bO) :
    Calls Tryd.prog 25 #[.slice (some ⟨bO, 0, none⟩) n n, .func (.func 26) #[] #[.pointer (some ⟨bv, 0, none⟩)]] w fun e w' => e = .returned (.tuple #[]) ∧ ∃ (D : Array Nat) (q : Nat), D.toList = Lr.srt r n ∧ w' = (putRow (idx n) w bO 0 D).drewN q := by
  have C := Lib.hid (stable_any h)
  clear h
  go_enter Tryd.func25, Tryd.ntmps25
  go_wp2_with fail
  refine C.out.mono ?_
  rintro e w1 ⟨rfl, hw1⟩
  have HW := Lib.hid hw1
  clear hw1 C
  go_wp2
  go_end0
  exact ⟨rfl, HW.out⟩
end Go.Proofs.YtmmmlcnclehilaaDoor
