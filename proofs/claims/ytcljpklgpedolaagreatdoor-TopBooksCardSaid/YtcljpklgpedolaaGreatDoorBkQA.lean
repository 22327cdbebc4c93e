/- Books in memory: lists of lines and of postings, what can be read, and what a call has made itself. Sums of texts: of the reference. Sums of texts: of the program: a range over the text's characters, and in each over its bytes. Right texts, the making of a line, a line as it is written: of the program. The making of a line, and a line as it is written: of the program. -/
import Derived.Test.YtcljpklgpedolaaGreatDoorTextA
import Derived.Test.YtcljpklgpedolaaGreatDoorBkPA
import Derived.Test.YtcljpklgpedolaaGreatDoorSeqA
import Derived.Laws.OwnMore
import Derived.Maps.AppendAt
import Derived.Deep.CutRange
import Derived.Laws.EntriesVeiled
import Derived.Below
import Derived.WalkKit
import Derived.WalkSpells
import Derived.BigQuiet
import Derived.Deep.QuietTactic
import Derived.RegionTactic
import Derived.Outline
import Derived.Lib.Hide
import Derived.StillTailTactics
import Derived.Lib.OthersKept
import Derived.Lib.RuneCount
import Derived.Lib.QuoteLoop
import Derived.Lib.TrimUEq
namespace Go.Proofs.YtcljpklgpedolaaGreatDoor
open Go.RowKit Go.Sort

theorem ret_str {a b : List UInt8} (h : a = b) : Ending.returned (.string ⟨a.toArray⟩) = .returned (.string ⟨b.toArray⟩) := by rw [h]
/-- A text's value. -/
abbrev sv (l : List UInt8) : Value := .string ⟨l.toArray⟩
theorem mk_list (s : ByteArray) : (⟨s.data.toList.toArray⟩ : ByteArray) = s := by apply ByteArray.ext; simp
theorem bcell {W w1 : World} (hb : Below W.heap.size W w1) : (∀ b o, b < W.heap.size → w1.cell? ⟨b, o, none⟩ = W.cell? ⟨b, o, none⟩) ∧ (∀ b o, b < W.heap.size → w1.frozen? ⟨b, o, none⟩ = W.frozen? ⟨b, o, none⟩) :=
  ⟨fun b o h => hb.cell (p := ⟨b, o, none⟩) h, fun b o h => hb.frozen (p := ⟨b, o, none⟩) h⟩
theorem results_tmp3 {fn : Func} {t u v : Tmp} (h : fn.results = #[.tmp t, .tmp u, .tmp v]) (tmps : Array Value) (P : Program) (w : World) :
    (results fn tmps).run P w = .ok (.tuple #[tmps.getD t undef, tmps.getD u undef, tmps.getD v undef]) w := by
  simp [results, h]
theorem results_tmp4 {fn : Func} {t u v x : Tmp} (h : fn.results = #[.tmp t, .tmp u, .tmp v, .tmp x]) (tmps : Array Value) (P : Program) (w : World) :
    (results fn tmps).run P w = .ok (.tuple #[tmps.getD t undef, tmps.getD u undef, tmps.getD v undef, tmps.getD x undef]) w := by
  simp [results, h]

theorem BlockAt.kept {W W' : World} {row : Option Nat} {B : Nat} {cs : Array Value} {t : TypeId} (h : BlockAt W B cs t) (hg : W.grownBy W' row) (hne : some B ≠ row) : BlockAt W' B cs t := (hg.block B h.lt hne).trans h
theorem BlockAt.not_row {W : World} {B : Nat} {cs : Array Value} {t e : TypeId} (h : BlockAt W B cs t) (hte : t ≠ e) {base size k : Nat} {v : Value} {xs : List Value} (hr : W.ownsRow base e size v k xs) : some B ≠ v.ownBlock := by
  rcases hr.2 with ⟨rfl, _⟩ | ⟨g, cap, cur, rfl, _, hgb, _⟩
  · simp [Value.ownBlock]
  · intro e'
    obtain rfl : B = g := by simpa [Value.ownBlock] using e'
    have := (show W.heap[B]? = _ from h).symm.trans hgb
    simp at this
    exact hte this.2
theorem ownsRow_all {base size n : Nat} {e : TypeId} {v : Value} {xs : List Value} {W w1 : World} (h : W.ownsRow base e size v n xs) (hb : Below W.heap.size W w1) : w1.ownsRow base e size v n xs := by
  obtain ⟨h0, h1 | ⟨g, cap, cur, h1, h2, h3, h4⟩⟩ := h
  · exact ⟨h0, .inl h1⟩
  · exact ⟨h0, .inr ⟨g, cap, cur, h1, h2, by rw [hb.block g (Array.getElem?_eq_some_iff.1 h3).1]; exact h3, h4⟩⟩
theorem ownsRow_mono {base B size n : Nat} {e : TypeId} {v : Value} {xs : List Value} {W : World} (h : W.ownsRow base e size v n xs) (hB : B ≤ base) : W.ownsRow B e size v n xs := by
  obtain ⟨h0, h1 | ⟨g, cap, cur, h1, h2, h3⟩⟩ := h
  · exact ⟨h0, .inl h1⟩
  · exact ⟨h0, .inr ⟨g, cap, cur, h1, Nat.le_trans hB h2, h3⟩⟩
/-- A row stays where a row of another kind grows. -/
theorem ownsRow_other {base base' size size' n n' : Nat} {e e' : TypeId} {u s : Value} {xs xs' : List Value} {W w9 : World} (hne : e ≠ e') (h : W.ownsRow base e size u n xs) (hrow : W.ownsRow base' e' size' s n' xs') (hg : W.grownBy w9 s.ownBlock) : w9.ownsRow base e size u n xs := by
  obtain ⟨h0, h1 | ⟨g, cap, cur, h1, h2, h3, h4⟩⟩ := h
  · exact ⟨h0, .inl h1⟩
  · refine ⟨h0, .inr ⟨g, cap, cur, h1, h2, ?_, h4⟩⟩
    refine (hg.block g (Array.getElem?_eq_some_iff.1 h3).1 ?_).trans h3
    intro e2
    obtain ⟨k0, ⟨k1, k2⟩ | ⟨g', cap', cur', k1, k2, k3, k4⟩⟩ := hrow
    · rw [k1] at e2; simp [Value.ownBlock] at e2
    · rw [k1] at e2
      simp [Value.ownBlock] at e2
      subst e2
      rw [k3] at h3
      simp at h3
      exact hne h3.2.symm
/-- Some cells lie from a place on. -/
def CellsAt (cs : List Value) (w : World) (b off : Nat) : Prop := ∀ j u, cs[j]? = some u → w.cell? ⟨b, off + j, none⟩ = some u
theorem CellsAt.below {cs : List Value} {w w2 : World} {b off B : Nat} (h : CellsAt cs w b off) (hb : Below B w w2) (hB : b < B) : CellsAt cs w2 b off :=
  fun j u hj => (hb.cell (p := ⟨b, off + j, none⟩) hB).trans (h j u hj)
/-- A list that can be read: its elements lie in a row; c the cells of one, cs these. -/
def RowsOf {α : Type} (c : Nat) (cs : α → List Value) (w : World) (v : Value) (xs : List α) : Prop :=
  ∃ a cap, v = .slice a xs.length cap ∧ xs.length ≤ cap ∧ ∀ k (hk : k < xs.length), ∃ b off, a = some ⟨b, off, none⟩ ∧ b < w.heap.size ∧ CellsAt (cs xs[k]) w b (off + k * c)
theorem RowsOf.all {α : Type} {c : Nat} {cs : α → List Value} {w w2 : World} {v : Value} {xs : List α} (h : RowsOf c cs w v xs) (hb : Below w.heap.size w w2) : RowsOf c cs w2 v xs := by
  obtain ⟨a, cap, h1, h0, h2⟩ := h
  exact ⟨a, cap, h1, h0, fun k hk => by obtain ⟨b, off, e1, e2, e3⟩ := h2 k hk; exact ⟨b, off, e1, Nat.lt_of_lt_of_le e2 hb.size, e3.below hb e2⟩⟩
theorem RowsOf.form {α : Type} {c : Nat} {cs : α → List Value} {w : World} {v : Value} {xs : List α} (h : RowsOf c cs w v xs) : ∃ a cap, v = .slice a xs.length cap := by
  obtain ⟨a, cap, h1, _⟩ := h
  exact ⟨a, cap, h1⟩
/-- A list that a call has made, in blocks from a number on. -/
def OwnG {α : Type} (t : TypeId) (c : Nat) (cs : α → List Value) (base : Nat) (w : World) (v : Value) (xs : List α) : Prop := w.ownsRow base t c v xs.length (xs.flatMap cs)
theorem flat_len {α : Type} {c : Nat} {cs : α → List Value} (hc : ∀ x, (cs x).length = c) : ∀ xs : List α, (xs.flatMap cs).length = xs.length * c
  | [] => by simp
  | x :: xs => by
    have := flat_len hc xs
    rw [List.flatMap_cons, List.length_append, hc, this, List.length_cons, Nat.succ_mul]; omega
theorem flat_at {α : Type} {c : Nat} {cs : α → List Value} (hc : ∀ x, (cs x).length = c) : ∀ (xs : List α) (k : Nat) (hk : k < xs.length) (j : Nat), j < c → (xs.flatMap cs)[k * c + j]? = (cs xs[k])[j]?
  | x :: xs, 0, _, j, hj => by
    rw [List.flatMap_cons, List.getElem?_append_left (by rw [hc]; omega), Nat.zero_mul, Nat.zero_add]; rfl
  | x :: xs, k + 1, hk, j, hj => by
    have := flat_at hc xs k (by simpa using hk) j hj
    rw [List.flatMap_cons, List.getElem?_append_right (by rw [hc, Nat.succ_mul]; omega), hc, show (k + 1) * c + j - c = k * c + j by rw [Nat.succ_mul]; omega, this]; rfl
section
variable {α : Type} {t : TypeId} {c : Nat} {cs : α → List Value} {base B : Nat} {w w2 : World} {v : Value} {xs : List α}
theorem OwnG.nil (base : Nat) (w : World) : OwnG t c cs base w (.slice none 0 0) [] := World.ownsRow_nil _ _ _ _
theorem OwnG.alloc (h : OwnG t c cs base w v xs) (o : Obj) : OwnG t c cs base (w.alloc o) v xs := World.ownsRow.alloc h o
theorem OwnG.all (h : OwnG t c cs base w v xs) (hb : Below w.heap.size w w2) : OwnG t c cs base w2 v xs := ownsRow_all h hb
theorem OwnG.mono (h : OwnG t c cs base w v xs) (hB : B ≤ base) : OwnG t c cs B w v xs := ownsRow_mono h hB
theorem OwnG.pushed {x : α} (h : w.ownsRow base t c v (xs.length + 1) (xs.flatMap cs ++ cs x)) : OwnG t c cs base w v (xs ++ [x]) := by
  unfold OwnG
  rw [List.flatMap_append, show [x].flatMap cs = cs x by simp, show (xs ++ [x]).length = xs.length + 1 by simp]
  exact h
/-- An own list can be read. -/
theorem OwnG.rows (hc : ∀ x, (cs x).length = c) (h : OwnG t c cs base w v xs) : RowsOf c cs w v xs := by
  obtain ⟨h0, ⟨h1, h2⟩ | ⟨g, cap, cur, h1, h2, h3, h4, h5⟩⟩ := id h
  · obtain rfl := List.length_eq_zero_iff.1 h2
    exact ⟨none, 0, h1, Nat.le_refl _, fun k hk => absurd hk (Nat.not_lt_zero _)⟩
  · subst h1
    refine ⟨_, cap, rfl, h4, fun k hk => ⟨g, 0, rfl, (Array.getElem?_eq_some_iff.1 h3).1, fun j u hj => ?_⟩⟩
    have hjc : j < c := by
      have := (List.getElem?_eq_some_iff.1 hj).1
      rwa [hc] at this
    have hlt : k * c + j < xs.length * c := by
      have := Nat.mul_le_mul_right c (show k + 1 ≤ xs.length by omega)
      rw [Nat.succ_mul] at this; omega
    rw [Nat.zero_add]
    exact (World.ownsRow.cellAt h (k * c + j) hlt).trans ((flat_at hc xs k hk j hjc).trans hj)
/-- Where an own list lies. -/
theorem OwnG.form (h : OwnG t c cs base w v xs) : (v = .slice none 0 0 ∧ xs = []) ∨ ∃ g cap, v = .slice (some ⟨g, 0, none⟩) xs.length cap ∧ base ≤ g ∧ g < w.heap.size ∧ xs.length ≤ cap ∧ ∀ j, w.frozen? ⟨g, j, none⟩ = false := by
  obtain ⟨h0, ⟨h1, h2⟩ | ⟨g, cap, cur, h1, h2, h3, h4, h5⟩⟩ := id h
  · exact .inl ⟨h1, List.length_eq_zero_iff.1 h2⟩
  · subst h1
    exact .inr ⟨g, cap, rfl, h2, (Array.getElem?_eq_some_iff.1 h3).1, h4, fun j => World.ownsRow.frozenAt h j⟩
end
theorem cells_new {cs : List Value} (w : World) (t : TypeId) : ∀ (j : Nat) (u : Value), cs[j]? = some u → (w.alloc (.cells cs.toArray t)).cell? ((⟨w.heap.size, 0, none⟩ : Addr).add j) = some u := by
  intro j u h
  have h2 := (BlockAt.new w cs.toArray t).cell j
  rw [show ((⟨w.heap.size, 0, none⟩ : Addr).add j) = ⟨w.heap.size, j, none⟩ by cases j <;> simp [Addr.add], h2]
  simpa using h
abbrev lnV (x : Bk.Ln) : Value := .agg #[.int .i64 x.1, sv x.2.1, .int .i64 x.2.2]
def lnC (x : Bk.Ln) : List Value := [.int .i64 x.1, sv x.2.1, .int .i64 x.2.2]
theorem lnC_len (x : Bk.Ln) : (lnC x).length = 3 := rfl
theorem lnC_one (x : Bk.Ln) : ∀ u ∈ lnC x, u.oneCell' = true := by
  intro u h; simp [lnC] at h; rcases h with rfl | rfl | rfl <;> rfl
theorem ln_at {x : Bk.Ln} {w : World} {b off : Nat} (h : CellsAt (lnC x) w b off) : w.cell? ⟨b, off, none⟩ = some (.int .i64 x.1) ∧ w.cell? ⟨b, off + 1, none⟩ = some (sv x.2.1) ∧ w.cell? ⟨b, off + 2, none⟩ = some (.int .i64 x.2.2) := ⟨by have := h 0 _ rfl; simpa using this, by have := h 1 _ rfl; simpa using this, by have := h 2 _ rfl; simpa using this⟩
abbrev Lines (w : World) (v : Value) (xs : List Bk.Ln) : Prop := RowsOf 3 lnC w v xs
abbrev OwnL (base : Nat) (w : World) (v : Value) (xs : List Bk.Ln) : Prop := OwnG 37 3 lnC base w v xs
theorem infoLine : (Tryz.prog.info? 37).map (fun i => (i.zero, i.size, i.bytes)) = some (some (.agg #[.int .i64 0, .string ⟨#[]⟩, .int .i64 0]), 3, 32) := by kernel_rfl
end Go.Proofs.YtcljpklgpedolaaGreatDoor
namespace Go.Proofs.YtcljpklgpedolaaGreatDoor
open Go.RowKit

theorem tmod_fix (x n : Int) (hn : 1 ≤ n) : (x.tmod n < 0 → x.tmod n + n = x % n) ∧ (¬ x.tmod n < 0 → x.tmod n = x % n) ∧ -n ≤ x.tmod n ∧ x.tmod n < n := by
  have h0 := Int.emod_nonneg x (show n ≠ 0 by omega)
  have h1 := Int.emod_lt_of_pos x (show 0 < n by omega)
  have e : x % n = x.tmod n + ((if 0 ≤ x ∨ n ∣ x then 0 else n.natAbs : Nat) : Int) := Int.emod_eq_tmod
  have hs : (n.natAbs : Int) = n := by omega
  by_cases hc : 0 ≤ x ∨ n ∣ x
  · rw [if_pos hc] at e; omega
  · rw [if_neg hc] at e; omega
theorem take_next (s : ByteArray) {k : Nat} (h : k < s.size) : s.data.toList.take (k + 1) = s.data.toList.take k ++ [s[k]'h] := by
  have hl : s.data.toList.length = s.size := by rw [Array.length_toList]; rfl
  rw [List.take_succ_eq_append_getElem (by omega)]; rfl
theorem take_all (s : ByteArray) : s.data.toList.take s.size = s.data.toList := by
  have hl : s.data.toList.length = s.size := by rw [Array.length_toList]; rfl
  rw [← hl, List.take_length]
theorem Bk.sum_next (b : Int) (s : ByteArray) {k : Nat} (h : k < s.size) : Bk.sum b (s.data.toList.take (k + 1)) = (Bk.sum b (s.data.toList.take k) * 257 + ((s[k]'h).toNat : Int) + 1) % 1000003 := by
  rw [take_next s h, Bk.sum_snoc]; rfl
theorem byte_in (c : UInt8) : 0 ≤ (c.toNat : Int) ∧ (c.toNat : Int) ≤ 255 := by have := c.toNat_lt; omega
set_option maxRecDepth 20000 in
theorem refSum_any (b : Int) (s : ByteArray) (w : World) (hs : s.size ≤ 100000) (_b0 : -9223372036854775808 ≤ b) (_b1 : b ≤ 9223372036854775807) :
    Calls Tryz.prog 18 #[.int .i64 b, .string s] w fun e w' => e = .returned (.int .i64 (Bk.sum b s.data.toList)) ∧ Below w.heap.size w w' := by
  obtain ⟨f1, f2, f3, f4⟩ := tmod_fix b 1000003 (by omega)
  have HB : Hid ((b.tmod 1000003 + 1000003) % 1000003 = Bk.sum b (s.data.toList.take 0)) := Lib.hid (by
    rw [List.take_zero, Bk.sum_nil]
    have := Int.emod_nonneg b (show (1000003 : Int) ≠ 0 by omega)
    by_cases h : b.tmod 1000003 < 0
    · have := f1 h; omega
    · have := f2 h; omega)
  have HIN := Lib.hid (fun k => Bk.sum_in b (s.data.toList.take k))
  have HN := Lib.hid (fun k (h : k < s.size) => Bk.sum_next b s h)
  have HE : Hid (Bk.sum b (s.data.toList.take s.size) = Bk.sum b s.data.toList) := Lib.hid (by rw [take_all])
  have hw0 := Lib.hid (Below.refl w.heap.size w)
  clear f1 f2
  generalize hS : Bk.sum b s.data.toList = S at *
  clear hS
  go_enter Tryz.func18, Tryz.ntmps18
  go_wp2
  go_loopw [5, 6] (fun x t wr => ∃ (v : Int) (k : Nat), k ≤ s.size ∧ (0 ≤ v ∧ v < 1000003) ∧ x = .int .i64 v ∧ t = .int .i64 (k : Int) ∧ Hid (v = Bk.sum b (s.data.toList.take k) ∧ Below w.heap.size w wr)) (fun _ t _ => s.size - (intOf t).toNat)
  case atStart => exact ⟨_, 0, Nat.zero_le _, by rw [HB.out]; exact HIN.out 0, rfl, rfl, Lib.hid ⟨HB.out, hw0.out⟩⟩
  case round =>
    obtain ⟨v, k, hk, ⟨hv0, hv1⟩, rfl, rfl, hg⟩ := hrel
    clear HB
    by_cases hlt : k < s.size
    · obtain ⟨c0, c1⟩ := byte_in (s[k]'hlt)
      have HX := Lib.hid (HN.out k hlt)
      have HI := Lib.hid (HIN.out (k + 1))
      go_wp2
      go_roundw
      case rel => exact ⟨_, k + 1, by omega, by have := HI.out; rw [HX.out, ← hg.out.1] at this; exact this, rfl, by go_num, Lib.hid ⟨by rw [HX.out, ← hg.out.1], hg.out.2⟩⟩
      case measure => simp [intOf]; omega
    · obtain rfl : k = s.size := by omega
      go_wp2
      go_ret
      exact ⟨by rw [hg.out.1, HE.out]; rfl, hg.out.2⟩
end Go.Proofs.YtcljpklgpedolaaGreatDoor
namespace Go.Proofs.YtcljpklgpedolaaGreatDoor
open Go.RowKit

theorem iterPos_of {w : World} {k : Nat} {s : ByteArray} {pos : Nat} (h : w.heap[k]? = some (.stringIter s pos)) : w.iterPos k = pos := by unfold World.iterPos; rw [h]
/-- What the program looks at beside its arguments. -/
def EnvB (w : World) : Prop := Env w ∧ Lib.Utf8Tabs 0 1 w
theorem EnvB.all {w w' : World} (h : EnvB w) (hb : Below w.heap.size w w') : EnvB w' := ⟨h.1.all hb, Utf8Tabs_below h.2 hb⟩
theorem width_in (s : ByteArray) (pos : Nat) (h : pos < s.size) : 1 ≤ (Utf8.decode s pos).2 ∧ pos + (Utf8.decode s pos).2 ≤ s.size := by
  refine ⟨Lib.width_pos s pos, ?_⟩
  have := Lib.decodeN_width_le (s.size - pos) (s.get! pos).toNat (s.get! (pos + 1)).toNat (s.get! (pos + 2)).toNat (s.get! (pos + 3)).toNat (by omega)
  rw [← Lib.decode_at] at this
  omega
theorem decode_tail (s : ByteArray) (pos : Nat) (h : pos < s.size) : (Lib.decodeGo (s.extract pos s.size)).2 = (Utf8.decode s pos).2 := by
  have hl : s.data.toList.length = s.size := by rw [Array.length_toList]; rfl
  have e : s.extract pos s.size = ⟨(s.data.toList.drop pos).toArray⟩ := by
    apply ByteArray.ext
    apply Array.ext'
    rw [Lib.extract_data, ← hl, List.take_of_length_le (by simp)]
  have hz : (s.extract pos s.size).size ≠ 0 := by
    rw [e]
    show (s.data.toList.drop pos).toArray.size ≠ 0
    rw [List.size_toArray, List.length_drop]; omega
  unfold Lib.decodeGo
  rw [if_neg hz, e]
  show (Lib.decodeL (s.data.toList.drop pos)).2 = _
  rw [Lib.decodeL_drop]
set_option maxRecDepth 20000 in
theorem sum_any (b : Int) (s : ByteArray) (w : World) (hE : EnvB w) (hs : s.size ≤ 100000) (_b0 : -9223372036854775808 ≤ b) (_b1 : b ≤ 9223372036854775807) :
    Calls Tryz.prog 17 #[.int .i64 b, .string s] w fun e w' => e = .returned (.int .i64 (Bk.sum b s.data.toList)) ∧ Below w.heap.size w w' := by
  obtain ⟨f1, f2, f3, f4⟩ := tmod_fix b 1000003 (by omega)
  have H0 : Bk.sum b (s.data.toList.take 0) = b % 1000003 := by rw [List.take_zero, Bk.sum_nil]
  have HIN := Lib.hid (fun k => Bk.sum_in b (s.data.toList.take k))
  have HN := Lib.hid (fun k (h : k < s.size) => Bk.sum_next b s h)
  have HZ : Hid (Bk.sum b (s.data.toList.take s.size) = Bk.sum b s.data.toList) := Lib.hid (by rw [take_all])
  have hw0 := Lib.hid (Below.refl w.heap.size w)
  have HE := Lib.hid hE
  have hneg : (b.tmod 1000003 < 0 ∧ Hid (Bk.sum b (s.data.toList.take 0) = b.tmod 1000003 + 1000003)) ∨ (¬ b.tmod 1000003 < 0 ∧ Hid (Bk.sum b (s.data.toList.take 0) = b.tmod 1000003)) := by
    by_cases h : b.tmod 1000003 < 0
    · exact .inl ⟨h, Lib.hid (by rw [H0, f1 h])⟩
    · exact .inr ⟨h, Lib.hid (by rw [H0, f2 h])⟩
  clear f1 f2 H0 hE
  generalize hS : Bk.sum b s.data.toList = S at *
  clear hS
  rcases hneg with ⟨hneg, HB⟩ | ⟨hneg, HB⟩
  all_goals (
    go_enter Tryz.func17, Tryz.ntmps17
    go_wp2
    go_loopw [5] (fun x wr => ∃ (v : Int) (pos : Nat), pos ≤ s.size ∧ (0 ≤ v ∧ v < 1000003) ∧ x = .int .i64 v ∧ wr.heap[w.heap.size]? = some (.stringIter s pos) ∧ Hid (v = Bk.sum b (s.data.toList.take pos) ∧ Below w.heap.size w wr)) (fun _ wr => s.size - wr.iterPos w.heap.size)
    case atStart => exact ⟨_, 0, Nat.zero_le _, by rw [← HB.out]; exact HIN.out 0, rfl, World.iter_heap w s 0, Lib.hid ⟨HB.out.symm, (Below.refl _ _).alloc (Nat.le_refl _) _⟩⟩
    case round =>
      obtain ⟨v, pos, hk, ⟨hv0, hv1⟩, rfl, hit, hg⟩ := hrel
      have hpos0 := iterPos_of hit
      clear HB
      by_cases hp : pos < s.size
      · have hnx : ∀ ty, (Instr.next (.pointer (some ⟨w.heap.size, 0, none⟩)) true ty).run Tryz.prog wr = _ := fun ty => Lib.run_next_any_at wr w.heap.size s pos ty hit hp
        obtain ⟨wd1, wd2⟩ := width_in s pos hp
        have hit2 := Lib.iterAt_heap wr w.heap.size s pos (pos + (Utf8.decode s pos).2) hit
        have hbw2 := Lib.below_iterAt hg.out.2 (k := w.heap.size) (Nat.le_refl _) s (pos + (Utf8.decode s pos).2)
        obtain ⟨W1, hW1⟩ : ∃ W1, W1 = wr.iterAt w.heap.size s (pos + (Utf8.decode s pos).2) := ⟨_, rfl⟩
        rw [← hW1] at hnx hit2 hbw2
        have HD := Lib.hid (Tryz.utf8_DecodeRuneInString (s.extract pos s.size) W1 (HE.out.all hbw2).2)
        rw [decode_tail s pos hp] at HD
        have HV := Lib.hid hg.out.1
        clear hW1 hit hg
        generalize (Utf8.decode s pos).2 = wd at *
        generalize (Lib.decodeGo (s.extract pos s.size)).1 = rn at *
        generalize (Utf8.decode s pos).1 = rn2 at *
        go_wp2_with fail
        refine HD.out.mono ?_
        rintro e w2 ⟨rfl, hb2⟩
        have hlt := (Array.getElem?_eq_some_iff.1 hit2).1
        have hit3 : w2.heap[w.heap.size]? = some (.stringIter s (pos + wd)) := (hb2.block _ hlt).trans hit2
        have hbw3 := below_step hbw2 hb2
        have HW3 := Lib.hid (And.intro hit3 hbw3)
        clear hit2 hbw2 hb2 hit3 hbw3 HD hnx hlt
        go_wp2
        go_loopw [5, 29] (fun x t w3 => ∃ (v : Int) (j : Nat), j ≤ wd ∧ (0 ≤ v ∧ v < 1000003) ∧ x = .int .i64 v ∧ t = .int .i64 (j : Int) ∧ Hid (v = Bk.sum b (s.data.toList.take (pos + j))) ∧ Hid (w3 = w2)) (fun _ t _ => wd - (intOf t).toNat)
        case atStart => exact ⟨v, 0, Nat.zero_le _, ⟨hv0, hv1⟩, rfl, rfl, HV, Lib.hid rfl⟩
        case round =>
          obtain ⟨v, j, hj, ⟨hv0, hv1⟩, rfl, rfl, hg, hw3⟩ := hrel
          obtain rfl := hw3.out
          by_cases hlt : j < wd
          · obtain ⟨c0, c1⟩ := byte_in (s[pos + j]'(by omega))
            have HX := Lib.hid (HN.out (pos + j) (by omega))
            have HI := Lib.hid (HIN.out (pos + j + 1))
            go_wp2
            go_roundw
            case rel => exact ⟨_, j + 1, by omega, by have := HI.out; rw [HX.out, ← hg.out] at this; exact this, rfl, by go_num, Lib.hid (by show _ = Bk.sum b (s.data.toList.take (pos + j + 1)); rw [HX.out, ← hg.out]), by first | exact Lib.hid rfl | exact Lib.hid trivial⟩
            case measure => simp [intOf]; omega
          · obtain rfl : j = wd := by omega
            go_wp2
            go_roundw
            case rel => exact ⟨v, pos + j, by omega, ⟨hv0, hv1⟩, rfl, HW3.out.1, Lib.hid ⟨hg.out, HW3.out.2⟩⟩
            case measure => rw [iterPos_of HW3.out.1, hpos0]; omega
      · obtain rfl : pos = s.size := by omega
        have hnx : ∀ ty, (Instr.next (.pointer (some ⟨w.heap.size, 0, none⟩)) true ty).run Tryz.prog wr = _ := fun ty => Lib.run_next_end_at wr w.heap.size s s.size ty hit hp
        go_wp2
        go_ret
        exact ⟨by rw [hg.out.1, HZ.out]; rfl, hg.out.2⟩)
end Go.Proofs.YtcljpklgpedolaaGreatDoor
namespace Go.Proofs.YtcljpklgpedolaaGreatDoor
open Go.RowKit Go.Sort

theorem len_size (s : ByteArray) : s.data.toList.length = s.size := by rw [Array.length_toList]; rfl
theorem getElem_list (s : ByteArray) {k : Nat} (h : k < s.size) (h' : k < s.data.toList.length) : s.data.toList[k] = s[k]'h := rfl
theorem byte_okc {c : UInt8} : Bk.okc c = true ↔ 32 ≤ c.toNat ∧ c.toNat ≤ 126 := by unfold Bk.okc; simp
/-- What a text is asked before its bytes are looked at. -/
def Bk.pre (t : List UInt8) : Bool := decide (t ≠ []) && (decide (t.length ≤ 80) && (decide (t.head? ≠ some 32) && decide (t.getLast? ≠ some 32)))
theorem Bk.right_pre (t : List UInt8) : Bk.right t = (Bk.pre t && t.all Bk.okc) := by unfold Bk.right Bk.pre; simp only [Bool.and_assoc]
theorem Bk.pre_trim {t : List UInt8} (h0 : t ≠ []) (h1 : t.length ≤ 80) : Bk.pre t = decide (Lib.trimB t 32 = t) := by
  unfold Bk.pre
  rw [decide_eq_true h0, decide_eq_true h1, Bool.true_and, Bool.true_and]
  by_cases h : Lib.trimB t 32 = t
  · obtain ⟨a, b⟩ := Bk.trim_iff.1 h
    simp [h, a, b]
  · rw [decide_eq_false h]
    by_cases a : t.head? = some 32
    · simp [a]
    · by_cases b : t.getLast? = some 32
      · simp [b]
      · exact absurd (Bk.trim_iff.2 ⟨a, b⟩) h
theorem all_take (s : ByteArray) (f : UInt8 → Bool) {k : Nat} (h : k < s.size) : (s.data.toList.take (k + 1)).all f = ((s.data.toList.take k).all f && f (s[k]'h)) := by
  rw [take_next s h, List.all_append, List.all_cons, List.all_nil, Bool.and_true]
theorem all_false (s : ByteArray) (f : UInt8 → Bool) {k : Nat} (h : k < s.size) (hf : f (s[k]'h) = false) : s.data.toList.all f = false := by
  rw [List.all_eq_false]
  have hl := len_size s
  exact ⟨s.data.toList[k]'(by omega), List.getElem_mem _, by rw [getElem_list s h]; simp [hf]⟩
set_option maxRecDepth 20000 in
theorem isRight_any (s : ByteArray) (w : World) (hs : s.size ≤ 9223372036854775807) :
    Calls Tryz.prog 62 #[.string s] w fun e w' => e = .returned (.bool (Bk.right s.data.toList)) ∧ Below w.heap.size w w' := by
  have hl := len_size s
  by_cases h0 : s.data.toList = []
  · have HR : Hid (Bk.right s.data.toList = false) := Lib.hid (by rw [h0]; rfl)
    have q1 : (s.toList == []) = true := by rw [toList_data]; simpa using h0
    have q2 : s.toList.isEmpty = true := by rw [toList_data, h0]; rfl
    clear h0 hl
    generalize hR : Bk.right s.data.toList = R at *
    clear hR
    go_enter Tryz.func62, Tryz.ntmps62
    go_wp2
    go_ret
    exact ⟨by rw [HR.out]; rfl, Below.refl _ _⟩
  have q1 : (s.toList == []) = false := by rw [toList_data]; simpa using h0
  have q2 : s.toList.isEmpty = false := by rw [toList_data]; simpa using h0
  by_cases h1 : s.size ≤ 80
  case neg =>
    have HR : Hid (Bk.right s.data.toList = false) := Lib.hid (by
      have h2 : ¬ s.data.toList.length ≤ 80 := by omega
      unfold Bk.right; rw [decide_eq_false h2, Bool.false_and, Bool.and_false])
    have q3 : decide ((80 : Int) < (s.size : Int)) = true := by rw [decide_eq_true_eq]; omega
    clear h0 hl
    generalize hR : Bk.right s.data.toList = R at *
    clear hR
    go_enter Tryz.func62, Tryz.ntmps62
    go_wp2
    go_ret
    exact ⟨by rw [HR.out]; rfl, Below.refl _ _⟩
  have HT := Lib.hid (Tryz.strings_Trim_one s 32 (by decide) w hs)
  have hpre := Bk.pre_trim h0 (by omega)
  have HRP := Lib.hid (Bk.right_pre s.data.toList)
  by_cases h2 : Lib.trimB s.data.toList 32 = s.data.toList
  case neg =>
    have q3 : (Lib.trimB s.data.toList 32 != s.toList) = true := by rw [toList_data]; simpa using h2
    have q4 : (Lib.trimB s.data.toList 32 == s.toList) = false := by rw [toList_data]; simpa using h2
    have HR : Hid (Bk.right s.data.toList = false) := Lib.hid (by rw [HRP.out, hpre, decide_eq_false h2]; rfl)
    clear h0 hl hpre HRP h2
    generalize hR : Bk.right s.data.toList = R at *
    clear hR
    generalize Lib.trimB s.data.toList 32 = T at *
    go_enter Tryz.func62, Tryz.ntmps62
    go_wp2_with fail
    refine HT.out.mono ?_
    rintro e w1 ⟨rfl, hw1⟩
    have hb : Below w.heap.size w w1 := by
                                         rcases hw1 with rfl | rfl
                                         · exact Below.refl _ _
                                         · exact (Below.refl _ _).drew
    clear hw1
    go_wp2
    go_ret
    exact ⟨by rw [HR.out]; rfl, hb⟩
  have q3 : (Lib.trimB s.data.toList 32 != s.toList) = false := by rw [toList_data]; simpa using h2
  have q4 : (Lib.trimB s.data.toList 32 == s.toList) = true := by rw [toList_data]; simpa using h2
  have HR : Hid (Bk.right s.data.toList = s.data.toList.all Bk.okc) := Lib.hid (by rw [HRP.out, hpre, decide_eq_true h2]; rfl)
  have HA := Lib.hid (fun k (h : k < s.size) => all_take s Bk.okc h)
  have HF := Lib.hid (fun k (h : k < s.size) => all_false s Bk.okc h)
  have HZ : Hid ((s.data.toList.take s.size).all Bk.okc = s.data.toList.all Bk.okc) := Lib.hid (by rw [take_all])
  clear h0 hl hpre HRP h2
  generalize hR : Bk.right s.data.toList = R at *
  clear hR
  generalize Lib.trimB s.data.toList 32 = T at *
  go_enter Tryz.func62, Tryz.ntmps62
  go_wp2_with fail
  refine HT.out.mono ?_
  rintro e w1 ⟨rfl, hw1⟩
  have HB : Hid (Below w.heap.size w w1) := Lib.hid (by
                                         rcases hw1 with rfl | rfl
                                         · exact Below.refl _ _
                                         · exact (Below.refl _ _).drew)
  clear hw1 HT
  go_wp2
  go_loopw [] (fun wr => ∃ (pos : Nat), pos ≤ s.size ∧ wr.heap[w1.heap.size]? = some (.stringIter s pos) ∧ Hid ((s.data.toList.take pos).all Bk.okc = true ∧ Below w.heap.size w wr)) (fun wr => s.size - wr.iterPos w1.heap.size)
  case atStart => exact ⟨0, Nat.zero_le _, World.iter_heap w1 s 0, Lib.hid ⟨rfl, below_alloc HB.out _⟩⟩
  case round =>
    obtain ⟨pos, hk, hit, hg⟩ := hrel
    have hpos0 := iterPos_of hit
    by_cases hp : pos < s.size
    · have hnx : ∀ ty, (Instr.next (.pointer (some ⟨w1.heap.size, 0, none⟩)) true ty).run Tryz.prog wr = _ := fun ty => Lib.run_next_any_at wr w1.heap.size s pos ty hit hp
      obtain ⟨wd1, wd2⟩ := width_in s pos hp
      have hit2 := Lib.iterAt_heap wr w1.heap.size s pos (pos + (Utf8.decode s pos).2) hit
      have hbw2 := Lib.below_iterAt hg.out.2 (k := w1.heap.size) HB.out.size s (pos + (Utf8.decode s pos).2)
      obtain ⟨W1, hW1⟩ : ∃ W1, W1 = wr.iterAt w1.heap.size s (pos + (Utf8.decode s pos).2) := ⟨_, rfl⟩
      rw [← hW1] at hnx hit2 hbw2
      by_cases ha : (s[pos]'hp).toNat < 128
      · rw [decode_ascii s pos hp ha] at hnx hit2
        by_cases hc : 32 ≤ (s[pos]'hp).toNat ∧ (s[pos]'hp).toNat ≤ 126
        · have HX : Hid ((s.data.toList.take (pos + 1)).all Bk.okc = true) := Lib.hid (by rw [HA.out pos hp, hg.out.1, byte_okc.2 hc]; rfl)
          have H2 := Lib.hid (And.intro hit2 hbw2)
          obtain ⟨hc1, hc2⟩ := hc
          clear hW1 hit hg hit2 hbw2
          go_wp2
          go_roundw
          case rel => exact ⟨pos + 1, by omega, H2.out.1, Lib.hid ⟨HX.out, H2.out.2⟩⟩
          case measure => rw [iterPos_of H2.out.1, hpos0]; omega
        · have HX : Hid (s.data.toList.all Bk.okc = false) := Lib.hid (HF.out pos hp (by rw [← Bool.not_eq_true, byte_okc]; exact hc))
          have H2 := Lib.hid hbw2
          clear hW1 hit hg hit2 hbw2
          have hc3 : ((s[pos]'hp).toNat : Int) < 32 ∨ (¬ ((s[pos]'hp).toNat : Int) < 32 ∧ (126 : Int) < ((s[pos]'hp).toNat : Int)) := by omega
          rcases hc3 with hc3 | ⟨hc3, hc4⟩
          · go_wp2
            go_ret
            exact ⟨by rw [HR.out, HX.out]; rfl, H2.out⟩
          · go_wp2
            go_ret
            exact ⟨by rw [HR.out, HX.out]; rfl, H2.out⟩
      · have HX : Hid (s.data.toList.all Bk.okc = false) := Lib.hid (HF.out pos hp (by rw [← Bool.not_eq_true, byte_okc]; omega))
        obtain ⟨hd1, hd2⟩ := decode_high s pos hp (by omega)
        have hd3 := decode_le s pos
        have H2 := Lib.hid hbw2
        clear hW1 hit hg hit2 hbw2 ha
        generalize (Utf8.decode s pos).1 = rn at *
        generalize (Utf8.decode s pos).2 = wd at *
        go_wp2
        go_ret
        exact ⟨by rw [HR.out, HX.out]; rfl, H2.out⟩
    · obtain rfl : pos = s.size := by omega
      have hnx : ∀ ty, (Instr.next (.pointer (some ⟨w1.heap.size, 0, none⟩)) true ty).run Tryz.prog wr = _ := fun ty => Lib.run_next_end_at wr w1.heap.size s s.size ty hit hp
      have HG : Hid (s.data.toList.all Bk.okc = true) := Lib.hid (by rw [← HZ.out]; exact hg.out.1)
      go_wp2
      go_ret
      exact ⟨by rw [HR.out, HG.out]; rfl, hg.out.2⟩
end Go.Proofs.YtcljpklgpedolaaGreatDoor
namespace Go.Proofs.YtcljpklgpedolaaGreatDoor
open Go.RowKit Go.Sort

abbrev LineT : TypeId := 37
abbrev lnA (x : Bk.Ln) : Array Value := #[.int .i64 x.1, sv x.2.1, .int .i64 x.2.2]
/-- A line as it is written. -/
def Bk.fmtL (x : Bk.Ln) : List UInt8 := Lib.itoa x.1 ++ 32 :: (Lib.itoa x.2.2 ++ 32 :: (x.2.1 ++ [10]))
theorem Bk.wr_fmt (n : Nat) (b : Int) (t : List UInt8) : Bk.wr n b t = Bk.fmtL (n, t, Bk.nxt n b t) := by
  unfold Bk.wr Bk.body Bk.fmtL Bk.nxt
  simp
set_option maxRecDepth 20000 in
theorem newLine_any (n : Nat) (b : Int) (t : List UInt8) (w : World) (hE : EnvB w) (hn : n ≤ 1000000) (ht : t.length ≤ 90000) (b0 : -9223372036854775808 ≤ b) (b1 : b ≤ 9223372036854775807) :
    Calls Tryz.prog 64 #[.int .i64 n, .int .i64 b, sv t] w fun e w' => e = .returned (lnV (n, t, Bk.nxt n b t)) ∧ Below w.heap.size w w' := by
  have HI := Lib.hid (fun W hW => itoa_any (n : Int) W hW (by omega) (by omega))
  have hl := Bk.itoa_short (n := (n : Int)) (by omega) (by omega)
  have HC : Hid ((⟨(Lib.itoa n).toArray⟩ : ByteArray) ++ ((⟨#[32]⟩ : ByteArray) ++ (⟨t.toArray⟩ : ByteArray)) = ⟨(Bk.told n t).toArray⟩) := Lib.hid (by
    rw [show (⟨#[32]⟩ : ByteArray) = ⟨[(32 : UInt8)].toArray⟩ from rfl, bytes_append, bytes_append]; rfl)
  have HC2 : Hid ((⟨(Lib.itoa n).toArray⟩ : ByteArray) ++ (⟨#[32]⟩ : ByteArray) ++ (⟨t.toArray⟩ : ByteArray) = ⟨(Bk.told n t).toArray⟩) := Lib.hid (by
    rw [show (⟨#[32]⟩ : ByteArray) = ⟨[(32 : UInt8)].toArray⟩ from rfl, bytes_append, bytes_append]; unfold Bk.told; simp)
  have HS := Lib.hid (fun W hW => sum_any b ⟨(Bk.told n t).toArray⟩ W hW (by show (Bk.told n t).toArray.size ≤ _; rw [List.size_toArray]; unfold Bk.told; rw [List.length_append, List.length_cons]; omega) b0 b1)
  have HE := Lib.hid hE
  have hs : (⟨(Bk.told n t).toArray⟩ : ByteArray).data.toList = Bk.told n t := rfl
  have hx : Bk.nxt n b t = Bk.sum b (Bk.told n t) := rfl
  rw [hx]
  rw [hs] at HS
  clear hE hs hx
  generalize Bk.told n t = tl at *
  generalize Bk.sum b tl = S at *
  go_enter Tryz.func64, Tryz.ntmps64
  go_wp2_with fail
  refine (HI.out _ (HE.out.all (below_alloc (Below.refl _ _) _)).1).mono ?_
  rintro e w1 ⟨rfl, hb1⟩
  have hB := (BlockAt.new w #[.int .i64 0, .string ⟨#[]⟩, .int .i64 0] LineT).below hb1 (BlockAt.new w #[.int .i64 0, .string ⟨#[]⟩, .int .i64 0] LineT).lt
  have hw1 := below_step (below_alloc (Below.refl w.heap.size w) (.cells #[.int .i64 0, .string ⟨#[]⟩, .int .i64 0] LineT)) hb1
  clear hb1 HI
  go_wp2_with fail
  try rw [HC.out]
  try rw [HC2.out]
  refine (HS.out _ (HE.out.all hw1)).mono ?_
  rintro e w2 ⟨rfl, hb2⟩
  have hB2 := hB.below hb2 hB.lt
  have hw2 := below_step hw1 hb2
  obtain ⟨c0, c1, c2⟩ : _ ∧ _ ∧ _ := ⟨hB2.cell 0, hB2.cell 1, hB2.cell 2⟩
  obtain ⟨f0, f1, f2⟩ : _ ∧ _ ∧ _ := ⟨hB2.frozen 0, hB2.frozen 1, hB2.frozen 2⟩
  clear hb2 HS hB hw1
  go_wp2
  have hB3 := ((hB2.set 0 (.int .i64 n)).set 1 (sv t)).set 2 (.int .i64 S)
  have e0 : World.cell? _ _ = some (.int .i64 (n : Int)) := (hB2.set 0 (.int .i64 n)).cell 0
  have e1 : World.cell? _ _ = some (sv t) := ((hB2.set 0 (.int .i64 n)).set 1 (sv t)).cell 1
  have e2 : World.cell? _ _ = some (.int .i64 S) := hB3.cell 2
  exact bodyPost_ret (v := lnV (n, t, S)) (by simp [results, Tryz.results64, go_sem, e0, e1, e2]) rfl ⟨rfl, ((hw2.setCell (Nat.le_refl _) _).setCell (Nat.le_refl _) _).setCell (Nat.le_refl _) _⟩
set_option maxRecDepth 20000 in
theorem format_any (x : Bk.Ln) (w : World) (hE : EnvB w) (hn : x.1 ≤ 1000000) (ht : x.2.1.length ≤ 90000) (b0 : 0 ≤ x.2.2) (b1 : x.2.2 < 1000003) :
    Calls Tryz.prog 63 #[lnV x] w fun e w' => e = .returned (sv (Bk.fmtL x)) ∧ Below w.heap.size w w' := by
  obtain ⟨n, t, s⟩ := x
  have hn : n ≤ 1000000 := hn
  have ht : t.length ≤ 90000 := ht
  have b0 : 0 ≤ s := b0
  have b1 : s < 1000003 := b1
  have HI := Lib.hid (fun W hW => itoa_any (n : Int) W hW (by omega) (by omega))
  have HI2 := Lib.hid (fun W hW => itoa_any s W hW (by omega) (by omega))
  have l1 := Bk.itoa_short (n := (n : Int)) (by omega) (by omega)
  have l2 := Bk.itoa_short (n := s) (by omega) (by omega)
  have hC : (⟨(Lib.itoa n).toArray⟩ : ByteArray) ++ (⟨#[32]⟩ : ByteArray) ++ (⟨(Lib.itoa s).toArray⟩ : ByteArray) ++ (⟨#[32]⟩ : ByteArray) ++ (⟨t.toArray⟩ : ByteArray) ++ (⟨#[10]⟩ : ByteArray) = ⟨(Bk.fmtL (n, t, s)).toArray⟩ := by
    rw [show (⟨#[32]⟩ : ByteArray) = ⟨[(32 : UInt8)].toArray⟩ from rfl, show (⟨#[10]⟩ : ByteArray) = ⟨[(10 : UInt8)].toArray⟩ from rfl, bytes_append, bytes_append, bytes_append, bytes_append, bytes_append]
    unfold Bk.fmtL; simp
  have HC := Lib.hid hC
  have HE := Lib.hid (hE.all (below_alloc (Below.refl _ _) (.cells (lnA (n, t, s)) LineT)))
  have hB := BlockAt.new w (lnA (n, t, s)) LineT
  have hw := below_alloc (Below.refl w.heap.size w) (.cells (lnA (n, t, s)) LineT)
  have hsv : sv (Bk.fmtL (n, t, s)) = .string ⟨(Bk.fmtL (n, t, s)).toArray⟩ := rfl
  have HV := Lib.hid hsv
  clear hE hC hsv
  generalize sv (Bk.fmtL (n, t, s)) = R at *
  generalize Bk.fmtL (n, t, s) = F at *
  go_enter Tryz.func63, Tryz.ntmps63
  go_upto_region 1 with fail
  refine wp_region_seq [(0, true), (1, true), (4, true), (5, true), (9, true), (10, true), (2, false), (3, true), (6, false), (7, true), (8, true), (11, true), (12, true), (13, true)] (fun W => BlockAt W w.heap.size (lnA (n, t, s)) LineT ∧ EnvB W ∧ Below w.heap.size w W)
    (by kernel_rfl) (by kernel_rfl) (by kernel_rfl) (by kernel_rfl) (fun d _ _ _ _ h => by cases d <;> exact h) ⟨hB, HE.out, hw.drew⟩ (fun hS0 => ?_)
  repeat (first
    | (refine SeqH.take (v := ?_) rfl (by rfl) ?_ ?_; rotate_left; (· intro w hSw; (try dsimp only at hSw); obtain ⟨c0, c1, c2⟩ : _ ∧ _ ∧ _ := ⟨hSw.1.cell 0, hSw.1.cell 1, hSw.1.cell 2⟩; go_simp; (try rw [if_neg (by omega)]); (try with_reducible rfl)); simp only [Act.put, List.setIfInBounds_toArray, List.set_cons_zero, List.set_cons_succ]))
  refine SeqH.step rfl (by rfl) (fun K hK => ?_)
  go_simp
  go_at_call 60
  refine (HI.out _ hS0.2.1.1).mono ?_
  rintro e w1 ⟨rfl, hb1⟩
  try dsimp only
  refine hK.out _ _ ⟨hS0.1.below hb1 hS0.1.lt, hS0.2.1.all hb1, below_step hS0.2.2 hb1⟩ (fun hS1 => ?_)
  clear hK K
  try simp only [Act.put, List.setIfInBounds_toArray, List.set_cons_zero, List.set_cons_succ]
  repeat (first
    | (refine SeqH.take (v := ?_) rfl (by rfl) ?_ ?_; rotate_left; (· intro w hSw; (try dsimp only at hSw); obtain ⟨c0, c1, c2⟩ : _ ∧ _ ∧ _ := ⟨hSw.1.cell 0, hSw.1.cell 1, hSw.1.cell 2⟩; go_simp; (try rw [if_neg (by omega)]); (try with_reducible rfl)); simp only [Act.put, List.setIfInBounds_toArray, List.set_cons_zero, List.set_cons_succ]))
  refine SeqH.step rfl (by rfl) (fun K hK => ?_)
  go_simp
  go_at_call 60
  refine (HI2.out _ hS1.2.1.1).mono ?_
  rintro e w2 ⟨rfl, hb2⟩
  try dsimp only
  refine hK.out _ _ ⟨hS1.1.below hb2 hS1.1.lt, hS1.2.1.all hb2, below_step hS1.2.2 hb2⟩ (fun hS2 => ?_)
  clear hK K
  try simp only [Act.put, List.setIfInBounds_toArray, List.set_cons_zero, List.set_cons_succ]
  repeat (first
    | (refine SeqH.take (v := ?_) rfl (by rfl) ?_ ?_; rotate_left; (· intro w hSw; (try dsimp only at hSw); obtain ⟨c0, c1, c2⟩ : _ ∧ _ ∧ _ := ⟨hSw.1.cell 0, hSw.1.cell 1, hSw.1.cell 2⟩; go_simp; (try rw [if_neg (by omega)]); (try with_reducible rfl)); simp only [Act.put, List.setIfInBounds_toArray, List.set_cons_zero, List.set_cons_succ]))
  refine SeqH.done ?_
  go_wp2
  go_ret
  exact ⟨by rw [HV.out, ← HC.out]; rfl, hS2.2.2⟩
end Go.Proofs.YtcljpklgpedolaaGreatDoor
