/- Lists of lots in memory: what can be read. -/
import Derived.Test.YtccjbefmcifaeaaLotN
import Derived.Test.YtccjbefmcifaeaaValid
import Derived.Test.YtccjbefmcifaeaaProg
import Derived.WalkKit
import Derived.WalkSpells
import Derived.BigQuiet
import Derived.Deep.QuietTactic
import Derived.RegionTactic
import Derived.ChangeAlike
import Derived.Outline
import Derived.Lib.Hide
import Derived.Laws.OwnMore
namespace Go.Proofs.Ytccjbefmcifaeaa
open Go.RowKit

theorem below_step {w w1 w2 : World} (h : Below w.heap.size w w1) (hb : Below w1.heap.size w1 w2) : Below w.heap.size w w2 := h.trans (hb.mono h.size)
theorem below_alloc {w w1 : World} (h : Below w.heap.size w w1) (o : Obj) : Below w.heap.size w (w1.alloc o) := h.alloc h.size o

/-- A part lies at an address. -/
def PartAt (w : World) (b off : Nat) (p : Lt.P) : Prop := w.cell? ⟨b, off, none⟩ = some (.int .i64 p.l) ∧ w.cell? ⟨b, off + 1, none⟩ = some (.int .i64 p.m)
theorem PartAt.below {w w2 : World} {b off : Nat} {p : Lt.P} {B : Nat} (h : PartAt w b off p) (hb : Below B w w2) (hB : b < B) : PartAt w2 b off p :=
  ⟨(hb.cell (p := ⟨b, off, none⟩) hB).trans h.1, (hb.cell (p := ⟨b, off + 1, none⟩) hB).trans h.2⟩
/-- A list of parts that can be read. -/
def Parts (w : World) (v : Value) (ps : List Lt.P) : Prop :=
  (∃ a c, v = .slice a 0 c ∧ ps = [] ∧ (a = none → c = 0)) ∨ ∃ b off cap, v = .slice (some ⟨b, off, none⟩) ps.length cap ∧ ps.length ≤ cap ∧ b < w.heap.size ∧ ∀ k, k < ps.length → PartAt w b (off + k * 2) (ps.getD k default)
theorem Parts.all {w w2 : World} {v : Value} {ps : List Lt.P} (h : Parts w v ps) (hb : Below w.heap.size w w2) : Parts w2 v ps := by
  rcases h with h | ⟨b, off, cap, h1, h2, h3, h4⟩
  · exact .inl h
  · exact .inr ⟨b, off, cap, h1, h2, Nat.lt_of_lt_of_le h3 hb.size, fun k hk => (h4 k hk).below hb h3⟩
theorem Parts.form {w : World} {v : Value} {ps : List Lt.P} (h : Parts w v ps) : ∃ a c, v = .slice a ps.length c := by
  rcases h with ⟨a, c, rfl, rfl, _⟩ | ⟨b, off, cap, rfl, _⟩
  · exact ⟨a, c, rfl⟩
  · exact ⟨_, _, rfl⟩
/-- A lot lies at an address; its list of parts is v. -/
def LotAt (w : World) (b off : Nat) (x : Lt.L) (v : Value) : Prop :=
  w.cell? ⟨b, off, none⟩ = some (.int .i64 x.k) ∧ w.cell? ⟨b, off + 1, none⟩ = some (.int .i64 x.m) ∧ w.cell? ⟨b, off + 2, none⟩ = some v ∧ Parts w v x.ps
theorem LotAt.below {w w2 : World} {b off : Nat} {x : Lt.L} {v : Value} (h : LotAt w b off x v) (hb : Below w.heap.size w w2) (hB : b < w.heap.size) : LotAt w2 b off x v :=
  ⟨(hb.cell (p := ⟨b, off, none⟩) hB).trans h.1, (hb.cell (p := ⟨b, off + 1, none⟩) hB).trans h.2.1, (hb.cell (p := ⟨b, off + 2, none⟩) hB).trans h.2.2.1, h.2.2.2.all hb⟩
/-- A list of lots that can be read. -/
def Lots (w : World) (v : Value) (ls : List Lt.L) : Prop :=
  (∃ a c, v = .slice a 0 c ∧ ls = [] ∧ (a = none → c = 0)) ∨ ∃ b off cap, v = .slice (some ⟨b, off, none⟩) ls.length cap ∧ ls.length ≤ cap ∧ b < w.heap.size ∧ ∀ k, k < ls.length → ∃ v, LotAt w b (off + k * 3) (ls.getD k default) v
theorem Lots.all {w w2 : World} {v : Value} {ls : List Lt.L} (h : Lots w v ls) (hb : Below w.heap.size w w2) : Lots w2 v ls := by
  rcases h with h | ⟨b, off, cap, h1, h2, h3, h4⟩
  · exact .inl h
  · exact .inr ⟨b, off, cap, h1, h2, Nat.lt_of_lt_of_le h3 hb.size, fun k hk => let ⟨v, hv⟩ := h4 k hk; ⟨v, hv.below hb h3⟩⟩
theorem Lots.form {w : World} {v : Value} {ls : List Lt.L} (h : Lots w v ls) : ∃ a c, v = .slice a ls.length c := by
  rcases h with ⟨a, c, rfl, rfl, _⟩ | ⟨b, off, cap, rfl, _⟩
  · exact ⟨a, c, rfl⟩
  · exact ⟨_, _, rfl⟩
theorem Parts.look {w : World} {v : Value} {ps : List Lt.P} (h : Parts w v ps) : ∃ a c, v = .slice a ps.length c ∧ ∀ k, k < ps.length → ∃ b off, a = some ⟨b, off, none⟩ ∧ b < w.heap.size ∧ PartAt w b (off + k * 2) (ps.getD k default) := by
  rcases h with ⟨a, c, rfl, rfl, _⟩ | ⟨b, off, cap, rfl, hc, hb, h4⟩
  · exact ⟨a, c, rfl, fun k hk => absurd hk (Nat.not_lt_zero _)⟩
  · exact ⟨_, _, rfl, fun k hk => ⟨b, off, rfl, hb, h4 k hk⟩⟩
theorem Lots.look {w : World} {v : Value} {ls : List Lt.L} (h : Lots w v ls) : ∃ a c, v = .slice a ls.length c ∧ ∀ k, k < ls.length → ∃ b off u, a = some ⟨b, off, none⟩ ∧ b < w.heap.size ∧ LotAt w b (off + k * 3) (ls.getD k default) u := by
  rcases h with ⟨a, c, rfl, rfl, _⟩ | ⟨b, off, cap, rfl, hc, hb, h4⟩
  · exact ⟨a, c, rfl, fun k hk => absurd hk (Nat.not_lt_zero _)⟩
  · exact ⟨_, _, rfl, fun k hk => let ⟨u, hu⟩ := h4 k hk; ⟨b, off, u, rfl, hb, hu⟩⟩
theorem getD_P {xs : List Lt.P} {k : Nat} (h : k < xs.length) : xs.getD k default = xs[k] := by simp [h]
theorem getD_L {xs : List Lt.L} {k : Nat} (h : k < xs.length) : xs.getD k default = xs[k] := by simp [h]
abbrev partV (p : Lt.P) : Value := .agg #[.int .i64 p.l, .int .i64 p.m]
abbrev lotV (x : Lt.L) (v : Value) : Value := .agg #[.int .i64 x.k, .int .i64 x.m, v]
end Go.Proofs.Ytccjbefmcifaeaa
