/- The spans of the places that meet a query: the reference's. -/
import Derived.Test.YtbmjjmpdlmbehaaBand43
namespace Go.Proofs.Ytbmjjmpdlmbehaa
open Go.RowKit

theorem cellsS_setT : ∀ (a : List Bd.S) (q : Bd.S) (x : Int), (cellsS (a ++ [q])).set (a.length * 2 + 1) (.int .i64 x) = cellsS (a ++ [⟨q.f, x⟩])
  | [], q, x => rfl
  | r :: a, q, x => by
    have ih := cellsS_setT a q x
    show (spnC r ++ cellsS (a ++ [q])).set ((a.length + 1) * 2 + 1) _ = spnC r ++ cellsS (a ++ [⟨q.f, x⟩])
    rw [← ih, List.set_append_right _ _ (by simp [spnC]; omega)]
    congr 2
    simp [spnC]; omega
theorem OwnS.setT {base : Nat} {w : World} {g cap : Nat} {a : List Bd.S} {q : Bd.S} (h : OwnS base w (.slice (some ⟨g, 0, none⟩) (a.length + 1) cap) (a ++ [q])) (x : Int) :
    OwnS base (w.setCell ⟨g, a.length * 2 + 1, none⟩ (.int .i64 x)) (.slice (some ⟨g, 0, none⟩) (a.length + 1) cap) (a ++ [⟨q.f, x⟩]) := by
  have h1 := (World.ownsRow.stored h.row (a.length * 2 + 1) (.int .i64 x)).1
  rw [cellsS_setT] at h1
  exact OwnS.of_row h1
def Bd.whE (rs : List Bd.R) : Int := Bd.valE rs
def Bd.whR (la mo sh fl : Int) (rs : List Bd.R) : List Bd.S := if Bd.valE rs = 0 then Bd.spa la mo sh fl rs else []
theorem normS_wh {la mo sh fl : Int} {rs : List Bd.R} {k : Nat} {x : Bd.Sp} (hx : (Bd.spk rs k).1 = x) :
    Bd.normS (whS la mo sh fl (Bd.upto rs (k + 1))) = (if Bd.holds la mo sh fl x.m = true then Bd.pushS (Bd.normS (whS la mo sh fl (Bd.upto rs k))) ⟨x.f, x.t⟩ else Bd.normS (whS la mo sh fl (Bd.upto rs k))) := by
  rw [Bd.upto_succ, whS_snoc, hx]
  unfold whSp
  split
  · rw [Bd.normS_snoc]
  · rw [List.append_nil]

theorem keepW {w1 W W2 : World} {Bq b off : Nat} {la mo sh fl : Int} {r : Bd.R} {o : Value} {cs : List Bd.S}
    (h : (W.cell? ⟨Bq, 0, none⟩ = some (.int .i64 la) ∧ W.cell? ⟨Bq, 1, none⟩ = some (.int .i64 mo) ∧ W.cell? ⟨Bq, 2, none⟩ = some (.int .i64 sh) ∧ W.cell? ⟨Bq, 3, none⟩ = some (.int .i64 fl)) ∧ RunAt W b off r ∧ Hid (OwnS w1.heap.size W o cs ∧ Below w1.heap.size w1 W))
    (hb : Below W.heap.size W W2) (h1 : Bq < w1.heap.size) (h2 : b < w1.heap.size) :
    (W2.cell? ⟨Bq, 0, none⟩ = some (.int .i64 la) ∧ W2.cell? ⟨Bq, 1, none⟩ = some (.int .i64 mo) ∧ W2.cell? ⟨Bq, 2, none⟩ = some (.int .i64 sh) ∧ W2.cell? ⟨Bq, 3, none⟩ = some (.int .i64 fl)) ∧ RunAt W2 b off r ∧ Hid (OwnS w1.heap.size W2 o cs ∧ Below w1.heap.size w1 W2) := by
  obtain ⟨⟨a0, a1, a2, a3⟩, hr, hh⟩ := h
  obtain ⟨ho, hw⟩ := hh.out
  have hs := hw.size
  exact ⟨⟨(hb.cell (p := ⟨Bq, 0, none⟩) (by dsimp only; omega)).trans a0, (hb.cell (p := ⟨Bq, 1, none⟩) (by dsimp only; omega)).trans a1, (hb.cell (p := ⟨Bq, 2, none⟩) (by dsimp only; omega)).trans a2, (hb.cell (p := ⟨Bq, 3, none⟩) (by dsimp only; omega)).trans a3⟩,
    hr.below hb (by omega), Lib.hid ⟨ownsRow_all ho hb, below_step hw hb⟩⟩

end Go.Proofs.Ytbmjjmpdlmbehaa
