/- Books, plain: names, postings, balances. -/
import Derived.Test.YtcljpklgpedolaaGreatDoorBkS
namespace Go.Proofs.YtcljpklgpedolaaGreatDoor
namespace Bk
open Go.Lib

def isLet (c : UInt8) : Bool := decide (97 ≤ c.toNat) && decide (c.toNat ≤ 122)
def isNum (c : UInt8) : Bool := decide (48 ≤ c.toNat) && decide (c.toNat ≤ 57)
/-- A byte that may stand at a place of a name. -/
def okn (j : Nat) (c : UInt8) : Bool := isLet c || (isNum c && decide (j ≠ 0))
def oks (l : List UInt8) : Bool := (List.range l.length).all fun j => okn j (l.getD j 0)
def name (l : List UInt8) : Bool := decide (l ≠ []) && (decide (l.length ≤ 8) && oks l)
theorem oks_iff {l : List UInt8} : oks l = true ↔ ∀ j, j < l.length → okn j (l.getD j 0) = true := by
  unfold oks; simp only [List.all_eq_true, List.mem_range]
/-- A posting: debit, credit, pence. -/
abbrev Po := List UInt8 × List UInt8 × Int
def nms (x : Po) : Bool := name x.1 && name x.2.1
def fit (x : Po) : Bool := decide (x.1 ≠ x.2.1) && (decide (1 ≤ x.2.2) && decide (x.2.2 ≤ 1099511627776))
def valE (l : List Po) : Int := if 64 < l.length then 4 else if l.all nms = false then 2 else if l.all fit = false then 1 else 0
/-- What a posting adds to an account. -/
def gain (x : Po) (a : List UInt8) : Int := (if x.1 = a then x.2.2 else 0) - (if x.2.1 = a then x.2.2 else 0)
def bal : List Po → List UInt8 → Int
  | [], _ => 0
  | x :: r, a => gain x a + bal r a
theorem bal_snoc : ∀ (l : List Po) (x : Po) (a : List UInt8), bal (l ++ [x]) a = bal l a + gain x a
  | [], x, a => by simp [bal]
  | y :: r, x, a => by rw [List.cons_append, bal, bal, bal_snoc r]; omega
/-- The text of a posting. -/
def fmtP (x : Po) : List UInt8 := [112, 111, 115, 116, 32] ++ (x.1 ++ 32 :: (x.2.1 ++ 32 :: Tx.fmtM x.2.2))
theorem name_not {l : List UInt8} (h : name l = true) {c : UInt8} (hc : c.toNat < 48) : c ∉ l := fun hm => by
  unfold name at h
  simp only [Bool.and_eq_true] at h
  obtain ⟨j, hj, e⟩ := List.getElem_of_mem hm
  have := oks_iff.1 h.2.2 j hj
  rw [List.getD_eq_getElem?_getD, List.getElem?_eq_getElem hj, Option.getD_some, e] at this
  unfold okn isLet isNum at this
  simp only [Bool.or_eq_true, Bool.and_eq_true, decide_eq_true_eq] at this
  omega
/-- The posting that a text may be, of its second and third word and a sum. -/
def parP (l : List UInt8) (p : Int) : Po := (bef (aft l), bef (thd l), p)
theorem par_text {l : List UInt8} (h1 : (32 : UInt8) ∈ l) (h2 : (32 : UInt8) ∈ aft l) (h3 : (32 : UInt8) ∈ thd l) : l = bef l ++ 32 :: (bef (aft l) ++ 32 :: (bef (thd l) ++ 32 :: aft (thd l))) := by
  have e1 := bef_aft h1
  have e2 := bef_aft h2
  have e3 : thd l = bef (thd l) ++ 32 :: aft (thd l) := bef_aft h3
  have e4 : aft (aft l) = thd l := rfl
  rw [← e3, ← e4, ← e2, ← e1]
theorem fmtP_parts {x : Po} (h1 : name x.1 = true) (h2 : name x.2.1 = true) : bef (fmtP x) = [112, 111, 115, 116] ∧ aft (fmtP x) = x.1 ++ 32 :: (x.2.1 ++ 32 :: Tx.fmtM x.2.2) ∧ bef (aft (fmtP x)) = x.1 ∧ thd (fmtP x) = x.2.1 ++ 32 :: Tx.fmtM x.2.2 ∧ bef (thd (fmtP x)) = x.2.1 ∧ aft (thd (fmtP x)) = Tx.fmtM x.2.2 := by
  have hb : ∀ {a : List UInt8} (r : List UInt8), (32 : UInt8) ∉ a → bef (a ++ 32 :: r) = a := by
    intro a
    induction a with
    | nil => intro r _; rw [List.nil_append, bef, if_pos rfl]
    | cons c a ih => intro r h; rw [List.cons_append, bef, if_neg (fun e => h (by simp [e])), ih r fun e => h (List.mem_cons_of_mem _ e)]
  have n1 : (32 : UInt8) ∉ x.1 := name_not h1 (by decide)
  have n2 : (32 : UInt8) ∉ x.2.1 := name_not h2 (by decide)
  have e1 : aft (fmtP x) = x.1 ++ 32 :: (x.2.1 ++ 32 :: Tx.fmtM x.2.2) := by
    unfold fmtP
    exact aft_here (a := [112, 111, 115, 116]) _ (by decide)
  have e2 : thd (fmtP x) = x.2.1 ++ 32 :: Tx.fmtM x.2.2 := by
    unfold thd; rw [e1, aft_here _ n1]
  refine ⟨?_, e1, ?_, e2, ?_, ?_⟩
  · unfold fmtP
    exact hb (a := [112, 111, 115, 116]) _ (by decide)
  · rw [e1, hb _ n1]
  · rw [e2, hb _ n2]
  · rw [e2, aft_here _ n2]
/-- What the fourth word is as a sum, and the error. -/
def monP (l : List UInt8) : Int × Int := Tx.ansM (aft (thd l)) (Tx.rT (aft (thd l)))
/-- What a text is read as: the posting. -/
def prs (l : List UInt8) : Option Po :=
  if (32 : UInt8) ∈ thd l ∧ bef l = [112, 111, 115, 116] ∧ (monP l).2 = 0 ∧ valE [parP l (monP l).1] = 0 then some (parP l (monP l).1) else none
end Bk
end Go.Proofs.YtcljpklgpedolaaGreatDoor
