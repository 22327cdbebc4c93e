/- Books, plain: sums, right texts, lines, what is read of a text. Books, plain: cutting a text at blanks and at a line feed. Books, plain: names, postings, balances. -/
import Derived.Test.YtcljpklgpedolaaGreatDoorTextA
import Derived.Lib.TrimByte
namespace Go.Proofs.YtcljpklgpedolaaGreatDoor
namespace Bk
open Go.Lib

/-! Sums. -/
def stp (s : Int) (c : UInt8) : Int := (s * 257 + (c.toNat : Int) + 1) % 1000003
def sum (b : Int) (l : List UInt8) : Int := l.foldl stp (b % 1000003)
theorem stp_in (s : Int) (c : UInt8) : 0 ≤ stp s c ∧ stp s c < 1000003 := by unfold stp; omega
theorem fold_in : ∀ (l : List UInt8) (s : Int), 0 ≤ s → s < 1000003 → 0 ≤ l.foldl stp s ∧ l.foldl stp s < 1000003
  | [], _, h0, h1 => ⟨h0, h1⟩
  | c :: l, s, _, _ => fold_in l _ (stp_in s c).1 (stp_in s c).2
theorem sum_in (b : Int) (l : List UInt8) : 0 ≤ sum b l ∧ sum b l < 1000003 := fold_in l _ (by omega) (by omega)
theorem sum_nil (b : Int) : sum b [] = b % 1000003 := rfl
theorem sum_snoc (b : Int) (l : List UInt8) (c : UInt8) : sum b (l ++ [c]) = stp (sum b l) c := by unfold sum; rw [List.foldl_append]; rfl
theorem sum_app (b : Int) (x y : List UInt8) : sum (sum b x) y = sum b (x ++ y) := by
  have h := sum_in b x
  show y.foldl stp (sum b x % 1000003) = (x ++ y).foldl stp (b % 1000003)
  rw [List.foldl_append, Int.emod_eq_of_lt h.1 h.2]; rfl

/-! Right texts. -/
def okc (c : UInt8) : Bool := decide (32 ≤ c.toNat) && decide (c.toNat ≤ 126)
def right (t : List UInt8) : Bool := decide (t ≠ []) && (decide (t.length ≤ 80) && (decide (t.head? ≠ some 32) && (decide (t.getLast? ≠ some 32) && t.all okc)))
theorem right_iff {t : List UInt8} : right t = true ↔ t ≠ [] ∧ t.length ≤ 80 ∧ t.head? ≠ some 32 ∧ t.getLast? ≠ some 32 ∧ t.all okc = true := by
  unfold right; simp only [Bool.and_eq_true, decide_eq_true_eq]
theorem right_ne {t : List UInt8} (h : right t = true) : t ≠ [] := (right_iff.1 h).1
theorem right_len {t : List UInt8} (h : right t = true) : t.length ≤ 80 := (right_iff.1 h).2.1
theorem right_not {t : List UInt8} (h : right t = true) {c : UInt8} (hc : c.toNat < 32) : c ∉ t := fun hm => by
  have := List.all_eq_true.1 (right_iff.1 h).2.2.2.2 c hm
  unfold okc at this
  simp only [Bool.and_eq_true, decide_eq_true_eq] at this
  omega
theorem trim_left {t : List UInt8} : trimLeftB t 32 = t ↔ t.head? ≠ some 32 := by
  cases t with
  | nil => simp [trimLeftB]
  | cons c r =>
    by_cases h : c = 32
    · subst h
      refine ⟨fun e => ?_, fun e => absurd rfl e⟩
      have e2 : r.dropWhile (· == (32 : UInt8)) = 32 :: r := by simpa [trimLeftB] using e
      have := (List.dropWhile_sublist (· == (32 : UInt8)) (l := r)).length_le
      rw [e2] at this
      rw [List.length_cons] at this; omega
    · simp [trimLeftB, h]
theorem trim_right {t : List UInt8} : trimRightB t 32 = t ↔ t.getLast? ≠ some 32 := by
  have h : trimRightB t 32 = (trimLeftB t.reverse 32).reverse := rfl
  rw [h, ← List.head?_reverse, ← trim_left]
  refine ⟨fun e => ?_, fun e => by rw [e, List.reverse_reverse]⟩
  have := congrArg List.reverse e
  rwa [List.reverse_reverse] at this
theorem trim_sub (t : List UInt8) : (trimB t 32).length ≤ (trimRightB t 32).length ∧ (trimRightB t 32).length ≤ t.length := by
  refine ⟨(List.dropWhile_sublist _).length_le, ?_⟩
  unfold trimRightB
  rw [List.length_reverse]
  have := (List.dropWhile_sublist (· == (32 : UInt8)) (l := t.reverse)).length_le
  simpa using this
theorem trim_iff {t : List UInt8} : trimB t 32 = t ↔ t.head? ≠ some 32 ∧ t.getLast? ≠ some 32 := by
  refine ⟨fun e => ?_, fun ⟨h0, h1⟩ => ?_⟩
  · have hs := trim_sub t
    rw [e] at hs
    have hr : trimRightB t 32 = t := by
      have hsub : (trimRightB t 32).Sublist t := by
        have := (List.dropWhile_sublist (· == (32 : UInt8)) (l := t.reverse)).reverse
        rw [List.reverse_reverse] at this
        exact this
      exact hsub.eq_of_length (by omega)
    refine ⟨?_, trim_right.1 hr⟩
    have : trimLeftB t 32 = t := by
      have e2 : trimLeftB (trimRightB t 32) 32 = t := e
      rwa [hr] at e2
    exact trim_left.1 this
  · show trimLeftB (trimRightB t 32) 32 = t
    rw [trim_right.2 h1]
    exact trim_left.2 h0

/-! Lines. -/
/-- What a sum is told of: the number, a blank, the text. -/
def told (n : Nat) (t : List UInt8) : List UInt8 := itoa n ++ 32 :: t
def body (n : Nat) (b : Int) (t : List UInt8) : List UInt8 := itoa n ++ 32 :: (itoa (sum b (told n t)) ++ 32 :: t)
/-- The line number n with a text, behind a line with the sum b. -/
def wr (n : Nat) (b : Int) (t : List UInt8) : List UInt8 := body n b t ++ [10]
/-- Up to a line feed, and behind it. -/
def lin : List UInt8 → List UInt8
  | [] => []
  | c :: r => if c = 10 then [] else c :: lin r
def rst : List UInt8 → List UInt8
  | [] => []
  | c :: r => if c = 10 then r else rst r
/-- Behind the first blank. -/
def aft : List UInt8 → List UInt8
  | [] => []
  | c :: r => if c = 32 then r else aft r
def thd (l : List UInt8) : List UInt8 := aft (aft l)
def fst (n : Nat) (b : Int) (k : List UInt8) : Option (List UInt8) := if right (thd (lin k)) = true ∧ (wr n b (thd (lin k))).isPrefixOf k = true then some (thd (lin k)) else none

theorem lin_not : ∀ k : List UInt8, (10 : UInt8) ∉ lin k
  | [] => by simp [lin]
  | c :: r => by
    rw [lin]
    split
    · simp
    · rename_i h
      intro hm
      rcases List.mem_cons.1 hm with e | e
      · exact h e.symm
      · exact lin_not r e
theorem lin_rst : ∀ {k : List UInt8}, (10 : UInt8) ∈ k → k = lin k ++ 10 :: rst k
  | [], h => by simp at h
  | c :: r, h => by
    rw [lin, rst]
    split
    · rename_i e; subst e; rfl
    · rename_i e
      rcases List.mem_cons.1 h with e2 | e2
      · exact absurd e2.symm e
      · rw [List.cons_append, ← lin_rst e2]
theorem lin_none : ∀ {k : List UInt8}, (10 : UInt8) ∉ k → lin k = k ∧ rst k = []
  | [], _ => ⟨rfl, rfl⟩
  | c :: r, h => by
    have h1 : c ≠ 10 := fun e => h (by simp [e])
    have h2 := lin_none (k := r) fun e => h (List.mem_cons_of_mem _ e)
    rw [lin, rst, if_neg h1, if_neg h1, h2.1, h2.2]; exact ⟨rfl, rfl⟩
theorem lin_here : ∀ {a : List UInt8} (r : List UInt8), (10 : UInt8) ∉ a → lin (a ++ 10 :: r) = a ∧ rst (a ++ 10 :: r) = r
  | [], r, _ => by rw [List.nil_append, lin, rst, if_pos rfl, if_pos rfl]; exact ⟨rfl, rfl⟩
  | c :: a, r, h => by
    have h1 : c ≠ 10 := fun e => h (by simp [e])
    have h2 := lin_here (a := a) r fun e => h (List.mem_cons_of_mem _ e)
    rw [List.cons_append, lin, rst, if_neg h1, if_neg h1, h2.1, h2.2]; exact ⟨rfl, rfl⟩
theorem aft_here : ∀ {a : List UInt8} (r : List UInt8), (32 : UInt8) ∉ a → aft (a ++ 32 :: r) = r
  | [], r, _ => by rw [List.nil_append, aft, if_pos rfl]
  | c :: a, r, h => by rw [List.cons_append, aft, if_neg (fun e => h (by simp [e])), aft_here r fun e => h (List.mem_cons_of_mem _ e)]
theorem aft_none : ∀ {k : List UInt8}, (32 : UInt8) ∉ k → aft k = []
  | [], _ => rfl
  | c :: r, h => by rw [aft, if_neg (fun e => h (by simp [e])), aft_none fun e => h (List.mem_cons_of_mem _ e)]
theorem aft_len : ∀ k : List UInt8, (aft k).length ≤ k.length
  | [] => Nat.le_refl _
  | c :: r => by
    have := aft_len r
    rw [aft]; split <;> (rw [List.length_cons]; omega)
theorem aft_mem {x : UInt8} : ∀ {k : List UInt8}, x ∈ aft k → x ∈ k
  | [], h => h
  | c :: r, h => by
    rw [aft] at h
    split at h
    · exact List.mem_cons_of_mem _ h
    · exact List.mem_cons_of_mem _ (aft_mem h)
theorem body_not (n : Nat) (b : Int) {t : List UInt8} (h : right t = true) : (10 : UInt8) ∉ body n b t := by
  unfold body
  intro hm
  rcases List.mem_append.1 hm with e | e
  · exact Tx.itoa_not (by decide) e
  · rcases List.mem_cons.1 e with e | e
    · exact absurd e (by decide)
    · rcases List.mem_append.1 e with e | e
      · exact Tx.itoa_not (by decide) e
      · rcases List.mem_cons.1 e with e | e
        · exact absurd e (by decide)
        · exact right_not h (by decide) e
theorem body_thd (n : Nat) (b : Int) (t : List UInt8) : thd (body n b t) = t := by
  unfold thd body
  rw [aft_here _ (Tx.itoa_not (by decide)), aft_here _ (Tx.itoa_not (by decide))]
theorem wr_ne (n : Nat) (b : Int) (t : List UInt8) : wr n b t ≠ [] := by unfold wr; simp
theorem wr_pos (n : Nat) (b : Int) (t : List UInt8) : 0 < (wr n b t).length := List.length_pos_iff.2 (wr_ne n b t)
/-- A right line stands at a text's beginning exactly if the text's first line is it. -/
theorem wr_pre {n : Nat} {b : Int} {t k : List UInt8} (h : right t = true) : wr n b t <+: k ↔ (10 : UInt8) ∈ k ∧ body n b t = lin k := by
  refine ⟨fun ⟨r, e⟩ => ?_, fun ⟨h1, h2⟩ => ⟨rst k, ?_⟩⟩
  · subst e
    have e : wr n b t ++ r = body n b t ++ 10 :: r := by unfold wr; simp
    rw [e, (lin_here r (body_not n b h)).1]
    exact ⟨by simp, rfl⟩
  · have := lin_rst h1
    rw [← h2] at this
    unfold wr
    rw [List.append_assoc]; exact this.symm
theorem fst_some {n : Nat} {b : Int} {k t : List UInt8} : fst n b k = some t ↔ right t = true ∧ wr n b t <+: k := by
  unfold fst
  constructor
  · intro h
    split at h
    · rename_i e
      injection h with h
      rw [h] at e
      exact ⟨e.1, List.isPrefixOf_iff_prefix.1 e.2⟩
    · cases h
  · rintro ⟨h1, h2⟩
    have h3 := ((wr_pre h1).1 h2).2
    have h4 : thd (lin k) = t := by rw [← h3, body_thd]
    rw [h4, if_pos ⟨h1, List.isPrefixOf_iff_prefix.2 h2⟩]
theorem fst_rst {n : Nat} {b : Int} {k t : List UInt8} (h : fst n b k = some t) : k.drop (wr n b t).length = rst k ∧ k = wr n b t ++ rst k := by
  obtain ⟨h1, h2⟩ := fst_some.1 h
  obtain ⟨h3, h4⟩ := (wr_pre h1).1 h2
  have h5 : k = wr n b t ++ rst k := by
    have := lin_rst h3
    rw [← h4] at this
    unfold wr
    rw [List.append_assoc]; exact this
  refine ⟨?_, h5⟩
  conv => lhs; rw [h5]
  rw [List.drop_left']
  rfl

/-! What is read. -/
abbrev Ln := Nat × List UInt8 × Int
/-- The sum of the next line. -/
def nxt (n : Nat) (b : Int) (t : List UInt8) : Int := sum b (told n t)
/-- The texts of the lines that are read, at most f. -/
def rd : Nat → Nat → Int → List UInt8 → List (List UInt8)
  | 0, _, _, _ => []
  | f + 1, n, b, k => match fst n b k with
    | none => []
    | some t => t :: rd f (n + 1) (nxt n b t) (k.drop (wr n b t).length)
def txt : Nat → Int → List (List UInt8) → List UInt8
  | _, _, [] => []
  | n, b, t :: r => wr n b t ++ txt (n + 1) (nxt n b t) r
def lns : Nat → Int → List (List UInt8) → List Ln
  | _, _, [] => []
  | n, b, t :: r => (n, t, nxt n b t) :: lns (n + 1) (nxt n b t) r
/-- The sum behind some texts. -/
def lst : Nat → Int → List (List UInt8) → Int
  | _, b, [] => b
  | n, b, t :: r => lst (n + 1) (nxt n b t) r
theorem lns_len : ∀ (ts : List (List UInt8)) (n : Nat) (b : Int), (lns n b ts).length = ts.length
  | [], _, _ => rfl
  | t :: r, n, b => by rw [lns, List.length_cons, lns_len r, List.length_cons]
theorem txt_app : ∀ (x y : List (List UInt8)) (n : Nat) (b : Int), txt n b (x ++ y) = txt n b x ++ txt (n + x.length) (lst n b x) y
  | [], y, n, b => by simp [txt, lst]
  | t :: x, y, n, b => by rw [List.cons_append, txt, txt, lst, txt_app x y, List.append_assoc, List.length_cons, show n + 1 + x.length = n + (x.length + 1) by omega]
theorem lns_app : ∀ (x y : List (List UInt8)) (n : Nat) (b : Int), lns n b (x ++ y) = lns n b x ++ lns (n + x.length) (lst n b x) y
  | [], y, n, b => by simp [lns, lst]
  | t :: x, y, n, b => by rw [List.cons_append, lns, lns, lst, lns_app x y, List.cons_append, List.length_cons, show n + 1 + x.length = n + (x.length + 1) by omega]
theorem lst_app : ∀ (x y : List (List UInt8)) (n : Nat) (b : Int), lst n b (x ++ y) = lst (n + x.length) (lst n b x) y
  | [], y, n, b => by simp [lst]
  | t :: x, y, n, b => by rw [List.cons_append, lst, lst, lst_app x y, List.length_cons, show n + 1 + x.length = n + (x.length + 1) by omega]
theorem nxt_in (n : Nat) (b : Int) (t : List UInt8) : 0 ≤ nxt n b t ∧ nxt n b t < 1000003 := sum_in _ _
theorem lst_in : ∀ (ts : List (List UInt8)) (n : Nat) (b : Int), 0 ≤ b → b < 1000003 → 0 ≤ lst n b ts ∧ lst n b ts < 1000003
  | [], _, _, h0, h1 => ⟨h0, h1⟩
  | t :: r, n, b, _, _ => lst_in r _ _ (nxt_in n b t).1 (nxt_in n b t).2
/-- The sum behind some texts is that of the last line. -/
theorem lst_last : ∀ (ts : List (List UInt8)) (n : Nat) (b : Int), lst n b ts = ((lns n b ts).getLast?.map fun x => x.2.2).getD b
  | [], _, _ => rfl
  | t :: r, n, b => by
    rw [lst, lns, lst_last r]
    cases h : (lns (n + 1) (nxt n b t) r) with
    | nil => rfl
    | cons x y => rw [List.getLast?_cons_cons]; cases hl : (x :: y).getLast? with
      | none => simp at hl
      | some z => rfl
theorem rd_len : ∀ (f n : Nat) (b : Int) (k : List UInt8), (rd f n b k).length ≤ f
  | 0, _, _, _ => Nat.le_refl _
  | f + 1, n, b, k => by
    rw [rd]
    split
    · simp
    · rw [List.length_cons]; have := rd_len f (n + 1); exact Nat.succ_le_succ (this _ _)
theorem rd_right : ∀ (f n : Nat) (b : Int) (k : List UInt8), ∀ t ∈ rd f n b k, right t = true
  | 0, _, _, _, t, h => by simp [rd] at h
  | f + 1, n, b, k, t, h => by
    rw [rd] at h
    split at h
    · simp at h
    · rename_i u e
      rcases List.mem_cons.1 h with e2 | e2
      · subst e2; exact (fst_some.1 e).1
      · exact rd_right f _ _ _ t e2
theorem rd_eq : ∀ (f n : Nat) (b : Int) (k : List UInt8), k = txt n b (rd f n b k) ++ k.drop (txt n b (rd f n b k)).length
  | 0, _, _, k => rfl
  | f + 1, n, b, k => by
    rw [rd]
    split
    · rfl
    · rename_i t e
      have h1 := (fst_rst e).2
      have h2 := (fst_rst e).1
      have h3 := rd_eq f (n + 1) (nxt n b t) (rst k)
      rw [h2, txt]
      conv => lhs; rw [h1]
      rw [List.length_append, ← List.drop_drop, h2, List.append_assoc, ← h3]
theorem rd_pre (f n : Nat) (b : Int) (k : List UInt8) : txt n b (rd f n b k) <+: k := ⟨_, (rd_eq f n b k).symm⟩
/-- What is read is the longest beginning of such lines. -/
theorem rd_long : ∀ (ts : List (List UInt8)) (f n : Nat) (b : Int) (k : List UInt8), (∀ t ∈ ts, right t = true) → ts.length ≤ f → txt n b ts <+: k → ts <+: rd f n b k
  | [], _, _, _, _, _, _, _ => List.nil_prefix
  | t :: r, 0, _, _, _, _, h, _ => by simp at h
  | t :: r, f + 1, n, b, k, hr, hl, hp => by
    obtain ⟨q, hq⟩ := hp
    rw [txt, List.append_assoc] at hq
    have h1 : fst n b k = some t := fst_some.2 ⟨hr t (by simp), ⟨_, hq⟩⟩
    have h2 : k.drop (wr n b t).length = txt (n + 1) (nxt n b t) r ++ q := by rw [← hq, List.drop_left' rfl]
    rw [rd, h1]
    show t :: r <+: t :: rd f (n + 1) (nxt n b t) (k.drop (wr n b t).length)
    rw [h2]
    exact (List.prefix_cons_inj t).2 (rd_long r f _ _ _ (fun u hu => hr u (List.mem_cons_of_mem _ hu)) (by simpa using hl) ⟨q, rfl⟩)
theorem txt_pos {n : Nat} {b : Int} {ts : List (List UInt8)} (h : ts ≠ []) : 0 < (txt n b ts).length := by
  cases ts with
  | nil => exact absurd rfl h
  | cons t r => rw [txt, List.length_append]; have := wr_pos n b t; omega
theorem rd_txt {ts : List (List UInt8)} {f n : Nat} {b : Int} (hr : ∀ t ∈ ts, right t = true) (hl : ts.length ≤ f) : rd f n b (txt n b ts) = ts := by
  obtain ⟨q, hq⟩ := rd_long ts f n b (txt n b ts) hr hl ⟨[], by simp⟩
  have h := rd_pre f n b (txt n b ts)
  rw [← hq, txt_app] at h
  by_cases hn : q = []
  · rw [hn, List.append_nil] at hq; exact hq.symm
  · have h1 := h.length_le
    have h2 := txt_pos (n := n + ts.length) (b := lst n b ts) hn
    rw [List.length_append] at h1
    omega

/-! A book. -/
def tx (k : List UInt8) : List (List UInt8) := rd 200 1 0 k
def rest (k : List UInt8) : List UInt8 := k.drop (txt 1 0 (tx k)).length
def ln (k : List UInt8) : List Ln := lns 1 0 (tx k)
theorem book_eq (k : List UInt8) : k = txt 1 0 (tx k) ++ rest k := rd_eq _ _ _ _
theorem rest_nil {k : List UInt8} : rest k = [] ↔ k = txt 1 0 (tx k) := by
  have h := book_eq k
  refine ⟨fun e => by rw [e, List.append_nil] at h; exact h, fun e => ?_⟩
  unfold rest
  rw [← e]; simp
theorem tx_len (k : List UInt8) : (tx k).length ≤ 200 := rd_len _ _ _ _
theorem tx_right {k t : List UInt8} (h : t ∈ tx k) : right t = true := rd_right _ _ _ _ _ h
theorem ln_len (k : List UInt8) : (ln k).length = (tx k).length := lns_len _ _ _
theorem tx_txt {ts : List (List UInt8)} (hr : ∀ t ∈ ts, right t = true) (hl : ts.length ≤ 200) : tx (txt 1 0 ts) = ts := rd_txt hr hl
theorem rest_txt {ts : List (List UInt8)} (hr : ∀ t ∈ ts, right t = true) (hl : ts.length ≤ 200) : rest (txt 1 0 ts) = [] := rest_nil.2 (by rw [tx_txt hr hl])
/-- Of two books with the same lines each is the other. -/
theorem lns_inj : ∀ (x y : List (List UInt8)) (n : Nat) (b : Int), lns n b x = lns n b y → x = y
  | [], [], _, _, _ => rfl
  | [], _ :: _, _, _, h => by simp [lns] at h
  | _ :: _, [], _, _, h => by simp [lns] at h
  | t :: x, u :: y, n, b, h => by
    rw [lns, lns] at h
    simp only [List.cons.injEq, Prod.mk.injEq, true_and] at h
    obtain ⟨⟨h1, _⟩, h2⟩ := h
    subst h1
    rw [lns_inj x y _ _ h2]
/-- What is read of a beginning of a book of right lines is a beginning of these. -/
theorem tx_cut {ts : List (List UInt8)} (hr : ∀ t ∈ ts, right t = true) (hl : ts.length ≤ 200) {k : List UInt8} (hk : k <+: txt 1 0 ts) : tx k <+: ts := by
  have h := rd_long (tx k) 200 1 0 (txt 1 0 ts) (fun t ht => tx_right ht) (tx_len k) ((rd_pre 200 1 0 k).trans hk)
  rwa [rd_txt hr hl] at h
/-- Where some texts stand in it, a book has them. -/
theorem tx_has {ts : List (List UInt8)} (hr : ∀ t ∈ ts, right t = true) (hl : ts.length ≤ 200) {k : List UInt8} (hk : txt 1 0 ts <+: k) : ts <+: tx k := rd_long ts 200 1 0 k hr hl hk
theorem itoa_short {n : Int} (h0 : 0 ≤ n) (h1 : n < 10000000) : (itoa n).length ≤ 7 := by
  unfold itoa
  rw [if_neg (by omega)]
  have := Tx.dec_len 6 n.toNat (by have : (10 : Nat) ^ (6 + 1) = 10000000 := by decide
                                   omega)
  omega
theorem wr_short {n : Nat} (b : Int) {t : List UInt8} (hn : n < 10000000) (h : right t = true) : (wr n b t).length ≤ 97 := by
  have h1 := right_len h
  have h2 := itoa_short (n := (n : Int)) (by omega) (by omega)
  have h3 := sum_in b (told n t)
  have h4 := itoa_short h3.1 (by omega)
  unfold wr body
  simp only [List.length_append, List.length_cons, List.length_nil]
  omega
/-- Less than a line is torn. -/
theorem torn_short {ts : List (List UInt8)} (hr : ∀ t ∈ ts, right t = true) (hl : ts.length ≤ 200) {k : List UInt8} (hk : k <+: txt 1 0 ts) : (rest k).length ≤ 97 ∧ (rest k = [] ∨ (tx k).length < ts.length) := by
  obtain ⟨q, hq⟩ := tx_cut hr hl hk
  have e := book_eq k
  cases q with
  | nil =>
    rw [List.append_nil] at hq
    have h2 := hk.length_le
    rw [e, hq, List.length_append] at h2
    have h3 : rest k = [] := List.length_eq_zero_iff.1 (by omega)
    rw [h3]; exact ⟨by simp, .inl rfl⟩
  | cons t r =>
    have hlen := congrArg List.length hq
    rw [List.length_append, List.length_cons] at hlen
    refine ⟨?_, .inr (by omega)⟩
    have ht : right t = true := hr t (by rw [← hq]; simp)
    have h1 : txt 1 0 (tx k ++ [t]) <+: txt 1 0 ts := by
      rw [← hq, show tx k ++ t :: r = (tx k ++ [t]) ++ r by simp, txt_app (tx k ++ [t]) r]
      exact ⟨_, rfl⟩
    have h2 : ¬ txt 1 0 (tx k ++ [t]) <+: k := fun hp => by
      have h3 := (tx_has (ts := tx k ++ [t]) (fun u hu => by
        rcases List.mem_append.1 hu with e | e
        · exact tx_right e
        · have : u = t := by simpa using e
          rw [this]; exact ht) (by rw [List.length_append]; simp; omega) hp).length_le
      rw [List.length_append, List.length_cons] at h3
      omega
    have h4 : k <+: txt 1 0 (tx k ++ [t]) := (List.prefix_or_prefix_of_prefix hk h1).resolve_right h2
    have h5 := h4.length_le
    have h6 := congrArg List.length e
    rw [txt_app, List.length_append, txt, txt, List.append_nil] at h5
    rw [List.length_append] at h6
    have h7 := wr_short (n := 1 + (tx k).length) (lst 1 0 (tx k)) (by omega) ht
    omega
end Bk
end Go.Proofs.YtcljpklgpedolaaGreatDoor
namespace Go.Proofs.YtcljpklgpedolaaGreatDoor
namespace Bk
open Go.Lib

/-- Up to the first blank. -/
def bef : List UInt8 → List UInt8
  | [] => []
  | c :: r => if c = 32 then [] else c :: bef r
theorem bef_aft : ∀ {k : List UInt8}, (32 : UInt8) ∈ k → k = bef k ++ 32 :: aft k
  | [], h => by simp at h
  | c :: r, h => by
    rw [bef, aft]
    split
    · rename_i e; subst e; rfl
    · rename_i e
      rcases List.mem_cons.1 h with e2 | e2
      · exact absurd e2.symm e
      · rw [List.cons_append, ← bef_aft e2]
theorem bef_not : ∀ k : List UInt8, (32 : UInt8) ∉ bef k
  | [] => by simp [bef]
  | c :: r => by
    rw [bef]
    split
    · simp
    · rename_i h
      intro hm
      rcases List.mem_cons.1 hm with e | e
      · exact h e.symm
      · exact bef_not r e
theorem aft_lt {k : List UInt8} (h : (32 : UInt8) ∈ k) : (bef k).length + 1 + (aft k).length = k.length := by
  have := congrArg List.length (bef_aft h)
  rw [List.length_append, List.length_cons] at this
  omega
/-- The pieces at the first m blanks. -/
def pcs : Nat → List UInt8 → List (List UInt8)
  | 0, l => [l]
  | m + 1, l => if (32 : UInt8) ∈ l then bef l :: pcs m (aft l) else [l]
theorem pcs_more : ∀ (m q : Nat) (l : List UInt8), l.length ≤ m → l.length ≤ q → pcs m l = pcs q l
  | 0, 0, _, _, _ => rfl
  | 0, q + 1, l, h, _ => by
    have : l = [] := List.length_eq_zero_iff.1 (by omega)
    subst this; rfl
  | m + 1, 0, l, _, h => by
    have : l = [] := List.length_eq_zero_iff.1 (by omega)
    subst this; rfl
  | m + 1, q + 1, l, h1, h2 => by
    rw [pcs, pcs]
    split
    · rename_i h
      have := aft_lt h
      rw [pcs_more m q (aft l) (by omega) (by omega)]
    · rfl
theorem splitK_pcs : ∀ (m : Nat) (l : List UInt8), splitK [32] 0 m l = pcs m l
  | 0, _ => rfl
  | m + 1, l => by
    rw [splitK, pcs]
    by_cases h : (32 : UInt8) ∈ l
    · have e := bef_aft h
      have hi : index l [32] = ((bef l).length : Int) := by
        conv => lhs; rw [e]
        exact Tx.index_here 32 (aft l) (bef l) (bef_not l)
      rw [hi, if_pos h, if_neg (by simp)]
      have h1 : l.take ((((bef l).length : Int)).toNat + 0) = bef l := by
        rw [Int.toNat_natCast, Nat.add_zero]
        exact (congrArg (List.take (bef l).length) e).trans (List.take_left' rfl)
      have h2 : l.drop ((((bef l).length : Int)).toNat + [(32 : UInt8)].length) = aft l := by
        rw [Int.toNat_natCast]
        refine (congrArg (List.drop _) e).trans ?_
        rw [show bef l ++ 32 :: aft l = (bef l ++ [32]) ++ aft l by simp, List.drop_left' (by simp)]
      rw [h1, h2, splitK_pcs m]
    · rw [Tx.index_not 32 l h, if_neg h]; rfl
theorem splitN_pcs (l : List UInt8) (m : Nat) : splitK [32] 0 (min (m + 1) (l.length + 1) - 1) l = pcs m l := by
  rw [splitK_pcs]
  by_cases h : m ≤ l.length
  · rw [show min (m + 1) (l.length + 1) - 1 = m by omega]
  · rw [show min (m + 1) (l.length + 1) - 1 = l.length by omega]
    exact pcs_more _ _ _ (Nat.le_refl _) (by omega)
theorem pcs_len : ∀ (m : Nat) (l : List UInt8), 1 ≤ (pcs m l).length ∧ (pcs m l).length ≤ m + 1
  | 0, _ => ⟨Nat.le_refl _, Nat.le_refl _⟩
  | m + 1, l => by
    have := pcs_len m (aft l)
    rw [pcs]
    split
    · rw [List.length_cons]; omega
    · simp
theorem pcs_two (l : List UInt8) : ((pcs 2 l).length = 3 ∧ (pcs 2 l)[2]? = some (thd l)) ∨ ((pcs 2 l).length < 3 ∧ thd l = []) := by
  unfold thd
  rw [pcs]
  by_cases h : (32 : UInt8) ∈ l
  · rw [if_pos h, pcs]
    by_cases h2 : (32 : UInt8) ∈ aft l
    · rw [if_pos h2]; left; exact ⟨rfl, rfl⟩
    · rw [if_neg h2, aft_none h2]; right; exact ⟨by simp, rfl⟩
  · rw [if_neg h, aft_none h]; right; exact ⟨by simp, rfl⟩
theorem pcs_three (l : List UInt8) : (pcs 3 l = [bef l, bef (aft l), bef (thd l), aft (thd l)] ∧ (32 : UInt8) ∈ l ∧ (32 : UInt8) ∈ aft l ∧ (32 : UInt8) ∈ thd l) ∨ ((pcs 3 l).length < 4 ∧ (32 : UInt8) ∉ thd l) := by
  unfold thd
  rw [pcs]
  by_cases h : (32 : UInt8) ∈ l
  · rw [if_pos h, pcs]
    by_cases h2 : (32 : UInt8) ∈ aft l
    · rw [if_pos h2, pcs]
      by_cases h3 : (32 : UInt8) ∈ aft (aft l)
      · rw [if_pos h3]; exact .inl ⟨rfl, h, h2, h3⟩
      · rw [if_neg h3]; exact .inr ⟨by simp, h3⟩
    · rw [if_neg h2, aft_none h2]; exact .inr ⟨by simp, by simp⟩
  · rw [if_neg h, aft_none h]; exact .inr ⟨by simp, by simp [aft]⟩
/-- Cutting at the first line feed. -/
theorem cut_lin (k : List UInt8) : cut k [10] = (lin k, rst k, decide ((10 : UInt8) ∈ k)) := by
  by_cases h : (10 : UInt8) ∈ k
  · have e := lin_rst h
    have : cut k [10] = (lin k, rst k, true) := by
      conv => lhs; rw [e]
      exact Tx.cut_here 10 _ _ (lin_not k)
    rw [this]; simp [h]
  · obtain ⟨h1, h2⟩ := lin_none h
    rw [Tx.cut_not 10 k h, h1, h2]; simp [h]
end Bk
end Go.Proofs.YtcljpklgpedolaaGreatDoor
namespace Go.Proofs.YtcljpklgpedolaaGreatDoor
namespace Bk
open Go.Lib

def isLet (c : UInt8) : Bool := decide (97 ≤ c.toNat) && decide (c.toNat ≤ 122)
def isNum (c : UInt8) : Bool := decide (48 ≤ c.toNat) && decide (c.toNat ≤ 57)
/-- A byte that may stand at a place of a name. -/
def okn (j : Nat) (c : UInt8) : Bool := isLet c || (isNum c && decide (j ≠ 0))
def oks (l : List UInt8) : Bool := (List.range l.length).all fun j => okn j (l.getD j 0)
def name (l : List UInt8) : Bool := decide (l ≠ []) && (decide (l.length ≤ 8) && oks l)
theorem oks_iff {l : List UInt8} : oks l = true ↔ ∀ j, j < l.length → okn j (l.getD j 0) = true := by
  unfold oks; simp only [List.all_eq_true, List.mem_range]
/-- A posting: debit, credit, pence. -/
abbrev Po := List UInt8 × List UInt8 × Int
def nms (x : Po) : Bool := name x.1 && name x.2.1
def fit (x : Po) : Bool := decide (x.1 ≠ x.2.1) && (decide (1 ≤ x.2.2) && decide (x.2.2 ≤ 1099511627776))
def valE (l : List Po) : Int := if 64 < l.length then 4 else if l.all nms = false then 2 else if l.all fit = false then 1 else 0
/-- What a posting adds to an account. -/
def gain (x : Po) (a : List UInt8) : Int := (if x.1 = a then x.2.2 else 0) - (if x.2.1 = a then x.2.2 else 0)
def bal : List Po → List UInt8 → Int
  | [], _ => 0
  | x :: r, a => gain x a + bal r a
theorem bal_snoc : ∀ (l : List Po) (x : Po) (a : List UInt8), bal (l ++ [x]) a = bal l a + gain x a
  | [], x, a => by simp [bal]
  | y :: r, x, a => by rw [List.cons_append, bal, bal, bal_snoc r]; omega
/-- The text of a posting. -/
def fmtP (x : Po) : List UInt8 := [112, 111, 115, 116, 32] ++ (x.1 ++ 32 :: (x.2.1 ++ 32 :: Tx.fmtM x.2.2))
theorem name_not {l : List UInt8} (h : name l = true) {c : UInt8} (hc : c.toNat < 48) : c ∉ l := fun hm => by
  unfold name at h
  simp only [Bool.and_eq_true] at h
  obtain ⟨j, hj, e⟩ := List.getElem_of_mem hm
  have := oks_iff.1 h.2.2 j hj
  rw [List.getD_eq_getElem?_getD, List.getElem?_eq_getElem hj, Option.getD_some, e] at this
  unfold okn isLet isNum at this
  simp only [Bool.or_eq_true, Bool.and_eq_true, decide_eq_true_eq] at this
  omega
/-- The posting that a text may be, of its second and third word and a sum. -/
def parP (l : List UInt8) (p : Int) : Po := (bef (aft l), bef (thd l), p)
theorem par_text {l : List UInt8} (h1 : (32 : UInt8) ∈ l) (h2 : (32 : UInt8) ∈ aft l) (h3 : (32 : UInt8) ∈ thd l) : l = bef l ++ 32 :: (bef (aft l) ++ 32 :: (bef (thd l) ++ 32 :: aft (thd l))) := by
  have e1 := bef_aft h1
  have e2 := bef_aft h2
  have e3 : thd l = bef (thd l) ++ 32 :: aft (thd l) := bef_aft h3
  have e4 : aft (aft l) = thd l := rfl
  rw [← e3, ← e4, ← e2, ← e1]
theorem fmtP_parts {x : Po} (h1 : name x.1 = true) (h2 : name x.2.1 = true) : bef (fmtP x) = [112, 111, 115, 116] ∧ aft (fmtP x) = x.1 ++ 32 :: (x.2.1 ++ 32 :: Tx.fmtM x.2.2) ∧ bef (aft (fmtP x)) = x.1 ∧ thd (fmtP x) = x.2.1 ++ 32 :: Tx.fmtM x.2.2 ∧ bef (thd (fmtP x)) = x.2.1 ∧ aft (thd (fmtP x)) = Tx.fmtM x.2.2 := by
  have hb : ∀ {a : List UInt8} (r : List UInt8), (32 : UInt8) ∉ a → bef (a ++ 32 :: r) = a := by
    intro a
    induction a with
    | nil => intro r _; rw [List.nil_append, bef, if_pos rfl]
    | cons c a ih => intro r h; rw [List.cons_append, bef, if_neg (fun e => h (by simp [e])), ih r fun e => h (List.mem_cons_of_mem _ e)]
  have n1 : (32 : UInt8) ∉ x.1 := name_not h1 (by decide)
  have n2 : (32 : UInt8) ∉ x.2.1 := name_not h2 (by decide)
  have e1 : aft (fmtP x) = x.1 ++ 32 :: (x.2.1 ++ 32 :: Tx.fmtM x.2.2) := by
    unfold fmtP
    exact aft_here (a := [112, 111, 115, 116]) _ (by decide)
  have e2 : thd (fmtP x) = x.2.1 ++ 32 :: Tx.fmtM x.2.2 := by
    unfold thd; rw [e1, aft_here _ n1]
  refine ⟨?_, e1, ?_, e2, ?_, ?_⟩
  · unfold fmtP
    exact hb (a := [112, 111, 115, 116]) _ (by decide)
  · rw [e1, hb _ n1]
  · rw [e2, hb _ n2]
  · rw [e2, aft_here _ n2]
/-- What the fourth word is as a sum, and the error. -/
def monP (l : List UInt8) : Int × Int := Tx.ansM (aft (thd l)) (Tx.rT (aft (thd l)))
/-- What a text is read as: the posting. -/
def prs (l : List UInt8) : Option Po :=
  if (32 : UInt8) ∈ thd l ∧ bef l = [112, 111, 115, 116] ∧ (monP l).2 = 0 ∧ valE [parP l (monP l).1] = 0 then some (parP l (monP l).1) else none
end Bk
end Go.Proofs.YtcljpklgpedolaaGreatDoor
