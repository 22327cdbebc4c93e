/- Lists of articles and of pieces in memory; the table of a band and its articles. -/
import Derived.Test.YtbmjjmpdlmbehaaRmN
import Derived.Test.YtbmjjmpdlmbehaaBand45
import Derived.Test.YtbmjjmpdlmbehaaBandMk
namespace Go.Proofs.Ytbmjjmpdlmbehaa
open Go.RowKit

/-- A list that can be read: its elements lie in a row. -/
def RowsOf {α : Type} (c : Nat) (At : World → Nat → Nat → α → Prop) (w : World) (v : Value) (xs : List α) : Prop :=
  ∃ a cap, v = .slice a xs.length cap ∧ ∀ k (hk : k < xs.length), ∃ b off, a = some ⟨b, off, none⟩ ∧ b < w.heap.size ∧ At w b (off + k * c) xs[k]
theorem RowsOf.all {α : Type} {c : Nat} {At : World → Nat → Nat → α → Prop} (hAt : ∀ {w w2 : World} {b off B : Nat} {x : α}, At w b off x → Below B w w2 → b < B → At w2 b off x) {w w2 : World} {v : Value} {xs : List α}
    (h : RowsOf c At w v xs) (hb : Below w.heap.size w w2) : RowsOf c At w2 v xs := by
  obtain ⟨a, cap, h1, h2⟩ := h
  exact ⟨a, cap, h1, fun k hk => by obtain ⟨b, off, e1, e2, e3⟩ := h2 k hk; exact ⟨b, off, e1, Nat.lt_of_lt_of_le e2 hb.size, hAt e3 hb e2⟩⟩

abbrev artV (a : Ro.A) : Value := .agg #[.int .i64 a.l, .int .i64 a.la, .int .i64 a.mo, .int .i64 a.sh, .int .i64 a.fl, .int .i64 a.p]
abbrev pcV (x : Ro.X) : Value := .agg #[.int .i64 x.f, .int .i64 x.a]
def ArtAt (w : World) (b off : Nat) (a : Ro.A) : Prop :=
  w.cell? ⟨b, off, none⟩ = some (.int .i64 a.l) ∧ w.cell? ⟨b, off + 1, none⟩ = some (.int .i64 a.la) ∧ w.cell? ⟨b, off + 2, none⟩ = some (.int .i64 a.mo) ∧
  w.cell? ⟨b, off + 3, none⟩ = some (.int .i64 a.sh) ∧ w.cell? ⟨b, off + 4, none⟩ = some (.int .i64 a.fl) ∧ w.cell? ⟨b, off + 5, none⟩ = some (.int .i64 a.p)
theorem ArtAt.below {w w2 : World} {b off B : Nat} {a : Ro.A} (h : ArtAt w b off a) (hb : Below B w w2) (hB : b < B) : ArtAt w2 b off a :=
  ⟨(hb.cell (p := ⟨b, off, none⟩) hB).trans h.1, (hb.cell (p := ⟨b, off + 1, none⟩) hB).trans h.2.1, (hb.cell (p := ⟨b, off + 2, none⟩) hB).trans h.2.2.1,
   (hb.cell (p := ⟨b, off + 3, none⟩) hB).trans h.2.2.2.1, (hb.cell (p := ⟨b, off + 4, none⟩) hB).trans h.2.2.2.2.1, (hb.cell (p := ⟨b, off + 5, none⟩) hB).trans h.2.2.2.2.2⟩
def PcAt (w : World) (b off : Nat) (x : Ro.X) : Prop := w.cell? ⟨b, off, none⟩ = some (.int .i64 x.f) ∧ w.cell? ⟨b, off + 1, none⟩ = some (.int .i64 x.a)
theorem PcAt.below {w w2 : World} {b off B : Nat} {x : Ro.X} (h : PcAt w b off x) (hb : Below B w w2) (hB : b < B) : PcAt w2 b off x :=
  ⟨(hb.cell (p := ⟨b, off, none⟩) hB).trans h.1, (hb.cell (p := ⟨b, off + 1, none⟩) hB).trans h.2⟩
abbrev Arts (w : World) (v : Value) (al : List Ro.A) : Prop := RowsOf 6 ArtAt w v al
abbrev Pcs (w : World) (v : Value) (xs : List Ro.X) : Prop := RowsOf 2 PcAt w v xs
theorem Arts.all {w w2 : World} {v : Value} {al : List Ro.A} (h : Arts w v al) (hb : Below w.heap.size w w2) : Arts w2 v al := RowsOf.all (At := ArtAt) (fun h hb hB => ArtAt.below h hb hB) h hb
theorem Pcs.all {w w2 : World} {v : Value} {xs : List Ro.X} (h : Pcs w v xs) (hb : Below w.heap.size w w2) : Pcs w2 v xs := RowsOf.all (At := PcAt) (fun h hb hB => PcAt.below h hb hB) h hb

/-- An offer: an article, its number, and its spans. -/
def OffAt (w : World) (b off : Nat) (a : Ro.A) (n : Nat) (u : Value) : Prop :=
  ArtAt w b off a ∧ w.cell? ⟨b, off + 6, none⟩ = some (.int .i64 n) ∧ w.cell? ⟨b, off + 7, none⟩ = some u
theorem OffAt.below {w w2 : World} {b off B : Nat} {a : Ro.A} {n : Nat} {u : Value} (h : OffAt w b off a n u) (hb : Below B w w2) (hB : b < B) : OffAt w2 b off a n u :=
  ⟨h.1.below hb hB, (hb.cell (p := ⟨b, off + 6, none⟩) hB).trans h.2.1, (hb.cell (p := ⟨b, off + 7, none⟩) hB).trans h.2.2⟩
abbrev offV (a : Ro.A) (n : Int) (u : Value) : Value := .agg #[.int .i64 a.l, .int .i64 a.la, .int .i64 a.mo, .int .i64 a.sh, .int .i64 a.fl, .int .i64 a.p, .int .i64 n, u]
def spaA (rs : List Bd.R) (a : Ro.A) : List Bd.S := Bd.spa a.la a.mo a.sh a.fl rs
/-- The offers of a band and its articles that can be read. -/
def Offs (w : World) (v : Value) (rs : List Bd.R) (al : List Ro.A) : Prop :=
  ∃ ao c, v = .slice ao al.length c ∧ ∀ k (hk : k < al.length), ∃ b off u, ao = some ⟨b, off, none⟩ ∧ b < w.heap.size ∧ OffAt w b (off + k * 8) al[k] k u ∧ Spns w u (spaA rs al[k])
theorem Offs.all {w w2 : World} {v : Value} {rs : List Bd.R} {al : List Ro.A} (h : Offs w v rs al) (hb : Below w.heap.size w w2) : Offs w2 v rs al := by
  obtain ⟨a, c, h1, h2⟩ := h
  exact ⟨a, c, h1, fun k hk => by obtain ⟨b, off, u, e1, e2, e3, e4⟩ := h2 k hk; exact ⟨b, off, u, e1, Nat.lt_of_lt_of_le e2 hb.size, e3.below hb e2, e4.all hb⟩⟩
abbrev tabV (bv : Value) (n : Int) (ov : Value) : Value := .agg #[bv, .int .i64 n, ov]
/-- The cells of an offer. -/
def offC (a : Ro.A) (n : Int) (u : Value) : List Value := [.int .i64 a.l, .int .i64 a.la, .int .i64 a.mo, .int .i64 a.sh, .int .i64 a.fl, .int .i64 a.p, .int .i64 n, u]
def offsC : List Ro.A → List Value → Int → List Value
  | a :: al, u :: us, n => offC a n u ++ offsC al us (n + 1)
  | _, _, _ => []
theorem offsC_push : ∀ {al : List Ro.A} {us : List Value}, us.length = al.length → ∀ (n : Int) (a : Ro.A) (u : Value), offsC (al ++ [a]) (us ++ [u]) n = offsC al us n ++ offC a (n + (al.length : Int)) u
  | [], [], _, n, a, u => by simp [offsC]
  | y :: al, v :: us, h, n, a, u => by
    have := offsC_push (al := al) (us := us) (by simpa using h) (n + 1) a u
    simp only [List.cons_append, offsC, this, List.append_assoc, List.length_cons]
    rw [show n + 1 + (al.length : Int) = n + ((al.length + 1 : Nat) : Int) by omega]
  | [], v :: us, h, _, _, _ => by simp at h
  | y :: al, [], h, _, _, _ => by simp at h
theorem offsC_len : ∀ {al : List Ro.A} {us : List Value}, us.length = al.length → ∀ n, (offsC al us n).length = al.length * 8
  | [], [], _, _ => rfl
  | y :: al, v :: us, h, n => by
    have := offsC_len (al := al) (us := us) (by simpa using h) (n + 1)
    simp [offsC, offC, this]; omega
  | [], v :: us, h, _ => by simp at h
  | y :: al, [], h, _ => by simp at h
theorem offsC_get : ∀ {al : List Ro.A} {us : List Value}, us.length = al.length → ∀ (n : Int) k (hk : k < al.length), ∃ u, us[k]? = some u ∧ ∀ j, j < 8 → (offsC al us n)[k * 8 + j]? = (offC al[k] (n + (k : Int)) u)[j]?
  | y :: al, v :: us, h, n, 0, hk => ⟨v, rfl, fun j hj => by
      show (offC y n v ++ offsC al us (n + 1))[0 * 8 + j]? = (offC y (n + ((0 : Nat) : Int)) v)[j]?
      rw [show n + ((0 : Nat) : Int) = n by omega, show 0 * 8 + j = j by omega, List.getElem?_append_left (by simp [offC]; omega)]⟩
  | y :: al, v :: us, h, n, k + 1, hk => by
    obtain ⟨u, h1, h2⟩ := offsC_get (al := al) (us := us) (by simpa using h) (n + 1) k (by simpa using hk)
    refine ⟨u, by simpa using h1, fun j hj => ?_⟩
    have := h2 j hj
    show (offC y n v ++ offsC al us (n + 1))[(k + 1) * 8 + j]? = (offC (al[k]'(by simpa using hk)) (n + ((k + 1 : Nat) : Int)) u)[j]?
    rw [List.getElem?_append_right (by simp [offC]; omega), show (k + 1) * 8 + j - (offC y n v).length = k * 8 + j by simp [offC]; omega, this, show n + 1 + (k : Int) = n + ((k + 1 : Nat) : Int) by omega]
  | y :: al, [], h, _, _, _ => by simp at h
  | [], _, _, _, k, hk => by simp at hk
/-- The offers that a call has made; us are their lists of spans. -/
def OwnO (base : Nat) (w : World) (v : Value) (rs : List Bd.R) (al : List Ro.A) (us : List Value) : Prop :=
  us.length = al.length ∧ w.ownsRow base 87 8 v al.length (offsC al us 0) ∧ ∀ k (hk : k < al.length), ∃ u, us[k]? = some u ∧ OwnS 0 w u (spaA rs al[k])
theorem OwnO.nil (base : Nat) (w : World) (rs : List Bd.R) : OwnO base w (.slice none 0 0) rs [] [] := ⟨rfl, World.ownsRow_nil _ _ _ _, fun k hk => absurd hk (Nat.not_lt_zero _)⟩
theorem OwnO.all {base : Nat} {w w2 : World} {v : Value} {rs : List Bd.R} {al : List Ro.A} {us : List Value} (h : OwnO base w v rs al us) (hb : Below w.heap.size w w2) : OwnO base w2 v rs al us :=
  ⟨h.1, ownsRow_all h.2.1 hb, fun k hk => let ⟨u, h1, h2⟩ := h.2.2 k hk; ⟨u, h1, ownsRow_all h2 hb⟩⟩
theorem OwnO.mono {base B : Nat} {w : World} {v : Value} {rs : List Bd.R} {al : List Ro.A} {us : List Value} (h : OwnO base w v rs al us) (hB : B ≤ base) : OwnO B w v rs al us := by
  refine ⟨h.1, ?_, h.2.2⟩
  obtain ⟨h0, h1 | ⟨g, cap, cur, h1, h2, h3⟩⟩ := h.2.1
  · exact ⟨h0, .inl h1⟩
  · exact ⟨h0, .inr ⟨g, cap, cur, h1, Nat.le_trans hB h2, h3⟩⟩
theorem OwnO.form {base : Nat} {w : World} {v : Value} {rs : List Bd.R} {al : List Ro.A} {us : List Value} (h : OwnO base w v rs al us) : ∃ a c, v = .slice a al.length c := by
  obtain ⟨h0, ⟨h1, h2⟩ | ⟨g, cap, cur, h1, _⟩⟩ := h.2.1
  · exact ⟨none, 0, by rw [h1, h2]⟩
  · exact ⟨_, _, h1⟩
/-- A row stays where a row of another kind grows. -/
theorem ownsRow_other {base base' size size' n n' : Nat} {e e' : TypeId} {u s : Value} {xs xs' : List Value} {W w9 : World} (hne : e ≠ e') (h : W.ownsRow base e size u n xs) (hrow : W.ownsRow base' e' size' s n' xs') (hg : W.grownBy w9 s.ownBlock) : w9.ownsRow base e size u n xs := by
  obtain ⟨h0, h1 | ⟨g, cap, cur, h1, h2, h3, h4⟩⟩ := h
  · exact ⟨h0, .inl h1⟩
  · refine ⟨h0, .inr ⟨g, cap, cur, h1, h2, ?_, h4⟩⟩
    refine (hg.block g (Array.getElem?_eq_some_iff.1 h3).1 ?_).trans h3
    intro e2
    obtain ⟨k0, ⟨k1, k2⟩ | ⟨g', cap', cur', k1, k2, k3, k4⟩⟩ := hrow
    · rw [k1] at e2; simp [Value.ownBlock] at e2
    · rw [k1] at e2
      simp [Value.ownBlock] at e2
      subst e2
      rw [k3] at h3
      simp at h3
      exact hne h3.2.symm
theorem OwnO.push {base : Nat} {W w9 : World} {s v' u : Value} {rs : List Bd.R} {al : List Ro.A} {us : List Value} {a : Ro.A} (h : OwnO base W s rs al us) (hu : OwnS 0 W u (spaA rs a)) (hg : W.grownBy w9 s.ownBlock)
    (h9 : w9.ownsRow base 87 8 v' (al.length + 1) (offsC al us 0 ++ offC a (al.length : Int) u)) : OwnO base w9 v' rs (al ++ [a]) (us ++ [u]) := by
  have hne : 70 ≠ 87 := by decide
  refine ⟨by simp [h.1], ?_, fun k hk => ?_⟩
  · rw [offsC_push h.1, List.length_append, Int.zero_add]; exact h9
  · rw [List.length_append, List.length_singleton] at hk
    have hlen := h.1
    by_cases e : k < al.length
    · obtain ⟨z, h1, h2⟩ := h.2.2 k e
      refine ⟨z, by rw [List.getElem?_append_left (by omega)]; exact h1, ?_⟩
      rw [show (al ++ [a])[k]'(by simp; omega) = al[k] from List.getElem_append_left e]
      exact ownsRow_other hne h2 h.2.1 hg
    · have e : k = al.length := by omega
      subst e
      refine ⟨u, by rw [List.getElem?_append_right (by omega), hlen]; simp, ?_⟩
      rw [show (al ++ [a])[al.length]'(by simp) = a by simp]
      exact ownsRow_other hne hu h.2.1 hg
theorem OwnO.offs {base : Nat} {w : World} {v : Value} {rs : List Bd.R} {al : List Ro.A} {us : List Value} (h : OwnO base w v rs al us) : Offs w v rs al := by
  obtain ⟨hl, hr, hp⟩ := h
  obtain ⟨h0, ⟨h1, h2⟩ | ⟨g, cap, cur, h1, h2, h3, h4⟩⟩ := id hr
  · refine ⟨none, 0, by rw [h1, h2], fun k hk => by omega⟩
  · subst h1
    refine ⟨_, cap, rfl, fun k hk => ?_⟩
    obtain ⟨u, e1, e2⟩ := offsC_get hl 0 k hk
    obtain ⟨u', e3, e4⟩ := hp k hk
    rw [e1] at e3
    obtain rfl : u = u' := by simpa using e3
    have hlen := offsC_len hl 0
    have cc : ∀ j, j < 8 → w.cell? ⟨g, 0 + k * 8 + j, none⟩ = (offC al[k] (0 + (k : Int)) u)[j]? := fun j hj => by
      rw [Nat.zero_add]
      exact (World.ownsRow.cellAt hr (k * 8 + j) (by omega)).trans (e2 j hj)
    refine ⟨g, 0, u, rfl, (Array.getElem?_eq_some_iff.1 h3).1, ⟨⟨cc 0 (by omega), cc 1 (by omega), cc 2 (by omega), cc 3 (by omega), cc 4 (by omega), cc 5 (by omega)⟩, ?_, cc 7 (by omega)⟩, OwnS.spns e4⟩
    refine (cc 6 (by omega)).trans ?_
    rw [Int.zero_add]; rfl
abbrev zOff : Value := .agg #[.int .i64 0, .int .i64 0, .int .i64 0, .int .i64 0, .int .i64 0, .int .i64 0, .int .i64 0, .slice none 0 0]
theorem infoOff : (Try.prog.info? 87).map (fun i => (i.zero, i.size, i.bytes)) = some (some zOff, 8, 80) := by kernel_rfl
theorem info_ofR {t : TypeId} {z : Value} {s b : Nat} (h : (Try.prog.info? t).map (fun i => (i.zero, i.size, i.bytes)) = some (some z, s, b)) : ∃ i : TypeInfo, Try.prog.info? t = some i ∧ i.zero = some z ∧ i.size = s ∧ i.bytes = b := by
  cases hi : Try.prog.info? t with
  | none => rw [hi] at h; cases h
  | some i =>
    rw [hi] at h
    simp only [Option.map_some, Option.some.injEq, Prod.mk.injEq] at h
    exact ⟨i, rfl, h.1, h.2.1, h.2.2⟩
theorem ul_offs : Try.prog.underlying 79 = some (.slice 87) := by kernel_rfl
theorem offC_at (w : World) (a : Ro.A) (n : Int) (u : Value) (t : TypeId) : ∀ (j : Nat) (z : Value), (offC a n u)[j]? = some z → (w.alloc (.cells #[.int .i64 a.l, .int .i64 a.la, .int .i64 a.mo, .int .i64 a.sh, .int .i64 a.fl, .int .i64 a.p, .int .i64 n, u] t)).cell? ((⟨w.heap.size, 0, none⟩ : Addr).add j) = some z := by
  intro j z h
  match j, h with
  | 0, h => simp [offC] at h; subst h; simp [Addr.add]
  | 1, h => simp [offC] at h; subst h; simp [Addr.add]
  | 2, h => simp [offC] at h; subst h; simp [Addr.add]
  | 3, h => simp [offC] at h; subst h; simp [Addr.add]
  | 4, h => simp [offC] at h; subst h; simp [Addr.add]
  | 5, h => simp [offC] at h; subst h; simp [Addr.add]
  | 6, h => simp [offC] at h; subst h; simp [Addr.add]
  | 7, h => simp [offC] at h; subst h; simp [Addr.add]
  | j + 8, h => simp [offC] at h
theorem offC_one {u : Value} (hu : u.oneCell' = true) (a : Ro.A) (n : Int) : ∀ z ∈ offC a n u, z.oneCell' = true := by
  intro z h
  simp [offC] at h
  rcases h with rfl | rfl | rfl | rfl | rfl | rfl | rfl | rfl
  all_goals first | rfl | exact hu
end Go.Proofs.Ytbmjjmpdlmbehaa
