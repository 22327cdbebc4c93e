/- Records in memory. -/
import Derived.Test.YtbmjjmpdlmbehaaRmR
import Derived.Test.YtbmjjmpdlmbehaaBand23
namespace Go.Proofs.Ytbmjjmpdlmbehaa
open Go.RowKit

/-- A record: the article's number, the phase, the band. -/
structure Ro.K where
  a : Int
  p : Int
  b : List Bd.R
def Ro.rec1 (rs : List Bd.R) (al : List Ro.A) (ph rep : Int) (x : Ro.X) : Ro.K := ⟨x.a, (ph + x.f).tmod rep, Bd.sliR rs x.f (x.f + (Ro.art al x.a).l)⟩
def Ro.recOk (ph rep : Int) : Bool := (decide (1 ≤ rep) && decide (rep ≤ 144)) && (decide (0 ≤ ph) && decide (ph ≤ rep - 1))
def Ro.recE (rs : List Bd.R) (al : List Ro.A) (xs : List Ro.X) (ph rep : Int) : Int := if Ro.chkE rs al xs = 0 then (if Ro.recOk ph rep = true then 0 else 1) else Ro.chkE rs al xs
def Ro.recR (rs : List Bd.R) (al : List Ro.A) (xs : List Ro.X) (ph rep : Int) : List Ro.K := if Ro.recE rs al xs ph rep = 0 then xs.map (Ro.rec1 rs al ph rep) else []
theorem Ro.recR_len {rs : List Bd.R} {al : List Ro.A} {xs : List Ro.X} {ph rep : Int} : (Ro.recR rs al xs ph rep).length ≤ xs.length := by
  unfold Ro.recR; split <;> simp
theorem Ro.recR_band {rs : List Bd.R} {al : List Ro.A} {xs : List Ro.X} {ph rep : Int} : ∀ k ∈ Ro.recR rs al xs ph rep, k.b.length ≤ rs.length := by
  intro k hk
  unfold Ro.recR at hk
  split at hk
  · obtain ⟨x, _, rfl⟩ := List.mem_map.1 hk
    exact Bd.sliR_length _ _ _
  · simp at hk
/-- A record with the place of its band. -/
structure Ro.C where
  k : Ro.K
  ba : Option Addr
  bc : Nat
def Ro.C.v (c : Ro.C) : Value := .slice c.ba c.k.b.length c.bc
def recC (c : Ro.C) : List Value := [.int .i64 c.k.a, .int .i64 c.k.p, c.v]
theorem recC_len (c : Ro.C) : (recC c).length = 3 := rfl
theorem recC_one (c : Ro.C) : ∀ u ∈ recC c, u.oneCell' = true := by
  intro u h; simp [recC, Ro.C.v] at h; rcases h with rfl | rfl | rfl <;> rfl
theorem recC_at (w : World) (c : Ro.C) (t : TypeId) : ∀ (j : Nat) (u : Value), (recC c)[j]? = some u → (w.alloc (.cells #[.int .i64 c.k.a, .int .i64 c.k.p, c.v] t)).cell? ((⟨w.heap.size, 0, none⟩ : Addr).add j) = some u := by
  intro j u h
  have h2 := (BlockAt.new w #[.int .i64 c.k.a, .int .i64 c.k.p, c.v] t).cell j
  rw [show ((⟨w.heap.size, 0, none⟩ : Addr).add j) = ⟨w.heap.size, j, none⟩ by cases j <;> simp [Addr.add], h2]
  simpa [recC] using h
theorem recs_len : ∀ cs : List Ro.C, (cs.flatMap recC).length = cs.length * 3
  | [] => rfl
  | c :: cs => by
    have := recs_len cs
    rw [List.flatMap_cons, List.length_append, recC_len, this, List.length_cons, Nat.succ_mul]; omega
theorem recs_at : ∀ (cs : List Ro.C) (k : Nat) (hk : k < cs.length) (j : Nat), j < 3 → (cs.flatMap recC)[k * 3 + j]? = (recC cs[k])[j]?
  | c :: cs, 0, _, j, hj => by
    rw [List.flatMap_cons, List.getElem?_append_left (by rw [recC_len]; omega), Nat.zero_mul, Nat.zero_add]; rfl
  | c :: cs, k + 1, hk, j, hj => by
    have := recs_at cs k (by simpa using hk) j hj
    rw [List.flatMap_cons, List.getElem?_append_right (by rw [recC_len, Nat.succ_mul]; omega), recC_len, show (k + 1) * 3 + j - 3 = k * 3 + j by rw [Nat.succ_mul]; omega, this]; rfl
/-- A row stays where another block is written. -/
theorem ownsRow_far {e : TypeId} {base B n size : Nat} {W : World} {v : Value} {xs : List Value} (h : W.ownsRow base e size v n xs) (hB : v.ownBlock ≠ some B) (i : Nat) (x : Value) : (W.setCell ⟨B, i, none⟩ x).ownsRow base e size v n xs := by
  obtain ⟨h0, h1 | ⟨g, cap, cur, h1, h2, h3, h4⟩⟩ := h
  · exact ⟨h0, .inl h1⟩
  · refine ⟨h0, .inr ⟨g, cap, cur, h1, h2, ?_, h4⟩⟩
    have hn : g ≠ B := fun e2 => hB (by rw [h1, e2]; rfl)
    rw [Below.heap_setCell _ _ _ _ hn]; exact h3
/-- Rows of two kinds lie in two blocks. -/
theorem ownsRow_apart {e e' : TypeId} {base base' n n' size size' : Nat} {W : World} {v u : Value} {xs ys : List Value} (hne : e ≠ e') (h : W.ownsRow base e size v n xs) (h2 : W.ownsRow base' e' size' u n' ys) (g : Nat) (hg : v.ownBlock = some g) : u.ownBlock ≠ some g := by
  intro hu
  obtain ⟨h0, ⟨h1, _⟩ | ⟨g1, cap, cur, h1, _, h3, _⟩⟩ := h
  · rw [h1] at hg; simp [Value.ownBlock] at hg
  · obtain ⟨k0, ⟨k1, _⟩ | ⟨g2, cap2, cur2, k1, _, k3, _⟩⟩ := h2
    · rw [k1] at hu; simp [Value.ownBlock] at hu
    · rw [h1] at hg; rw [k1] at hu
      simp [Value.ownBlock] at hg hu
      subst hg hu
      rw [h3] at k3
      simp at k3
      exact hne k3.2
theorem ownsRow_mono3 {base B size n : Nat} {e : TypeId} {v : Value} {xs : List Value} {W : World} (h : W.ownsRow base e size v n xs) (hB : B ≤ base) : W.ownsRow B e size v n xs := by
  obtain ⟨h0, h1 | ⟨g, cap, cur, h1, h2, h3⟩⟩ := h
  · exact ⟨h0, .inl h1⟩
  · exact ⟨h0, .inr ⟨g, cap, cur, h1, Nat.le_trans hB h2, h3⟩⟩
/-- Records that a call has made: the row and each band lie in own blocks from base on, no two bands in one. -/
structure OwnK (T : TypeId) (base : Nat) (w : World) (v : Value) (cs : List Ro.C) : Prop where
  row : w.ownsRow base T 3 v cs.length (cs.flatMap recC)
  bands : ∀ c ∈ cs, Own base w c.v c.k.b
  apart : cs.Pairwise (fun c d => ∀ g, c.v.ownBlock = some g → d.v.ownBlock ≠ some g)
theorem OwnK.nil (T : TypeId) (base : Nat) (w : World) : OwnK T base w (.slice none 0 0) [] := ⟨World.ownsRow_nil _ _ _ _, fun c h => by simp at h, List.Pairwise.nil⟩
theorem OwnK.all {T : TypeId} {base : Nat} {w w2 : World} {v : Value} {cs : List Ro.C} (h : OwnK T base w v cs) (hb : Below w.heap.size w w2) : OwnK T base w2 v cs := ⟨ownsRow_all h.row hb, fun c hc => (h.bands c hc).all hb, h.apart⟩
theorem OwnK.mono {T : TypeId} {base B : Nat} {w : World} {v : Value} {cs : List Ro.C} (h : OwnK T base w v cs) (hB : B ≤ base) : OwnK T B w v cs := ⟨ownsRow_mono3 h.row hB, fun c hc => (h.bands c hc).mono hB, h.apart⟩
theorem OwnK.alloc {T : TypeId} {base : Nat} {w : World} {v : Value} {cs : List Ro.C} (h : OwnK T base w v cs) (o : Obj) : OwnK T base (w.alloc o) v cs := h.all ((Below.refl _ _).alloc (Nat.le_refl _) o)
theorem OwnK.below {T : TypeId} {base : Nat} {w : World} {v : Value} {cs : List Ro.C} (h : OwnK T base w v cs) : ∀ c ∈ cs, ∀ g, c.v.ownBlock = some g → g < w.heap.size := fun c hc g hg => (World.ownsRow.lt (h.bands c hc) g hg).2
theorem OwnK.push {T : TypeId} (hT : 52 ≠ T) {base B : Nat} {W w9 : World} {s v' : Value} {cs : List Ro.C} {c : Ro.C} (h : OwnK T base W s cs) (hc : Own B W c.v c.k.b) (hB : base ≤ B) (hl : ∀ d ∈ cs, ∀ g, d.v.ownBlock = some g → g < B)
    (hg : W.grownBy w9 s.ownBlock) (h9 : w9.ownsRow base T 3 v' (cs.length + 1) (cs.flatMap recC ++ recC c)) : OwnK T base w9 v' (cs ++ [c]) := by
  refine ⟨?_, fun d hd => ?_, ?_⟩
  · rw [List.flatMap_append, show [c].flatMap recC = recC c by simp, show (cs ++ [c]).length = cs.length + 1 by simp]
    exact h9
  · rcases List.mem_append.1 hd with hd | hd
    · exact ownsRow_other hT (h.bands d hd) h.row hg
    · obtain rfl := List.mem_singleton.1 hd
      exact ownsRow_other hT (hc.mono hB) h.row hg
  · refine List.pairwise_append.2 ⟨h.apart, List.pairwise_singleton _ _, fun d hd e he g hg1 hg2 => ?_⟩
    obtain rfl := List.mem_singleton.1 he
    have := (World.ownsRow.lt hc g hg2).1
    have := hl d hd g hg1
    omega
/-- Where a list of records lies. -/
theorem OwnK.form {T : TypeId} {base : Nat} {w : World} {v : Value} {cs : List Ro.C} (h : OwnK T base w v cs) : ∃ a c, v = .slice a cs.length c := by
  obtain ⟨h0, ⟨h1, h2⟩ | ⟨g, cap, cur, h1, _⟩⟩ := h.row
  · exact ⟨none, 0, by rw [h1, h2]⟩
  · exact ⟨_, _, h1⟩
theorem infoRec (T : TypeId) (h : T = 46 ∨ T = 47) : (Try.prog.info? T).map (fun i => (i.zero, i.size, i.bytes)) = some (some (.agg #[.int .i64 0, .int .i64 0, .slice none 0 0]), 3, 40) := by
  rcases h with rfl | rfl <;> kernel_rfl
end Go.Proofs.Ytbmjjmpdlmbehaa
