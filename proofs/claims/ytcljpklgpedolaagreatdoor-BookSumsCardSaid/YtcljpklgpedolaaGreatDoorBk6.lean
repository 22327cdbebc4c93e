/- The program's reading of a book. -/
import Derived.Test.YtcljpklgpedolaaGreatDoorBk5
namespace Go.Proofs.YtcljpklgpedolaaGreatDoor
open Go.RowKit Go.Sort

theorem ul_lines : Tryz.prog.underlying 26 = some (.slice LineT) := Tryz.underlying26
/-- Where the reading stands: the texts read so far, the sum of the last one, what is left. -/
structure RdAt (k : List UInt8) (n : Nat) (b : Int) (q : List UInt8) (ts : List (List UInt8)) : Prop where
  len : ts.length + 1 = n
  sum : b = Bk.lst 1 0 ts
  rd : Bk.tx k = ts ++ Bk.rd (201 - n) n b q
  eq : k = Bk.txt 1 0 ts ++ q
theorem RdAt.start (k : List UInt8) : RdAt k 1 0 k [] := ⟨rfl, rfl, rfl, rfl⟩
theorem RdAt.next {k q : List UInt8} {n : Nat} {b : Int} {ts : List (List UInt8)} {t : List UInt8} (h : RdAt k n b q ts) (hn : n ≤ 200) (hf : Bk.fst n b q = some t) : RdAt k (n + 1) (Bk.nxt n b t) (Bk.rst q) (ts ++ [t]) ∧ Bk.lns 1 0 (ts ++ [t]) = Bk.lns 1 0 ts ++ [(n, t, Bk.nxt n b t)] := by
  obtain ⟨h1, h2, h3, h4⟩ := h
  obtain ⟨f1, f2⟩ := Bk.fst_rst hf
  refine ⟨⟨by simp; omega, ?_, ?_, ?_⟩, ?_⟩
  · rw [Bk.lst_app, ← h2, show 1 + ts.length = n by omega]; rfl
  · rw [h3, show 201 - n = (201 - (n + 1)) + 1 by omega, Bk.rd, hf]
    show ts ++ (t :: Bk.rd (201 - (n + 1)) (n + 1) (Bk.nxt n b t) (List.drop (Bk.wr n b t).length q)) = _
    rw [f1]
    simp
  · rw [Bk.txt_app, ← h2, show 1 + ts.length = n by omega, Bk.txt, Bk.txt, List.append_nil, List.append_assoc, ← f2]
    exact h4
  · rw [Bk.lns_app, ← h2, show 1 + ts.length = n by omega]; rfl
theorem RdAt.stop {k q : List UInt8} {n : Nat} {b : Int} {ts : List (List UInt8)} (h : RdAt k n b q ts) (hs : 200 < n ∨ Bk.fst n b q = none) : Bk.ln k = Bk.lns 1 0 ts ∧ Bk.rest k = q := by
  obtain ⟨h1, h2, h3, h4⟩ := h
  have h5 : Bk.tx k = ts := by
    rw [h3]
    have : Bk.rd (201 - n) n b q = [] := by
      by_cases hn : 200 < n
      · rw [show 201 - n = 0 by omega]; rfl
      · rw [show 201 - n = (200 - n) + 1 by omega, Bk.rd, hs.resolve_left hn]
    rw [this, List.append_nil]
  refine ⟨by unfold Bk.ln; rw [h5], ?_⟩
  unfold Bk.rest
  rw [h5]
  conv => lhs; rw [h4]
  rw [List.drop_left' rfl]
/-- What is told of a text that is read as a book. -/
def BookSays (k : List UInt8) (w : World) (e : Ending) (w' : World) : Prop := ∃ v, e = .returned (.tuple #[v, sv (Bk.rest k)]) ∧ OwnL w.heap.size w' v (Bk.ln k) ∧ Below w.heap.size w w'
set_option maxRecDepth 20000 in
set_option maxHeartbeats 1000000 in
theorem read_any (k : ByteArray) (w : World) (hE : EnvB w) (hs : k.size ≤ 80000) :
    Calls Tryz.prog 19 #[.string k] w (BookSays k.data.toList w) := by
  obtain ⟨i0, hi, hz0, hz1, hz2⟩ := info_parts infoLine
  have HE := Lib.hid hE
  have HC := Lib.hid (fun (kb : ByteArray) (n : Nat) (b : Int) W hW h1 h2 h3 h4 => readLine_any kb n b W hW h1 h2 h3 h4)
  have HST := Lib.hid (RdAt.start k.data.toList)
  have HNX := Lib.hid (fun q n b ts t h1 h2 h3 => RdAt.next (k := k.data.toList) (q := q) (n := n) (b := b) (ts := ts) (t := t) h1 h2 h3)
  have HSP := Lib.hid (fun q n b ts h1 h2 => RdAt.stop (k := k.data.toList) (q := q) (n := n) (b := b) (ts := ts) h1 h2)
  unfold BookSays
  clear hE
  generalize Bk.ln k.data.toList = LN at *
  generalize Bk.rest k.data.toList = RS at *
  go_enter Tryz.func19, Tryz.ntmps19
  go_wp2
  go_loopw [0, 4, 5, 6] (fun bk ls bf nm wr => ∃ (n : Nat) (kb : ByteArray) (b : Int) (L : List Bk.Ln) (a : Option Addr) (c : Nat), (1 ≤ n ∧ n ≤ 201) ∧ kb.size ≤ 80000 ∧ (0 ≤ b ∧ b < 1000003) ∧ L.length + 1 ≤ n ∧ bk = .string kb ∧ ls = .slice a L.length c ∧ bf = .int .i64 b ∧ nm = .int .i64 (n : Int) ∧ Hid ((∃ ts, RdAt k.data.toList n b kb.data.toList ts ∧ L = Bk.lns 1 0 ts) ∧ OwnL w.heap.size wr (.slice a L.length c) L ∧ Below w.heap.size w wr)) (fun _ _ _ t _ => (201 - intOf t).toNat)
  case atStart => exact ⟨1, k, 0, [], none, 0, ⟨by omega, by omega⟩, hs, ⟨by omega, by omega⟩, by simp, rfl, rfl, rfl, rfl, Lib.hid ⟨⟨[], HST.out, rfl⟩, OwnG.nil _ _, Below.refl _ _⟩⟩
  case round =>
    obtain ⟨n, kb, b, L, a, c, ⟨hn1, hn2⟩, hkb, ⟨hb0, hb1⟩, hL, rfl, rfl, rfl, rfl, hg⟩ := hrel
    by_cases hlt : n ≤ 200
    · have C := Lib.hid (HC.out kb n b wr (HE.out.all hg.out.2.2) hkb (by omega) (by omega) (by omega))
      unfold RdSays at C
      cases hf : Bk.fst n b kb.data.toList with
      | none =>
        rw [hf] at C
        dsimp only at C
        have HF : Hid (LN = L ∧ RS = kb.data.toList) := Lib.hid (by
          obtain ⟨ts, h1, h2⟩ := hg.out.1
          obtain ⟨h3, h4⟩ := HSP.out _ _ _ _ h1 (.inr hf)
          exact ⟨by rw [h3, h2], h4⟩)
        have HG := Lib.hid hg.out.2
        clear hf hg HNX HSP HC
        go_wp2_with fail
        refine C.out.mono ?_
        rintro e w2 ⟨rfl, hb2⟩
        have H2 := Lib.hid (And.intro ((HG.out.1.all hb2).alloc (.cells #[.int .i64 0, .string ⟨#[]⟩, .int .i64 0] LineT)) (below_alloc (below_step HG.out.2 hb2) (.cells #[.int .i64 0, .string ⟨#[]⟩, .int .i64 0] LineT)))
        clear C HG hb2
        go_wp2
        go_ret2
        exact ⟨_, by rw [HF.out.2]; show Ending.returned (.tuple #[_, .string kb]) = .returned (.tuple #[_, .string ⟨kb.data.toList.toArray⟩]); rw [mk_list], by rw [HF.out.1]; exact H2.out.1, H2.out.2⟩
      | some t =>
        rw [hf] at C
        dsimp only at C
        obtain ⟨l1, l2⟩ := Bk.lin_len kb.data.toList
        rw [len_size] at l2
        have hnx := Bk.nxt_in n b t
        have HF : Hid (∃ ts, RdAt k.data.toList (n + 1) (Bk.nxt n b t) (Bk.rst kb.data.toList) ts ∧ L ++ [(n, t, Bk.nxt n b t)] = Bk.lns 1 0 ts) := Lib.hid (by
          obtain ⟨ts, h1, h2⟩ := hg.out.1
          obtain ⟨h3, h4⟩ := HNX.out _ _ _ _ _ h1 hlt hf
          exact ⟨_, h3, by rw [h4, h2]⟩)
        have HG := Lib.hid hg.out.2
        clear hf hg HNX HSP HC l1
        generalize Bk.nxt n b t = S at *
        generalize Bk.rst kb.data.toList = Q at *
        go_wp2_with fail
        refine C.out.mono ?_
        rintro e w2 ⟨rfl, hb2⟩
        have hown0 := HG.out.1.all hb2
        have hown := hown0.alloc (.cells (lnA (n, t, S)) LineT)
        have hw2 := below_alloc (below_step HG.out.2 hb2) (.cells (lnA (n, t, S)) LineT)
        have hB := BlockAt.new w2 (lnA (n, t, S)) LineT
        obtain ⟨c0, c1, c2⟩ : _ ∧ _ ∧ _ := ⟨hB.cell 0, hB.cell 1, hB.cell 2⟩
        have hca := cells_new (cs := lnC (n, t, S)) (w2.alloc (.cells (lnA (n, t, S)) LineT)) LineT
        simp only [World.size_alloc] at hca
        have hsz := (below_step HG.out.2 hb2).size
        clear C HG hb2
        go_wp2_with (at_builtin; refine wpList_append_own _ rfl _ _ 26 rfl w.heap.size LineT i0 (.agg #[.int .i64 0, .string ⟨#[]⟩, .int .i64 0]) 3 32 ul_lines hi hz0 hz1 hz2 rfl (by decide) _ _ _ rfl (hown.alloc _) ⟨w2.heap.size + 1, 0, none⟩ 1 1 (lnC (n, t, S)) rfl rfl ?c1 (lnC_one _) ?c3 ?c4 ?c5 ?_)
        case c1 => first | exact hca | exact fun j u h => h
        case c3 => unfold maxLen; omega
        case c4 => omega
        case c5 => first | omega | (simp; omega)
        intro v' w9 hr9 hg9 _
        have hw9 := (below_alloc hw2 (.cells (lnA (n, t, S)) LineT)).grown hg9 (by simp; omega) (fun j e => (World.ownsRow.lt hown j e).1)
        have hp9 : OwnL w.heap.size w9 v' (L ++ [(n, t, S)]) := OwnG.pushed hr9
        have hne : some w2.heap.size ≠ (Value.slice a L.length c).ownBlock := fun e => by
          have := (World.ownsRow.lt hown0 _ e.symm).2
          omega
        have hB9 := BlockAt.kept (B := w2.heap.size) (cs := lnA (n, t, S)) (t := LineT) (hB.alloc (.cells (lnA (n, t, S)) LineT)) hg9 hne
        obtain ⟨d0, d1, d2⟩ : _ ∧ _ ∧ _ := ⟨hB9.cell 0, hB9.cell 1, hB9.cell 2⟩
        have hl9 : (L ++ [((n, t, S) : Bk.Ln)]).length + 1 ≤ n + 1 := by simp; omega
        generalize L ++ [((n, t, S) : Bk.Ln)] = L2 at *
        obtain ⟨a9, c9, e9⟩ := (hp9.rows lnC_len).form
        subst e9
        have HG9 := Lib.hid (And.intro hp9 hw9)
        clear hown hown0 hB hw2 hca hr9 hg9 hw9 hp9 hne c0 c1 c2
        go_wp2
        go_roundw
        case rel => exact ⟨n + 1, ⟨Q.toArray⟩, S, L2, a9, c9, ⟨by omega, by omega⟩, by show Q.toArray.size ≤ _; rw [List.size_toArray]; omega, hnx, hl9, rfl, rfl, rfl, by go_num, Lib.hid ⟨HF.out, HG9.out⟩⟩
        case measure => simp [intOf]; omega
    · have HF : Hid (LN = L ∧ RS = kb.data.toList) := Lib.hid (by
        obtain ⟨ts, h1, h2⟩ := hg.out.1
        obtain ⟨h3, h4⟩ := HSP.out _ _ _ _ h1 (.inl (by omega))
        exact ⟨by rw [h3, h2], h4⟩)
      go_wp2
      go_ret2
      exact ⟨_, by rw [HF.out.2]; show Ending.returned (.tuple #[_, .string kb]) = .returned (.tuple #[_, .string ⟨kb.data.toList.toArray⟩]); rw [mk_list], by rw [HF.out.1]; exact hg.out.2.1, hg.out.2.2⟩
end Go.Proofs.YtcljpklgpedolaaGreatDoor
