/- The reading of a posting: of the reference. -/
import Derived.Test.YtcljpklgpedolaaGreatDoorBkQI
import Derived.Test.YtcljpklgpedolaaGreatDoorBkQE
import Derived.Test.YtcljpklgpedolaaGreatDoorBkQF
import Derived.Test.YtcljpklgpedolaaGreatDoorMonB
import Derived.Test.YtcljpklgpedolaaGreatDoorSeqA
namespace Go.Proofs.YtcljpklgpedolaaGreatDoor
open Go.RowKit Go.Sort

theorem Bk.bef_here : ∀ {a : List UInt8} (r : List UInt8), (32 : UInt8) ∉ a → Bk.bef (a ++ 32 :: r) = a
  | [], r, _ => by rw [List.nil_append, Bk.bef, if_pos rfl]
  | c :: a, r, h => by rw [List.cons_append, Bk.bef, if_neg (fun e => h (by simp [e])), Bk.bef_here r fun e => h (List.mem_cons_of_mem _ e)]
/-- Behind place q, where no blank stands up to place i, the next blank is at i. -/
theorem Bk.next_blank {l : List UInt8} {i q : Nat} (hq : q ≤ i) (hn : (32 : UInt8) ∉ (l.take i).drop q) (hi : l[i]? = some 32) : Bk.bef (l.drop q) = (l.take i).drop q ∧ Bk.aft (l.drop q) = l.drop (i + 1) ∧ (32 : UInt8) ∈ l.drop q := by
  obtain ⟨hlt, he⟩ := List.getElem?_eq_some_iff.1 hi
  have e : l.drop q = (l.take i).drop q ++ 32 :: l.drop (i + 1) := by
    have h1 : l = l.take i ++ 32 :: l.drop (i + 1) := by
      conv => lhs; rw [← List.take_append_drop i l, List.drop_eq_getElem_cons hlt, he]
    conv => lhs; rw [h1]
    rw [List.drop_append_of_le_length (by rw [List.length_take]; omega)]
  rw [e]
  exact ⟨Bk.bef_here _ hn, Bk.aft_here _ hn, by simp⟩
/-- Where the search for three blanks stands: at i, the last one before q, the ones found. -/
def Bk.At (l : List UInt8) (i q : Nat) (ps : List Int) : Prop := q ≤ i ∧ (32 : UInt8) ∉ (l.take i).drop q ∧
  ((ps = [] ∧ q = 0) ∨
   (∃ a : Nat, ps = [(a : Int)] ∧ q = a + 1 ∧ Bk.bef l = l.take a ∧ Bk.aft l = l.drop (a + 1)) ∨
   (∃ a b : Nat, ps = [(a : Int), (b : Int)] ∧ q = b + 1 ∧ a < b ∧ Bk.bef l = l.take a ∧ Bk.aft l = l.drop (a + 1) ∧ Bk.bef (Bk.aft l) = (l.take b).drop (a + 1) ∧ Bk.thd l = l.drop (b + 1)) ∨
   (∃ a b c : Nat, ps = [(a : Int), (b : Int), (c : Int)] ∧ q = c + 1 ∧ a < b ∧ b < c ∧ Bk.bef l = l.take a ∧ Bk.aft l = l.drop (a + 1) ∧ Bk.bef (Bk.aft l) = (l.take b).drop (a + 1) ∧ Bk.thd l = l.drop (b + 1) ∧ Bk.bef (Bk.thd l) = (l.take c).drop (b + 1) ∧ Bk.aft (Bk.thd l) = l.drop (c + 1) ∧ (32 : UInt8) ∈ Bk.thd l))
theorem Bk.At.start (l : List UInt8) : Bk.At l 0 0 [] := ⟨Nat.le_refl _, by simp, .inl ⟨rfl, rfl⟩⟩
theorem Bk.At.other {l : List UInt8} {i q : Nat} {ps : List Int} {c : UInt8} (h : Bk.At l i q ps) (hi : l[i]? = some c) (hc : c ≠ 32) : Bk.At l (i + 1) q ps := by
  obtain ⟨h1, h2, h3⟩ := h
  obtain ⟨hlt, he⟩ := List.getElem?_eq_some_iff.1 hi
  refine ⟨by omega, ?_, h3⟩
  rw [List.take_succ_eq_append_getElem hlt, he, List.drop_append_of_le_length (by rw [List.length_take]; omega)]
  intro hm
  rcases List.mem_append.1 hm with hm | hm
  · exact h2 hm
  · exact hc (List.mem_singleton.1 hm).symm
theorem Bk.At.blank {l : List UInt8} {i q : Nat} {ps : List Int} (h : Bk.At l i q ps) (hp : ps.length < 3) (hi : l[i]? = some 32) : Bk.At l (i + 1) (i + 1) (ps ++ [(i : Int)]) := by
  obtain ⟨h1, h2, h3⟩ := h
  obtain ⟨n1, n2, n3⟩ := Bk.next_blank h1 h2 hi
  refine ⟨Nat.le_refl _, by rw [List.drop_of_length_le (by rw [List.length_take]; omega)]; simp, ?_⟩
  rcases h3 with ⟨rfl, rfl⟩ | ⟨a, rfl, rfl, e1, e2⟩ | ⟨a, b, rfl, rfl, hab, e1, e2, e3, e4⟩ | ⟨a, b, c, rfl, _⟩
  · rw [List.drop_zero] at n1 n2
    rw [List.drop_zero] at n1
    exact .inr (.inl ⟨i, rfl, rfl, n1, n2⟩)
  · rw [← e2] at n1 n2
    exact .inr (.inr (.inl ⟨a, i, rfl, rfl, by omega, e1, e2, n1, n2⟩))
  · rw [← e4] at n1 n2 n3
    exact .inr (.inr (.inr ⟨a, b, i, rfl, rfl, hab, by omega, e1, e2, e3, e4, n1, n2, n3⟩))
  · simp at hp
theorem Bk.At.few {l : List UInt8} {i q : Nat} {ps : List Int} (h : Bk.At l i q ps) (hi : l.length ≤ i) (hp : ps.length < 3) : (32 : UInt8) ∉ Bk.thd l := by
  obtain ⟨h1, h2, h3⟩ := h
  rw [List.take_of_length_le hi] at h2
  rcases h3 with ⟨rfl, rfl⟩ | ⟨a, rfl, rfl, e1, e2⟩ | ⟨a, b, rfl, rfl, hab, e1, e2, e3, e4⟩ | ⟨a, b, c, rfl, _⟩
  · rw [List.drop_zero] at h2
    unfold Bk.thd; rw [Bk.aft_none h2]; simp [Bk.aft]
  · rw [← e2] at h2
    unfold Bk.thd; rw [Bk.aft_none h2]; simp
  · rw [← e4] at h2; exact h2
  · simp at hp
theorem Bk.At.full {l : List UInt8} {i q : Nat} {ps : List Int} (h : Bk.At l i q ps) (hp : ¬ ps.length < 3) : ∃ a b c : Nat, ps = [(a : Int), (b : Int), (c : Int)] ∧ a < b ∧ b < c ∧ c < i ∧ Bk.bef (Bk.aft l) = (l.take b).drop (a + 1) ∧ Bk.bef (Bk.thd l) = (l.take c).drop (b + 1) ∧ Bk.aft (Bk.thd l) = l.drop (c + 1) ∧ (32 : UInt8) ∈ Bk.thd l := by
  obtain ⟨h1, h2, h3⟩ := h
  rcases h3 with ⟨rfl, rfl⟩ | ⟨a, rfl, rfl, e1, e2⟩ | ⟨a, b, rfl, rfl, hab, e1, e2, e3, e4⟩ | ⟨a, b, c, rfl, rfl, hab, hbc, e1, e2, e3, e4, e5, e6, e7⟩
  · simp at hp
  · simp at hp
  · simp at hp
  · exact ⟨a, b, c, rfl, hab, hbc, by omega, e3, e5, e6, e7⟩
theorem Bk.mon_text {l : List UInt8} (h : (Bk.monP l).2 = 0) : Tx.fmtM (Bk.monP l).1 = Bk.aft (Bk.thd l) ∧ -1099511627776 ≤ (Bk.monP l).1 ∧ (Bk.monP l).1 ≤ 1099511627776 := by
  unfold Bk.monP at h ⊢
  cases hx : Tx.rT (Bk.aft (Bk.thd l)) with
  | none => rw [hx] at h; cases h
  | some q =>
    rw [hx] at h
    unfold Tx.ansM at h ⊢
    by_cases hq : Tx.okM (Bk.aft (Bk.thd l)) q = true
    · dsimp only
      rw [if_pos hq]
      unfold Tx.okM at hq
      rw [Bool.and_eq_true, decide_eq_true_eq] at hq
      exact ⟨hq.2, Tx.inM_of hq.1⟩
    · dsimp only at h
      rw [if_neg hq] at h; cases h
/-- A text with a sum behind its third blank is a posting's exactly if its first word is the one. -/
theorem Bk.fmt_back {l : List UInt8} (h3 : (32 : UInt8) ∈ Bk.thd l) (hm : (Bk.monP l).2 = 0) : Bk.fmtP (Bk.parP l (Bk.monP l).1) = l ↔ Bk.bef l = [112, 111, 115, 116] := by
  have h2 : (32 : UInt8) ∈ Bk.aft l := Bk.aft_mem h3
  have h1 : (32 : UInt8) ∈ l := Bk.aft_mem h2
  have e := Bk.par_text h1 h2 h3
  have hf : Bk.fmtP (Bk.parP l (Bk.monP l).1) = [112, 111, 115, 116] ++ 32 :: (Bk.bef (Bk.aft l) ++ 32 :: (Bk.bef (Bk.thd l) ++ 32 :: Bk.aft (Bk.thd l))) := by
    unfold Bk.fmtP Bk.parP
    rw [(Bk.mon_text hm).1]; rfl
  rw [hf]
  refine ⟨fun h => ?_, fun h => ?_⟩
  · rw [← h]; exact Bk.bef_here _ (by decide)
  · conv => rhs; rw [e, h]
theorem refParMon_any (l : List UInt8) (w : World) (hs : l.length ≤ 100000) :
    Calls Tryz.prog 83 #[sv l] w (ReadSays (Tx.ansM l (Tx.rT l)) w) :=
  refParseMoney_any ⟨l.toArray⟩ w (by show l.toArray.size ≤ _; rw [List.size_toArray]; exact hs)
abbrev OwnJ (base : Nat) (w : World) (v : Value) (xs : List Int) : Prop := OwnG 3 1 intL base w v xs
theorem intJ_len (x : Int) : (intL x).length = 1 := rfl
theorem intJ_at {x : Int} {w : World} {b off : Nat} (h : CellsAt (intL x) w b off) : w.cell? ⟨b, off, none⟩ = some (.int .i64 x) := by
  have := h 0 _ rfl; simpa using this
set_option maxRecDepth 20000 in
set_option maxHeartbeats 2000000 in
theorem refParsePosting_any (s : ByteArray) (w : World) (hs : s.size ≤ 90000) :
    Calls Tryz.prog 49 #[.string s] w (PrsSays s.data.toList w) := by
  obtain ⟨i0, hi, hz0, hz1, hz2⟩ := info_parts infoInt
  have HL := Lib.hid (len_size s)
  obtain ⟨R, hR⟩ : ∃ R, R = (match Bk.prs s.data.toList with | none => Value.tuple #[poV ([], [], 0), .int .i64 3] | some x => .tuple #[poV x, .int .i64 0]) := ⟨_, rfl⟩
  suffices hsuf : Calls Tryz.prog 49 #[.string s] w fun e w' => e = .returned R ∧ Below w.heap.size w w' from
    hsuf.mono fun e w' ⟨h1, h2⟩ => ⟨h1.trans (by rw [hR]; cases Bk.prs s.data.toList <;> rfl), h2⟩
  have HNO : Hid (¬ ((32 : UInt8) ∈ Bk.thd s.data.toList ∧ Bk.bef s.data.toList = [112, 111, 115, 116] ∧ (Bk.monP s.data.toList).2 = 0 ∧ Bk.valE [Bk.parP s.data.toList (Bk.monP s.data.toList).1] = 0) → R = .tuple #[poV ([], [], 0), .int .i64 3]) := Lib.hid (fun h => by rw [hR, Bk.prs_no h])
  have HYES : Hid ((32 : UInt8) ∈ Bk.thd s.data.toList → Bk.bef s.data.toList = [112, 111, 115, 116] → (Bk.monP s.data.toList).2 = 0 → Bk.valE [Bk.parP s.data.toList (Bk.monP s.data.toList).1] = 0 → R = .tuple #[poV (Bk.parP s.data.toList (Bk.monP s.data.toList).1), .int .i64 0]) := Lib.hid (fun h1 h2 h3 h4 => by
    rw [hR]; unfold Bk.prs; rw [if_pos ⟨h1, h2, h3, h4⟩])
  have HAT : Hid (∀ k (h : k < s.size), s.data.toList[k]? = some (s[k]'h)) := Lib.hid (fun k h => by rw [List.getElem?_eq_getElem (by rw [len_size]; exact h)]; rfl)
  have hB0 := BlockAt.new w #[.string ⟨#[]⟩, .string ⟨#[]⟩, .int .i64 0] PostT
  have hw0 := below_alloc (Below.refl w.heap.size w) (.cells #[.string ⟨#[]⟩, .string ⟨#[]⟩, .int .i64 0] PostT)
  have HB0 := Lib.hid (And.intro hB0 hw0)
  clear hR hB0 hw0
  go_enter Tryz.func49, Tryz.ntmps49
  go_wp2
  go_loopw [4, 5] (fun at_ t wr => ∃ (i q : Nat) (ps : List Int) (a : Option Addr) (c : Nat), i ≤ s.size ∧ ps.length ≤ 3 ∧ at_ = .slice a ps.length c ∧ t = .int .i64 (i : Int) ∧ Hid (Bk.At s.data.toList i q ps ∧ OwnJ (w.heap.size + 1) wr (.slice a ps.length c) ps ∧ BlockAt wr w.heap.size #[.string ⟨#[]⟩, .string ⟨#[]⟩, .int .i64 0] PostT ∧ Below w.heap.size w wr)) (fun _ t _ => s.size - (intOf t).toNat)
  case atStart => exact ⟨0, 0, [], none, 0, Nat.zero_le _, by simp, rfl, rfl, Lib.hid ⟨Bk.At.start _, OwnG.nil _ _, HB0.out.1, HB0.out.2⟩⟩
  case round =>
    obtain ⟨i, q, ps, a, c, hk, hps, rfl, rfl, hg⟩ := hrel
    clear HB0
    by_cases hgo : i < s.size ∧ ps.length < 3
    · obtain ⟨hlt, hp3⟩ := hgo
      by_cases hc : s[i]'hlt = 32
      · have q1 : (((s[i]'hlt).toNat : Int) == 32) = true := by rw [byte_eq]; simpa using hc
        have HX := Lib.hid (hg.out.1.blank hp3 (by rw [HAT.out i hlt, hc]))
        obtain ⟨_, hown, hB, hw⟩ := hg.out
        have hsz := hB.lt
        clear hc hg
        go_wp2_with (at_builtin; refine wpList_append_own _ rfl _ _ 53 rfl (w.heap.size + 1) 3 i0 (.int .i64 0) 1 8 Tryz.underlying53 hi hz0 hz1 hz2 rfl (by decide) _ _ _ rfl (OwnG.alloc hown _) ⟨_, 0, none⟩ 1 1 (intL (i : Int)) rfl rfl (intL_at _ _ _) (intL_one _) (by unfold maxLen; omega) (by omega) (by have := hw.size; simp; omega) ?_)
        intro v' w9 hr9 hg9 _
        have hp9 : OwnJ (w.heap.size + 1) w9 v' (ps ++ [(i : Int)]) := OwnG.pushed hr9
        have hne : some w.heap.size ≠ (Value.slice a ps.length c).ownBlock := fun e => by
          have := (World.ownsRow.lt hown _ e.symm).1
          omega
        have hB9 := BlockAt.kept (BlockAt.alloc hB (.cells #[.int .i64 (i : Int)] 3)) hg9 hne
        have hw9 := (below_alloc hw (.cells #[.int .i64 (i : Int)] 3)).grown hg9 (by have := hw.size; simp; omega) (fun j e => Nat.le_of_succ_le (World.ownsRow.lt hown j e).1)
        have hl9 : (ps ++ [(i : Int)]).length ≤ 3 := by simp; omega
        generalize ps ++ [(i : Int)] = ps2 at *
        obtain ⟨a9, c9, e9⟩ := (hp9.rows intJ_len).form
        subst e9
        have HG9 := Lib.hid (And.intro hp9 (And.intro hB9 hw9))
        clear hown hB hw hr9 hg9 hw9 hp9 hB9 hne
        go_wp2
        go_roundw
        case rel => exact ⟨i + 1, i + 1, ps2, a9, c9, by omega, hl9, rfl, by go_num, Lib.hid ⟨HX.out, HG9.out⟩⟩
        case measure => simp [intOf]; omega
      · have q1 : (((s[i]'hlt).toNat : Int) == 32) = false := by rw [byte_eq]; simpa using hc
        have HX := Lib.hid (hg.out.1.other (HAT.out i hlt) hc)
        have HG := Lib.hid hg.out.2
        clear hc hg
        go_wp2
        go_roundw
        case rel => exact ⟨i + 1, q, ps, a, c, by omega, hps, rfl, by go_num, Lib.hid ⟨HX.out, HG.out⟩⟩
        case measure => simp [intOf]; omega
    · by_cases hp3 : ps.length < 3
      · have HR := Lib.hid (HNO.out (fun h => hg.out.1.few (by rw [HL.out]; omega) hp3 h.1))
        obtain ⟨_, _, hB, hw⟩ := hg.out
        have his : ¬ i < s.size := fun h => hgo ⟨h, hp3⟩
        clear hg hgo
        obtain ⟨c0, c1, c2⟩ : _ ∧ _ ∧ _ := ⟨hB.cell 0, hB.cell 1, hB.cell 2⟩
        obtain ⟨f0, f1, f2⟩ : _ ∧ _ ∧ _ := ⟨hB.frozen 0, hB.frozen 1, hB.frozen 2⟩
        have hB9 := ((hB.set 0 (.string ⟨#[]⟩)).set 1 (.string ⟨#[]⟩)).set 2 (.int .i64 0)
        have e0 : World.cell? _ _ = some (.string ⟨#[]⟩) := (hB.set 0 (.string ⟨#[]⟩)).cell 0
        have e1 : World.cell? _ _ = some (.string ⟨#[]⟩) := ((hB.set 0 (.string ⟨#[]⟩)).set 1 (.string ⟨#[]⟩)).cell 1
        have e2 : World.cell? _ _ = some (.int .i64 0) := hB9.cell 2
        go_wp2
        exact bodyPost_ret (v := .tuple #[poV ([], [], 0), .int .i64 3]) (by simp [results, Tryz.results49, go_sem, e0, e1, e2]) rfl ⟨by rw [HR.out], ((hw.setCell (Nat.le_refl _) _).setCell (Nat.le_refl _) _).setCell (Nat.le_refl _) _⟩
      · obtain ⟨x, y, z, e, hxy, hyz, hzi, t1, t2, t3, t4⟩ := hg.out.1.full hp3
        subst e
        have hown := hg.out.2.1
        have hrows := hown.rows intJ_len
        obtain ⟨a2, c2, e2, hcap, hcl⟩ := hrows
        have e3 : a = a2 := by injection e2
        subst e3
        obtain ⟨b, off, rfl, hb, h0⟩ := hcl 0 (by simp)
        have k0 := intJ_at h0
        have k1 : wr.cell? ⟨b, off + 1, none⟩ = some (.int .i64 (y : Int)) := by
          obtain ⟨b', off', e', _, h1⟩ := hcl 1 (by simp)
          have := intJ_at h1
          injection e' with e'
          injection e' with e1' e2'
          subst e1' e2'
          simpa using this
        have k2 : wr.cell? ⟨b, off + 2, none⟩ = some (.int .i64 (z : Int)) := by
          obtain ⟨b', off', e', _, h2⟩ := hcl 2 (by simp)
          have := intJ_at h2
          injection e' with e'
          injection e' with e1' e2'
          subst e1' e2'
          simpa using this
        obtain ⟨p1, hp1⟩ : ∃ p1, p1 = Bk.bef (Bk.aft s.data.toList) := ⟨_, rfl⟩
        obtain ⟨p2, hp2⟩ : ∃ p2, p2 = Bk.bef (Bk.thd s.data.toList) := ⟨_, rfl⟩
        obtain ⟨p3, hp3x⟩ : ∃ p3, p3 = Bk.aft (Bk.thd s.data.toList) := ⟨_, rfl⟩
        have hx1 : s.extract (x + 1) y = ⟨p1.toArray⟩ := by rw [extract_is, hp1, t1]
        have hx2 : s.extract (y + 1) z = ⟨p2.toArray⟩ := by rw [extract_is, hp2, t2]
        have hx3 : s.extract (z + 1) s.size = ⟨p3.toArray⟩ := by rw [extract_drop, hp3x, t3]
        have hl1 : p1.length ≤ s.size := by rw [hp1, ← HL.out]; exact Nat.le_trans (bef_len _) (Bk.aft_len _)
        have hl2 : p2.length ≤ s.size := by rw [hp2, ← HL.out]; exact Nat.le_trans (bef_len _) (Bk.thd_len _)
        have hl3 : p3.length ≤ s.size := by rw [hp3x, ← HL.out]; exact Nat.le_trans (Bk.aft_len _) (Bk.thd_len _)
        have hmon : Bk.monP s.data.toList = Tx.ansM p3 (Tx.rT p3) := by rw [hp3x]; rfl
        have HMN := Lib.hid (fun W => refParMon_any p3 W (by omega))
        rw [← hmon] at HMN
        unfold ReadSays at HMN
        have hpar : ∀ v, Bk.parP s.data.toList v = (p1, p2, v) := fun v => by rw [hp1, hp2]; rfl
        have hmt := fun h => Bk.mon_text (l := s.data.toList) h
        have hfb := fun h => Bk.fmt_back (l := s.data.toList) t4 h
        have HNO2 : Hid (¬ (Bk.bef s.data.toList = [112, 111, 115, 116] ∧ (Bk.monP s.data.toList).2 = 0 ∧ Bk.valE [(p1, p2, (Bk.monP s.data.toList).1)] = 0) → R = .tuple #[poV ([], [], 0), .int .i64 3]) := Lib.hid (fun h => HNO.out (fun e => h ⟨e.2.1, e.2.2.1, by rw [← hpar]; exact e.2.2.2⟩))
        have HYES2 : Hid (Bk.bef s.data.toList = [112, 111, 115, 116] → (Bk.monP s.data.toList).2 = 0 → Bk.valE [(p1, p2, (Bk.monP s.data.toList).1)] = 0 → R = .tuple #[poV (p1, p2, (Bk.monP s.data.toList).1), .int .i64 0]) := Lib.hid (fun h1 h2 h3 => by
          have := HYES.out t4 h1 h2 (by rw [hpar]; exact h3)
          rwa [hpar] at this)
        rw [hpar] at hfb
        obtain ⟨_, _, hB, hw⟩ := hg.out
        have hzs : z < s.size := by omega
        have hbk : b < wr.heap.size := hb
        clear hg hgo hcl h0 hown e2 HNO HYES hmon hpar hp1 hp2 hp3x t1 t2 t3 t4 hp3
        generalize Bk.monP s.data.toList = mq at *
        obtain ⟨q9, qe⟩ := mq
        dsimp only at HMN hmt hfb HNO2 HYES2
        have hib : i < s.size ∨ ¬ i < s.size := by omega
        by_cases hqe : qe = 0
        case neg =>
          have HR := Lib.hid (HNO2.out (fun h => hqe h.2.1))
          have q3 : (qe == 0) = false := by simpa using hqe
          have q4 : (qe != 0) = true := by simpa using hqe
          clear hmt hfb HNO2 HYES2 hqe
          rcases hib with hib | hib
          all_goals (
            go_wp2_with fail
            refine (HMN.out _).mono ?_
            rintro e w2 ⟨rfl, hb2⟩
            have hB2 := hB.below hb2 hB.lt
            have hw2 := below_step hw hb2
            clear hb2 HMN hw hB k0 k1 k2
            obtain ⟨c0, c1, c2⟩ : _ ∧ _ ∧ _ := ⟨hB2.cell 0, hB2.cell 1, hB2.cell 2⟩
            obtain ⟨f0, f1, f2⟩ : _ ∧ _ ∧ _ := ⟨hB2.frozen 0, hB2.frozen 1, hB2.frozen 2⟩
            have hB9 := ((hB2.set 0 (.string ⟨#[]⟩)).set 1 (.string ⟨#[]⟩)).set 2 (.int .i64 0)
            have e0 : World.cell? _ _ = some (.string ⟨#[]⟩) := (hB2.set 0 (.string ⟨#[]⟩)).cell 0
            have e1 : World.cell? _ _ = some (.string ⟨#[]⟩) := ((hB2.set 0 (.string ⟨#[]⟩)).set 1 (.string ⟨#[]⟩)).cell 1
            have e2 : World.cell? _ _ = some (.int .i64 0) := hB9.cell 2
            go_wp2
            exact bodyPost_ret (v := .tuple #[poV ([], [], 0), .int .i64 3]) (by simp [results, Tryz.results49, go_sem, e0, e1, e2]) rfl ⟨by rw [HR.out], ((hw2.setCell (Nat.le_refl _) _).setCell (Nat.le_refl _) _).setCell (Nat.le_refl _) _⟩)
        have q3 : (qe == 0) = true := by simpa using hqe
        have q4 : (qe != 0) = false := by simpa using hqe
        obtain ⟨_, r0, r1⟩ := hmt hqe
        have hfb := hfb hqe
        have hwd : Bk.wide (p1, p2, q9) := ⟨by show p1.length ≤ _; omega, by show p2.length ≤ _; omega, by show _ ≤ q9; omega, by show q9 ≤ _; omega⟩
        have HFP := Lib.hid (fun W => refFormatPosting_any (p1, p2, q9) W hwd)
        unfold FpSays at HFP
        have hRR : (Bk.valE [(p1, p2, q9)] ≠ 0 ∧ Hid (R = .tuple #[poV ([], [], 0), .int .i64 3])) ∨ (Bk.valE [(p1, p2, q9)] = 0 ∧ ((Bk.fpS (p1, p2, q9) ≠ s.data.toList ∧ Hid (R = .tuple #[poV ([], [], 0), .int .i64 3])) ∨ (Bk.fpS (p1, p2, q9) = s.data.toList ∧ Hid (R = .tuple #[poV (p1, p2, q9), .int .i64 0])))) := by
          by_cases hv : Bk.valE [(p1, p2, q9)] = 0
          · refine .inr ⟨hv, ?_⟩
            rw [Bk.fp_yes hv]
            by_cases hf : Bk.fmtP (p1, p2, q9) = s.data.toList
            · exact .inr ⟨hf, Lib.hid (HYES2.out (hfb.1 hf) hqe hv)⟩
            · exact .inl ⟨hf, Lib.hid (HNO2.out fun h => hf (hfb.2 h.1))⟩
          · exact .inl ⟨hv, Lib.hid (HNO2.out fun h => hv h.2.2)⟩
        clear hmt hfb HNO2 HYES2 hqe hwd
        generalize Bk.valE [(p1, p2, q9)] = ve at *
        generalize Bk.fpS (p1, p2, q9) = FS at *
        have hcase : ((ve == 0) = false ∧ (ve != 0) = true ∧ Hid (R = .tuple #[poV ([], [], 0), .int .i64 3])) ∨ (((ve == 0) = true ∧ (ve != 0) = false) ∧ (((FS == s.toList) = false ∧ (FS != s.toList) = true ∧ Hid (R = .tuple #[poV ([], [], 0), .int .i64 3])) ∨ ((FS == s.toList) = true ∧ (FS != s.toList) = false ∧ Hid (R = .tuple #[poV (p1, p2, q9), .int .i64 0])))) := by
          rw [toList_data]
          rcases hRR with ⟨hv, h⟩ | ⟨hv, ⟨hf, h⟩ | ⟨hf, h⟩⟩
          · exact .inl ⟨by simpa using hv, by simpa using hv, h⟩
          · exact .inr ⟨⟨by simpa using hv, by simpa using hv⟩, .inl ⟨by simpa using hf, by simpa using hf, h⟩⟩
          · exact .inr ⟨⟨by simpa using hv, by simpa using hv⟩, .inr ⟨by simpa using hf, by simpa using hf, h⟩⟩
        clear hRR
        rcases hib with hib | hib
        all_goals (
          go_wp2_with fail
          refine (HMN.out _).mono ?_
          rintro e w2 ⟨rfl, hb2⟩
          have hB2 := hB.below hb2 hB.lt
          have hw2 := below_step hw hb2
          have j0 : w2.cell? ⟨b, off, none⟩ = some (.int .i64 (x : Int)) := (hb2.cell (p := ⟨b, off, none⟩) hbk).trans (by simpa using k0)
          have j1 : w2.cell? ⟨b, off + 1, none⟩ = some (.int .i64 (y : Int)) := (hb2.cell (p := ⟨b, off + 1, none⟩) hbk).trans k1
          have j2 : w2.cell? ⟨b, off + 2, none⟩ = some (.int .i64 (z : Int)) := (hb2.cell (p := ⟨b, off + 2, none⟩) hbk).trans k2
          have hne : b ≠ w2.heap.size := by have := hb2.size; omega
          have m0 : (w2.alloc (.cells #[.string ⟨#[]⟩, .string ⟨#[]⟩, .int .i64 0] PostT)).cell? ⟨b, off, none⟩ = some (.int .i64 (x : Int)) := (World.cell?_alloc_old _ _ _ hne).trans j0
          have m1 : (w2.alloc (.cells #[.string ⟨#[]⟩, .string ⟨#[]⟩, .int .i64 0] PostT)).cell? ⟨b, off + 1, none⟩ = some (.int .i64 (y : Int)) := (World.cell?_alloc_old _ _ _ hne).trans j1
          have m2 : (w2.alloc (.cells #[.string ⟨#[]⟩, .string ⟨#[]⟩, .int .i64 0] PostT)).cell? ⟨b, off + 2, none⟩ = some (.int .i64 (z : Int)) := (World.cell?_alloc_old _ _ _ hne).trans j2
          clear hb2 HMN hw hB k0 k1 k2
          go_upto_region 12 with fail
          go_region
          have hbn : BlockAt (w2.alloc (.cells (poA (p1, p2, q9)) PostT)).drew w2.heap.size (poA (p1, p2, q9)) PostT := BlockAt.new w2 (poA (p1, p2, q9)) PostT
          have hB3 : BlockAt (w2.alloc (.cells (poA (p1, p2, q9)) PostT)).drew w.heap.size #[.string ⟨#[]⟩, .string ⟨#[]⟩, .int .i64 0] PostT := BlockAt.alloc hB2 _
          have hw3 : Below w.heap.size w (w2.alloc (.cells (poA (p1, p2, q9)) PostT)).drew := (below_alloc hw2 _).drew
          obtain ⟨d0, d1, d2⟩ : _ ∧ _ ∧ _ := ⟨hbn.cell 0, hbn.cell 1, hbn.cell 2⟩
          clear hB2 hw2 j0 j1 j2 m0 m1 m2 hne
          go_wp2_with fail
          refine (HFP.out _).mono ?_
          rintro e w4 ⟨rfl, hb4⟩
          have hB4 := hB3.below hb4 hB3.lt
          have hbn4 := hbn.below hb4 hbn.lt
          have hw4 := below_step hw3 hb4
          clear hb4 HFP hB3 hbn hw3 d0 d1 d2
          obtain ⟨d0, d1, d2⟩ : _ ∧ _ ∧ _ := ⟨hbn4.cell 0, hbn4.cell 1, hbn4.cell 2⟩
          rcases hcase with ⟨u1, u2, HR⟩ | ⟨⟨u1, u2⟩, ⟨u3, u4, HR⟩ | ⟨u3, u4, HR⟩⟩
          · skip
            obtain ⟨c0, c1, c2⟩ : _ ∧ _ ∧ _ := ⟨hB4.cell 0, hB4.cell 1, hB4.cell 2⟩
            obtain ⟨f0, f1, f2⟩ : _ ∧ _ ∧ _ := ⟨hB4.frozen 0, hB4.frozen 1, hB4.frozen 2⟩
            have hB9 := ((hB4.set 0 (.string ⟨#[]⟩)).set 1 (.string ⟨#[]⟩)).set 2 (.int .i64 0)
            have e0 : World.cell? _ _ = some (.string ⟨#[]⟩) := (hB4.set 0 (.string ⟨#[]⟩)).cell 0
            have e1 : World.cell? _ _ = some (.string ⟨#[]⟩) := ((hB4.set 0 (.string ⟨#[]⟩)).set 1 (.string ⟨#[]⟩)).cell 1
            have e2 : World.cell? _ _ = some (.int .i64 0) := hB9.cell 2
            go_wp2
            exact bodyPost_ret (v := .tuple #[poV ([], [], 0), .int .i64 3]) (by simp [results, Tryz.results49, go_sem, e0, e1, e2]) rfl ⟨by rw [HR.out], ((hw4.setCell (Nat.le_refl _) _).setCell (Nat.le_refl _) _).setCell (Nat.le_refl _) _⟩
          · skip
            obtain ⟨c0, c1, c2⟩ : _ ∧ _ ∧ _ := ⟨hB4.cell 0, hB4.cell 1, hB4.cell 2⟩
            obtain ⟨f0, f1, f2⟩ : _ ∧ _ ∧ _ := ⟨hB4.frozen 0, hB4.frozen 1, hB4.frozen 2⟩
            have hB9 := ((hB4.set 0 (.string ⟨#[]⟩)).set 1 (.string ⟨#[]⟩)).set 2 (.int .i64 0)
            have e0 : World.cell? _ _ = some (.string ⟨#[]⟩) := (hB4.set 0 (.string ⟨#[]⟩)).cell 0
            have e1 : World.cell? _ _ = some (.string ⟨#[]⟩) := ((hB4.set 0 (.string ⟨#[]⟩)).set 1 (.string ⟨#[]⟩)).cell 1
            have e2 : World.cell? _ _ = some (.int .i64 0) := hB9.cell 2
            go_wp2
            exact bodyPost_ret (v := .tuple #[poV ([], [], 0), .int .i64 3]) (by simp [results, Tryz.results49, go_sem, e0, e1, e2]) rfl ⟨by rw [HR.out], ((hw4.setCell (Nat.le_refl _) _).setCell (Nat.le_refl _) _).setCell (Nat.le_refl _) _⟩
          · skip
            obtain ⟨c0, c1, c2⟩ : _ ∧ _ ∧ _ := ⟨hB4.cell 0, hB4.cell 1, hB4.cell 2⟩
            obtain ⟨f0, f1, f2⟩ : _ ∧ _ ∧ _ := ⟨hB4.frozen 0, hB4.frozen 1, hB4.frozen 2⟩
            have hB9 := ((hB4.set 0 (sv p1)).set 1 (sv p2)).set 2 (.int .i64 q9)
            have e0 : World.cell? _ _ = some (sv p1) := (hB4.set 0 (sv p1)).cell 0
            have e1 : World.cell? _ _ = some (sv p2) := ((hB4.set 0 (sv p1)).set 1 (sv p2)).cell 1
            have e2 : World.cell? _ _ = some (.int .i64 q9) := hB9.cell 2
            go_wp2
            exact bodyPost_ret (v := .tuple #[poV (p1, p2, q9), .int .i64 0]) (by simp [results, Tryz.results49, go_sem, e0, e1, e2]) rfl ⟨by rw [HR.out], ((hw4.setCell (Nat.le_refl _) _).setCell (Nat.le_refl _) _).setCell (Nat.le_refl _) _⟩)
end Go.Proofs.YtcljpklgpedolaaGreatDoor
