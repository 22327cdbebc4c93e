/- The reference's pieces of a text. -/
import Derived.Test.YtcljpklgpedolaaGreatDoorText3
namespace Go.Proofs.YtcljpklgpedolaaGreatDoor
open Go.RowKit Go.Sort

def strL (l : List UInt8) : List Value := [.string ⟨l.toArray⟩]
def strsL (ss : List (List UInt8)) : List Value := ss.map fun l => .string ⟨l.toArray⟩
/-- A list of texts that the call has made. -/
def OwnS (base : Nat) (w : World) (v : Value) (ss : List (List UInt8)) : Prop := w.ownsRow base 9 1 v ss.length (strsL ss)
theorem OwnS.nil (base : Nat) (w : World) : OwnS base w (.slice none 0 0) [] := World.ownsRow_nil _ _ _ _
theorem OwnS.pushed {base : Nat} {w : World} {v : Value} {a : List (List UInt8)} {x : List UInt8} (h : w.ownsRow base 9 1 v (a.length + 1) (strsL a ++ strL x)) : OwnS base w v (a ++ [x]) := by
  unfold OwnS strsL
  rw [List.map_append, show (a ++ [x]).length = a.length + 1 by simp]
  exact h
theorem OwnS.form {base : Nat} {w : World} {v : Value} {ss : List (List UInt8)} (h : OwnS base w v ss) (h0 : 0 < ss.length) : ∃ g cap, v = .slice (some ⟨g, 0, none⟩) ss.length cap ∧ ss.length ≤ cap ∧ base ≤ g ∧ g < w.heap.size ∧ ∀ k (hk : k < ss.length), w.cell? ⟨g, k, none⟩ = some (.string ⟨ss[k].toArray⟩) := by
  rcases id h with ⟨_, ⟨_, h2⟩ | ⟨g, cap, cur, h1, h2, h3, h4, _⟩⟩
  · omega
  · subst h1
    refine ⟨g, cap, rfl, h4, h2, (Array.getElem?_eq_some_iff.1 h3).1, fun k hk => ?_⟩
    refine (World.ownsRow.cellAt h k (by omega)).trans ?_
    unfold strsL
    simp [hk]
theorem OwnS.drew {base : Nat} {w : World} {v : Value} {ss : List (List UInt8)} (h : OwnS base w v ss) : OwnS base w.drew v ss := h
theorem strL_at (w : World) (x : List UInt8) (t : TypeId) : ∀ (j : Nat) (u : Value), (strL x)[j]? = some u → (w.alloc (.cells #[.string ⟨x.toArray⟩] t)).cell? ((⟨w.heap.size, 0, none⟩ : Addr).add j) = some u := by
  intro j u h
  match j, h with
  | 0, h => simp [strL] at h; subst h; simp [Addr.add]
  | j + 1, h => simp [strL] at h
theorem strL_one (x : List UInt8) : ∀ u ∈ strL x, u.oneCell' = true := by
  intro u h
  simp [strL] at h; subst h; rfl
theorem extract_is (s : ByteArray) (a b : Nat) : s.extract a b = ⟨((s.data.toList.take b).drop a).toArray⟩ := by
  apply ByteArray.ext
  apply Array.ext'
  rw [Lib.extract_data]
  try simp [List.drop_take]
theorem infoStr : (Tryz.prog.info? 9).map (fun i => (i.zero, i.size, i.bytes)) = some (some (.string ⟨#[]⟩), 1, 16) := by kernel_rfl
namespace Tx
theorem spl_len (c : UInt8) : ∀ s : List UInt8, (spl c s).length ≤ s.length + 1
  | [] => by simp [spl]
  | b :: r => by
    have := spl_len c r
    rw [spl]
    split
    · simp; omega
    · split
      · simp
      · rename_i x t h; rw [h] at this; simp at this ⊢; omega
end Tx
theorem spl_bd (c : UInt8) : ∀ (l : List UInt8), ∀ x ∈ Tx.spl c l, x.length ≤ l.length
  | [], x, h => by
    have : x = [] := by simpa [Tx.spl] using h
    subst this; simp
  | b :: r, x, h => by
    have ih := spl_bd c r
    rw [Tx.spl] at h
    split at h
    · rcases List.mem_cons.1 h with rfl | h
      · simp
      · have := ih x h; rw [List.length_cons]; omega
    · split at h
      · rename_i e
        exact absurd e (Tx.spl_ne c r)
      · rename_i y t e
        rw [e] at ih
        rcases List.mem_cons.1 h with rfl | h
        · have := ih y (by simp); rw [List.length_cons, List.length_cons]; omega
        · have := ih x (by simp [h]); rw [List.length_cons]; omega

def SplSays (l : List UInt8) (c : UInt8) (w : World) (e : Ending) (w' : World) : Prop := ∃ v, e = .returned v ∧ OwnS w.heap.size w' v (Tx.spl c l) ∧ Below w.heap.size w w'

set_option maxRecDepth 20000 in
set_option maxHeartbeats 1000000 in
theorem split_any (s : ByteArray) (c : UInt8) (w : World) (hs : s.size ≤ 100000) :
    Calls Tryz.prog 109 #[.string s, .int .u8 (c.toNat : Int)] w (SplSays s.data.toList c w) := by
  obtain ⟨i0, hi, hz0, hz1, hz2⟩ := info_parts infoStr
  have hsz : s.data.toList.length = s.size := by rw [Array.length_toList]; rfl
  have HSZ := Lib.hid hsz
  clear hsz
  go_enter Tryz.func109, Tryz.ntmps109
  go_wp2
  go_loopw [5, 6, 7] (fun l f t wr => ∃ (q a k : Nat) (ds : List (List UInt8)), a ≤ k ∧ k ≤ s.size ∧ q = ds.length ∧ q ≤ k ∧ f = .int .i64 (a : Int) ∧ t = .int .i64 (k : Int) ∧ Hid (Tx.spl c s.data.toList = ds ++ Tx.spl c (s.data.toList.drop a) ∧ c ∉ (s.data.toList.take k).drop a ∧ OwnS w.heap.size wr l ds ∧ Below w.heap.size w wr)) (fun _ _ t _ => s.size - (intOf t).toNat)
  case atStart => exact ⟨0, 0, 0, [], by omega, by omega, rfl, by omega, rfl, rfl, Lib.hid ⟨rfl, by simp, OwnS.nil _ _, Below.refl _ _⟩⟩
  case round =>
    obtain ⟨q, a, k, ds, hak, hk, hq, hqk, rfl, rfl, hg⟩ := hrel
    subst hq
    obtain ⟨h1, h2, hown, hw⟩ := hg.out
    have H1 := Lib.hid h1
    have H2 := Lib.hid h2
    by_cases hlt : k < s.size
    · have hkl : k < s.data.toList.length := by rw [HSZ.out]; exact hlt
      have hck : s.data.toList[k] = s[k]'hlt := rfl
      have htk : s.data.toList.take (k + 1) = s.data.toList.take k ++ [s[k]'hlt] := by rw [List.take_succ_eq_append_getElem hkl, hck]
      by_cases hc : s[k]'hlt = c
      · have hce : (((s[k]'hlt).toNat : Int) == (c.toNat : Int)) = true := by rw [hc]; simp
        have hsp : Tx.spl c (s.data.toList.drop a) = (s.data.toList.take k).drop a :: Tx.spl c (s.data.toList.drop (k + 1)) := by
          have e : s.data.toList.drop a = (s.data.toList.take k).drop a ++ c :: s.data.toList.drop (k + 1) := by
            rw [← hc, ← hck, ← List.drop_eq_getElem_cons hkl]
            have : s.data.toList.drop k = (s.data.toList.drop a).drop (k - a) := by rw [List.drop_drop]; congr 1; omega
            rw [this, List.drop_take]
            exact (List.take_append_drop (k - a) _).symm
          rw [e, Tx.spl_here c _ _ h2]
        have HSP := Lib.hid hsp
        have HX := Lib.hid (extract_is s a k)
        clear h1 h2 hsp hkl hck htk hc hg
        generalize (s.data.toList.take k).drop a = x at *
        go_wp2_with (at_builtin; refine wpList_append_own _ rfl _ _ 44 rfl w.heap.size 9 i0 (.string ⟨#[]⟩) 1 16 Tryz.underlying44 hi hz0 hz1 hz2 rfl (by decide) _ _ _ rfl (hown.alloc _) ⟨_, 0, none⟩ 1 1 (strL x) rfl rfl (by rw [HX.out]; exact strL_at _ _ _) (strL_one _) (by unfold maxLen; omega) (by omega) (by have := hw.size; simp; omega) ?_)
        intro v' w1 hown1 hgrow _
        have hx1 := OwnS.pushed hown1
        have hw1 := (hw.alloc hw.size (.cells #[.string (s.extract a k)] 9)).grown hgrow (by have := hw.size; simp; omega) (fun j e => (World.ownsRow.lt hown j e).1)
        clear hown1 hgrow hown hw
        go_wp2
        go_roundw
        case rel => exact ⟨_, k + 1, k + 1, ds ++ [x], by omega, by omega, rfl, by simp; omega, by go_num, by go_num, Lib.hid ⟨by rw [H1.out, HSP.out]; simp, by rw [List.drop_of_length_le (by simp; omega)]; simp, hx1, hw1⟩⟩
        case measure => simp [intOf]; omega
      · have hce : (((s[k]'hlt).toNat : Int) == (c.toNat : Int)) = false := beq_eq_false_iff_ne.2 fun e => hc (UInt8.toNat_inj.1 (by omega))
        have HN : Hid (c ∉ (s.data.toList.take (k + 1)).drop a) := Lib.hid (by
          rw [htk, List.drop_append_of_le_length (by simp; omega)]
          intro h
          rcases List.mem_append.1 h with h | h
          · exact h2 h
          · exact hc (List.mem_singleton.1 h).symm)
        have HO := Lib.hid (And.intro hown hw)
        clear h1 h2 hkl hck htk hc hg hown hw
        go_wp2
        go_roundw
        case rel => exact ⟨_, a, k + 1, ds, by omega, by omega, rfl, by omega, rfl, by go_num, Lib.hid ⟨H1.out, HN.out, HO.out.1, HO.out.2⟩⟩
        case measure => simp [intOf]; omega
    · obtain rfl : k = s.size := by omega
      have HSP : Hid (Tx.spl c s.data.toList = ds ++ [(s.data.toList.take s.size).drop a]) := Lib.hid (by
        rw [← HSZ.out, List.take_length] at h2 ⊢
        rw [h1, Tx.spl_not c _ h2])
      have HX := Lib.hid (extract_is s a s.size)
      clear h1 h2 hg
      generalize (s.data.toList.take s.size).drop a = x at *
      go_wp2_with (at_builtin; refine wpList_append_own _ rfl _ _ 44 rfl w.heap.size 9 i0 (.string ⟨#[]⟩) 1 16 Tryz.underlying44 hi hz0 hz1 hz2 rfl (by decide) _ _ _ rfl (hown.alloc _) ⟨_, 0, none⟩ 1 1 (strL x) rfl rfl (by rw [HX.out]; exact strL_at _ _ _) (strL_one _) (by unfold maxLen; omega) (by omega) (by have := hw.size; simp; omega) ?_)
      intro v' w1 hown1 hgrow _
      have hx1 := OwnS.pushed hown1
      have hw1 := (hw.alloc hw.size (.cells #[.string (s.extract a s.size)] 9)).grown hgrow (by have := hw.size; simp; omega) (fun j e => (World.ownsRow.lt hown j e).1)
      clear hown1 hgrow hown hw
      go_wp2
      go_ret
      exact ⟨_, rfl, by rw [HSP.out]; exact hx1, hw1⟩
end Go.Proofs.YtcljpklgpedolaaGreatDoor
