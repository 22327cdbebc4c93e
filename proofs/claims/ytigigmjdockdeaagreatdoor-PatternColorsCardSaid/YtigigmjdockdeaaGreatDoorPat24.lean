/- The parser of patterns reads numbers and digits. -/
import Derived.Test.YtigigmjdockdeaaGreatDoorPat23
namespace Go.Proofs.YtigigmjdockdeaaGreatDoor
open Go.RowKit Go.Sort

set_option maxRecDepth 20000 in
set_option maxHeartbeats 1000000 in
theorem number_ok (w0 : World) (R g : Nat) (n : Int) (ws : List (List UInt8)) (w : World) (hE : Env w0) (hW : Below w0.heap.size w0 w) (hR : w0.heap.size ≤ R) (h : RdAt w R g (Lib.itoa n :: ws)) (hl : ws.length ≤ 1000000) (h1 : -100000 ≤ n) (h2 : n ≤ 100000) :
    Calls Tryz.prog 138 #[.pointer (some ⟨R, 0, none⟩)] w fun e w' => e = .returned (.int .i64 n) ∧ RdAt w' R g ws ∧ Kb R w w' := by
  have WO := Lib.hid (word_ok R g _ ws w h hl)
  have RQ := Lib.hid (fun W => require_ok W)
  have hlen := itoa_len (n := n) (by omega) (by omega)
  have AT := Lib.hid (fun W => atoi_ok ⟨(Lib.itoa n).toArray⟩ W (by show (Lib.itoa n).toArray.size ≤ _; simp; omega) (v := n) (by show Lib.atoiAll (Lib.itoa n).toArray.toList = _; rw [List.toList_toArray]; exact Tx.atoi_itoa (by omega) (by omega)))
  have IT := Lib.hid (fun W (hX : Below w0.heap.size w0 W) => itoa_any n W (hE.all hX) (by omega) (by omega))
  have IF := Lib.hid (fun W => isFrom_any (-100000) 100000 n W)
  rw [show fromB (-100000) 100000 n = true from (fromB_iff _ _ _).2 ⟨h1, h2⟩] at IF
  have HW := Lib.hid hW
  clear h hE hW h1 h2 hlen
  generalize Lib.itoa n = t at *
  go_enter Tryz.func138, Tryz.ntmps138
  go_wp2_with fail
  refine WO.out.mono ?_
  rintro e w1 ⟨rfl, hr1, hk1⟩
  have HA := Lib.hid (And.intro hr1 hk1)
  clear hr1 hk1 WO
  go_wp2_with fail
  refine (AT.out _).mono ?_
  rintro e w2 ⟨rfl, hb2⟩
  have HB := Lib.hid (And.intro (HA.out.1.below hb2) (HA.out.2.below hb2))
  clear HA hb2 AT
  go_wp2_with fail
  refine (IF.out _).mono ?_
  rintro e w3 ⟨rfl, rfl⟩
  go_wp2_with fail
  refine (RQ.out _).mono ?_
  rintro e w3 ⟨rfl, rfl⟩
  go_wp2_with fail
  refine (IT.out _ (below_kb HW.out hR HB.out.2)).mono ?_
  rintro e w3 ⟨rfl, hb3⟩
  have HC := Lib.hid (And.intro (HB.out.1.below hb3) (HB.out.2.below hb3))
  clear HB hb3 IT
  go_wp2_with fail
  refine (RQ.out _).mono ?_
  rintro e w4 ⟨rfl, rfl⟩
  go_wp2
  go_ret
  exact ⟨rfl, HC.out⟩

theorem made_intsB (n : Nat) (hn : n ≤ 100000) : ∀ W : World, (Instr.makeSlice 22 (.int .i64 (n : Int)) (.int .i64 (n : Int))).run Tryz.prog W = .ok (.slice (some ⟨W.heap.size, 0, none⟩) n n) (W.alloc (.cells (fnC n (fun _ => 0)) 3)) := by
  intro W
  obtain ⟨i0, hi, hz0, hz1, hz2⟩ := info_parts infoInt
  have := run_makeSlice (P := Tryz.prog) (w := W) 22 3 i0 (.int .i64 0) Tryz.underlying22 hi hz0 .i64 .i64 (n : Int) (n : Int) (by omega) (by omega) (by rw [hz1]; omega) (by rw [hz2]; omega) (by omega)
  rw [this, hz1, Nat.mul_one, show ((n : Int)).toNat = n by omega, show (Value.int .i64 0).cells = #[.int .i64 0] from rfl, cellsInts, fnC_zero]
/-- The digit at a place of a text. -/
def digF (s : ByteArray) (i : Nat) : Int := (s.data.toList.getD i 0).toNat - 48
def allDig (s : ByteArray) : Prop := ∀ i, i < s.size → fromB 0 9 (digF s i) = true

set_option maxRecDepth 20000 in
set_option maxHeartbeats 1000000 in
theorem digits_ok (s : ByteArray) (w : World) (hs : s.size ≤ 100000) (hd : allDig s) :
    Calls Tryz.prog 139 #[.string s, .int .i64 (s.size : Int)] w fun e w' => e = .returned (.slice (some ⟨w.heap.size, 0, none⟩) s.size s.size) ∧ BlockAt w' w.heap.size (fnC s.size (digF s)) 3 ∧ Below w.heap.size w w' := by
  have RQ := Lib.hid (fun W => require_ok W)
  have MK := made_intsB s.size hs
  have IF := Lib.hid (fun (x : Int) W => isFrom_any 0 9 x W)
  have HD := Lib.hid (show ∀ i, i < s.size → fromB 0 9 (digF s i) = true from hd)
  have hne : ((s.size : Int) == (s.size : Int)) = true := beq_self_eq_true _
  have H0 : Hid (BlockAt (w.alloc (.cells (fnC s.size (fun _ => 0)) 3)) w.heap.size (fnC s.size (upTo (digF s) 0)) 3 ∧ Below w.heap.size w (w.alloc (.cells (fnC s.size (fun _ => 0)) 3))) := Lib.hid ⟨by rw [upTo_zero]; exact BlockAt.new w _ _, below_alloc (Below.refl _ _) _⟩
  have HF := Lib.hid (fnC_all (digF s) s.size)
  have HU := Lib.hid (fun k => upTo_upd (digF s) k)
  have HAT := Lib.hid (fun (f : Nat → Int) (i : Nat) (h : i < s.size) => fnC_at (n := s.size) (f := f) h)
  have HST := Lib.hid (fun (f : Nat → Int) (i : Nat) (v : Int) => fnC_set s.size f i v)
  have hsz : s.data.toList.length = s.size := by rw [Array.length_toList]; rfl
  have HDG : Hid (∀ k (hk : k < s.size), digF s k = ((s[k]'hk).toNat : Int) - 48) := Lib.hid fun k hk => by
    unfold digF
    rw [List.getD_eq_getElem?_getD, List.getElem?_eq_getElem (by omega)]
    rfl
  clear hd hsz
  generalize digF s = F at *
  go_enter Tryz.func139, Tryz.ntmps139
  go_wp2_with fail
  refine (RQ.out _).mono ?_
  rintro e w1 ⟨rfl, rfl⟩
  go_wp2
  clear MK hne
  go_loopw [16] (fun t wr => ∃ k : Nat, k ≤ s.size ∧ t = .int .i64 k ∧ Hid (BlockAt wr w.heap.size (fnC s.size (upTo F k)) 3 ∧ Below w.heap.size w wr)) (fun t _ => s.size - (intOf t).toNat)
  case atStart => exact ⟨0, Nat.zero_le _, rfl, H0⟩
  case round =>
    obtain ⟨k, hk, rfl, hg⟩ := hrel
    clear H0
    by_cases hlt : k < s.size
    · have c0 : World.cell? _ _ = some (.int .i64 (upTo F k k)) := (hg.out.1.cell k).trans (HAT.out _ k hlt)
      have f0 := hg.out.1.frozen k
      have HK := Lib.hid (HDG.out k hlt)
      have hb := (s[k]'hlt).toNat_lt
      have g1 : IntKind.i64.wrap (((s[k]'hlt).toNat : Int) - 48) = ((s[k]'hlt).toNat : Int) - 48 := IntWalk.i64_in _ ⟨by omega, by omega⟩
      have HN : Hid (BlockAt (wr.setCell ⟨w.heap.size, k, none⟩ (.int .i64 (((s[k]'hlt).toNat : Int) - 48))) w.heap.size (fnC s.size (upTo F (k + 1))) 3 ∧ Below w.heap.size w (wr.setCell ⟨w.heap.size, k, none⟩ (.int .i64 (((s[k]'hlt).toNat : Int) - 48)))) := Lib.hid ⟨by
        have := hg.out.1.set k (.int .i64 (((s[k]'hlt).toNat : Int) - 48))
        rw [HST.out, ← HK.out, HU.out] at this
        rw [← HK.out]; exact this, hg.out.2.setCell (Nat.le_refl _) _⟩
      have IK := Lib.hid (IF.out (((s[k]'hlt).toNat : Int) - 48))
      have hd := HD.out k hlt
      rw [HK.out] at hd
      rw [hd] at IK
      clear hd hg
      go_wp2_with fail
      refine (IK.out _).mono ?_
      rintro e w2 ⟨rfl, rfl⟩
      go_wp2_with fail
      refine (RQ.out _).mono ?_
      rintro e w2 ⟨rfl, rfl⟩
      go_wp2
      go_roundw
      case rel => exact ⟨k + 1, by omega, by go_num, HN⟩
      case measure => simp [intOf]; omega
    · obtain rfl : k = s.size := by omega
      have HG := Lib.hid hg.out
      clear hg
      go_wp2
      go_ret
      exact ⟨rfl, by rw [← HF.out]; exact HG.out.1, HG.out.2⟩
end Go.Proofs.YtigigmjdockdeaaGreatDoor
