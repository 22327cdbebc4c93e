/- The pence of a word, as the program reads them. -/
import Derived.Test.YtcljpklgpedolaaGreatDoorMoney1
import Derived.Test.YtcljpklgpedolaaGreatDoorText5
namespace Go.Proofs.YtcljpklgpedolaaGreatDoor
open Go.RowKit Go.Sort

def wordR (l : List UInt8) : Int × Bool := match Tx.pV wrap64 l with
  | some v => (v, true)
  | none => (0, false)
def WordSays (l : List UInt8) (w : World) (e : Ending) (w' : World) : Prop := e = .returned (.tuple #[.int .i64 (wordR l).1, .bool (wordR l).2]) ∧ Below w.heap.size w w'
theorem word_none {l : List UInt8} (h : Tx.pV wrap64 l = none) : wordR l = (0, false) := by unfold wordR; rw [h]
theorem word_some {l : List UInt8} {v : Int} (h : Tx.pV wrap64 l = some v) : wordR l = (v, true) := by unfold wordR; rw [h]
theorem fits64 : Tx.Fits wrap64 := fun x h1 h2 => IntWalk.wrap64_in x ⟨h1, h2⟩

set_option maxRecDepth 20000 in
set_option maxHeartbeats 1000000 in
theorem word_any (s : ByteArray) (w : World) (hE : Env w) (hs : s.size ≤ 100000) :
    Calls Tryz.prog 108 #[.string s] w (WordSays s.data.toList w) := by
  have hsz : s.data.toList.length = s.size := by rw [Array.length_toList]; rfl
  by_cases h0 : s.size = 0
  · have hz : s.data.toList = [] := List.length_eq_zero_iff.1 (by omega)
    have hs0 : s = ⟨#[]⟩ := by
      apply ByteArray.ext; apply Array.ext'; rw [hz]
    have HN := Lib.hid (word_none (l := s.data.toList) (by rw [hz]; rfl))
    subst hs0
    clear hz hsz h0 hs
    go_enter Tryz.func108, Tryz.ntmps108
    go_wp2
    go_ret2
    refine ⟨?_, Below.refl _ _⟩
    rw [HN.out]
    rfl
  have hne : s.data.toList ≠ [] := fun h => h0 (by rw [← hsz, h]; rfl)
  have q1 : (s == ⟨#[]⟩) = false := by
    show ByteArray.beq _ _ = _
    unfold ByteArray.beq
    refine beq_eq_false_iff_ne.2 fun e => hne ?_
    rw [show s.data = #[] from e]
  have q2 : ¬ s.toList = [] := by rw [toList_data]; exact hne
  have q3 : s.toList.isEmpty = false := by rw [toList_data]; simpa using hne
  have hpos : 0 < s.size := by omega
  have hlast : s.size - 1 < s.size := by omega
  have hlb : Tx.lastB s.data.toList = s[s.size - 1]'hlast := by
    unfold Tx.lastB
    rw [hsz, List.getD_eq_getElem?_getD, List.getElem?_eq_getElem (by rw [hsz]; exact hlast)]; rfl
  have hx : s.extract 0 (s.size - 1) = ⟨(Tx.headW s.data.toList).toArray⟩ := by
    rw [extract_is]; unfold Tx.headW; rw [hsz]; simp
  have hhs : (⟨(Tx.headW s.data.toList).toArray⟩ : ByteArray).size ≤ 100000 := by
    show (Tx.headW s.data.toList).toArray.size ≤ _; unfold Tx.headW; simp; omega
  have hpV : Tx.pV wrap64 s.data.toList = match Lib.atoiAll (Tx.headW s.data.toList) with
    | .ok v => (Tx.unitV (s[s.size - 1]'hlast)).map fun k => wrap64 (v * k)
    | _ => none := by unfold Tx.pV; rw [if_neg hne, hlb]; cases Lib.atoiAll (Tx.headW s.data.toList) <;> rfl
  have HX := Lib.hid hx
  have HP := Lib.hid hpV
  have HE := Lib.hid hE
  clear hsz h0 hne hlb hx hpV hE
  by_cases ho : ∃ v, Lib.atoiAll (Tx.headW s.data.toList) = .ok v
  case neg =>
    have hnone : Tx.pV wrap64 s.data.toList = none := by
      rw [HP.out]
      cases hh : Lib.atoiAll (Tx.headW s.data.toList) with
      | ok v => exact absurd ⟨v, hh⟩ ho
      | «syntax» => rfl
      | range => rfl
    have HN := Lib.hid (word_none hnone)
    have C := Lib.hid (fun W (hW : Below w.heap.size w W) => atoi_bad ⟨(Tx.headW s.data.toList).toArray⟩ W (HE.out.all hW) hhs fun v hv => ho ⟨v, hv⟩)
    rw [← HX.out] at C
    clear ho hnone hhs HP
    go_enter Tryz.func108, Tryz.ntmps108
    go_wp2_with fail
    refine (C.out _ (Below.refl _ _)).mono ?_
    rintro e w1 ⟨v, t, p, rfl, ⟨_, _⟩, hb1⟩
    go_wp2
    go_ret2
    refine ⟨?_, hb1⟩
    rw [HN.out]
    rfl
  obtain ⟨v, hv⟩ := ho
  obtain ⟨v1, v2⟩ := Tx.atoi_bd hv
  have C := Lib.hid (fun W => atoi_ok ⟨(Tx.headW s.data.toList).toArray⟩ W hhs hv)
  rw [← HX.out] at C
  have hP2 : Tx.pV wrap64 s.data.toList = (Tx.unitV (s[s.size - 1]'hlast)).map fun k => wrap64 (v * k) := by rw [HP.out, hv]
  have HP2 := Lib.hid hP2
  have HV : Hid (wrap64 (v * 1) = v) := Lib.hid (by rw [Int.mul_one]; exact IntWalk.wrap64_in v ⟨v1, v2⟩)
  clear hP2 hv hhs HP HX
  by_cases hc : s[s.size - 1]'hlast = 108
  · have f1 : (((s[s.size - 1]'hlast).toNat : Int) == 108) = true := beq_iff_eq.2 (by rw [hc]; rfl)
    have HN := Lib.hid (word_some (l := s.data.toList) (v := wrap64 (v * 240)) (by rw [HP2.out, hc]; rfl))
    clear hc HP2
    go_enter Tryz.func108, Tryz.ntmps108
    go_wp2_with fail
    refine (C.out _).mono ?_
    rintro e w1 ⟨rfl, hb1⟩
    go_wp2
    go_ret2
    refine ⟨?_, hb1⟩
    rw [HN.out]
    rfl
  have f1 : (((s[s.size - 1]'hlast).toNat : Int) == 108) = false := beq_eq_false_iff_ne.2 fun e => hc (UInt8.toNat_inj.1 (by show _ = 108; omega))
  by_cases hc2 : s[s.size - 1]'hlast = 115
  · have f2 : (((s[s.size - 1]'hlast).toNat : Int) == 115) = true := beq_iff_eq.2 (by rw [hc2]; rfl)
    have HN := Lib.hid (word_some (l := s.data.toList) (v := wrap64 (v * 12)) (by rw [HP2.out, hc2]; rfl))
    clear hc hc2 HP2
    go_enter Tryz.func108, Tryz.ntmps108
    go_wp2_with fail
    refine (C.out _).mono ?_
    rintro e w1 ⟨rfl, hb1⟩
    go_wp2
    go_ret2
    refine ⟨?_, hb1⟩
    rw [HN.out]
    rfl
  have f2 : (((s[s.size - 1]'hlast).toNat : Int) == 115) = false := beq_eq_false_iff_ne.2 fun e => hc2 (UInt8.toNat_inj.1 (by show _ = 115; omega))
  by_cases hc3 : s[s.size - 1]'hlast = 100
  · have f3 : (((s[s.size - 1]'hlast).toNat : Int) == 100) = true := beq_iff_eq.2 (by rw [hc3]; rfl)
    have HN := Lib.hid (word_some (l := s.data.toList) (v := v) (by rw [HP2.out, hc3]; exact congrArg some HV.out))
    clear hc hc2 hc3 HP2
    go_enter Tryz.func108, Tryz.ntmps108
    go_wp2_with fail
    refine (C.out _).mono ?_
    rintro e w1 ⟨rfl, hb1⟩
    go_wp2
    go_ret2
    refine ⟨?_, hb1⟩
    rw [HN.out]
    rfl
  · have f3 : (((s[s.size - 1]'hlast).toNat : Int) == 100) = false := beq_eq_false_iff_ne.2 fun e => hc3 (UInt8.toNat_inj.1 (by show _ = 100; omega))
    have HN := Lib.hid (word_none (l := s.data.toList) (by rw [HP2.out]; unfold Tx.unitV; rw [if_neg hc, if_neg hc2, if_neg hc3]; rfl))
    clear hc hc2 hc3 HP2
    go_enter Tryz.func108, Tryz.ntmps108
    go_wp2_with fail
    refine (C.out _).mono ?_
    rintro e w1 ⟨rfl, hb1⟩
    go_wp2
    go_ret2
    refine ⟨?_, hb1⟩
    rw [HN.out]
    rfl
end Go.Proofs.YtcljpklgpedolaaGreatDoor
