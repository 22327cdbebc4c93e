/- Which calendars the program and the reference call valid. -/
import Derived.Test.YtmmmlcnclehilaaDoorCal2
namespace Go.Proofs.YtmmmlcnclehilaaDoor
open Go.RowKit

namespace Cal
/-- The error of a calendar: 0 if it is valid. -/
def valE (s e : Int) (rs hs : List Int) : Int :=
  if ¬ (0 ≤ s ∧ s ≤ 1439 ∧ s + 1 ≤ e ∧ e ≤ 1440) then 1
  else if ¬ setB 7 rs = true ∨ rs.length = 7 then 1
  else if 32 < hs.length then 4
  else if ¬ setB 2000 hs = true then 1 else 0
theorem valE_zero {s e : Int} {rs hs : List Int} (h : valE s e rs hs = 0) : (0 ≤ s ∧ s ≤ 1439 ∧ s + 1 ≤ e ∧ e ≤ 1440) ∧ setB 7 rs = true ∧ rs.length ≠ 7 ∧ hs.length ≤ 32 ∧ setB 2000 hs = true := by
  unfold valE at h
  by_cases a : 0 ≤ s ∧ s ≤ 1439 ∧ s + 1 ≤ e ∧ e ≤ 1440
  · rw [if_neg (fun h => h a)] at h
    by_cases b : ¬ setB 7 rs = true ∨ rs.length = 7
    · rw [if_pos b] at h; omega
    · rw [if_neg b] at h
      by_cases c : 32 < hs.length
      · rw [if_pos c] at h; omega
      · rw [if_neg c] at h
        by_cases d : ¬ setB 2000 hs = true
        · rw [if_pos d] at h; omega
        · refine ⟨a, ?_, ?_, by omega, ?_⟩
          · rcases Decidable.em (setB 7 rs = true) with x | x
            · exact x
            · exact absurd (.inl x) b
          · exact fun x => b (.inr x)
          · rcases Decidable.em (setB 2000 hs = true) with x | x
            · exact x
            · exact absurd x d
  · rw [if_pos a] at h; omega
theorem valE_cases (s e : Int) (rs hs : List Int) : valE s e rs hs = 0 ∨ valE s e rs hs = 1 ∨ valE s e rs hs = 4 := by
  unfold valE
  repeat' split
  all_goals simp
end Cal

/-- A calendar as a value. -/
abbrev cal (s e : Int) (vr vh : Value) : Value := .agg #[.int .i64 s, .int .i64 e, vr, vh]
theorem Ints.form {w : World} {v : Value} {xs : List Int} (h : Ints w v xs) : ∃ a c, v = .slice a xs.length c := by
  rcases h with ⟨a, c, rfl, rfl⟩ | ⟨b, off, cap, rfl, _⟩
  · exact ⟨a, c, rfl⟩
  · exact ⟨_, _, rfl⟩
theorem Ints.alloc {w : World} {v : Value} {xs : List Int} (h : Ints w v xs) (o : Obj) : Ints (w.alloc o) v xs := h.all ((Below.refl _ _).alloc (Nat.le_refl _) _)
theorem Ints.drewN {w : World} {v : Value} {xs : List Int} (h : Ints w v xs) (n : Nat) : Ints (w.drewN n) v xs := h

set_option maxRecDepth 20000 in
set_option maxHeartbeats 1000000 in
theorem validate_any (s e : Int) (vr vh : Value) (rs hs : List Int) (w : World) (hr : Ints w vr rs) (hh : Ints w vh hs) (lr : rs.length ≤ 1000) (lh : hs.length ≤ 1000)
    (s1 : -9223372036854775808 ≤ s) (s2 : s ≤ 9223372036854775807) (e1 : -9223372036854775808 ≤ e) (e2 : e ≤ 9223372036854775807) :
    Calls Tryd.prog 20 #[cal s e vr vh] w fun x w' => x = .returned (.int .i64 (Cal.valE s e rs hs)) ∧ Below w.heap.size w w' := by
  obtain ⟨a, c, rfl⟩ := hr.form
  obtain ⟨a', c', rfl⟩ := hh.form
  have SR := Lib.hid (fun n => isSetBelow_any (.slice a rs.length c) rs 7 ((w.alloc (.cells #[.int .i64 s, .int .i64 e, .slice a rs.length c, .slice a' hs.length c'] 40)).drewN n) ((hr.alloc _).drewN n) lr (by omega) (by omega))
  have SH := Lib.hid (fun n => isSetBelow_any (.slice a' hs.length c') hs 2000 ((w.alloc (.cells #[.int .i64 s, .int .i64 e, .slice a rs.length c, .slice a' hs.length c'] 40)).drewN n) ((hh.alloc _).drewN n) lh (by omega) (by omega))
  clear hr hh
  by_cases k1 : 0 ≤ s ∧ s ≤ 1439 ∧ s + 1 ≤ e ∧ e ≤ 1440
  · obtain ⟨k11, k12, k13, k14⟩ := k1
    have k0 : 0 ≤ s ∧ s ≤ 1439 ∧ s + 1 ≤ e ∧ e ≤ 1440 := ⟨k11, k12, k13, k14⟩
    have K0 := Lib.hid k0
    clear k0
    by_cases k2 : Cal.setB 7 rs = true
    · by_cases k3 : rs.length = 7
      · rw [show Cal.valE s e rs hs = 1 by unfold Cal.valE; rw [if_neg (fun h => h K0.out), if_pos (.inr k3)]]
        have k3' : ((rs.length : Int) == 7) = true := by simp; omega
        clear k3
        go_enter Tryd.func20, Tryd.ntmps20
        go_wp2_with fail
        refine (SR.out 0).mono ?_
        rintro x w1 ⟨rfl, rfl⟩
        go_wp2
        go_ret
        exact ⟨rfl, by repeat' (first | exact Below.refl _ _ | apply below_drewN | refine Below.setCell ?_ (by simp) _ | refine Below.alloc ?_ (by simp) _)⟩
      · have k3' : ((rs.length : Int) == 7) = false := by simp; omega
        by_cases k4 : 32 < hs.length
        · rw [show Cal.valE s e rs hs = 4 by unfold Cal.valE; rw [if_neg (fun h => h K0.out), if_neg (by rw [k2]; simp [k3]), if_pos k4]]
          clear k3
          go_enter Tryd.func20, Tryd.ntmps20
          go_wp2_with fail
          refine (SR.out 0).mono ?_
          rintro x w1 ⟨rfl, rfl⟩
          go_wp2
          go_ret
          exact ⟨rfl, by repeat' (first | exact Below.refl _ _ | apply below_drewN | refine Below.setCell ?_ (by simp) _ | refine Below.alloc ?_ (by simp) _)⟩
        · by_cases k5 : Cal.setB 2000 hs = true
          · rw [show Cal.valE s e rs hs = 0 by unfold Cal.valE; rw [if_neg (fun h => h K0.out), if_neg (by rw [k2]; simp [k3]), if_neg k4, if_neg (by rw [k5]; simp)]]
            clear k3
            go_enter Tryd.func20, Tryd.ntmps20
            go_wp2_with fail
            refine (SR.out 0).mono ?_
            rintro x w1 ⟨rfl, rfl⟩
            go_wp2_with fail
            refine (SH.out 0).mono ?_
            rintro x w1 ⟨rfl, rfl⟩
            go_wp2
            go_ret
            exact ⟨rfl, by repeat' (first | exact Below.refl _ _ | apply below_drewN | refine Below.setCell ?_ (by simp) _ | refine Below.alloc ?_ (by simp) _)⟩
          · rw [show Cal.valE s e rs hs = 1 by unfold Cal.valE; rw [if_neg (fun h => h K0.out), if_neg (by rw [k2]; simp [k3]), if_neg k4, if_pos k5]]
            have k5' : Cal.setB 2000 hs = false := by simpa using k5
            clear k3 k5
            go_enter Tryd.func20, Tryd.ntmps20
            go_wp2_with fail
            refine (SR.out 0).mono ?_
            rintro x w1 ⟨rfl, rfl⟩
            go_wp2_with fail
            refine (SH.out 0).mono ?_
            rintro x w1 ⟨rfl, rfl⟩
            go_wp2
            go_ret
            exact ⟨rfl, by repeat' (first | exact Below.refl _ _ | apply below_drewN | refine Below.setCell ?_ (by simp) _ | refine Below.alloc ?_ (by simp) _)⟩
    · rw [show Cal.valE s e rs hs = 1 by unfold Cal.valE; rw [if_neg (fun h => h K0.out), if_pos (.inl k2)]]
      have k2' : Cal.setB 7 rs = false := by simpa using k2
      clear k2
      go_enter Tryd.func20, Tryd.ntmps20
      go_wp2_with fail
      refine (SR.out 0).mono ?_
      rintro x w1 ⟨rfl, rfl⟩
      go_wp2
      go_ret
      exact ⟨rfl, by repeat' (first | exact Below.refl _ _ | apply below_drewN | refine Below.setCell ?_ (by simp) _ | refine Below.alloc ?_ (by simp) _)⟩
  · rw [show Cal.valE s e rs hs = 1 by unfold Cal.valE; rw [if_pos k1]]
    clear SR SH
    by_cases q1 : 0 ≤ s
    · by_cases q2 : s ≤ 1439
      · by_cases q3 : s + 1 ≤ e
        · have q4 : 1440 < e := by omega
          clear k1
          go_enter Tryd.func20, Tryd.ntmps20
          go_wp2
          go_ret
          exact ⟨rfl, by repeat' (first | exact Below.refl _ _ | apply below_drewN | refine Below.setCell ?_ (by simp) _ | refine Below.alloc ?_ (by simp) _)⟩
        · clear k1
          go_enter Tryd.func20, Tryd.ntmps20
          go_wp2
          go_ret
          exact ⟨rfl, by repeat' (first | exact Below.refl _ _ | apply below_drewN | refine Below.setCell ?_ (by simp) _ | refine Below.alloc ?_ (by simp) _)⟩
      · clear k1
        go_enter Tryd.func20, Tryd.ntmps20
        go_wp2
        go_ret
        exact ⟨rfl, by repeat' (first | exact Below.refl _ _ | apply below_drewN | refine Below.setCell ?_ (by simp) _ | refine Below.alloc ?_ (by simp) _)⟩
    · clear k1
      go_enter Tryd.func20, Tryd.ntmps20
      go_wp2
      go_ret
      exact ⟨rfl, by repeat' (first | exact Below.refl _ _ | apply below_drewN | refine Below.setCell ?_ (by simp) _ | refine Below.alloc ?_ (by simp) _)⟩

end Go.Proofs.YtmmmlcnclehilaaDoor
