/- What was received of a kind: both sides. -/
import Derived.Test.YtccjbefmcifaeaaAns2
namespace Go.Proofs.Ytccjbefmcifaeaa
open Go.RowKit

namespace Lt
def recv (kind : Int) : List L → Int
  | [] => 0
  | x :: r => (if x.ps.length = 0 ∧ x.k = kind then x.m else 0) + recv kind r
theorem recv_append (kind : Int) (a b : List L) : recv kind (a ++ b) = recv kind a + recv kind b := by
  induction a with
  | nil => simp [recv]
  | cons x a ih => simp [recv, ih]; omega
theorem recv_succ (kind : Int) {xs : List L} {k : Nat} (h : k < xs.length) : recv kind (xs.take (k + 1)) = recv kind (xs.take k) + (if xs[k].ps.length = 0 ∧ xs[k].k = kind then xs[k].m else 0) := by
  rw [take_L h, recv_append]; simp [recv]
theorem recv_bd (kind : Int) : ∀ {xs : List L}, (∀ x ∈ xs, fine x) → 0 ≤ recv kind xs ∧ recv kind xs ≤ xs.length * 100000
  | [], _ => by simp [recv]
  | x :: r, h => by
    have h1 := (h x (by simp)).1
    have ih := recv_bd kind (xs := r) fun y hy => h y (by simp [hy])
    simp only [recv, List.length_cons]; split <;> omega
end Lt
def recvE (ls : List Lt.L) (kind : Int) : Int := if Lt.valE ls = 0 then (if Lt.okK kind then 0 else 1) else Lt.valE ls
def recvR (ls : List Lt.L) (kind : Int) : Int := if Lt.valE ls = 0 then (if Lt.okK kind then Lt.recv kind ls else 0) else 0
theorem recv_take_bd {ls : List Lt.L} (h : ∀ j, j < ls.length → Lt.fine (ls.getD j default)) (hl : ls.length ≤ 24) (kind : Int) (k : Nat) : 0 ≤ Lt.recv kind (ls.take k) ∧ Lt.recv kind (ls.take k) ≤ 2400000 := by
  have := Lt.recv_bd kind (fine_take h k)
  have h2 : (ls.take k).length ≤ 24 := Nat.le_trans (List.length_take_le' _ _) hl
  omega

set_option maxRecDepth 20000 in
set_option maxHeartbeats 2000000 in
theorem recv_any (v : Value) (ls : List Lt.L) (kind : Int) (w : World) (hv : Lots w v ls) (hsh : short ls) :
    Calls Try.prog 28 #[v, .int .i64 kind] w fun e w' => e = .returned (.tuple #[.int .i64 (recvR ls kind), .int .i64 (recvE ls kind)]) ∧ Below w.heap.size w w' := by
  have V := Lib.hid (validate_any v ls w hv hsh)
  have K1 := Lib.hid (fun W => isKind_any kind W)
  have HV := Lib.hid hv
  obtain ⟨a, c, rfl, hlk⟩ := hv.look
  have HLK := Lib.hid hlk
  have hlen := hsh.1
  clear hv hsh hlk
  have HE : Hid (recvE ls kind = if Lt.valE ls = 0 then (if Lt.okK kind then 0 else 1) else Lt.valE ls) := Lib.hid rfl
  have HR : Hid (recvR ls kind = if Lt.valE ls = 0 then (if Lt.okK kind then Lt.recv kind ls else 0) else 0) := Lib.hid rfl
  generalize recvE ls kind = E at *
  generalize recvR ls kind = R at *
  by_cases hz : Lt.valE ls = 0
  · obtain ⟨hl, herr, _⟩ := Lt.valE_zero hz
    have HF := Lib.hid (fun j (hj : j < ls.length) => Lt.fine_of (herr j hj))
    rw [hz] at V
    cases hk : Lt.okK kind with
    | false =>
      have HX := Lib.hid (show E = 1 by rw [HE.out, if_pos hz, hk]; rfl)
      have HY := Lib.hid (show R = 0 by rw [HR.out, if_pos hz, hk]; rfl)
      rw [hk] at K1
      clear hz hk herr HE HR
      go_enter Try.func28, Try.ntmps28
      go_wp2_with fail
      refine V.out.mono ?_
      rintro e w1 ⟨rfl, hw⟩
      go_wp2_with fail
      refine (K1.out _).mono ?_
      rintro e w2 ⟨rfl, rfl⟩
      go_wp2
      go_ret2
      exact ⟨by rw [HX.out, HY.out]; rfl, hw⟩
    | true =>
      have HX := Lib.hid (show E = 0 by rw [HE.out, if_pos hz, hk]; rfl)
      have HY := Lib.hid (show R = Lt.recv kind ls by rw [HR.out, if_pos hz, hk]; rfl)
      rw [hk] at K1
      have HBD := Lib.hid (recv_take_bd HF.out hl kind)
      clear hz hk herr HE HR
      go_enter Try.func28, Try.ntmps28
      go_wp2_with fail
      refine V.out.mono ?_
      rintro e w1 ⟨rfl, hw⟩
      go_wp2_with fail
      refine (K1.out _).mono ?_
      rintro e w2 ⟨rfl, rfl⟩
      have H0 := Lib.hid hw
      clear hw V K1
      go_wp2
      go_loopw [7, 20] (fun s t wr => ∃ k : Nat, k ≤ ls.length ∧ t = .int .i64 k ∧ s = .int .i64 (Lt.recv kind (ls.take k)) ∧ Below w.heap.size w wr) (fun _ t _ => ls.length - (intOf t).toNat)
      case atStart => exact ⟨0, Nat.zero_le _, rfl, rfl, H0.out⟩
      case round =>
        obtain ⟨k, hk, rfl, rfl, hw⟩ := hrel
        clear H0
        by_cases hlt : k < ls.length
        · obtain ⟨b, off, u, rfl, hb, hlot⟩ := HLK.out k hlt
          have hlot := hlot.below hw hb
          have hfx := HF.out k hlt
          rw [getD_L hlt] at hlot hfx
          have HS := Lib.hid (Lt.recv_succ kind hlt)
          have b1 := HBD.out k
          generalize Lt.recv kind (ls.take k) = s at *
          generalize ls[k] = x at *
          obtain ⟨c0, c1, c2, hps⟩ := hlot
          obtain ⟨ua, uc, rfl⟩ := hps.form
          have hm := hfx.1
          have h6 := hfx.2.1
          have R1 := Lib.hid (received_any x ua uc (wr.alloc (.cells #[.int .i64 x.k, .int .i64 x.m, .slice ua x.ps.length uc] 25)) (by omega))
          have bX := BlockAt.new wr #[.int .i64 x.k, .int .i64 x.m, .slice ua x.ps.length uc] 25
          have hw2 := below_alloc hw (.cells #[.int .i64 x.k, .int .i64 x.m, .slice ua x.ps.length uc] 25)
          have HW := Lib.hid (And.intro hw2 bX)
          clear hps hfx hw2 bX hw
          by_cases h0 : x.ps.length = 0
          · have hd : decide (x.ps.length = 0) = true := by simpa using h0
            rw [hd] at R1
            by_cases hkk : x.k = kind
            · have HS2 := Lib.hid (HS.out.trans (by rw [if_pos ⟨h0, hkk⟩]))
              clear h0 hd HS
              subst hkk
              go_wp2_with fail
              refine R1.out.mono ?_
              rintro e w3 ⟨rfl, hb3⟩
              have bX := HW.out.2.below hb3 HW.out.2.lt
              have d0 := bX.cell 0
              have d1 := bX.cell 1
              have hw3 := below_step HW.out.1 hb3
              have hself : (x.k == x.k) = true := by simp
              clear bX hb3 HW R1 c0 c1 c2
              go_wp2
              go_roundw
              case rel => exact ⟨k + 1, by omega, by go_num, by rw [HS2.out], hw3⟩
              case measure => simp [intOf]; omega
            · have HS2 := Lib.hid (HS.out.trans (by rw [if_neg (fun h => hkk h.2)]))
              have hkb : (x.k == kind) = false := by simpa using hkk
              clear h0 hd HS hkk
              go_wp2_with fail
              refine R1.out.mono ?_
              rintro e w3 ⟨rfl, hb3⟩
              have bX := HW.out.2.below hb3 HW.out.2.lt
              have d0 := bX.cell 0
              have hw3 := below_step HW.out.1 hb3
              clear bX hb3 HW R1 c0 c1 c2
              go_wp2
              go_roundw
              case rel => exact ⟨k + 1, by omega, by go_num, by rw [HS2.out]; simp, hw3⟩
              case measure => simp [intOf]; omega
          · have hd : decide (x.ps.length = 0) = false := by simpa using h0
            have HS2 := Lib.hid (HS.out.trans (by rw [if_neg (fun h => h0 h.1)]))
            rw [hd] at R1
            clear h0 hd HS
            go_wp2_with fail
            refine R1.out.mono ?_
            rintro e w3 ⟨rfl, hb3⟩
            have hw3 := below_step HW.out.1 hb3
            clear hb3 HW R1 c0 c1 c2
            go_wp2
            go_roundw
            case rel => exact ⟨k + 1, by omega, by go_num, by rw [HS2.out]; simp, hw3⟩
            case measure => simp [intOf]; omega
        · obtain rfl : k = ls.length := by omega
          have hta : Lt.recv kind (ls.take ls.length) = Lt.recv kind ls := by rw [List.take_length]
          have HTA := Lib.hid hta
          clear hta
          generalize Lt.recv kind (ls.take ls.length) = s at *
          go_wp2
          go_ret2
          exact ⟨by rw [HX.out, HY.out, ← HTA.out]; rfl, hw⟩
  · have HX := Lib.hid (show E = Lt.valE ls by rw [HE.out, if_neg hz])
    have HY := Lib.hid (show R = 0 by rw [HR.out, if_neg hz])
    have hne : (Lt.valE ls != 0) = true := by simpa using hz
    clear hz HE HR
    generalize hq : Lt.valE ls = q at *
    clear hq
    go_enter Try.func28, Try.ntmps28
    go_wp2_with fail
    refine V.out.mono ?_
    rintro e w1 ⟨rfl, hw⟩
    go_wp2
    go_ret2
    exact ⟨by rw [HX.out, HY.out]; rfl, hw⟩

set_option maxRecDepth 20000 in
set_option maxHeartbeats 2000000 in
theorem refRecv_any (v : Value) (ls : List Lt.L) (kind : Int) (w : World) (hv : Lots w v ls) (hsh : short ls) :
    Calls Try.prog 29 #[v, .int .i64 kind] w fun e w' => e = .returned (.tuple #[.int .i64 (recvR ls kind), .int .i64 (recvE ls kind)]) ∧ Below w.heap.size w w' := by
  have V := Lib.hid (ref_validate_any v ls w hv hsh)
  have K1 := Lib.hid (fun W => withinK_any kind W)
  have HV := Lib.hid hv
  obtain ⟨a, c, rfl, hlk⟩ := hv.look
  have HLK := Lib.hid hlk
  have hlen := hsh.1
  clear hv hsh hlk
  have HE : Hid (recvE ls kind = if Lt.valE ls = 0 then (if Lt.okK kind then 0 else 1) else Lt.valE ls) := Lib.hid rfl
  have HR : Hid (recvR ls kind = if Lt.valE ls = 0 then (if Lt.okK kind then Lt.recv kind ls else 0) else 0) := Lib.hid rfl
  generalize recvE ls kind = E at *
  generalize recvR ls kind = R at *
  by_cases hz : Lt.valE ls = 0
  · obtain ⟨hl, herr, _⟩ := Lt.valE_zero hz
    have HF := Lib.hid (fun j (hj : j < ls.length) => Lt.fine_of (herr j hj))
    rw [hz] at V
    cases hk : Lt.okK kind with
    | false =>
      have HX := Lib.hid (show E = 1 by rw [HE.out, if_pos hz, hk]; rfl)
      have HY := Lib.hid (show R = 0 by rw [HR.out, if_pos hz, hk]; rfl)
      rw [hk] at K1
      clear hz hk herr HE HR
      go_enter Try.func29, Try.ntmps29
      go_wp2_with fail
      refine V.out.mono ?_
      rintro e w1 ⟨rfl, hw⟩
      go_wp2_with fail
      refine (K1.out _).mono ?_
      rintro e w2 ⟨rfl, rfl⟩
      go_wp2
      go_ret2
      exact ⟨by rw [HX.out, HY.out]; rfl, hw⟩
    | true =>
      have HX := Lib.hid (show E = 0 by rw [HE.out, if_pos hz, hk]; rfl)
      have HY := Lib.hid (show R = Lt.recv kind ls by rw [HR.out, if_pos hz, hk]; rfl)
      rw [hk] at K1
      have HBD := Lib.hid (recv_take_bd HF.out hl kind)
      clear hz hk herr HE HR
      go_enter Try.func29, Try.ntmps29
      go_wp2_with fail
      refine V.out.mono ?_
      rintro e w1 ⟨rfl, hw⟩
      go_wp2_with fail
      refine (K1.out _).mono ?_
      rintro e w2 ⟨rfl, rfl⟩
      have H0 := Lib.hid hw
      clear hw V K1
      go_wp2
      go_loopw [7, 8] (fun s t wr => ∃ k : Nat, k ≤ ls.length ∧ t = .int .i64 k ∧ s = .int .i64 (Lt.recv kind (ls.take k)) ∧ Below w.heap.size w wr) (fun _ t _ => ls.length - (intOf t).toNat)
      case atStart => exact ⟨0, Nat.zero_le _, rfl, rfl, H0.out⟩
      case round =>
        obtain ⟨k, hk, rfl, rfl, hw⟩ := hrel
        clear H0
        by_cases hlt : k < ls.length
        · obtain ⟨b, off, u, rfl, hb, hlot⟩ := HLK.out k hlt
          have hlot := hlot.below hw hb
          have hfx := HF.out k hlt
          rw [getD_L hlt] at hlot hfx
          have HS := Lib.hid (Lt.recv_succ kind hlt)
          have b1 := HBD.out k
          generalize Lt.recv kind (ls.take k) = s at *
          generalize ls[k] = x at *
          obtain ⟨c0, c1, c2, hps⟩ := hlot
          obtain ⟨ua, uc, rfl⟩ := hps.form
          have hm := hfx.1
          clear hps hfx
          by_cases h0 : x.ps.length = 0
          · have hd : ((x.ps.length : Int) == 0) = true := by simp [h0]
            by_cases hkk : x.k = kind
            · have HS2 := Lib.hid (HS.out.trans (by rw [if_pos ⟨h0, hkk⟩]))
              have hself : (x.k == x.k) = true := by simp
              subst hkk
              clear h0 HS
              go_wp2
              go_roundw
              case rel => exact ⟨k + 1, by omega, by go_num, by rw [HS2.out], hw⟩
              case measure => simp [intOf]; omega
            · have HS2 := Lib.hid (HS.out.trans (by rw [if_neg (fun h => hkk h.2)]))
              have hkb : (x.k == kind) = false := by simpa using hkk
              clear h0 HS hkk
              go_wp2
              go_roundw
              case rel => exact ⟨k + 1, by omega, by go_num, by rw [HS2.out]; simp, hw⟩
              case measure => simp [intOf]; omega
          · have hd : ((x.ps.length : Int) == 0) = false := by rw [beq_eq_false_iff_ne]; omega
            have HS2 := Lib.hid (HS.out.trans (by rw [if_neg (fun h => h0 h.1)]))
            clear h0 HS
            go_wp2
            go_roundw
            case rel => exact ⟨k + 1, by omega, by go_num, by rw [HS2.out]; simp, hw⟩
            case measure => simp [intOf]; omega
        · obtain rfl : k = ls.length := by omega
          have hta : Lt.recv kind (ls.take ls.length) = Lt.recv kind ls := by rw [List.take_length]
          have HTA := Lib.hid hta
          clear hta
          generalize Lt.recv kind (ls.take ls.length) = s at *
          go_wp2
          go_ret2
          exact ⟨by rw [HX.out, HY.out, ← HTA.out]; rfl, hw⟩
  · have HX := Lib.hid (show E = Lt.valE ls by rw [HE.out, if_neg hz])
    have HY := Lib.hid (show R = 0 by rw [HR.out, if_neg hz])
    have hne : (Lt.valE ls != 0) = true := by simpa using hz
    clear hz HE HR
    generalize hq : Lt.valE ls = q at *
    clear hq
    go_enter Try.func29, Try.ntmps29
    go_wp2_with fail
    refine V.out.mono ?_
    rintro e w1 ⟨rfl, hw⟩
    go_wp2
    go_ret2
    exact ⟨by rw [HX.out, HY.out]; rfl, hw⟩
end Go.Proofs.Ytccjbefmcifaeaa
