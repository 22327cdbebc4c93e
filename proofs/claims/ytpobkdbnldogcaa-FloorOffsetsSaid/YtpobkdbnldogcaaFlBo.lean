/- The best offset in plain words; the sums of the lengths of strips, of both. -/
import Derived.Test.YtpobkdbnldogcaaFl26
namespace Go.Proofs.Ytpobkdbnldogcaa
open Go.RowKit

namespace Fl
/-- Offset, sum, found. -/
structure BO where
  o : Int
  n : Int
  f : Bool
def bO (rs : List R) (ds : List D) (w : Int) : Nat → BO
  | 0 => ⟨0, 0, false⟩
  | k + 1 =>
    if indoor rs ds (smL rs w k) then bO rs ds w k
    else if (bO rs ds w k).f = true ∧ ¬ tot (stL rs w k) (stL rs w k).length < (bO rs ds w k).n then bO rs ds w k
    else ⟨k, tot (stL rs w k) (stL rs w k).length, true⟩
theorem bO_in {rs : List R} {ds : List D} {w : Int} {k : Nat} (h : indoor rs ds (smL rs w k) = true) : bO rs ds w (k + 1) = bO rs ds w k := by
  rw [bO, if_pos h]
theorem bO_old {rs : List R} {ds : List D} {w : Int} {k : Nat} (h : indoor rs ds (smL rs w k) = false) (h1 : (bO rs ds w k).f = true) (h2 : ¬ tot (stL rs w k) (stL rs w k).length < (bO rs ds w k).n) : bO rs ds w (k + 1) = bO rs ds w k := by
  rw [bO, if_neg (by rw [h]; simp), if_pos ⟨h1, h2⟩]
theorem bO_new {rs : List R} {ds : List D} {w : Int} {k : Nat} (h : indoor rs ds (smL rs w k) = false) (h1 : (bO rs ds w k).f = false ∨ tot (stL rs w k) (stL rs w k).length < (bO rs ds w k).n) : bO rs ds w (k + 1) = ⟨k, tot (stL rs w k) (stL rs w k).length, true⟩ := by
  rw [bO, if_neg (by rw [h]; simp), if_neg]
  rintro ⟨a, b⟩
  rcases h1 with h1 | h1
  · rw [h1] at a; cases a
  · exact b h1
theorem one_ft {rs : List R} (ho : ∀ k (hk : k < rs.length), okR rs[k] = true) {w x : Int} {s : S} (h : s ∈ one rs w x) : (0 ≤ s.f ∧ s.f ≤ 60) ∧ (0 ≤ s.t ∧ s.t ≤ 60) := by
  unfold one at h
  split at h
  · simp at h; rw [h]; exact s_bd ho x w (Nat.le_refl _)
  · simp at h
theorem stk_ft {rs : List R} (ho : ∀ k (hk : k < rs.length), okR rs[k] = true) {w o : Int} : ∀ {i : Nat} {s : S}, s ∈ stk rs w o i → (0 ≤ s.f ∧ s.f ≤ 60) ∧ (0 ≤ s.t ∧ s.t ≤ 60)
  | 0, _, h => by simp [stk] at h
  | i + 1, s, h => by
    rw [stk] at h
    rcases List.mem_append.1 h with h | h
    · exact stk_ft ho h
    · exact one_ft ho h
theorem stL_ft {rs : List R} (ho : ∀ k (hk : k < rs.length), okR rs[k] = true) {w o : Int} : ∀ k (hk : k < (stL rs w o).length), (0 ≤ (stL rs w o)[k].f ∧ (stL rs w o)[k].f ≤ 60) ∧ (0 ≤ (stL rs w o)[k].t ∧ (stL rs w o)[k].t ≤ 60) :=
  fun _ hk => stk_ft ho (List.getElem_mem hk)
theorem tot_bd {l : List S} (h : ∀ k (hk : k < l.length), (0 ≤ l[k].f ∧ l[k].f ≤ 60) ∧ (0 ≤ l[k].t ∧ l[k].t ≤ 60)) : ∀ k, k ≤ l.length → -60 * k ≤ tot l k ∧ tot l k ≤ 60 * k
  | 0, _ => by simp [tot]
  | k + 1, hk => by
    have ih := tot_bd h k (by omega)
    have := h k (by omega)
    rw [tot_at (by omega)]; omega
def widOff (rs : List R) (ds : List D) (w : Int) : BO := if widE rs ds w = 0 then bO rs ds w w.toNat else ⟨0, 0, false⟩
theorem offE_first {rs : List R} {ds : List D} {w : Int} : offE rs ds w 0 = widE rs ds w := by
  by_cases h : widE rs ds w = 0
  · rw [offE_off h, h, rng_iff.2, if_pos rfl]
    have := (widE_zero.1 h).2
    omega
  · exact offE_wid h
end Fl
set_option maxRecDepth 20000 in
set_option maxHeartbeats 1000000 in
theorem total_any (v : Value) (l : List Fl.S) (w : World) (hv : Strips w v l) (hl : l.length ≤ 1000) (hb : ∀ k (hk : k < l.length), (0 ≤ l[k].f ∧ l[k].f ≤ 60) ∧ (0 ≤ l[k].t ∧ l[k].t ≤ 60)) :
    Calls Try.prog 72 #[v] w fun e w' => e = .returned (.int .i64 (Fl.tot l l.length)) ∧ Below w.heap.size w w' := by
  obtain ⟨va, vc, rfl, _, hvk⟩ := hv
  have HV := Lib.hid hvk
  have HT := Lib.hid (Fl.tot_bd hb)
  have HA := Lib.hid (fun k (hk : k < l.length) => Fl.tot_at (l := l) hk)
  have HB := Lib.hid hb
  have hw0 := Lib.hid (And.intro rfl (Below.refl w.heap.size w) : (0 : Int) = Fl.tot l 0 ∧ Below w.heap.size w w)
  clear hvk hb
  go_enter Try.func72, Try.ntmps72
  go_wp2
  go_loopw [3, 8] (fun s t wr => ∃ (k : Nat) (u : Int), k ≤ l.length ∧ s = .int .i64 u ∧ t = .int .i64 k ∧ Hid (u = Fl.tot l k ∧ Below w.heap.size w wr)) (fun _ t _ => l.length - (intOf t).toNat)
  case atStart => exact ⟨0, 0, Nat.zero_le _, rfl, rfl, hw0⟩
  case round =>
    obtain ⟨k, u, hk, rfl, rfl, hg⟩ := hrel
    clear hw0
    obtain ⟨t1, t2⟩ := HT.out k hk
    rw [← hg.out.1] at t1 t2
    by_cases hlt : k < l.length
    · obtain ⟨b, off, rfl, hb, hr⟩ := HV.out k hlt
      obtain ⟨c0, c1, c2⟩ := strip_at (hr.below hg.out.2 hb)
      obtain ⟨⟨b1, b2⟩, b3, b4⟩ := HB.out k hlt
      have HE := Lib.hid (HA.out k hlt)
      rw [← hg.out.1] at HE
      have HG := Lib.hid hg.out.2
      clear hr hg
      generalize l[k] = s at *
      go_wp2
      go_roundw
      case rel => exact ⟨k + 1, u + (s.t - s.f), by omega, by go_num, by go_num, Lib.hid ⟨HE.out.symm, below_alloc2 HG.out _⟩⟩
      case measure => simp [intOf]; omega
    · have HE := Lib.hid (show u = Fl.tot l l.length by rw [hg.out.1, show k = l.length by omega])
      have HG := Lib.hid hg.out.2
      clear hg
      go_wp2
      go_ret
      exact ⟨by rw [HE.out]; rfl, HG.out⟩
set_option maxRecDepth 20000 in
set_option maxHeartbeats 1000000 in
theorem lengths_any (v : Value) (l : List Fl.S) (w : World) (hv : Strips w v l) (hl : l.length ≤ 1000) (hb : ∀ k (hk : k < l.length), (0 ≤ l[k].f ∧ l[k].f ≤ 60) ∧ (0 ≤ l[k].t ∧ l[k].t ≤ 60)) :
    Calls Try.prog 73 #[v] w fun e w' => e = .returned (.int .i64 (Fl.tot l l.length)) ∧ Below w.heap.size w w' := by
  obtain ⟨va, vc, rfl, _, hvk⟩ := hv
  have HV := Lib.hid hvk
  have HT := Lib.hid (Fl.tot_bd hb)
  have HA := Lib.hid (fun k (hk : k < l.length) => Fl.tot_at (l := l) hk)
  have HB := Lib.hid hb
  have hw0 := Lib.hid (And.intro rfl (Below.refl w.heap.size w) : (0 : Int) = Fl.tot l 0 ∧ Below w.heap.size w w)
  clear hvk hb
  go_enter Try.func73, Try.ntmps73
  go_wp2
  go_loopw [3, 4] (fun s t wr => ∃ (k : Nat) (u : Int), k ≤ l.length ∧ s = .int .i64 u ∧ t = .int .i64 k ∧ Hid (u = Fl.tot l k ∧ Below w.heap.size w wr)) (fun _ t _ => l.length - (intOf t).toNat)
  case atStart => exact ⟨0, 0, Nat.zero_le _, rfl, rfl, hw0⟩
  case round =>
    obtain ⟨k, u, hk, rfl, rfl, hg⟩ := hrel
    clear hw0
    obtain ⟨t1, t2⟩ := HT.out k hk
    rw [← hg.out.1] at t1 t2
    by_cases hlt : k < l.length
    · obtain ⟨b, off, rfl, hb, hr⟩ := HV.out k hlt
      obtain ⟨c0, c1, c2⟩ := strip_at (hr.below hg.out.2 hb)
      obtain ⟨⟨b1, b2⟩, b3, b4⟩ := HB.out k hlt
      have HE := Lib.hid (HA.out k hlt)
      rw [← hg.out.1] at HE
      have HG := Lib.hid hg.out.2
      clear hr hg
      generalize l[k] = s at *
      have w1 : IntKind.i64.wrap (s.t - s.f) = s.t - s.f := IntWalk.i64_in _ ⟨by omega, by omega⟩
      have w2 : IntKind.i64.wrap (u + (s.t - s.f)) = u + (s.t - s.f) := IntWalk.i64_in _ ⟨by omega, by omega⟩
      go_wp2
      go_quiet (fail)
      go_wp2
      go_roundw
      case rel => exact ⟨k + 1, u + (s.t - s.f), by omega, by go_num, by go_num, Lib.hid ⟨HE.out.symm, below_drewN HG.out _⟩⟩
      case measure => simp [intOf]; omega
    · have HE := Lib.hid (show u = Fl.tot l l.length by rw [hg.out.1, show k = l.length by omega])
      have HG := Lib.hid hg.out.2
      clear hg
      go_wp2
      go_ret
      exact ⟨by rw [HE.out]; rfl, HG.out⟩
end Go.Proofs.Ytpobkdbnldogcaa
