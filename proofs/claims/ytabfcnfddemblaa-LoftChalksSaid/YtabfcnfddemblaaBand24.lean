/- What flaws and pressing make of a mark; a band with a part replaced. -/
import Derived.Test.YtabfcnfddemblaaBand23
namespace Go.Proofs.Ytabfcnfddemblaa
open Go.RowKit

namespace Bd
abbrev orV (a b : Int) : Int := bits BinOp.or IntKind.i64 a b
def chF (fl : Int) (m : M) : M := ⟨m.t, m.s, orV m.f fl⟩
def chP (th : Int) (m : M) : M := ⟨min m.t th, m.s, m.f⟩
def mapR (c : M → M) (rs : List R) : List R := rs.map fun r => ⟨r.l, c r.m⟩
def repL (rs : List R) (fr : Int) (patch : List R) : List R := cutL rs 0 fr ++ (patch ++ cutL rs (fr + len patch) (len rs))
theorem len_mapR (c : M → M) : ∀ rs : List R, len (mapR c rs) = len rs
  | [] => rfl
  | r :: b => by
    have := len_mapR c b
    simp only [mapR, List.map_cons, len] at this ⊢
    omega
theorem pos_mapR {c : M → M} {rs : List R} (h : pos rs) : pos (mapR c rs) := by
  intro r hr
  obtain ⟨q, hq, rfl⟩ := List.mem_map.1 hr
  exact h q hq
theorem mapR_length (c : M → M) (rs : List R) : (mapR c rs).length = rs.length := by simp [mapR]
theorem fine_rep {rs patch : List R} {fr : Int} (hv : valE rs = 0) (h1 : 0 ≤ fr) (hp : pos patch) (hl : patch.length ≤ 200) (h2 : fr + len patch ≤ len rs) : fine (repL rs fr patch) := by
  have hf := fine_of_valid hv
  obtain ⟨a1, _, a3⟩ := valE_zero hv
  have b0 := len_nonneg hp
  have b1 := cutL_length rs 0 fr
  have b2 := cutL_length rs (fr + len patch) (len rs)
  have c1 := len_cutL hf (fr := 0) (to := fr) (by omega) (by omega) (by omega)
  have c2 := len_cutL hf (fr := fr + len patch) (to := len rs) (by omega) (by omega) (by omega)
  refine ⟨?_, pos_append.2 ⟨pos_cutL _ _ _, pos_append.2 ⟨hp, pos_cutL _ _ _⟩⟩, ?_⟩
  · simp [repL]; omega
  · simp only [repL, len_append]; omega
/-- A list of which the first k are changed. -/
def part (c : M → M) (rs : List R) (k : Nat) : List R := mapR c (rs.take k) ++ rs.drop k
theorem part_zero (c : M → M) (rs : List R) : part c rs 0 = rs := by simp [part, mapR]
theorem part_all (c : M → M) (rs : List R) : part c rs rs.length = mapR c rs := by simp [part]
theorem part_length (c : M → M) (rs : List R) (k : Nat) : (part c rs k).length = rs.length := by simp [part, mapR]; omega
theorem part_at {c : M → M} {rs : List R} {k : Nat} (h : k < rs.length) : (part c rs k).getD k default = rs[k] := by
  have hl : (mapR c (rs.take k)).length = k := by simp [mapR]; omega
  unfold part
  rw [List.getD_eq_getElem?_getD, List.getElem?_append_right (by omega), hl, Nat.sub_self, List.getElem?_drop, Nat.add_zero, List.getElem?_eq_getElem h]; rfl
theorem part_succ {c : M → M} {rs : List R} {k : Nat} (h : k < rs.length) : (part c rs k).set k ⟨rs[k].l, c rs[k].m⟩ = part c rs (k + 1) := by
  have hl : (mapR c (rs.take k)).length = k := by simp [mapR]; omega
  unfold part
  rw [List.set_append_right _ _ (by omega), hl, Nat.sub_self, drop_run h, List.set_cons_zero, take_run h]
  unfold mapR
  rw [List.map_append, List.append_assoc]
  rfl
end Bd

theorem flaw_any (m : Bd.M) (fl : Int) (B : Nat) (w : World) (hB : w.cell? ⟨B, 0, none⟩ = some (.int .i64 fl)) (hlt : B < w.heap.size) :
    Calls Try.prog 144 #[markV m, .pointer (some ⟨B, 0, none⟩)] w fun e w' => e = .returned (markV (Bd.chF fl m)) ∧ Below w.heap.size w w' := by
  go_enter Try.func144, Try.ntmps144
  go_wp2
  exact bodyPost_ret (v := .agg #[.int .i64 m.t, .int .i64 m.s, .int .i64 (Bd.orV m.f fl)]) (by simp [results, Try.results144, go_sem]) rfl ⟨rfl, by repeat' (first | exact Below.refl _ _ | refine Below.alloc ?_ (by simp <;> omega) _)⟩

set_option maxRecDepth 20000 in
set_option maxHeartbeats 1000000 in
theorem replaced_any (v u : Value) (rs patch : List Bd.R) (fr : Int) (w : World) (hv : Runs w v rs) (hu : Runs w u patch) (h0 : Bd.valE rs = 0) (h1 : 0 ≤ fr) (hp : Bd.pos patch) (hl : patch.length ≤ 200) (h2 : fr + Bd.len patch ≤ Bd.len rs) :
    Calls Try.prog 166 #[v, .int .i64 fr, u] w fun e w' => ∃ x, e = .returned (.tuple #[x, .int .i64 (Bd.toldE (Bd.repL rs fr patch))]) ∧ Own w.heap.size w' x (Bd.toldR (Bd.repL rs fr patch)) ∧ Below w.heap.size w w' := by
  have hf := Bd.fine_of_valid h0
  have hfr := Bd.fine_rep h0 h1 hp hl h2
  have hlv := Bd.len_valid h0
  have hpn := Bd.len_nonneg hp
  obtain ⟨a1, _, _⟩ := Bd.valE_zero h0
  have l1 := Bd.cutL_length rs 0 fr
  have l2 := Bd.cutL_length rs (fr + Bd.len patch) (Bd.len rs)
  have P1 := Lib.hid (fun W (hW : Below w.heap.size w W) => part_any v rs 0 fr W (hv.all hW) hf (by omega) (by omega) (by omega) (by omega))
  have P2 := Lib.hid (fun W (hW : Below w.heap.size w W) => part_any v rs (fr + Bd.len patch) (Bd.len rs) W (hv.all hW) hf (by omega) (by omega) (by omega) (by omega))
  have L1 := Lib.hid (fun W (hW : Below w.heap.size w W) => length_any u patch W (hu.all hW) ⟨by omega, hp, by omega⟩)
  have L2 := Lib.hid (fun W (hW : Below w.heap.size w W) => length_any v rs W (hv.all hW) hf)
  have HU := Lib.hid hu
  obtain ⟨a, c, rfl⟩ := hv.form
  obtain ⟨a2, c2, hu2⟩ := hu.form
  subst hu2
  have e1 : cutS 0 fr (Bd.upto rs rs.length) = Bd.cutL rs 0 fr := rfl
  have e2 : cutS (fr + Bd.len patch) (Bd.len rs) (Bd.upto rs rs.length) = Bd.cutL rs (fr + Bd.len patch) (Bd.len rs) := rfl
  rw [e1] at P1
  rw [e2] at P2
  have hr : Bd.repL rs fr patch = Bd.cutL rs 0 fr ++ (patch ++ Bd.cutL rs (fr + Bd.len patch) (Bd.len rs)) := rfl
  rw [hr] at hfr ⊢
  have HF := Lib.hid hfr
  clear hv hu hf hfr hr e1 e2 hp h0
  generalize Bd.cutL rs 0 fr = c1 at *
  generalize Bd.cutL rs (fr + Bd.len patch) (Bd.len rs) = c2 at *
  generalize Bd.len patch = p at *
  generalize Bd.len rs = n at *
  go_enter Try.func166, Try.ntmps166
  go_wp2_with fail
  refine (P1.out _ (Below.refl _ _)).mono ?_
  rintro e w1 ⟨x, rfl, hx, hw1⟩
  go_wp2_with fail
  refine (L1.out _ hw1).mono ?_
  rintro e w2 ⟨rfl, hb2⟩
  have hw2 := below_step hw1 hb2
  have hx2 := hx.all hb2
  clear hx hb2
  go_wp2_with fail
  refine (L2.out _ hw2).mono ?_
  rintro e w3 ⟨rfl, hb3⟩
  have hw3 := below_step hw2 hb3
  have hx3 := hx2.all hb3
  clear hx2 hb3
  go_wp2_with fail
  refine (P2.out _ hw3).mono ?_
  rintro e w4 ⟨y, rfl, hy, hb4⟩
  have hw4 := below_step hw3 hb4
  have hx4 := (hx3.all hb4).runs
  have hy4 := hy.runs
  have hu4 := HU.out.all hw4
  clear hx3 hb4 hy P1 P2 L1 L2 HU
  obtain ⟨xa, xc, hxf⟩ := hx4.form
  obtain ⟨ya, yc, hyf⟩ := hy4.form
  subst hxf hyf
  go_wp2_with fail
  refine (concat3_any _ _ _ c1 patch c2 w4 hx4 hu4 hy4 (by omega)).mono ?_
  rintro e w5 ⟨z, rfl, hz, hb5⟩
  have hw5 := below_step hw4 hb5
  go_wp2_with fail
  refine (checked_any z _ _ hz.runs HF.out).mono ?_
  rintro e w6 ⟨r, rfl, hr, hb6⟩
  have hw6 := below_step hw5 hb6
  obtain ⟨ra, rc, hrf⟩ := hr.runs.form
  subst hrf
  go_wp2
  go_ret2
  exact ⟨_, rfl, hr.mono hw5.size, hw6⟩

end Go.Proofs.Ytabfcnfddemblaa
