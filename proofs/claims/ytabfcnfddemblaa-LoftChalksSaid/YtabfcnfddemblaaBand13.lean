/- Any number of lists of runs one behind the other, in new memory. -/
import Derived.Test.YtabfcnfddemblaaBand12
namespace Go.Proofs.Ytabfcnfddemblaa
open Go.RowKit

def catR (vs : List (Value × List Bd.R)) : List Bd.R := (vs.map (·.2)).flatten
theorem catR_take_succ {vs : List (Value × List Bd.R)} {k : Nat} (h : k < vs.length) : catR (vs.take (k + 1)) = catR (vs.take k) ++ vs[k].2 := by
  unfold catR; rw [List.take_succ_eq_append_getElem h, List.map_append, List.flatten_append, List.map_cons, List.map_nil, List.flatten_cons, List.flatten_nil, List.append_nil]
theorem catR_take_le (vs : List (Value × List Bd.R)) (k : Nat) : (catR (vs.take k)).length ≤ (catR vs).length := by
  have : catR vs = catR (vs.take k) ++ catR (vs.drop k) := by
    unfold catR; rw [← List.flatten_append, ← List.map_append, List.take_append_drop]
  rw [this]; simp
theorem catR_all (vs : List (Value × List Bd.R)) : catR (vs.take vs.length) = catR vs := by rw [List.take_length]

set_option maxRecDepth 20000 in
set_option maxHeartbeats 2000000 in
theorem concat_any (vs : List (Value × List Bd.R)) (B cap : Nat) (w : World) (hB : B < w.heap.size) (hcap : vs.length ≤ cap) (hlen : vs.length ≤ 1000) (hc : ∀ k (hk : k < vs.length), w.cell? ⟨B, k, none⟩ = some vs[k].1)
    (hr : ∀ k (hk : k < vs.length), Runs w vs[k].1 vs[k].2) (hl : (catR vs).length ≤ 1000) :
    Calls Try.prog 112 #[.slice (some ⟨B, 0, none⟩) vs.length cap] w fun e w' => ∃ x, e = .returned x ∧ Own w.heap.size w' x (catR vs) ∧ Below w.heap.size w w' := by
  obtain ⟨i0, hi, hz0, hz1, hz2⟩ := info_parts infoRun
  have HR := Lib.hid (And.intro hc hr)
  clear hc hr
  have HL := Lib.hid (catR_take_le vs)
  go_enter Try.func112, Try.ntmps112
  go_wp2_with fail
  go_loop [3, 11] (fun s t => ∃ k : Nat, k ≤ vs.length ∧ t = .int .i64 k ∧ s = .int .i64 (catR (vs.take k)).length) (fun _ t => vs.length - (intOf t).toNat)
  case atStart => exact ⟨0, Nat.zero_le _, rfl, rfl⟩
  case round =>
    obtain ⟨k, hk, rfl, rfl⟩ := hrel
    by_cases hlt : k < vs.length
    · obtain ⟨a, c, he⟩ := (HR.out.2 k hlt).form
      have hck := HR.out.1 k hlt
      rw [he] at hck
      have hs : (catR (vs.take (k + 1))).length = (catR (vs.take k)).length + vs[k].2.length := by rw [catR_take_succ hlt]; simp
      have HS := Lib.hid hs
      have b1 := HL.out k
      have b2 := HL.out (k + 1)
      rw [hs] at b2
      clear hs he
      generalize (catR (vs.take k)).length = s at *
      generalize vs[k].2.length = m at *
      go_wp2
      go_round
      case rel => exact ⟨k + 1, by omega, by go_num, by rw [HS.out]; go_num⟩
      case measure => simp [intOf]; omega
    · obtain rfl : k = vs.length := by omega
      rw [catR_all]
      have G := Lib.hid (fun n h => grow_any n w h)
      go_wp2_with fail
      refine (G.out _ (by omega)).mono ?_
      rintro e w1 ⟨x, rfl, hx, hw1⟩
      clear G
      have HX := Lib.hid (And.intro hx hw1)
      clear hx hw1
      go_wp2_with fail
      go_loopw [6, 27] (fun s t wr => ∃ k : Nat, k ≤ vs.length ∧ t = .int .i64 k ∧ Hid (Own w.heap.size wr s (catR (vs.take k)) ∧ Below w.heap.size w wr)) (fun _ t _ => vs.length - (intOf t).toNat)
      case atStart => exact ⟨0, Nat.zero_le _, rfl, Lib.hid ⟨by simpa [catR] using HX.out.1, HX.out.2⟩⟩
      case round =>
        obtain ⟨k, hk, rfl, hg⟩ := hrel
        clear HX
        by_cases hlt : k < vs.length
        · obtain ⟨hown, hw⟩ := hg.out
          have hck := (hw.cell (p := ⟨B, k, none⟩) hB).trans (HR.out.1 k hlt)
          have hru := runs_src ((HR.out.2 k hlt).all hw)
          have HS := Lib.hid (catR_take_succ hlt)
          have b1 := HL.out k
          have b2 := HL.out (k + 1)
          rw [HS.out, List.length_append] at b2
          clear hg HL
          generalize catR (vs.take k) = cs at *
          generalize vs[k].2 = qs at *
          generalize vs[k].1 = vk at *
          rcases hru with ⟨rfl, rfl⟩ | ⟨ad, c, rfl, hca⟩
          · go_wp2_with (at_builtin; refine wpList_append_own_none rfl _ _ 51 rfl w.heap.size 112 i0 4 Try.underlying51 hi _ _ _ rfl hown rfl ?_)
            go_roundw
            case rel => exact ⟨k + 1, by omega, by go_num, Lib.hid ⟨by rw [HS.out, List.append_nil]; exact hown, hw⟩⟩
            case measure => simp [intOf]; omega
          · go_wp2_with (at_builtin; refine wpList_append_own _ rfl _ _ 51 rfl w.heap.size 112 i0 (.agg #[.int .i64 0, .int .i64 0, .int .i64 0, .int .i64 0]) 4 32 Try.underlying51 hi hz0 hz1 hz2 rfl (by decide) _ _ _ rfl hown ad qs.length c (cellsR qs) rfl (cellsR_length qs) hca (cellsR_one qs) (by unfold maxLen; omega) (by omega) hw.size ?_)
            intro v' w2 hown1 hgrow _
            have hw2 := hw.grown hgrow hw.size (fun j e => (World.ownsRow.lt hown j e).1)
            have hx2 := Own.joined hown1
            clear hown1 hgrow hca hown hw hck
            go_wp2
            go_roundw
            case rel => exact ⟨k + 1, by omega, by go_num, Lib.hid ⟨by rw [HS.out]; exact hx2, hw2⟩⟩
            case measure => simp [intOf]; omega
        · obtain rfl : k = vs.length := by omega
          rw [catR_all] at hg
          go_wp2
          go_ret
          exact ⟨_, rfl, hg.out.1, hg.out.2⟩
end Go.Proofs.Ytabfcnfddemblaa
