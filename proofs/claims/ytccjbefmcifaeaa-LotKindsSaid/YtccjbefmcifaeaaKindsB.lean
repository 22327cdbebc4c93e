/- The shares of all kinds: the reference's. -/
import Derived.Test.YtccjbefmcifaeaaKindsA
import Derived.Test.YtccjbefmcifaeaaRShare
namespace Go.Proofs.Ytccjbefmcifaeaa
open Go.RowKit

def kp (ls : List Lt.L) (i k : Nat) : List Lt.P := (List.range k).map fun kd => ⟨kN ls i kd, kD ls i kd⟩
theorem kp_len (ls : List Lt.L) (i k : Nat) : (kp ls i k).length = k := by simp [kp]
theorem kp_succ (ls : List Lt.L) (i k : Nat) : partsC (kp ls i (k + 1)) = partsC (kp ls i k) ++ [.int .i64 (kN ls i k), .int .i64 (kD ls i k)] := by
  unfold kp partsC
  rw [List.range_succ, List.map_append, List.flatMap_append]
  simp [partC]
theorem marksL_push (n : Nat) (f : Nat → Bool) : marksL (n + 1) f = marksL n f ++ [.bool (f n)] := by
  unfold marksL
  rw [List.range_succ, List.map_append]; rfl
theorem row_rats {base : Nat} {W : World} {v : Value} {rs : List (Int × Int)} {ps : List Lt.P} (hl : ps.length = rs.length) (he : ∀ k, k < rs.length → (ps.getD k default).l = (rs.getD k (0, 0)).1 ∧ (ps.getD k default).m = (rs.getD k (0, 0)).2)
    (h : W.ownsRow base 43 2 v rs.length (partsC ps)) : Rats W v rs := by
  obtain ⟨h0, ⟨h1, h2⟩ | ⟨g, cap, cur, h1, h2, h3, h4⟩⟩ := id h
  · exact .inl ⟨h1, List.length_eq_zero_iff.1 h2⟩
  · subst h1
    refine .inr ⟨g, cap, rfl, (Array.getElem?_eq_some_iff.1 h3).1, fun k hk => ?_⟩
    obtain ⟨e1, e2⟩ := partsC_get ps k (by omega)
    obtain ⟨a1, a2⟩ := he k hk
    rw [a1] at e1
    rw [a2] at e2
    exact ⟨(World.ownsRow.cellAt h (k * 2) (by omega)).trans e1, (World.ownsRow.cellAt h (k * 2 + 1) (by omega)).trans e2⟩
theorem rowAll {base size n : Nat} {w w2 : World} {t : TypeId} {v : Value} {xs : List Value} (h : w.ownsRow base t size v n xs) (hb : Below w.heap.size w w2) : w2.ownsRow base t size v n xs := by
  obtain ⟨h0, h1 | ⟨g, cap, cur, h1, h2, h3, h4⟩⟩ := h
  · exact ⟨h0, .inl h1⟩
  · exact ⟨h0, .inr ⟨g, cap, cur, h1, h2, by rw [hb.block g (Array.getElem?_eq_some_iff.1 h3).1]; exact h3, h4⟩⟩
theorem rat_at (w : World) (a b : Int) (t : TypeId) : ∀ (j : Nat) (z : Value), ([.int .i64 a, .int .i64 b] : List Value)[j]? = some z → (w.alloc (.cells #[.int .i64 a, .int .i64 b] t)).cell? ((⟨w.heap.size, 0, none⟩ : Addr).add j) = some z := by
  intro j z h
  match j, h with
  | 0, h => simp at h; subst h; simp [Addr.add]
  | 1, h => simp at h; subst h; simp [Addr.add]
  | j + 2, h => simp at h
theorem rat_one (a b : Int) : ∀ u ∈ ([.int .i64 a, .int .i64 b] : List Value), u.oneCell' = true := by
  intro u h
  simp only [List.mem_cons, List.not_mem_nil, or_false] at h
  rcases h with rfl | rfl <;> rfl
theorem bool_at (w : World) (x : Bool) (t : TypeId) : ∀ (j : Nat) (u : Value), ([.bool x] : List Value)[j]? = some u → (w.alloc (.cells #[.bool x] t)).cell? ((⟨w.heap.size, 0, none⟩ : Addr).add j) = some u := by
  intro j u h
  match j, h with
  | 0, h => simp at h; subst h; simp [Addr.add]
  | j + 1, h => simp at h
theorem bool_one (x : Bool) : ∀ u ∈ ([.bool x] : List Value), u.oneCell' = true := by
  intro u h; simp at h; subst h; rfl

set_option maxRecDepth 20000 in
set_option maxHeartbeats 2000000 in
theorem refKinds_any (v : Value) (ls : List Lt.L) (n : Int) (w : World) (hv : Lots w v ls) (hsh : short ls) :
    Calls Try.prog 52 #[v, .int .i64 n] w fun e w' => ∃ y, e = .returned (.tuple #[y, .int .i64 (kdE ls n)]) ∧ Rats w' y (kdR ls n) ∧ Below w.heap.size w w' := by
  have N := Lib.hid (named_any v ls n n w hv hsh)
  rw [numE_same] at N
  obtain ⟨i0, hi, hz0, hz1, hz2⟩ := info_of infoRat
  obtain ⟨i1, hi', hz0', hz1', hz2'⟩ := info_parts infoBool
  by_cases hz : numE ls [n] = 0
  · rw [hz] at N
    obtain ⟨h0, h1, h2⟩ := numE_zero hz
    obtain ⟨hl, herr, _⟩ := Lt.valE_zero h0
    obtain ⟨i, rfl⟩ : ∃ i : Nat, n = (i : Int) := ⟨n.toNat, by omega⟩
    have hil : i < ls.length := by omega
    have HE := Lib.hid (show kdE ls i = if kOk ls i = true then 0 else 4 by unfold kdE; rw [if_pos hz]; rfl)
    have HR := Lib.hid (show kdR ls i = if kdE ls i = 0 then (List.range 8).map (fun kd => (kN ls i kd, kD ls i kd)) else [] from rfl)
    generalize kdE ls i = E at *
    generalize kdR ls i = R at *
    have M := Lib.hid (fun W o gm mc (hW : Below w.heap.size w W) (hg : gm < W.heap.size) (hm : ∀ j, j < ls.length → W.cell? ⟨gm, j, none⟩ = some (.bool (o j))) => mixture_any v ls o gm mc i W (hv.all hW) hl herr hil hg hm)
    have F := Lib.hid (fun W o y z (hy : Wo W y (Sh.S ls o i)) (hz : Wo W z (Sh.D ls (i + 1))) => refFraction_any (Sh.S ls o i) (Sh.D ls (i + 1)) y z W hy hz (Sh.D_pos ls _) (Sh.S_le (early_of herr) o i hil) (Nat.le_trans (nd_D herr (by omega)) (by omega)))
    obtain ⟨a, c, rfl, hlk⟩ := hv.look
    have HLK := Lib.hid hlk
    have hfl : ∀ j, j < ls.length → (ls.getD j default).ps.length ≤ 6 := fun j hj => (Lt.fine_of (herr j hj)).2.1
    have HFL := Lib.hid hfl
    clear hv hsh hz h0 h1 h2 herr hlk hfl
    go_enter Try.func52, Try.ntmps52
    go_wp2_with fail
    refine N.out.mono ?_
    rintro e w1 ⟨rfl, hb1⟩
    have HW := Lib.hid hb1
    clear N hb1
    go_wp2
    go_loopw [7, 8] (fun s t wr => ∃ k : Nat, k ≤ 8 ∧ t = .int .i64 k ∧ Hid ((∀ j, j < k → kE ls i j = 0) ∧ wr.ownsRow w1.heap.size 43 2 s k (partsC (kp ls i k)) ∧ Below w1.heap.size w1 wr)) (fun _ t _ => 8 - (intOf t).toNat)
    case atStart => exact ⟨0, Nat.zero_le _, rfl, Lib.hid ⟨fun j h => absurd h (Nat.not_lt_zero _), World.ownsRow_nil _ _ _ _, Below.refl _ _⟩⟩
    case round =>
      obtain ⟨k, hk, rfl, hg⟩ := hrel
      by_cases hlt : k < 8
      · obtain ⟨wB, rfl⟩ : ∃ x, x = wr := ⟨wr, rfl⟩
        have HG := Lib.hid hg.out
        have hk8 : decide ((k : Int) < 8) = true := decide_eq_true (by omega)
        clear hg
        go_wp2
        go_loopw [9, 10] (fun s t wr => ∃ j : Nat, j ≤ ls.length ∧ t = .int .i64 j ∧ Hid (wr.ownsRow wB.heap.size 4 1 s j (marksL j (kindO ls k)) ∧ Below wB.heap.size wB wr)) (fun _ t _ => ls.length - (intOf t).toNat)
        case atStart => exact ⟨0, Nat.zero_le _, rfl, Lib.hid ⟨World.ownsRow_nil _ _ _ _, Below.refl _ _⟩⟩
        case round =>
          obtain ⟨j, hj, rfl, hg⟩ := hrel
          by_cases hjl : j < ls.length
          · obtain ⟨wC, rfl⟩ : ∃ x, x = wr := ⟨wr, rfl⟩
            obtain ⟨hrow, hw⟩ := hg.out
            obtain ⟨b, off, y, rfl, hbl, hlot⟩ := HLK.out j hjl
            obtain ⟨x0, x1, x2, hpp⟩ := hlot.below (below_step (below_step HW.out HG.out.2.2) hw) hbl
            have hps6 := HFL.out j hjl
            have HMK := Lib.hid (marksL_push j (kindO ls k))
            have hko : kindO ls k j = (decide ((ls.getD j default).ps.length = 0) && decide ((ls.getD j default).k = (k : Int))) := rfl
            generalize kindO ls k j = d at *
            generalize ls.getD j default = x at *
            obtain ⟨pa, pc, rfl⟩ := hpp.form
            generalize x.ps.length = m at *
            clear hpp hg
            by_cases hm : m = 0
            · subst hm
              by_cases hxk : x.k = (k : Int)
              · have hd : d = true := by rw [hko]; simp [hxk]
                subst hd
                have q1 : (x.k == (k : Int)) = true := by simp [hxk]
                clear hko hxk
                go_wp2_with (at_builtin; refine wpList_append_own _ rfl _ _ 95 rfl wB.heap.size 4 i1 (.bool false) 1 1 Try.underlying95 hi' hz0' hz1' hz2' rfl (by decide) _ _ _ rfl (World.ownsRow.alloc hrow _) ⟨_, 0, none⟩ 1 1 [.bool true] rfl rfl (bool_at _ _ _) (bool_one _) (by unfold maxLen; omega) (by omega) (by rw [World.size_alloc]; have := hw.size; omega) ?_)
                intro v2 w6 hown1 hgrow _
                have hw2 := (below_alloc hw (.cells #[.bool true] 4)).grown hgrow (by rw [World.size_alloc]; have := hw.size; omega) (fun j e => (World.ownsRow.lt hrow j e).1)
                rw [← HMK.out] at hown1
                have HN := Lib.hid (And.intro hown1 hw2)
                clear hown1 hgrow hrow hw hw2 x0 x1 x2 q1
                go_wp2
                go_roundw
                case rel => exact ⟨j + 1, by omega, by go_num, HN⟩
                case measure => simp [intOf]; omega
              · have hd : d = false := by rw [hko]; simp [hxk]
                subst hd
                have q1 : (x.k == (k : Int)) = false := by simpa using hxk
                clear hko hxk
                go_wp2_with (at_builtin; refine wpList_append_own _ rfl _ _ 95 rfl wB.heap.size 4 i1 (.bool false) 1 1 Try.underlying95 hi' hz0' hz1' hz2' rfl (by decide) _ _ _ rfl (World.ownsRow.alloc hrow _) ⟨_, 0, none⟩ 1 1 [.bool false] rfl rfl (bool_at _ _ _) (bool_one _) (by unfold maxLen; omega) (by omega) (by rw [World.size_alloc]; have := hw.size; omega) ?_)
                intro v2 w6 hown1 hgrow _
                have hw2 := (below_alloc hw (.cells #[.bool false] 4)).grown hgrow (by rw [World.size_alloc]; have := hw.size; omega) (fun j e => (World.ownsRow.lt hrow j e).1)
                rw [← HMK.out] at hown1
                have HN := Lib.hid (And.intro hown1 hw2)
                clear hown1 hgrow hrow hw hw2 x0 x1 x2 q1
                go_wp2
                go_roundw
                case rel => exact ⟨j + 1, by omega, by go_num, HN⟩
                case measure => simp [intOf]; omega
            · have hd : d = false := by rw [hko]; simp [hm]
              subst hd
              have q1 : ((m : Int) == 0) = false := by simpa using hm
              clear hko hm
              go_wp2_with (at_builtin; refine wpList_append_own _ rfl _ _ 95 rfl wB.heap.size 4 i1 (.bool false) 1 1 Try.underlying95 hi' hz0' hz1' hz2' rfl (by decide) _ _ _ rfl (World.ownsRow.alloc hrow _) ⟨_, 0, none⟩ 1 1 [.bool false] rfl rfl (bool_at _ _ _) (bool_one _) (by unfold maxLen; omega) (by omega) (by rw [World.size_alloc]; have := hw.size; omega) ?_)
              intro v2 w6 hown1 hgrow _
              have hw2 := (below_alloc hw (.cells #[.bool false] 4)).grown hgrow (by rw [World.size_alloc]; have := hw.size; omega) (fun j e => (World.ownsRow.lt hrow j e).1)
              rw [← HMK.out] at hown1
              have HN := Lib.hid (And.intro hown1 hw2)
              clear hown1 hgrow hrow hw hw2 x0 x1 x2 q1
              go_wp2
              go_roundw
              case rel => exact ⟨j + 1, by omega, by go_num, HN⟩
              case measure => simp [intOf]; omega
          · obtain rfl : j = ls.length := by omega
            obtain ⟨wC, rfl⟩ : ∃ x, x = wr := ⟨wr, rfl⟩
            obtain ⟨hrow, hw⟩ := hg.out
            obtain ⟨gm, mc, rfl⟩ : ∃ gm mc, u9 = .slice (some ⟨gm, 0, none⟩) ls.length mc := by
              rcases hrow.2 with ⟨_, h0⟩ | ⟨g2, cap, cur, h1, _⟩
              · omega
              · exact ⟨g2, cap, h1⟩
            have M1 := Lib.hid (M.out wC (kindO ls k) gm mc (below_step (below_step HW.out HG.out.2.2) hw) (World.ownsRow.lt hrow gm rfl).2 (fun j hj => (World.ownsRow.cellAt hrow j (by omega)).trans (marksL_at hj)))
            have HC := Lib.hid hw
            clear hg hrow hw
            go_wp2_with fail
            refine M1.out.mono ?_
            rintro e w3 ⟨y, z, rfl, hy, hz, hb3⟩
            have F1 := Lib.hid (F.out _ _ _ _ hy hz)
            have HC := Lib.hid (below_step HC.out hb3)
            have hkc := kE_or ls i k
            have hKN : Rd.rN (Sh.S ls (kindO ls k) i) (Sh.D ls (i + 1)) = kN ls i k := rfl
            have hKD : Rd.rD (Sh.S ls (kindO ls k) i) (Sh.D ls (i + 1)) = kD ls i k := rfl
            have hKE : Rd.rE (Sh.S ls (kindO ls k) i) (Sh.D ls (i + 1)) = kE ls i k := rfl
            rw [hKN, hKD, hKE] at F1
            have HKS := Lib.hid (kp_succ ls i k)
            have HKE := Lib.hid (fun (h : kE ls i k = 0) (j : Nat) (hj : j < k + 1) => show kE ls i j = 0 by
              by_cases e : j = k
              · rw [e]; exact h
              · exact HG.out.1 j (by omega))
            have HKF := Lib.hid (fun (h : kE ls i k ≠ 0) => kOk_false hlt h)
            clear hy hz hb3 M1 hKN hKD hKE
            generalize kN ls i k = rn at *
            generalize kD ls i k = rd at *
            generalize kE ls i k = re at *
            go_wp2_with fail
            refine F1.out.mono ?_
            rintro e w4 ⟨rfl, hb4⟩
            have HC := Lib.hid (below_step HC.out hb4)
            clear hb4 F1 F M
            rcases hkc with rfl | ⟨rfl, rfl, rfl⟩
            · rw [show decide ((0 : Int) = 0) = true from rfl]
              have hrow := rowAll HG.out.2.1 (below_alloc HC.out (.cells #[.int .i64 rn, .int .i64 rd] 43))
              have bR := BlockAt.new w4 #[.int .i64 rn, .int .i64 rd] 43
              have hwA := below_alloc (below_step HG.out.2.2 HC.out) (.cells #[.int .i64 rn, .int .i64 rd] 43)
              have r0 := bR.cell 0
              have r1 := bR.cell 1
              have hra := rat_at (w4.alloc (.cells #[.int .i64 rn, .int .i64 rd] 43)) rn rd 43
              simp only [World.size_alloc] at hra
              go_wp2_with (at_builtin; refine wpList_append_own _ rfl _ _ 61 rfl w1.heap.size 43 i0 (.agg #[.int .i64 0, .int .i64 0]) 2 16 ul_rats hi hz0 hz1 hz2 rfl (by decide) _ _ _ rfl (World.ownsRow.alloc hrow _) ⟨_, 0, none⟩ 1 1 [.int .i64 rn, .int .i64 rd] rfl rfl hra (rat_one _ _) (by unfold maxLen; omega) (by omega) (by rw [World.size_alloc]; have := hwA.size; omega) ?_)
              intro v2 w6 hown1 hgrow _
              have hw2 := (below_alloc hwA (.cells #[.int .i64 rn, .int .i64 rd] 43)).grown hgrow (by rw [World.size_alloc]; have := hwA.size; omega) (fun j e => (World.ownsRow.lt hrow j e).1)
              rw [← HKS.out] at hown1
              have HN := Lib.hid (And.intro (show ∀ j, j < k + 1 → kE ls i j = 0 by first | exact HKE.out trivial | exact HKE.out rfl | (intro j hj; exact HKE.out j hj)) (And.intro hown1 hw2))
              clear hown1 hgrow hrow hwA hw2 r0 r1 bR hra HKE HKF HC HG
              go_wp2
              go_roundw
              case rel => exact ⟨k + 1, by omega, by go_num, HN⟩
              case measure => simp [intOf]; omega
            · rw [show decide ((4 : Int) = 0) = false from rfl]
              have hK := HKF.out (by decide)
              rw [hK, if_neg (by decide)] at HE
              rw [HE.out, if_neg (by decide)] at HR
              have HWF := Lib.hid (below_alloc (below_step HW.out (below_step HG.out.2.2 HC.out)) (.cells #[.int .i64 0, .int .i64 0] 43))
              clear HKE HKF hK HC HG
              go_wp2
              exact bodyPost_ret (v := .tuple #[.slice none 0 0, .int .i64 4]) (by simp [results, Try.results52, go_sem]) rfl ⟨_, by rw [HE.out], by rw [HR.out]; exact .inl ⟨rfl, rfl⟩, HWF.out⟩
      · obtain rfl : k = 8 := by omega
        rw [kOk_true hg.out.1, if_pos rfl] at HE
        rw [HE.out, if_pos rfl] at HR
        have hw := below_step HW.out hg.out.2.2
        have hr : Rats wr u7 R := by
          rw [HR.out]
          refine row_rats (ps := kp ls i 8) (by simp [kp]) (fun k hk => ?_) (by simpa using hg.out.2.1)
          have hk8 : k < 8 := by simpa using hk
          simp [kp, List.getD, hk8]
        clear hg
        go_wp2
        exact bodyPost_ret (v := .tuple #[u7, .int .i64 0]) (by simp [results, Try.results52, go_sem]) rfl ⟨_, by rw [HE.out], hr, hw⟩
  · have hE : kdE ls n = numE ls [n] := by unfold kdE; rw [if_neg hz]
    have hR : kdR ls n = [] := by unfold kdR; rw [hE, if_neg hz]
    rw [hE, hR]
    have hne : (numE ls [n] != 0) = true := by simpa using hz
    obtain ⟨a, c, rfl⟩ := hv.form
    generalize numE ls [n] = q at *
    clear hv hsh hz hE hR
    go_enter Try.func52, Try.ntmps52
    go_wp2_with fail
    refine N.out.mono ?_
    rintro e w1 ⟨rfl, hb1⟩
    have hw1 := hb1
    clear hb1 N
    go_wp2
    exact bodyPost_ret (v := .tuple #[.slice none 0 0, .int .i64 q]) (by simp [results, Try.results52, go_sem]) rfl ⟨_, rfl, .inl ⟨rfl, rfl⟩, hw1⟩
end Go.Proofs.Ytccjbefmcifaeaa
