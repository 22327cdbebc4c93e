/- The places at which an article can be cut: of both; RollPlaces returns true. Places of the program and of the reference; RollPlaces returns true, whatever the band, the articles and the number. Which potentials are right, of the program. -/
import Derived.Test.YtbmjjmpdlmbehaaRmR
namespace Go.Proofs.Ytbmjjmpdlmbehaa
open Go.RowKit

theorem Ro.plS_take {l : Int} {ss : List Bd.S} {j : Nat} (hj : j < ss.length) : Ro.plS l (ss.take (j + 1)) = Ro.plS l (ss.take j) ++ Ro.pls l ss[j] := by
  rw [List.take_succ_eq_append_getElem hj, Ro.plS_snoc]
theorem Ro.plS_le (l : Int) (ss : List Bd.S) (j : Nat) : (Ro.plS l (ss.take j)).length ≤ (Ro.plS l ss).length := by
  have : Ro.plS l ss = Ro.plS l (ss.take j) ++ Ro.plS l (ss.drop j) := by
    unfold Ro.plS
    rw [← List.flatMap_append, List.take_append_drop]
  rw [this]; simp
theorem OwnI.all {base : Nat} {w w2 : World} {v : Value} {ks : List Int} (h : OwnI base w v ks) (hb : Below w.heap.size w w2) : OwnI base w2 v ks := ownsRow_all h hb
theorem OwnI.alloc {base : Nat} {w : World} {v : Value} {ks : List Int} (h : OwnI base w v ks) (o : Obj) : OwnI base (w.alloc o) v ks := World.ownsRow.alloc h o
theorem OwnI.lower {base B : Nat} {w : World} {v : Value} {ks : List Int} (h : OwnI base w v ks) (hB : B ≤ base) : OwnI B w v ks := by
  obtain ⟨h0, h⟩ := h
  rcases h with h | ⟨g, cap, cur, h1, h2, h3⟩
  · exact ⟨h0, .inl h⟩
  · exact ⟨h0, .inr ⟨g, cap, cur, h1, Nat.le_trans hB h2, h3⟩⟩

set_option maxRecDepth 20000 in
set_option maxHeartbeats 4000000 in
theorem places_any (a : Ro.A) (n : Int) (v : Value) (ss : List Bd.S) (w : World) (hl : 1 ≤ a.l ∧ a.l ≤ 300) (hv : Spns w v ss) (hss : ∀ s ∈ ss, Bd.okS s) (hn : ss.length ≤ 1000) (hp : (Ro.plS a.l ss).length ≤ 300) :
    Calls Try.prog 45 #[offV a n v] w fun e w' => ∃ u, e = .returned u ∧ OwnI w.heap.size w' u (Ro.plS a.l ss) ∧ Below w.heap.size w w' := by
  obtain ⟨i0, hi, hz0, hz1, hz2⟩ := info_parts infoInt
  obtain ⟨va, vc, rfl, hk⟩ := hv
  have HK := Lib.hid hk
  have HS := Lib.hid hss
  have HLE := Lib.hid (fun j => Nat.le_trans (Ro.plS_le a.l ss j) hp)
  have HT := Lib.hid (fun j (hj : j < ss.length) => Ro.plS_take (l := a.l) hj)
  have HALL : Hid (Ro.plS a.l (ss.take ss.length) = Ro.plS a.l ss) := Lib.hid (by rw [List.take_length])
  obtain ⟨vl, hvl⟩ : ∃ x, x = ss.length := ⟨_, rfl⟩
  have HB : Hid (BlockAt (w.alloc (.cells (offA a n (.slice va ss.length vc)) OffT)) w.heap.size (offA a n (.slice va ss.length vc)) OffT ∧ Below w.heap.size w (w.alloc (.cells (offA a n (.slice va ss.length vc)) OffT))) := Lib.hid ⟨BlockAt.new _ _ _, below_alloc2 (Below.refl _ _) _⟩
  have q7 : World.cell? _ _ = some (.slice va ss.length vc) := HB.out.1.cell 7
  clear hk hss hp
  generalize Ro.plS a.l ss = R at *
  go_enter Try.func45, Try.ntmps45
  go_wp2
  clear q7
  go_loopw [3, 10] (fun s t wr => ∃ j : Nat, j ≤ ss.length ∧ t = .int .i64 j ∧ Hid (OwnI w.heap.size wr s (Ro.plS a.l (ss.take j)) ∧ BlockAt wr w.heap.size (offA a n (.slice va ss.length vc)) OffT ∧ Below w.heap.size w wr)) (fun _ t _ => ss.length - (intOf t).toNat)
  case atStart => exact ⟨0, Nat.zero_le _, rfl, Lib.hid ⟨by rw [List.take_zero]; exact OwnI.nil _ _, HB.out⟩⟩
  case round =>
    obtain ⟨j, hj, rfl, hg⟩ := hrel
    clear HB
    by_cases hlt : j < ss.length
    · obtain ⟨b, off, rfl, hb, hr⟩ := HK.out j hlt
      obtain ⟨c0, c1⟩ := hr.below hg.out.2.2 hb
      obtain ⟨s1, s2, s3, s4⟩ := HS.out _ (List.getElem_mem hlt)
      have hT := HT.out j hlt
      have hx1 := HLE.out j
      have hx2 := HLE.out (j + 1)
      rw [hT, List.length_append] at hx2
      unfold Ro.pls at hT hx2
      rw [Ro.seg_len] at hx2
      have HTT := Lib.hid hT
      have HG0 : Hid (OwnI w.heap.size (wr.alloc (.cells #[.int .i64 ss[j].f, .int .i64 ss[j].t] 70)) _ (Ro.plS a.l (ss.take j)) ∧ BlockAt (wr.alloc (.cells #[.int .i64 ss[j].f, .int .i64 ss[j].t] 70)) w.heap.size (offA a n (.slice (some ⟨b, off, none⟩) ss.length vc)) OffT ∧ BlockAt (wr.alloc (.cells #[.int .i64 ss[j].f, .int .i64 ss[j].t] 70)) wr.heap.size #[.int .i64 ss[j].f, .int .i64 ss[j].t] 70 ∧ Below w.heap.size w (wr.alloc (.cells #[.int .i64 ss[j].f, .int .i64 ss[j].t] 70))) :=
        Lib.hid ⟨World.ownsRow.alloc hg.out.1 _, hg.out.2.1.alloc _, BlockAt.new _ _ _, below_alloc2 hg.out.2.2 _⟩
      clear hg hr hT
      generalize Ro.plS a.l (ss.take j) = xs at *
      generalize ss[j] = s at *
      obtain ⟨m, hm⟩ : ∃ m, m = (s.t - a.l + 1 - s.f).toNat := ⟨_, rfl⟩
      rw [← hm] at hx2 HTT
      have hwt : IntKind.i64.wrap (s.t - a.l) = s.t - a.l := IntWalk.i64_in _ ⟨by omega, by omega⟩
      obtain ⟨B5, hB5⟩ : ∃ B5, B5 = wr.heap.size := ⟨_, rfl⟩
      go_wp2
      rw [← hB5] at HG0
      rw [← hB5]
      clear hB5 c0 c1
      go_loopw [3, 6] (fun r t wr => ∃ i : Nat, i ≤ m ∧ t = .int .i64 (s.f + i) ∧ Hid (OwnI w.heap.size wr r (xs ++ Ro.seg s.f i) ∧ BlockAt wr w.heap.size (offA a n (.slice (some ⟨b, off, none⟩) ss.length vc)) OffT ∧ BlockAt wr B5 #[.int .i64 s.f, .int .i64 s.t] 70 ∧ Below w.heap.size w wr)) (fun _ t _ => (s.f + m - intOf t).toNat)
      case atStart => exact ⟨0, Nat.zero_le _, by simp, Lib.hid (by rw [show Ro.seg s.f 0 = [] from rfl, List.append_nil]; exact HG0.out)⟩
      case round =>
        obtain ⟨i, him, rfl, hg⟩ := hrel
        clear HG0
        have q0 : World.cell? wr ⟨w.heap.size, 0, none⟩ = some (.int .i64 a.l) := hg.out.2.1.cell 0
        have p1 : World.cell? wr ⟨B5, 1, none⟩ = some (.int .i64 s.t) := hg.out.2.2.1.cell 1
        have l0 := hg.out.2.1.lt
        have l1 := hg.out.2.2.1.lt
        by_cases hil : i < m
        · have hd : decide (s.f + (i : Int) ≤ s.t - a.l) = true := decide_eq_true (by omega)
          have hown := hg.out.1
          have hw := hg.out.2.2.2
          have hbo := hg.out.2.1
          have hbs := hg.out.2.2.1
          have hca := intC_at wr (s.f + (i : Int)) 3
          have hxl : (xs ++ Ro.seg s.f i).length ≤ 300 := by rw [List.length_append, Ro.seg_len]; omega
          have HSG := Lib.hid (show xs ++ Ro.seg s.f (i + 1) = (xs ++ Ro.seg s.f i) ++ [s.f + (i : Int)] by rw [Ro.seg_succ, List.append_assoc])
          have hsz := hw.size
          have hwi : IntKind.i64.wrap (s.f + (i : Int) + 1) = s.f + ((i + 1 : Nat) : Int) := by rw [IntWalk.i64_in _ ⟨by omega, by omega⟩]; omega
          clear hg
          generalize xs ++ Ro.seg s.f i = ys at *
          obtain ⟨ra, rc, hre, _⟩ := hown.ints
          subst hre
          go_wp2_with (at_builtin; refine wpList_append_own _ rfl _ _ 56 rfl w.heap.size 3 i0 (.int .i64 0) 1 8 Try.underlying56 hi hz0 hz1 hz2 rfl (by decide) _ _ _ rfl (hown.alloc _) ⟨wr.heap.size, 0, none⟩ 1 1 (intC (s.f + (i : Int))) rfl rfl ?c1 (intC_one _) ?c3 ?c4 ?c5 ?_)
          case c1 => exact hca
          case c3 => unfold maxLen; omega
          case c4 => omega
          case c5 => simp; omega
          intro v' w9 hr9 hg9 _
          have HN := Lib.hid (And.intro (OwnI.pushed hr9) (And.intro ((hbo.alloc _).grown hg9 (BlockAt.not_row hbo (by decide) hown)) (And.intro ((hbs.alloc _).grown hg9 (BlockAt.not_row hbs (by decide) hown)) ((below_alloc2 hw _).grown hg9 (by simp; omega) (fun j e => (World.ownsRow.lt hown j e).1)))))
          clear hown hw hr9 hg9 hca hbo hbs q0 p1
          go_wp2
          go_roundw
          case rel => exact ⟨i + 1, by omega, by go_num, Lib.hid ⟨by rw [HSG.out]; exact HN.out.1, HN.out.2⟩⟩
          case measure => simp [intOf]; omega
        · have hd : decide (s.f + (i : Int) ≤ s.t - a.l) = false := decide_eq_false (by omega)
          obtain rfl : i = m := by omega
          have HN := Lib.hid (And.intro hg.out.1 (And.intro hg.out.2.1 hg.out.2.2.2))
          clear hg
          go_wp2
          go_roundw
          case rel => exact ⟨j + 1, by omega, by go_num, Lib.hid ⟨by rw [HTT.out]; exact HN.out.1, HN.out.2⟩⟩
          case measure => simp [intOf]; omega
    · obtain rfl : j = ss.length := by omega
      have hown := hg.out.1
      rw [HALL.out] at hown
      have HO := Lib.hid (And.intro hown hg.out.2.2)
      clear hg hown
      go_wp2
      go_ret
      exact ⟨_, rfl, HO.out⟩
end Go.Proofs.Ytbmjjmpdlmbehaa
namespace Go.Proofs.Ytbmjjmpdlmbehaa
open Go.RowKit

def Ro.plcE (rs : List Bd.R) (al : List Ro.A) (n : Int) : Int := if Ro.layE rs al = 0 then (if 0 ≤ n ∧ n < al.length then 0 else 5) else Ro.layE rs al
def Ro.plcR (rs : List Bd.R) (al : List Ro.A) (n : Int) : List Int := if Ro.plcE rs al n = 0 then Ro.plc (Bd.exp rs) (Ro.art al n) (Bd.exp rs).length else []
theorem Ro.plcR_len {rs : List Bd.R} {al : List Ro.A} {n : Int} : (Ro.plcR rs al n).length ≤ (Bd.exp rs).length := by
  unfold Ro.plcR; split
  · exact Ro.plc_len _ _ _
  · simp

theorem ints_form {w : World} {v : Value} {ks : List Int} (h : Ints w v ks) : ∃ a c, v = .slice a ks.length c := by obtain ⟨a, c, h, _⟩ := h; exact ⟨a, c, h⟩
theorem ints_nil (w : World) : Ints w (.slice none 0 0) [] := ⟨none, 0, rfl, fun k hk => absurd hk (Nat.not_lt_zero _)⟩

end Go.Proofs.Ytbmjjmpdlmbehaa
namespace Go.Proofs.Ytbmjjmpdlmbehaa
open Go.RowKit

def Ro.prv (ps : List Int) (i : Nat) : Int := if i = 0 then 0 else ps.getD (i - 1) 0
def Ro.stp1 (ps : List Int) (i : Nat) : Bool := decide (Ro.prv ps i ≤ ps.getD i 0) && decide (ps.getD i 0 ≤ 1099511627776)
theorem Ro.right_len {N : Nat} {ps : List Int} (h : ps.length ≠ N + 1) : Ro.right N ps = false := by
  apply Bool.eq_false_iff.2; intro hc; exact h (Ro.right_iff.1 hc).1
theorem Ro.right_nz {N : Nat} {ps : List Int} (h : ps.getD 0 0 ≠ 0) : Ro.right N ps = false := by
  apply Bool.eq_false_iff.2; intro hc; exact h (Ro.right_iff.1 hc).2.1
theorem Ro.right_miss {N : Nat} {ps : List Int} {i : Nat} (hi : i < ps.length) (h : Ro.stp1 ps i = false) : Ro.right N ps = false := by
  apply Bool.eq_false_iff.2; intro hc
  have h1 := (Ro.right_iff.1 hc).1
  have h2 := Ro.right_range hc i (by omega)
  have h3 : Ro.prv ps i ≤ ps.getD i 0 := by
    unfold Ro.prv
    by_cases e : i = 0
    · rw [if_pos e]; exact h2.1
    · rw [if_neg e]
      have := ((Ro.right_iff.1 hc).2.2 (i - 1) (by omega)).1
      rwa [show i - 1 + 1 = i by omega] at this
  unfold Ro.stp1 at h
  rw [decide_eq_true h3, decide_eq_true h2.2] at h
  cases h
theorem Ro.right_all {N : Nat} {ps : List Int} (hl : ps.length = N + 1) (h0 : ps.getD 0 0 = 0) (h : ∀ i, i < ps.length → Ro.stp1 ps i = true) : Ro.right N ps = true := by
  refine Ro.right_iff.2 ⟨hl, h0, fun i hi => ?_⟩
  have := h (i + 1) (by omega)
  simp only [Ro.stp1, Bool.and_eq_true, decide_eq_true_eq] at this
  have hp : Ro.prv ps (i + 1) = ps.getD i 0 := by unfold Ro.prv; rw [if_neg (by omega), show i + 1 - 1 = i by omega]
  exact ⟨by rw [← hp]; exact this.1, this.2⟩
theorem getD_get {ps : List Int} {i : Nat} (h : i < ps.length) : ps.getD i 0 = ps[i] := by simp [h]

set_option maxRecDepth 20000 in
set_option maxHeartbeats 2000000 in
theorem isRight_any (bv : Value) (N : Nat) (oa : Option Addr) (ol oc : Nat) (v : Value) (ps : List Int) (w : World) (hv : Ints w v ps) (hN : N ≤ 300) (hl : ps.length ≤ 1000000) :
    Calls Try.prog 44 #[tabV bv (N : Int) (.slice oa ol oc), v] w fun e w' => e = .returned (.bool (Ro.right N ps)) ∧ Below w.heap.size w w' := by
  obtain ⟨va, vc, rfl, hk⟩ := hv
  have HK := Lib.hid hk
  have hw := below_alloc2 (Below.refl w.heap.size w) (.cells (tabA bv (N : Int) (.slice oa ol oc)) TabT)
  have c1 : World.cell? (w.alloc (.cells (tabA bv (N : Int) (.slice oa ol oc)) TabT)) ⟨w.heap.size, 1, none⟩ = some (.int .i64 (N : Int)) := (BlockAt.new w (tabA bv (N : Int) (.slice oa ol oc)) TabT).cell 1
  have HB := Lib.hid hw
  have hwN : IntKind.i64.wrap ((N : Int) + 1) = (N : Int) + 1 := IntWalk.i64_in _ ⟨by omega, by omega⟩
  clear hk hw
  by_cases h1 : ps.length = N + 1
  case neg =>
    have HE := Lib.hid (Ro.right_len (ps := ps) h1)
    have q7 : ((ps.length : Int) == (N : Int) + 1) = false := beq_eq_false_iff_ne.2 (by omega)
    have q8 : ((ps.length : Int) != (N : Int) + 1) = true := by rw [bne, q7]; rfl
    generalize Ro.right N ps = r at *
    clear h1
    go_enter Try.func44, Try.ntmps44
    go_wp2
    go_ret
    exact ⟨by rw [HE.out]; rfl, HB.out⟩
  have q7 : ((ps.length : Int) == (N : Int) + 1) = true := beq_iff_eq.2 (by omega)
  have q8 : ((ps.length : Int) != (N : Int) + 1) = false := by rw [bne, q7]; rfl
  have hpos : 0 < ps.length := by omega
  obtain ⟨b, off, rfl, hb, hx⟩ := HK.out 0 hpos
  have c0 := (HB.out.cell (p := ⟨b, off + 0, none⟩) hb).trans hx
  rw [Nat.add_zero] at c0
  have hg0 := getD_get hpos
  by_cases h2 : ps.getD 0 0 = 0
  case neg =>
    have HE := Lib.hid (Ro.right_nz (N := N) (ps := ps) h2)
    rw [hg0] at h2
    have z7 : (ps[0] == 0) = false := beq_eq_false_iff_ne.2 h2
    have z8 : (ps[0] != 0) = true := by rw [bne, z7]; rfl
    clear h1 h2 hg0 hx
    generalize Ro.right N ps = r at *
    generalize ps[0] = z at *
    go_enter Try.func44, Try.ntmps44
    go_wp2
    go_ret
    exact ⟨by rw [HE.out]; rfl, HB.out⟩
  have HMISS := Lib.hid (fun i hi h => Ro.right_miss (N := N) (ps := ps) (i := i) hi h)
  have HALL := Lib.hid (fun h => Ro.right_all (N := N) (ps := ps) h1 h2 h)
  rw [hg0] at h2
  rw [h2] at c0
  generalize Ro.right N ps = r at *
  have F := Lib.hid (fun lo n W => rollFrom_any lo 1099511627776 n W)
  clear h1 h2 hg0 hx
  go_enter Try.func44, Try.ntmps44
  go_wp2
  clear c0 c1 q7 q8 hwN
  go_loopw [5, 22] (fun s t wr => ∃ j : Nat, j ≤ ps.length ∧ t = .int .i64 j ∧ s = .int .i64 (Ro.prv ps j) ∧ Hid ((∀ i, i < j → Ro.stp1 ps i = true) ∧ Below w.heap.size w wr)) (fun _ t _ => ps.length - (intOf t).toNat)
  case atStart => exact ⟨0, Nat.zero_le _, rfl, rfl, Lib.hid ⟨fun i h => absurd h (Nat.not_lt_zero _), HB.out⟩⟩
  case round =>
    obtain ⟨j, hj, rfl, rfl, hg⟩ := hrel
    clear HB
    by_cases hlt : j < ps.length
    · obtain ⟨b2, off2, he2, hb2, hx2⟩ := HK.out j hlt
      simp only [Option.some.injEq, Addr.mk.injEq, and_true] at he2
      obtain ⟨rfl, rfl⟩ := he2
      have c0 := (hg.out.2.cell (p := ⟨b, off + j, none⟩) hb2).trans hx2
      have HJ := Lib.hid (HMISS.out j hlt)
      have HI : Hid (Ro.stp1 ps j = true → ∀ i, i < j + 1 → Ro.stp1 ps i = true) := Lib.hid fun h i hi => by
        by_cases e : i = j
        · subst e; exact h
        · exact hg.out.1 i (by omega)
      have HG := Lib.hid hg.out.2
      have C1 := Lib.hid (fun W => F.out (Ro.prv ps j) ps[j] W)
      have hst : (decide (Ro.prv ps j ≤ ps[j]) && decide (ps[j] ≤ 1099511627776)) = Ro.stp1 ps j := by unfold Ro.stp1; rw [getD_get hlt]
      rw [hst] at C1
      have hpn : Ro.prv ps (j + 1) = ps[j] := by unfold Ro.prv; rw [if_neg (by omega), show j + 1 - 1 = j by omega, getD_get hlt]
      have HPN := Lib.hid hpn
      clear hg hx2 hst hpn
      generalize Ro.stp1 ps j = o at *
      generalize Ro.prv ps j = pv at *
      generalize ps[j] = z at *
      go_wp2_with fail
      refine (C1.out _).mono ?_
      rintro e w1 ⟨rfl, rfl⟩
      clear C1 c0
      cases o
      · have HE := Lib.hid (HJ.out rfl)
        clear HJ HI
        go_wp2
        go_ret
        exact ⟨by rw [HE.out]; rfl, HG.out⟩
      · have HI2 := Lib.hid (HI.out rfl)
        clear HJ HI
        go_wp2
        go_roundw
        case rel => exact ⟨j + 1, by omega, by go_num, by rw [HPN.out], Lib.hid ⟨HI2.out, HG.out⟩⟩
        case measure => simp [intOf]; omega
    · obtain rfl : j = ps.length := by omega
      have HE := Lib.hid (HALL.out hg.out.1)
      have HW := Lib.hid hg.out.2
      clear hg
      go_wp2
      go_ret
      exact ⟨by rw [HE.out]; rfl, HW.out⟩
end Go.Proofs.Ytbmjjmpdlmbehaa
