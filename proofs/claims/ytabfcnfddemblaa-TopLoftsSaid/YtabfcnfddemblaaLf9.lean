/- The sums that days can have, as bits: of the program. -/
import Derived.Test.YtabfcnfddemblaaLf8
namespace Go.Proofs.Ytabfcnfddemblaa.Lo
open Go.RowKit

/-- The table up to a place. -/
def fil (rs : List Int) (t i : Nat) : Nat := if 5 ≤ i ∧ i < t then Lf.mk rs (i / 5 - 1) (i % 5) else 0
theorem fil_lt (rs : List Int) (t i : Nat) : fil rs t i < 2 ^ 64 := by
  unfold fil
  split
  · exact Lf.mk_lt _ _ _
  · exact Nat.two_pow_pos _
theorem fil_at {rs : List Int} {t n g : Nat} (hg : g < 5) (ht : (n + 1) * 5 + g < t) : fil rs t ((n + 1) * 5 + g) = Lf.mk rs n g := by
  unfold fil
  rw [if_pos (by omega)]
  congr 1
  · omega
  · omega
theorem fil_set {rs : List Int} {t M : Nat} (h5 : 5 ≤ t) (hM : Lf.mk rs (t / 5 - 1) (t % 5) = M) : (RcA (fil rs t)).setIfInBounds t (.int .u64 (M : Int)) = RcA (fil rs (t + 1)) := by
  unfold RcA
  rw [fnV_set]
  congr 1
  funext i
  unfold updV fil
  by_cases e : i = t
  · subst e
    rw [if_pos rfl, if_pos (by omega), hM]
  · rw [if_neg e]
    dsimp only
    by_cases c : 5 ≤ i ∧ i < t
    · rw [if_pos c, if_pos (by omega)]
    · rw [if_neg c, if_neg (by omega)]
theorem zeros_reach : Try.zeroCells203 = fnV 65 (fun _ => .int .u64 0) := by kernel_rfl
theorem fil_zero (rs : List Int) : RcA (fil rs 5) = fnV 65 (fun _ => .int .u64 0) := by
  refine fnV_congr fun i hi => ?_
  unfold fil
  rw [if_neg (by omega)]; rfl
theorem afN_congr {m m' : Nat → Nat} {lo : Nat} : ∀ k, (∀ j, j < k → m (lo + j) = m' (lo + j)) → Lf.afN m lo k = Lf.afN m' lo k
  | 0, _ => rfl
  | k + 1, h => by rw [Lf.afN, Lf.afN, afN_congr k (fun j hj => h j (by omega)), h k (by omega)]
theorem af_congr {m m' : Nat → Nat} {b : Nat} (hb : b ≤ 4) (h : ∀ g, g < 5 → m g = m' g) : Lf.af m b = Lf.af m' b := by
  unfold Lf.af
  refine afN_congr _ fun j hj => h _ ?_
  unfold Lf.nN at hj
  omega
theorem mk_zero (rs : List Int) (g : Nat) : Lf.mk rs 0 g = 2 ^ Lf.rt rs g % 2 ^ 64 := rfl
theorem mk_succ (rs : List Int) (n g : Nat) : Lf.mk rs (n + 1) g = (Lf.af (Lf.mk rs n) g * 2 ^ Lf.rt rs g) % 2 ^ 64 := rfl
theorem one_shl (r M : Nat) (h : M = 2 ^ r % 2 ^ 64) : IntKind.u64.wrap ((2 : Int) ^ r) = (M : Int) := by rw [pow_int, wrap_nat, h]
theorem any_shl (a r M : Nat) (h : M = (a * 2 ^ r) % 2 ^ 64) : IntKind.u64.wrap ((a : Int) * (2 : Int) ^ r) = (M : Int) := by
  rw [pow_int, ← Int.natCast_mul, wrap_nat, h]
theorem rt_int {rs : List Int} {k : Nat} (h : 0 ≤ rs.getD k 0) : rs.getD k 0 = ((Lf.rt rs k : Nat) : Int) := by unfold Lf.rt; omega
/-- What lies in memory while the table is made. -/
def RcS (w : World) (la : Array Value) (B : Nat) (rs : List Int) (t : Nat) (wr : World) : Prop :=
  BlockAt wr B (RcA (fil rs t)) ReachT ∧ BlockAt wr w.heap.size la LoftT ∧ Below w.heap.size w wr ∧ w.heap.size < B
theorem RcS.set {w : World} {la : Array Value} {B : Nat} {rs : List Int} {t M : Nat} {wr : World} (h : RcS w la B rs t wr) (h5 : 5 ≤ t) (hM : Lf.mk rs (t / 5 - 1) (t % 5) = M) : RcS w la B rs (t + 1) (wr.setCell ⟨B, t, none⟩ (.int .u64 (M : Int))) := by
  obtain ⟨h1, h2, h3, h4⟩ := h
  refine ⟨?_, h2.other (by omega) _, below_set h3 (by omega) _, h4⟩
  have := h1.set t (.int .u64 (M : Int))
  rwa [fil_set h5 hM] at this
theorem RcS.drew {w : World} {la : Array Value} {B : Nat} {rs : List Int} {t : Nat} {wr : World} (h : RcS w la B rs t wr) : RcS w la B rs t wr.drew := ⟨h.1.drew, h.2.1.drew, below_drewN h.2.2.1 1, h.2.2.2⟩
set_option maxRecDepth 100000 in
set_option maxHeartbeats 8000000 in
theorem reachOf_any (p : Int) (u : Value) (rs : List Int) (w : World) (hu : Ints w u rs) (h5 : rs.length = 5) (hr : ∀ k, k < 5 → 0 ≤ rs.getD k 0 ∧ rs.getD k 0 ≤ 9) :
    Calls Try.prog 120 #[loftV p u] w fun e w' => e = .returned (.pointer (some ⟨w.heap.size + 1, 0, none⟩)) ∧ BlockAt w' (w.heap.size + 1) (RcA (fil rs 65)) ReachT ∧ Below w.heap.size w w' := by
  obtain ⟨ua, uc, rfl⟩ := hu.form
  have HW := Lib.hid (loft_box w p (.slice ua rs.length uc))
  have HU := Lib.hid (fun (W : World) (hW : Below w.heap.size w W) => Ints.at (hu.all hW))
  have HRT := Lib.hid (fun k (hk : k < 5) => And.intro (rt_int (hr k hk).1) (show Lf.rt rs k ≤ 9 by have := hr k hk; unfold Lf.rt; omega))
  have FA := Lib.hid (fun (m : Nat → Nat) B b d W hm hB hb hd => after_any m B b d W hm hB hb hd)
  have H5 := Lib.hid h5
  have hl5 : rs.length ≤ 5 := by omega
  have hl5' : 5 ≤ rs.length := by omega
  have x1 : World.cell? _ _ = some (.slice ua rs.length uc) := HW.out.1.cell 1
  have HZ := Lib.hid (show RcS w (loftA p (.slice ua rs.length uc)) (w.heap.size + 1) rs 5 ((w.alloc (.cells (loftA p (.slice ua rs.length uc)) LoftT)).alloc (.cells Try.zeroCells203 ReachT)) from
    ⟨by rw [fil_zero, zeros_reach]; have := BlockAt.new (w.alloc (.cells (loftA p (.slice ua rs.length uc)) LoftT)) (fnV 65 (fun _ => .int .u64 0)) ReachT; simpa using this, HW.out.1.alloc _, below_alloc2 HW.out.2 _, by omega⟩)
  clear hu h5 hr
  go_enter Try.func120, Try.ntmps120
  go_wp2
  clear x1
  go_loopw [14] (fun t wr => ∃ k : Nat, k ≤ rs.length ∧ t = .int .i64 k ∧ Hid (RcS w (loftA p (.slice ua rs.length uc)) (w.heap.size + 1) rs (5 + k) wr)) (fun t _ => rs.length - (intOf t).toNat)
  case atStart => exact ⟨0, Nat.zero_le _, rfl, HZ⟩
  case round =>
    obtain ⟨k, hk, rfl, hg⟩ := hrel
    clear HZ
    by_cases hlt : k < rs.length
    · obtain ⟨b, off, rfl, hb, c0⟩ := HU.out wr hg.out.2.2.1 k hlt
      obtain ⟨e1, e2⟩ := HRT.out k (by omega)
      rw [e1] at c0
      have HM := Lib.hid (mk_zero rs k)
      have hv := one_shl (Lf.rt rs k) (Lf.mk rs 0 k) HM.out
      have HST := Lib.hid (fun M hM => hg.out.set (M := M) (by omega) hM)
      have d0 := Rc_at hg.out.1 (i := 5 + k) (by omega)
      have f0 := hg.out.1.frozen (5 + k)
      have hblk := hg.out.1.lt
      have HS1 := Lib.hid (HST.out (Lf.mk rs 0 k) (by rw [show (5 + k) / 5 - 1 = 0 by omega, show (5 + k) % 5 = k by omega]))
      clear hg e1 HST HM
      generalize fil rs (5 + k) (5 + k) = old at *
      generalize Lf.mk rs 0 k = M at *
      generalize Lf.rt rs k = r at *
      go_wp2_with fail
      go_region
      go_wp2
      go_roundw
      case rel => exact ⟨k + 1, by omega, by go_num, Lib.hid HS1.out.drew⟩
      case measure => simp [intOf]; omega
    · obtain rfl : k = rs.length := by omega
      have HG : Hid (RcS w (loftA p (.slice ua rs.length uc)) (w.heap.size + 1) rs (2 * 5) wr) := Lib.hid (by have := hg.out; rw [show 5 + rs.length = 2 * 5 by have := H5.out; omega] at this; exact this)
      clear hg
      go_wp2
      go_loopw [6] (fun t wr => ∃ d : Nat, (2 ≤ d ∧ d ≤ 13) ∧ t = .int .i64 d ∧ Hid (RcS w (loftA p (.slice ua rs.length uc)) (w.heap.size + 1) rs (d * 5) wr)) (fun t _ => 13 - (intOf t).toNat)
      case atStart => exact ⟨2, ⟨by omega, by omega⟩, rfl, HG⟩
      case round =>
        obtain ⟨d, ⟨hd2, hd13⟩, rfl, hg⟩ := hrel
        clear HG
        by_cases hdl : d ≤ 12
        · have x1 : World.cell? _ _ = some (.slice ua rs.length uc) := hg.out.2.1.cell 1
          have hdd : decide ((d : Int) ≤ 12) = true := decide_eq_true (by omega)
          have HG : Hid (RcS w (loftA p (.slice ua rs.length uc)) (w.heap.size + 1) rs (d * 5 + 0) wr) := hg
          clear hg
          go_wp2
          clear x1
          go_loopw [34] (fun t wr => ∃ k : Nat, k ≤ rs.length ∧ t = .int .i64 k ∧ Hid (RcS w (loftA p (.slice ua rs.length uc)) (w.heap.size + 1) rs (d * 5 + k) wr)) (fun t _ => rs.length - (intOf t).toNat)
          case atStart => exact ⟨0, Nat.zero_le _, rfl, HG⟩
          case round =>
            obtain ⟨k, hk, rfl, hg⟩ := hrel
            clear HG
            by_cases hlt : k < rs.length
            · obtain ⟨b, off, rfl, hb, c0⟩ := HU.out wr hg.out.2.2.1 k hlt
              obtain ⟨e1, e2⟩ := HRT.out k (by omega)
              rw [e1] at c0
              obtain ⟨n, hn⟩ : ∃ n, d = n + 2 := ⟨d - 2, by omega⟩
              have CA := FA.out (fil rs (d * 5 + k)) (w.heap.size + 1) k (d - 1) wr.drew (fil_lt _ _) hg.out.1.drew (by omega) (by omega)
              have hcg : Lf.af (fun g => fil rs (d * 5 + k) ((d - 1) * 5 + g)) k = Lf.af (Lf.mk rs n) k := af_congr (by omega) fun g hg => by
                have := fil_at (rs := rs) (t := d * 5 + k) (n := n) (g := g) hg (by omega)
                rw [← this]; congr 2; omega
              rw [hcg] at CA
              have HM := Lib.hid (mk_succ rs n k)
              have hv := any_shl (Lf.af (Lf.mk rs n) k) (Lf.rt rs k) (Lf.mk rs (n + 1) k) HM.out
              have HST := Lib.hid (fun M hM => hg.out.set (M := M) (by omega) hM)
              have d0 := Rc_at hg.out.1.drew (i := d * 5 + k) (by omega)
              have f0 := hg.out.1.drew.frozen (d * 5 + k)
              have hblk := hg.out.1.lt
              have HS1 := Lib.hid (HST.out (Lf.mk rs (n + 1) k) (by rw [show (d * 5 + k) / 5 - 1 = n + 1 by omega, show (d * 5 + k) % 5 = k by omega]))
              have hd1 : ((d - 1 : Nat) : Int) = (d : Int) - 1 := by omega
              rw [hd1] at CA
              have HCA := Lib.hid CA
              have g1 : IntKind.i64.wrap ((d : Int) - 1) = (d : Int) - 1 := IntWalk.i64_in _ ⟨by omega, by omega⟩
              have hk5 : k < 5 := by omega
              clear hg e1 HST HM hcg CA hn hd1
              generalize fil rs (d * 5 + k) (d * 5 + k) = old at *
              generalize Lf.mk rs (n + 1) k = M at *
              generalize Lf.af (Lf.mk rs n) k = A at *
              generalize Lf.rt rs k = r at *
              go_upto_region 13 with fail
              refine wp_region_seq [(0, true), (1, true), (2, true), (3, true), (4, true), (5, true), (6, true), (8, true), (10, true), (11, true), (7, false), (9, true), (12, true), (13, false)] (fun _ => True)
                (by kernel_rfl) (by kernel_rfl) (by kernel_rfl) (by kernel_rfl) (fun d _ _ _ _ h => by cases d <;> exact h) trivial (fun _ => ?_)
              repeat (first | (refine SeqH.take (v := ?_) rfl (by rfl) ?_ ?_; rotate_left; (· intro w _; go_simp; (try rw [if_pos (by omega)]); (try with_reducible rfl)); simp only [Act.put, List.setIfInBounds_toArray, List.set_cons_zero, List.set_cons_succ]) | (refine SeqH.skip rfl (by rfl) ?_; simp only [Act.put, List.setIfInBounds_toArray, List.set_cons_zero, List.set_cons_succ]))
              refine SeqH.step rfl (by rfl) (fun K hK => ?_)
              go_simp
              go_at_call 122
              refine HCA.out.mono ?_
              rintro e w7 ⟨rfl, rfl⟩
              try dsimp only
              refine hK.out _ _ trivial (fun _ => ?_)
              clear hK K
              try simp only [Act.put, List.setIfInBounds_toArray, List.set_cons_zero, List.set_cons_succ]
              repeat (first | (refine SeqH.take (v := ?_) rfl (by rfl) ?_ ?_; rotate_left; (· intro w _; go_simp; (try rw [if_pos (by omega)]); (try with_reducible rfl)); simp only [Act.put, List.setIfInBounds_toArray, List.set_cons_zero, List.set_cons_succ]) | (refine SeqH.skip rfl (by rfl) ?_; simp only [Act.put, List.setIfInBounds_toArray, List.set_cons_zero, List.set_cons_succ]))
              refine SeqH.step rfl (by rfl) (fun K hK => ?_)
              go_simp
              refine hK.out _ _ trivial (fun _ => ?_)
              clear hK K
              try simp only [Act.put, List.setIfInBounds_toArray, List.set_cons_zero, List.set_cons_succ]
              refine SeqH.done ?_
              clear hv g1 d0 f0
              go_wp2
              go_roundw
              case rel => exact ⟨k + 1, by omega, by go_num, Lib.hid HS1.out.drew⟩
              case measure => simp [intOf]; omega
            · obtain rfl : k = rs.length := by omega
              have HG : Hid (RcS w (loftA p (.slice ua rs.length uc)) (w.heap.size + 1) rs ((d + 1) * 5) wr) := Lib.hid (by have := hg.out; rw [show d * 5 + rs.length = (d + 1) * 5 by have := H5.out; omega] at this; exact this)
              clear hg
              go_wp2
              go_roundw
              case rel => exact ⟨d + 1, ⟨by omega, by omega⟩, by go_num, HG⟩
              case measure => simp [intOf]; omega
        · obtain rfl : d = 13 := by omega
          have HG := Lib.hid hg.out
          clear hg
          go_wp2
          go_ret
          exact ⟨rfl, HG.out.1, HG.out.2.2.1⟩
end Go.Proofs.Ytabfcnfddemblaa.Lo
