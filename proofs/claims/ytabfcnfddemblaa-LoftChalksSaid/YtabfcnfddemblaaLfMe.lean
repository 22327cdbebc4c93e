/- Sets of sums as bits in memory: what single days, days behind a heat, and bounds make. The sums that days can have, as bits: of the program. The first heats of the fewest days: of the program. Program and Warmth: of the program; Warmth of the reference. -/
import Derived.Test.YtabfcnfddemblaaLfMd
namespace Go.Proofs.Ytabfcnfddemblaa.Lo
open Go.RowKit

theorem wrap_nat (a : Nat) : IntKind.u64.wrap (a : Int) = ((a % 2 ^ 64 : Nat) : Int) := by
  simp [IntKind.wrap, IntKind.signed, IntKind.bits]
theorem wrap_lt {a : Nat} (h : a < 2 ^ 64) : IntKind.u64.wrap (a : Int) = (a : Int) := by rw [wrap_nat, Nat.mod_eq_of_lt h]
theorem bits_and {a b : Nat} (ha : a < 2 ^ 64) (hb : b < 2 ^ 64) : bits .and .u64 (a : Int) (b : Int) = ((a &&& b : Nat) : Int) := by
  have h : a &&& b < 2 ^ 64 := Nat.and_lt_two_pow _ hb
  unfold bits
  have e1 : BitVec.ofInt IntKind.u64.bits (a : Int) = BitVec.ofNat 64 a := by simp [IntKind.bits]
  have e2 : BitVec.ofInt IntKind.u64.bits (b : Int) = BitVec.ofNat 64 b := by simp [IntKind.bits]
  rw [e1, e2]
  show IntKind.u64.wrap (((BitVec.ofNat 64 a &&& BitVec.ofNat 64 b).toNat : Nat) : Int) = _
  rw [BitVec.toNat_and, BitVec.toNat_ofNat, BitVec.toNat_ofNat, Nat.mod_eq_of_lt ha, Nat.mod_eq_of_lt hb]
  exact wrap_lt h
theorem bits_or {a b : Nat} (ha : a < 2 ^ 64) (hb : b < 2 ^ 64) : bits .or .u64 (a : Int) (b : Int) = ((a ||| b : Nat) : Int) := by
  have h : a ||| b < 2 ^ 64 := Nat.or_lt_two_pow ha hb
  unfold bits
  have e1 : BitVec.ofInt IntKind.u64.bits (a : Int) = BitVec.ofNat 64 a := by simp [IntKind.bits]
  have e2 : BitVec.ofInt IntKind.u64.bits (b : Int) = BitVec.ofNat 64 b := by simp [IntKind.bits]
  rw [e1, e2]
  show IntKind.u64.wrap (((BitVec.ofNat 64 a ||| BitVec.ofNat 64 b).toNat : Nat) : Int) = _
  rw [BitVec.toNat_or, BitVec.toNat_ofNat, BitVec.toNat_ofNat, Nat.mod_eq_of_lt ha, Nat.mod_eq_of_lt hb]
  exact wrap_lt h
theorem pow_int (r : Nat) : ((2 : Int) ^ r) = ((2 ^ r : Nat) : Int) := by simp
theorem from_val {x y : Nat} (hle : 2 ^ y ≤ 2 ^ x) (hlt : 2 ^ x < 2 ^ 64) : IntKind.u64.wrap (IntKind.u64.wrap ((2 : Int) ^ x) - IntKind.u64.wrap ((2 : Int) ^ y)) = ((2 ^ x - 2 ^ y : Nat) : Int) := by
  rw [pow_int, pow_int, wrap_lt hlt, wrap_lt (Nat.lt_of_le_of_lt hle hlt), ← Int.natCast_sub hle]
  exact wrap_lt (Nat.lt_of_le_of_lt (Nat.sub_le _ _) hlt)
/-- The sets of sums in memory: 13 rows of 5. -/
abbrev ReachT : TypeId := 203
abbrev RcA (m : Nat → Nat) : Array Value := fnV 65 (fun i => .int .u64 ((m i : Nat) : Int))
theorem Rc_at {W : World} {B : Nat} {m : Nat → Nat} (h : BlockAt W B (RcA m) ReachT) {i : Nat} (hi : i < 65) : W.cell? ⟨B, i, none⟩ = some (.int .u64 ((m i : Nat) : Int)) := by
  rw [h.cell, fnV_at hi]
set_option maxRecDepth 100000 in
theorem from_any (a b : Nat) (w : World) (hab : a ≤ b) (hb : b ≤ 60) : Calls Try.prog 121 #[.int .i64 (a : Int), .int .i64 (b : Int)] w fun e w' => e = .returned (.int .u64 ((2 ^ (b + 1) - 2 ^ a : Nat) : Int)) ∧ Below w.heap.size w w' := by
  have hle : 2 ^ a ≤ 2 ^ (b + 1) := Nat.pow_le_pow_right (by decide) (by omega)
  have hlt : 2 ^ (b + 1) < 2 ^ 64 := Nat.pow_lt_pow_right (by decide) (by omega)
  have g1 : IntKind.i64.wrap ((b : Int) + 1) = (b : Int) + 1 := IntWalk.i64_in _ ⟨by omega, by omega⟩
  go_enter Try.func121, Try.ntmps121
  go_upto_region 1 with fail
  go_quiet (fail)
  go_wp2
  go_ret
  exact ⟨congrArg (fun x => Ending.returned (Value.int .u64 x)) (from_val hle hlt), below_drewN (Below.refl _ _) _⟩
set_option maxRecDepth 100000 in
set_option maxHeartbeats 1000000 in
theorem after_any (m : Nat → Nat) (B b d : Nat) (w : World) (hm : ∀ i, m i < 2 ^ 64) (hB : BlockAt w B (RcA m) ReachT) (hb : b ≤ 4) (hd : d ≤ 12) :
    Calls Try.prog 122 #[.pointer (some ⟨B, 0, none⟩), .int .i64 (b : Int), .int .i64 (d : Int)] w fun e w' => e = .returned (.int .u64 ((Lf.af (fun g => m (d * 5 + g)) b : Nat) : Int)) ∧ w = w' := by
  have CL := Lib.hid (fun W => lowest_any (b : Int) W ⟨by omega, by omega⟩)
  have CH := Lib.hid (fun W => highest_any (b : Int) W ⟨by omega, by omega⟩)
  have HC := Lib.hid (fun i (hi : i < 65) => Rc_at hB hi)
  have HO := Lib.hid (fun k => bits_or (Lf.afN_lt (m := fun g => m (d * 5 + g)) (lo := b - 1) (N := 64) (fun g => hm _) k) (hm (d * 5 + (b - 1 + k))))
  have HS : Hid (∀ k, Lf.afN (fun g => m (d * 5 + g)) (b - 1) (k + 1) = Lf.afN (fun g => m (d * 5 + g)) (b - 1) k ||| m (d * 5 + (b - 1 + k))) := Lib.hid fun _ => rfl
  have HE : Hid (Lf.af (fun g => m (d * 5 + g)) b = Lf.afN (fun g => m (d * 5 + g)) (b - 1) (Lf.nN b)) := Lib.hid rfl
  have hN : Lf.nN b = min 4 (b + 1) + 1 - (b - 1) := rfl
  generalize Lf.af (fun g => m (d * 5 + g)) b = E at *
  generalize Lf.nN b = N at *
  have H0 : Hid (Lf.afN (fun g => m (d * 5 + g)) (b - 1) 0 = 0) := Lib.hid rfl
  generalize Lf.afN (fun g => m (d * 5 + g)) (b - 1) = A at *
  have hmax : max 0 ((b : Int) - 1) = ((b - 1 : Nat) : Int) := by omega
  have hmin : min 4 ((b : Int) + 1) = ((min 4 (b + 1) : Nat) : Int) := by omega
  rw [hmax] at CL
  rw [hmin] at CH
  obtain ⟨lo, hlo⟩ : ∃ lo, lo = b - 1 := ⟨_, rfl⟩
  obtain ⟨hi, hhi⟩ : ∃ hi, hi = min 4 (b + 1) := ⟨_, rfl⟩
  rw [← hlo] at CL HO HS hN
  rw [← hhi] at CH hN
  have hlh : lo ≤ hi ∧ hi ≤ 4 := by omega
  have HN := Lib.hid hN
  clear hm hB hmax hmin hlo hhi hN
  obtain ⟨hlh, hh4⟩ := hlh
  go_enter Try.func122, Try.ntmps122
  go_wp2_with fail
  refine (CL.out _).mono ?_
  rintro e w1 ⟨rfl, rfl⟩
  go_wp2
  go_loop [7, 8] (fun s t => ∃ (k : Nat), (lo + k ≤ hi + 1) ∧ t = .int .i64 ((lo + k : Nat) : Int) ∧ ∃ a : Nat, s = .int .u64 (a : Int) ∧ Hid (a = A k)) (fun _ t => hi + 1 - (intOf t).toNat)
  case atStart => exact ⟨0, by omega, rfl, 0, rfl, Lib.hid H0.out.symm⟩
  case round =>
    obtain ⟨k, hk, rfl, a, rfl, hg⟩ := hrel
    by_cases hlt : lo + k ≤ hi
    · have HOk := HO.out k
      have HSk := HS.out k
      rw [← hg.out] at HOk HSk
      have c0 := HC.out (d * 5 + (lo + k)) (by omega)
      rw [← HSk] at HOk
      obtain ⟨a2, ha2⟩ : ∃ a2, a2 = A (k + 1) := ⟨_, rfl⟩
      rw [← ha2] at HOk HSk
      have HX := Lib.hid ha2
      generalize m (d * 5 + (lo + k)) = z at *
      clear HSk hg ha2
      obtain ⟨g, hgg⟩ : ∃ g, g = lo + k := ⟨_, rfl⟩
      rw [← hgg] at c0
      rw [← hgg]
      have hg4 : g ≤ 4 := by omega
      have hgh : g ≤ hi := by omega
      have HG := Lib.hid hgg
      clear hgg hk hlt
      go_wp2_with fail
      refine (CH.out _).mono ?_
      rintro e w1 ⟨rfl, rfl⟩
      go_wp2
      go_round
      case rel => exact ⟨k + 1, by have := HG.out; omega, congrArg (Value.int .i64) (by have := HG.out; omega), a2, rfl, HX⟩
      case measure => simp [intOf]; omega
    · have HX : Hid (a = E) := Lib.hid (by rw [HE.out, hg.out]; congr 1; have := HN.out; omega)
      obtain ⟨g, hgg⟩ : ∃ g, g = lo + k := ⟨_, rfl⟩
      rw [← hgg]
      have hgh : hi < g := by omega
      have hg4 : g ≤ 5 := by omega
      clear hg hgg hk hlt
      go_wp2_with fail
      refine (CH.out _).mono ?_
      rintro e w1 ⟨rfl, rfl⟩
      go_wp2
      go_ret
      exact ⟨by rw [HX.out] <;> rfl, rfl⟩
end Go.Proofs.Ytabfcnfddemblaa.Lo
namespace Go.Proofs.Ytabfcnfddemblaa.Lo
open Go.RowKit

/-- The table up to a place. -/
def fil (rs : List Int) (t i : Nat) : Nat := if 5 ≤ i ∧ i < t then Lf.mk rs (i / 5 - 1) (i % 5) else 0
theorem fil_lt (rs : List Int) (t i : Nat) : fil rs t i < 2 ^ 64 := by
  unfold fil
  split
  · exact Lf.mk_lt _ _ _
  · exact Nat.two_pow_pos _
theorem fil_at {rs : List Int} {t n g : Nat} (hg : g < 5) (ht : (n + 1) * 5 + g < t) : fil rs t ((n + 1) * 5 + g) = Lf.mk rs n g := by
  unfold fil
  rw [if_pos (by omega)]
  congr 1
  · omega
  · omega
theorem fil_set {rs : List Int} {t M : Nat} (h5 : 5 ≤ t) (hM : Lf.mk rs (t / 5 - 1) (t % 5) = M) : (RcA (fil rs t)).setIfInBounds t (.int .u64 (M : Int)) = RcA (fil rs (t + 1)) := by
  unfold RcA
  rw [fnV_set]
  congr 1
  funext i
  unfold updV fil
  by_cases e : i = t
  · subst e
    rw [if_pos rfl, if_pos (by omega), hM]
  · rw [if_neg e]
    dsimp only
    by_cases c : 5 ≤ i ∧ i < t
    · rw [if_pos c, if_pos (by omega)]
    · rw [if_neg c, if_neg (by omega)]
theorem zeros_reach : Try.zeroCells203 = fnV 65 (fun _ => .int .u64 0) := by kernel_rfl
theorem fil_zero (rs : List Int) : RcA (fil rs 5) = fnV 65 (fun _ => .int .u64 0) := by
  refine fnV_congr fun i hi => ?_
  unfold fil
  rw [if_neg (by omega)]; rfl
theorem afN_congr {m m' : Nat → Nat} {lo : Nat} : ∀ k, (∀ j, j < k → m (lo + j) = m' (lo + j)) → Lf.afN m lo k = Lf.afN m' lo k
  | 0, _ => rfl
  | k + 1, h => by rw [Lf.afN, Lf.afN, afN_congr k (fun j hj => h j (by omega)), h k (by omega)]
theorem af_congr {m m' : Nat → Nat} {b : Nat} (hb : b ≤ 4) (h : ∀ g, g < 5 → m g = m' g) : Lf.af m b = Lf.af m' b := by
  unfold Lf.af
  refine afN_congr _ fun j hj => h _ ?_
  unfold Lf.nN at hj
  omega
theorem mk_zero (rs : List Int) (g : Nat) : Lf.mk rs 0 g = 2 ^ Lf.rt rs g % 2 ^ 64 := rfl
theorem mk_succ (rs : List Int) (n g : Nat) : Lf.mk rs (n + 1) g = (Lf.af (Lf.mk rs n) g * 2 ^ Lf.rt rs g) % 2 ^ 64 := rfl
theorem one_shl (r M : Nat) (h : M = 2 ^ r % 2 ^ 64) : IntKind.u64.wrap ((2 : Int) ^ r) = (M : Int) := by rw [pow_int, wrap_nat, h]
theorem any_shl (a r M : Nat) (h : M = (a * 2 ^ r) % 2 ^ 64) : IntKind.u64.wrap ((a : Int) * (2 : Int) ^ r) = (M : Int) := by
  rw [pow_int, ← Int.natCast_mul, wrap_nat, h]
theorem rt_int {rs : List Int} {k : Nat} (h : 0 ≤ rs.getD k 0) : rs.getD k 0 = ((Lf.rt rs k : Nat) : Int) := by unfold Lf.rt; omega
/-- What lies in memory while the table is made. -/
def RcS (w : World) (la : Array Value) (B : Nat) (rs : List Int) (t : Nat) (wr : World) : Prop :=
  BlockAt wr B (RcA (fil rs t)) ReachT ∧ BlockAt wr w.heap.size la LoftT ∧ Below w.heap.size w wr ∧ w.heap.size < B
theorem RcS.set {w : World} {la : Array Value} {B : Nat} {rs : List Int} {t M : Nat} {wr : World} (h : RcS w la B rs t wr) (h5 : 5 ≤ t) (hM : Lf.mk rs (t / 5 - 1) (t % 5) = M) : RcS w la B rs (t + 1) (wr.setCell ⟨B, t, none⟩ (.int .u64 (M : Int))) := by
  obtain ⟨h1, h2, h3, h4⟩ := h
  refine ⟨?_, h2.other (by omega) _, below_set h3 (by omega) _, h4⟩
  have := h1.set t (.int .u64 (M : Int))
  rwa [fil_set h5 hM] at this
theorem RcS.drew {w : World} {la : Array Value} {B : Nat} {rs : List Int} {t : Nat} {wr : World} (h : RcS w la B rs t wr) : RcS w la B rs t wr.drew := ⟨h.1.drew, h.2.1.drew, below_drewN h.2.2.1 1, h.2.2.2⟩
set_option maxRecDepth 100000 in
set_option maxHeartbeats 8000000 in
theorem reachOf_any (p : Int) (u : Value) (rs : List Int) (w : World) (hu : Ints w u rs) (h5 : rs.length = 5) (hr : ∀ k, k < 5 → 0 ≤ rs.getD k 0 ∧ rs.getD k 0 ≤ 9) :
    Calls Try.prog 120 #[loftV p u] w fun e w' => e = .returned (.pointer (some ⟨w.heap.size + 1, 0, none⟩)) ∧ BlockAt w' (w.heap.size + 1) (RcA (fil rs 65)) ReachT ∧ Below w.heap.size w w' := by
  obtain ⟨ua, uc, rfl⟩ := hu.form
  have HW := Lib.hid (loft_box w p (.slice ua rs.length uc))
  have HU := Lib.hid (fun (W : World) (hW : Below w.heap.size w W) => Ints.at (hu.all hW))
  have HRT := Lib.hid (fun k (hk : k < 5) => And.intro (rt_int (hr k hk).1) (show Lf.rt rs k ≤ 9 by have := hr k hk; unfold Lf.rt; omega))
  have FA := Lib.hid (fun (m : Nat → Nat) B b d W hm hB hb hd => after_any m B b d W hm hB hb hd)
  have H5 := Lib.hid h5
  have hl5 : rs.length ≤ 5 := by omega
  have hl5' : 5 ≤ rs.length := by omega
  have x1 : World.cell? _ _ = some (.slice ua rs.length uc) := HW.out.1.cell 1
  have HZ := Lib.hid (show RcS w (loftA p (.slice ua rs.length uc)) (w.heap.size + 1) rs 5 ((w.alloc (.cells (loftA p (.slice ua rs.length uc)) LoftT)).alloc (.cells Try.zeroCells203 ReachT)) from
    ⟨by rw [fil_zero, zeros_reach]; have := BlockAt.new (w.alloc (.cells (loftA p (.slice ua rs.length uc)) LoftT)) (fnV 65 (fun _ => .int .u64 0)) ReachT; simpa using this, HW.out.1.alloc _, below_alloc2 HW.out.2 _, by omega⟩)
  clear hu h5 hr
  go_enter Try.func120, Try.ntmps120
  go_wp2
  clear x1
  go_loopw [14] (fun t wr => ∃ k : Nat, k ≤ rs.length ∧ t = .int .i64 k ∧ Hid (RcS w (loftA p (.slice ua rs.length uc)) (w.heap.size + 1) rs (5 + k) wr)) (fun t _ => rs.length - (intOf t).toNat)
  case atStart => exact ⟨0, Nat.zero_le _, rfl, HZ⟩
  case round =>
    obtain ⟨k, hk, rfl, hg⟩ := hrel
    clear HZ
    by_cases hlt : k < rs.length
    · obtain ⟨b, off, rfl, hb, c0⟩ := HU.out wr hg.out.2.2.1 k hlt
      obtain ⟨e1, e2⟩ := HRT.out k (by omega)
      rw [e1] at c0
      have HM := Lib.hid (mk_zero rs k)
      have hv := one_shl (Lf.rt rs k) (Lf.mk rs 0 k) HM.out
      have HST := Lib.hid (fun M hM => hg.out.set (M := M) (by omega) hM)
      have d0 := Rc_at hg.out.1 (i := 5 + k) (by omega)
      have f0 := hg.out.1.frozen (5 + k)
      have hblk := hg.out.1.lt
      have HS1 := Lib.hid (HST.out (Lf.mk rs 0 k) (by rw [show (5 + k) / 5 - 1 = 0 by omega, show (5 + k) % 5 = k by omega]))
      clear hg e1 HST HM
      generalize fil rs (5 + k) (5 + k) = old at *
      generalize Lf.mk rs 0 k = M at *
      generalize Lf.rt rs k = r at *
      go_wp2_with fail
      go_region
      go_wp2
      go_roundw
      case rel => exact ⟨k + 1, by omega, by go_num, Lib.hid HS1.out.drew⟩
      case measure => simp [intOf]; omega
    · obtain rfl : k = rs.length := by omega
      have HG : Hid (RcS w (loftA p (.slice ua rs.length uc)) (w.heap.size + 1) rs (2 * 5) wr) := Lib.hid (by have := hg.out; rw [show 5 + rs.length = 2 * 5 by have := H5.out; omega] at this; exact this)
      clear hg
      go_wp2
      go_loopw [6] (fun t wr => ∃ d : Nat, (2 ≤ d ∧ d ≤ 13) ∧ t = .int .i64 d ∧ Hid (RcS w (loftA p (.slice ua rs.length uc)) (w.heap.size + 1) rs (d * 5) wr)) (fun t _ => 13 - (intOf t).toNat)
      case atStart => exact ⟨2, ⟨by omega, by omega⟩, rfl, HG⟩
      case round =>
        obtain ⟨d, ⟨hd2, hd13⟩, rfl, hg⟩ := hrel
        clear HG
        by_cases hdl : d ≤ 12
        · have x1 : World.cell? _ _ = some (.slice ua rs.length uc) := hg.out.2.1.cell 1
          have hdd : decide ((d : Int) ≤ 12) = true := decide_eq_true (by omega)
          have HG : Hid (RcS w (loftA p (.slice ua rs.length uc)) (w.heap.size + 1) rs (d * 5 + 0) wr) := hg
          clear hg
          go_wp2
          clear x1
          go_loopw [34] (fun t wr => ∃ k : Nat, k ≤ rs.length ∧ t = .int .i64 k ∧ Hid (RcS w (loftA p (.slice ua rs.length uc)) (w.heap.size + 1) rs (d * 5 + k) wr)) (fun t _ => rs.length - (intOf t).toNat)
          case atStart => exact ⟨0, Nat.zero_le _, rfl, HG⟩
          case round =>
            obtain ⟨k, hk, rfl, hg⟩ := hrel
            clear HG
            by_cases hlt : k < rs.length
            · obtain ⟨b, off, rfl, hb, c0⟩ := HU.out wr hg.out.2.2.1 k hlt
              obtain ⟨e1, e2⟩ := HRT.out k (by omega)
              rw [e1] at c0
              obtain ⟨n, hn⟩ : ∃ n, d = n + 2 := ⟨d - 2, by omega⟩
              have CA := FA.out (fil rs (d * 5 + k)) (w.heap.size + 1) k (d - 1) wr.drew (fil_lt _ _) hg.out.1.drew (by omega) (by omega)
              have hcg : Lf.af (fun g => fil rs (d * 5 + k) ((d - 1) * 5 + g)) k = Lf.af (Lf.mk rs n) k := af_congr (by omega) fun g hg => by
                have := fil_at (rs := rs) (t := d * 5 + k) (n := n) (g := g) hg (by omega)
                rw [← this]; congr 2; omega
              rw [hcg] at CA
              have HM := Lib.hid (mk_succ rs n k)
              have hv := any_shl (Lf.af (Lf.mk rs n) k) (Lf.rt rs k) (Lf.mk rs (n + 1) k) HM.out
              have HST := Lib.hid (fun M hM => hg.out.set (M := M) (by omega) hM)
              have d0 := Rc_at hg.out.1.drew (i := d * 5 + k) (by omega)
              have f0 := hg.out.1.drew.frozen (d * 5 + k)
              have hblk := hg.out.1.lt
              have HS1 := Lib.hid (HST.out (Lf.mk rs (n + 1) k) (by rw [show (d * 5 + k) / 5 - 1 = n + 1 by omega, show (d * 5 + k) % 5 = k by omega]))
              have hd1 : ((d - 1 : Nat) : Int) = (d : Int) - 1 := by omega
              rw [hd1] at CA
              have HCA := Lib.hid CA
              have g1 : IntKind.i64.wrap ((d : Int) - 1) = (d : Int) - 1 := IntWalk.i64_in _ ⟨by omega, by omega⟩
              have hk5 : k < 5 := by omega
              clear hg e1 HST HM hcg CA hn hd1
              generalize fil rs (d * 5 + k) (d * 5 + k) = old at *
              generalize Lf.mk rs (n + 1) k = M at *
              generalize Lf.af (Lf.mk rs n) k = A at *
              generalize Lf.rt rs k = r at *
              go_upto_region 13 with fail
              refine wp_region_seq [(0, true), (1, true), (2, true), (3, true), (4, true), (5, true), (6, true), (8, true), (10, true), (11, true), (7, false), (9, true), (12, true), (13, false)] (fun _ => True)
                (by kernel_rfl) (by kernel_rfl) (by kernel_rfl) (by kernel_rfl) (fun d _ _ _ _ h => by cases d <;> exact h) trivial (fun _ => ?_)
              repeat (first | (refine SeqH.take (v := ?_) rfl (by rfl) ?_ ?_; rotate_left; (· intro w _; go_simp; (try rw [if_pos (by omega)]); (try with_reducible rfl)); simp only [Act.put, List.setIfInBounds_toArray, List.set_cons_zero, List.set_cons_succ]) | (refine SeqH.skip rfl (by rfl) ?_; simp only [Act.put, List.setIfInBounds_toArray, List.set_cons_zero, List.set_cons_succ]))
              refine SeqH.step rfl (by rfl) (fun K hK => ?_)
              go_simp
              go_at_call 122
              refine HCA.out.mono ?_
              rintro e w7 ⟨rfl, rfl⟩
              try dsimp only
              refine hK.out _ _ trivial (fun _ => ?_)
              clear hK K
              try simp only [Act.put, List.setIfInBounds_toArray, List.set_cons_zero, List.set_cons_succ]
              repeat (first | (refine SeqH.take (v := ?_) rfl (by rfl) ?_ ?_; rotate_left; (· intro w _; go_simp; (try rw [if_pos (by omega)]); (try with_reducible rfl)); simp only [Act.put, List.setIfInBounds_toArray, List.set_cons_zero, List.set_cons_succ]) | (refine SeqH.skip rfl (by rfl) ?_; simp only [Act.put, List.setIfInBounds_toArray, List.set_cons_zero, List.set_cons_succ]))
              refine SeqH.step rfl (by rfl) (fun K hK => ?_)
              go_simp
              refine hK.out _ _ trivial (fun _ => ?_)
              clear hK K
              try simp only [Act.put, List.setIfInBounds_toArray, List.set_cons_zero, List.set_cons_succ]
              refine SeqH.done ?_
              clear hv g1 d0 f0
              go_wp2
              go_roundw
              case rel => exact ⟨k + 1, by omega, by go_num, Lib.hid HS1.out.drew⟩
              case measure => simp [intOf]; omega
            · obtain rfl : k = rs.length := by omega
              have HG : Hid (RcS w (loftA p (.slice ua rs.length uc)) (w.heap.size + 1) rs ((d + 1) * 5) wr) := Lib.hid (by have := hg.out; rw [show d * 5 + rs.length = (d + 1) * 5 by have := H5.out; omega] at this; exact this)
              clear hg
              go_wp2
              go_roundw
              case rel => exact ⟨d + 1, ⟨by omega, by omega⟩, by go_num, HG⟩
              case measure => simp [intOf]; omega
        · obtain rfl : d = 13 := by omega
          have HG := Lib.hid hg.out
          clear hg
          go_wp2
          go_ret
          exact ⟨rfl, HG.out.1, HG.out.2.2.1⟩
end Go.Proofs.Ytabfcnfddemblaa.Lo
namespace Go.Proofs.Ytabfcnfddemblaa.Lo
open Go.RowKit

/-- What lies in memory while heats are found. -/
def FiS (w : World) (la : Array Value) (B : Nat) (rs : List Int) (a : Option Addr) (c : Nat) (L : List Int) (wr : World) : Prop :=
  OwnI w.heap.size wr (.slice a L.length c) L ∧ BlockAt wr B (RcA (fil rs 65)) ReachT ∧ BlockAt wr w.heap.size la LoftT ∧ Below w.heap.size w wr
theorem frs_succ (rs : List Int) (n b : Nat) (lo hi : Int) : Lf.frs rs (n + 1) b lo hi = ((Lf.fg rs n b lo hi : Nat) : Int) :: Lf.frs rs n (Lf.fg rs n b lo hi) (lo - Lf.rt rs (Lf.fg rs n b lo hi)) (hi - Lf.rt rs (Lf.fg rs n b lo hi)) := rfl
theorem hit_zero {rs : List Int} {n g W : Nat} {lo hi : Int} (hW : Lf.Wn W lo hi) (hh : hi ≤ 60) (h : Lf.can rs n g lo hi = false) : Lf.mk rs n g &&& W = 0 := by
  apply Decidable.byContradiction
  intro hc
  rw [(Lf.hit hW hh).1 hc] at h; cases h
theorem hit_one {rs : List Int} {n g W : Nat} {lo hi : Int} (hW : Lf.Wn W lo hi) (hh : hi ≤ 60) (h : Lf.can rs n g lo hi = true) : Lf.mk rs n g &&& W ≠ 0 := (Lf.hit hW hh).2 h
theorem shr_int (W r : Nat) : (W : Int) / (2 : Int) ^ r = ((W / 2 ^ r : Nat) : Int) := by rw [pow_int, Int.natCast_ediv]
/-- The heats that are left to find. -/
def FiP (rs : List Int) (N : Nat) (need most : Int) (n b W : Nat) (lo hi : Int) (L : List Int) : Prop :=
  (Lf.Wn W lo hi ∧ hi ≤ 60 ∧ Lf.aft rs n b lo hi = true) ∧ L ++ Lf.frs rs n b lo hi = Lf.frs rs N 0 need most ∧ L.length + n = N
theorem FiP.next {rs : List Int} {N : Nat} {need most : Int} {n b W : Nat} {lo hi : Int} {L : List Int} (h : FiP rs N need most (n + 1) b W lo hi L) {g : Nat} (hg : g = Lf.fg rs n b lo hi) (hr : Lf.rt rs g ≤ 9) :
    FiP rs N need most n g (W / 2 ^ Lf.rt rs g) (lo - Lf.rt rs g) (hi - Lf.rt rs g) (L ++ [(g : Int)]) := by
  obtain ⟨⟨h1, h2, h3⟩, h4, h5⟩ := h
  have hc := Lf.fg_can h2 h3
  rw [← hg] at hc
  refine ⟨⟨Lf.Wn_shift h1 h2 _, by omega, hc.1⟩, ?_, by simp; omega⟩
  rw [frs_succ, ← hg] at h4
  rw [← h4]; simp
set_option maxRecDepth 100000 in
set_option maxHeartbeats 8000000 in
theorem first_any (B N : Nat) (p : Int) (u : Value) (rs : List Int) (W0 : Nat) (need most : Int) (w : World) (hB : BlockAt w B (RcA (fil rs 65)) ReachT) (hu : Ints w u rs) (h5 : rs.length = 5) (hr : ∀ k, k < 5 → 0 ≤ rs.getD k 0 ∧ rs.getD k 0 ≤ 9)
    (hN : N ≤ 12) (hW : Lf.Wn W0 need most) (hm : most ≤ 60) (ha : Lf.aft rs N 0 need most = true) :
    Calls Try.prog 123 #[.pointer (some ⟨B, 0, none⟩), loftV p u, .int .i64 (N : Int), .int .u64 (W0 : Int)] w fun e w' => ∃ a c, e = .returned (.slice a N c) ∧ OwnI w.heap.size w' (.slice a N c) (Lf.frs rs N 0 need most) ∧ Below w.heap.size w w' := by
  obtain ⟨i0, hi0, hz0, hz1, hz2⟩ := info_parts infoInt
  obtain ⟨ua, uc, rfl⟩ := hu.form
  have HW := Lib.hid (loft_box w p (.slice ua rs.length uc))
  have HU := Lib.hid (fun (W : World) (hW : Below w.heap.size w W) => Ints.at (hu.all hW))
  have HRT := Lib.hid (fun k (hk : k < 5) => And.intro (rt_int (hr k hk).1) (show Lf.rt rs k ≤ 9 by have := hr k hk; unfold Lf.rt; omega))
  have hBw := hB.lt
  have HS0 := Lib.hid (show FiS w (loftA p (.slice ua rs.length uc)) B rs none 0 [] (w.alloc (.cells (loftA p (.slice ua rs.length uc)) LoftT)) from ⟨OwnG.nil _ _, hB.alloc _, HW.out.1, HW.out.2⟩)
  have HP0 := Lib.hid (show FiP rs N need most N 0 W0 need most [] from ⟨⟨hW, hm, ha⟩, rfl, by simp⟩)
  have HLO := Lib.hid (fun x W h => lowest_any x W h)
  have HAND := Lib.hid (fun a b (ha : a < 2 ^ 64) (hb : b < 2 ^ 64) => bits_and ha hb)
  have HTL := Lib.hid (Lf.frs_len rs N 0 need most)
  have H5 := Lib.hid h5
  have hl5 : rs.length ≤ 5 := by omega
  have hl5' : 5 ≤ rs.length := by omega
  obtain ⟨T, hT⟩ : ∃ T, T = Lf.frs rs N 0 need most := ⟨_, rfl⟩
  rw [← hT]
  have HT := Lib.hid hT
  clear hu h5 hr hB hW hm ha hT
  go_enter Try.func123, Try.ntmps123
  go_wp2
  go_loopw [2, 3, 9, 10] (fun s t u v wr => ∃ (n b W : Nat) (a : Option Addr) (c : Nat) (L : List Int), (n ≤ 12 ∧ b ≤ 4) ∧ s = .int .i64 n ∧ t = .int .u64 (W : Int) ∧ u = .slice a L.length c ∧ v = .int .i64 b ∧ L.length ≤ 12 ∧ Hid ((∃ lo hi, FiP rs N need most n b W lo hi L) ∧ FiS w (loftA p (.slice ua rs.length uc)) B rs a c L wr)) (fun s _ _ _ _ => (intOf s).toNat)
  case atStart => exact ⟨N, 0, W0, none, 0, [], ⟨hN, by omega⟩, rfl, rfl, rfl, rfl, by simp, Lib.hid ⟨⟨_, _, HP0.out⟩, HS0.out⟩⟩
  case round =>
    obtain ⟨n, b, W, a, c, L, ⟨hn, hb⟩, rfl, rfl, rfl, rfl, hL, hg⟩ := hrel
    clear HS0 HP0
    by_cases hn0 : 0 < n
    · obtain ⟨n1, rfl⟩ : ∃ n1, n = n1 + 1 := ⟨n - 1, by omega⟩
      obtain ⟨⟨lo, hi, hP⟩, hS⟩ := hg.out
      have HP := Lib.hid hP
      have HS := Lib.hid hS
      have CL := Lib.hid (fun W => HLO.out (b : Int) W ⟨by omega, by omega⟩)
      have hmax : max 0 ((b : Int) - 1) = ((b - 1 : Nat) : Int) := by omega
      rw [hmax] at CL
      have hcan := Lf.fg_can hP.1.2.1 hP.1.2.2
      have HCAN := Lib.hid hcan
      have hLN : L.length ≤ 11 := by have := hP.2.2; omega
      have hdn : decide (((n1 + 1 : Nat) : Int) > 0) = true := decide_eq_true (by omega)
      clear hg hP hS hmax hcan
      go_wp2_with fail
      refine (CL.out _).mono ?_
      rintro e w1 ⟨rfl, rfl⟩
      go_wp2
      go_loop [10] (fun t => ∃ g : Nat, (b - 1 ≤ g ∧ g ≤ b + 1) ∧ t = .int .i64 g ∧ Hid (∀ j, b - 1 ≤ j → j < g → Lf.can rs n1 j lo hi = false)) (fun t => b + 2 - (intOf t).toNat)
      case atStart => exact ⟨b - 1, ⟨Nat.le_refl _, by omega⟩, rfl, Lib.hid fun j h1 h2 => by omega⟩
      case round =>
        obtain ⟨g, ⟨hg1, hg2⟩, rfl, hg⟩ := hrel
        have hgle : g ≤ Lf.fg rs n1 b lo hi := by
          apply Decidable.byContradiction
          intro hc
          have h1 := Lf.nr_iff.1 HCAN.out.2.1
          have h2 := hg.out (Lf.fg rs n1 b lo hi) (by omega) (by omega)
          rw [HCAN.out.1] at h2; cases h2
        have hg4 : g ≤ 4 := by have := HCAN.out.2.2; omega
        have c0 := Rc_at HS.out.2.1 (i := (n1 + 1) * 5 + g) (by omega)
        rw [fil_at (by omega) (by omega)] at c0
        have hand := HAND.out (Lf.mk rs n1 g) W (Lf.mk_lt _ _ _) HP.out.1.1.1
        have hz0' := hit_zero (rs := rs) (n := n1) (g := g) HP.out.1.1 HP.out.1.2.1
        have hz1' := hit_one (rs := rs) (n := n1) (g := g) HP.out.1.1 HP.out.1.2.1
        cases hcg : Lf.can rs n1 g lo hi
        · have hz := hz0' hcg
          rw [hz] at hand
          have HI : Hid (∀ j, b - 1 ≤ j → j < g + 1 → Lf.can rs n1 j lo hi = false) := Lib.hid fun j h1 h2 => by
            by_cases e : j = g
            · subst e; exact hcg
            · exact hg.out j h1 (by omega)
          have hgb : g ≤ b := by
            apply Decidable.byContradiction
            intro hc
            have h1 := Lf.nr_iff.1 HCAN.out.2.1
            have h2 := HI.out (Lf.fg rs n1 b lo hi) (by omega) (by omega)
            rw [HCAN.out.1] at h2; cases h2
          generalize Lf.mk rs n1 g = M at *
          clear hz0' hz1' hcg hz hg
          go_wp2
          go_round
          case rel => exact ⟨g + 1, ⟨by omega, by omega⟩, by go_num, HI⟩
          case measure => simp [intOf]; omega
        · have hz := hz1' hcg
          have HFG := Lib.hid (Lf.fg_first hg1 hg2 hg.out hcg)
          generalize hMW : Lf.mk rs n1 g &&& W = Z at *
          generalize Lf.mk rs n1 g = M at *
          have hzb : ((Z : Int) == 0) = false := beq_eq_false_iff_ne.2 (by omega)
          have hzd : decide ((Z : Int) = 0) = false := decide_eq_false (by omega)
          have hzd2 : decide (Z = 0) = false := decide_eq_false (by omega)
          obtain ⟨b2, off2, hua, hb2, d0⟩ := HU.out wr HS.out.2.2.2 g (by omega)
          obtain ⟨e1, e2⟩ := HRT.out g (by omega)
          rw [e1] at d0
          have HNX := Lib.hid (HP.out.next HFG.out e2)
          clear hz0' hz1' hcg hMW hg
          have hown := HS.out.1
          have hsz := HS.out.2.2.2.size
          have hca := cells_new (cs := intL (g : Int)) wr 3
          go_wp2_with (at_builtin; refine wpList_append_own _ rfl _ _ 24 rfl w.heap.size 3 i0 (.int .i64 0) 1 8 Try.underlying24 hi0 hz0 hz1 hz2 rfl (by decide) _ _ _ rfl (hown.alloc _) ⟨wr.heap.size, 0, none⟩ 1 1 (intL (g : Int)) rfl rfl ?c1 (intL_one _) ?c3 ?c4 ?c5 ?_)
          case c1 => first | exact hca | exact fun j u h => h
          case c3 => unfold maxLen; omega
          case c4 => omega
          case c5 => first | omega | (simp; omega)
          intro v' w9 hr9 hg9 _
          have hw9 := (below_alloc2 HS.out.2.2.2 (.cells (intL (g : Int)).toArray 3)).grown hg9 (by simp; omega) (fun j e => (World.ownsRow.lt hown j e).1)
          have hp9 : OwnI w.heap.size w9 v' (L ++ [(g : Int)]) := OwnG.pushed hr9
          have hBR : BlockAt w9 B (RcA (fil rs 65)) ReachT := (HS.out.2.1.alloc _).kept hg9 (BlockAt.not_row HS.out.2.1 (by decide) hown)
          have hBL : BlockAt w9 w.heap.size (loftA p (.slice ua rs.length uc)) LoftT := (HS.out.2.2.1.alloc _).kept hg9 (BlockAt.not_row HS.out.2.2.1 (by decide) hown)
          have hl9 : (L ++ [(g : Int)]).length ≤ 12 := by simp; omega
          obtain ⟨L9, hL9⟩ : ∃ L9, L9 = L ++ [(g : Int)] := ⟨_, rfl⟩
          rw [← hL9] at hp9 hl9 HNX
          obtain ⟨a9, c9, e9⟩ := hp9.form
          subst e9
          have y1 : World.cell? _ _ = some (.slice ua rs.length uc) := hBL.cell 1
          have z0 : World.cell? _ _ = _ := (HU.out w9 hw9 g (by omega)).choose_spec.choose_spec.2.2
          have hua2 := hua
          obtain ⟨b3, off3, hua3, _, z1⟩ := HU.out w9 hw9 g (by omega)
          clear z0
          rw [hua] at hua3
          simp only [Option.some.injEq, Addr.mk.injEq, and_true] at hua3
          obtain ⟨rfl, rfl⟩ := hua3
          rw [e1] at z1
          have HS9 := Lib.hid (show FiS w (loftA p (.slice ua rs.length uc)) B rs a9 c9 L9 w9 from ⟨hp9, hBR, hBL, hw9⟩)
          have hshr := shr_int W (Lf.rt rs g)
          generalize Lf.rt rs g = r at *
          generalize W / 2 ^ r = W9 at *
          clear hown hca hr9 hg9 hw9 hp9 hBR hBL hL9 hand hzb hzd hzd2 d0 c0 e1
          subst hua
          go_wp2
          go_roundw
          case rel => exact ⟨n1, g, W9, a9, c9, L9, ⟨by omega, by omega⟩, by go_num, rfl, rfl, rfl, hl9, Lib.hid ⟨⟨_, _, HNX.out⟩, HS9.out⟩⟩
          case measure => simp [intOf]
    · obtain rfl : n = 0 := by omega
      obtain ⟨⟨lo, hi, hP⟩, hS⟩ := hg.out
      have HE : Hid (L = T) := Lib.hid (by have := hP.2.1; rw [HT.out, ← this]; simp [Lf.frs])
      have HLN := Lib.hid (show L.length = N from hP.2.2)
      have HS := Lib.hid hS
      clear hg hP hS
      go_wp2
      go_ret
      rw [← HE.out, HLN.out]
      exact ⟨a, c, rfl, by rw [← HLN.out]; exact HS.out.1, HS.out.2.2.2⟩
end Go.Proofs.Ytabfcnfddemblaa.Lo
namespace Go.Proofs.Ytabfcnfddemblaa.Lo
open Go.RowKit

theorem lofts_one {W : World} {B : Nat} {p : Int} {v : Value} {rs : List Int} (hB : BlockAt W B (loftA p v) LoftT) (hI : Ints W v rs) : Lofts W (.slice (some ⟨B, 0, none⟩) 1 1) [⟨p, rs⟩] :=
  ⟨_, 1, rfl, Nat.le_refl _, fun k hk => by
    obtain rfl : k = 0 := by simpa using hk
    exact ⟨B, 0, rfl, hB.lt, v, ⟨hB.cell 0, hB.cell 1⟩, hI⟩⟩
theorem fdd_step {c : Nat → Bool} {d : Nat} (h : d ≤ 12) : Lf.fdd c (13 - d) d = if c d = true then d else Lf.fdd c (13 - (d + 1)) (d + 1) := by
  rw [show 13 - d = (13 - (d + 1)) + 1 by omega, Lf.fdd]
theorem dN_def (rs : List Int) (n m : Int) : Lf.dN rs n m = Lf.fdd (fun d => Lf.aft rs d 0 n m) (13 - 1) 1 := rfl
theorem prg_def (rs : List Int) (n m : Int) : Lf.prg rs n m = Lf.frs rs (Lf.dN rs n m) 0 n m := rfl
set_option maxRecDepth 100000 in
set_option maxHeartbeats 4000000 in
theorem program_any (p : Int) (u : Value) (rs : List Int) (n m : Int) (w : World) (hu : Ints w u rs) (h5 : rs.length = 5) (hr : ∀ k, k < 5 → 0 ≤ rs.getD k 0 ∧ rs.getD k 0 ≤ 9) (hnm : Lf.isRp n m = true) :
    Calls Try.prog 80 #[loftV p u, .int .i64 n, .int .i64 m] w fun e w' => ∃ a c, e = .returned (.tuple #[.slice a (Lf.prg rs n m).length c, .bool (decide (0 < Lf.dN rs n m))]) ∧ OwnI w.heap.size w' (.slice a (Lf.prg rs n m).length c) (Lf.prg rs n m) ∧ Below w.heap.size w w' := by
  obtain ⟨⟨n1, n2⟩, ⟨m1, m2⟩⟩ := Lf.isRp_iff.1 hnm
  obtain ⟨a0, rfl⟩ : ∃ a0 : Nat, n = (a0 : Int) := ⟨n.toNat, by omega⟩
  obtain ⟨b0, rfl⟩ : ∃ b0 : Nat, m = (b0 : Int) := ⟨m.toNat, by omega⟩
  have HWn := Lib.hid (Lf.Wn_make (a := a0) (b := b0) (by omega) (by omega))
  have HLEN := Lib.hid (Lf.prg_len rs a0 b0)
  have HPD := Lib.hid (prg_def rs a0 b0)
  have HDD := Lib.hid (dN_def rs a0 b0)
  have HDS := Lib.hid (fun d (hd : d ≤ 12) => fdd_step (c := fun d => Lf.aft rs d 0 (a0 : Int) (b0 : Int)) hd)
  have HHIT := Lib.hid (fun n1 => Lf.hits (rs := rs) (n := n1) (b := 0) HWn.out (by omega))
  have FR := Lib.hid (fun W h => reachOf_any p u rs W h h5 hr)
  have FF := Lib.hid (fun W => from_any a0 b0 W (by omega) (by omega))
  have FA := Lib.hid (fun B d W hB (hd : d ≤ 12) => after_any (fil rs 65) B 0 d W (fil_lt _ _) hB (by omega) hd)
  have F1 := Lib.hid (fun B N W hB h hN ha => first_any B N p u rs _ (a0 : Int) (b0 : Int) W hB h h5 hr hN HWn.out (by omega) ha)
  have HAND := Lib.hid (fun a b (ha : a < 2 ^ 64) (hb : b < 2 ^ 64) => bits_and ha hb)
  have HAFL := Lib.hid (fun n1 => (show Lf.af (Lf.mk rs n1) 0 < 2 ^ 64 from Lf.afN_lt (N := 64) (fun g => Lf.mk_lt rs n1 g) _))
  have HU := Lib.hid hu
  obtain ⟨ua, uc, rfl⟩ := hu.form
  have HW := Lib.hid (loft_box w p (.slice ua rs.length uc))
  have x0 : World.cell? _ _ = some (.int .i64 p) := HW.out.1.cell 0
  have x1 : World.cell? _ _ = some (.slice ua rs.length uc) := HW.out.1.cell 1
  have C1 := Lib.hid (FR.out _ (HU.out.all HW.out.2))
  generalize hWW : 2 ^ (b0 + 1) - 2 ^ a0 = WW at *
  obtain ⟨D, hD⟩ : ∃ D, D = Lf.dN rs a0 b0 := ⟨_, rfl⟩
  obtain ⟨P, hP⟩ : ∃ P, P = Lf.prg rs a0 b0 := ⟨_, rfl⟩
  rw [← hP] at HLEN HPD ⊢
  rw [← hD] at HLEN HPD HDD ⊢
  clear hu h5 hr hnm hWW hD hP FR
  go_enter Try.func80, Try.ntmps80
  go_wp2_with fail
  refine C1.out.mono ?_
  rintro e w1 ⟨rfl, hR, hb1⟩
  have HN1 := Lib.hid (And.intro hR (And.intro (HW.out.1.below hb1 HW.out.1.lt) (below_step HW.out.2 hb1)))
  clear hR hb1 x0 x1 C1
  go_wp2_with fail
  refine (FF.out _).mono ?_
  rintro e w2 ⟨rfl, hb1⟩
  have HN2 := Lib.hid (And.intro (HN1.out.1.below hb1 HN1.out.1.lt) (And.intro (HN1.out.2.1.below hb1 HN1.out.2.1.lt) (below_step HN1.out.2.2 hb1)))
  clear hb1 HN1 FF HW
  simp only [World.size_alloc] at HN2
  generalize hB : w.heap.size + 1 + 1 = B at *
  go_wp2
  go_loop [10] (fun t => ∃ d : Nat, (1 ≤ d ∧ d ≤ 13) ∧ t = .int .i64 d ∧ Hid (Lf.fdd (fun d => Lf.aft rs d 0 (a0 : Int) (b0 : Int)) (13 - d) d = D)) (fun t => 14 - (intOf t).toNat)
  case atStart => exact ⟨1, ⟨by omega, by omega⟩, rfl, Lib.hid HDD.out.symm⟩
  case round =>
    obtain ⟨d, ⟨hd1, hd13⟩, rfl, hg⟩ := hrel
    clear HDD
    by_cases hdl : d ≤ 12
    · obtain ⟨n1, rfl⟩ : ∃ n1, d = n1 + 1 := ⟨d - 1, by omega⟩
      have CA := FA.out B (n1 + 1) w2 HN2.out.1 hdl
      have hcg : Lf.af (fun g => fil rs 65 ((n1 + 1) * 5 + g)) 0 = Lf.af (Lf.mk rs n1) 0 := af_congr (by omega) fun g hg => fil_at hg (by omega)
      rw [hcg] at CA
      have HCA := Lib.hid CA
      have hand := HAND.out (Lf.af (Lf.mk rs n1) 0) WW (HAFL.out n1) HWn.out.1
      have hhit := HHIT.out n1
      have HD1 := HDS.out (n1 + 1) hdl
      rw [hg.out] at HD1
      have HDK := Lib.hid HD1
      have x0 : World.cell? _ _ = some (.int .i64 p) := HN2.out.2.1.cell 0
      have x1 : World.cell? _ _ = some (.slice ua rs.length uc) := HN2.out.2.1.cell 1
      clear hg CA hcg HD1
      generalize hMW : Lf.af (Lf.mk rs n1) 0 &&& WW = Z at *
      generalize Lf.af (Lf.mk rs n1) 0 = M at *
      clear hMW
      cases hc : Lf.aft rs (n1 + 1) 0 (a0 : Int) (b0 : Int)
      · have hz : Z = 0 := by
          apply Decidable.byContradiction
          intro h; rw [hhit.1 h] at hc; cases hc
        subst hz
        have HD2 := Lib.hid (HDK.out.trans (if_neg (by rw [hc]; decide)))
        clear hhit hc HDK
        go_wp2_with fail
        refine HCA.out.mono ?_
        rintro e w7 ⟨rfl, rfl⟩
        clear HCA
        go_wp2
        go_round
        case rel => exact ⟨n1 + 1 + 1, ⟨by omega, by omega⟩, by go_num, Lib.hid HD2.out.symm⟩
        case measure => simp [intOf]; omega
      · have hz := hhit.2 hc
        have HD2 := Lib.hid (HDK.out.trans (if_pos hc))
        have hzb : ((Z : Int) == 0) = false := beq_eq_false_iff_ne.2 (by omega)
        have hzb2 : ((Z : Int) != 0) = true := by rw [bne, hzb]; rfl
        have hzd2 : decide (Z = 0) = false := decide_eq_false (by omega)
        have C2 := Lib.hid (F1.out B (n1 + 1) w2 HN2.out.1 (HU.out.all HN2.out.2.2) hdl hc)
        clear hhit hc HDK hz
        go_wp2_with fail
        refine HCA.out.mono ?_
        rintro e w7 ⟨rfl, rfl⟩
        clear HCA
        go_wp2_with fail
        refine C2.out.mono ?_
        rintro e w8 ⟨a9, c9, rfl, ho, hb1⟩
        have HE := Lib.hid (And.intro (ho.mono HN2.out.2.2.size) (below_step HN2.out.2.2 hb1))
        clear ho hb1 C2 x0 x1
        go_wp2
        go_ret2
        have e1 : P.length = n1 + 1 := HLEN.out.trans HD2.out
        rw [e1, HD2.out]
        refine ⟨a9, c9, rfl, ?_, HE.out.2⟩
        rw [HPD.out, HD2.out]
        exact HE.out.1
    · obtain rfl : d = 13 := by omega
      have HD2 : Hid (D = 0) := Lib.hid hg.out.symm
      clear hg
      go_wp2
      go_ret2
      have e1 : P = [] := by rw [HPD.out, HD2.out]; rfl
      rw [e1, HD2.out]
      exact ⟨none, 0, rfl, OwnG.nil _ _, HN2.out.2.2⟩
theorem p_bad {f : Lf.F} {n m : Int} (h : Lf.valF [f] ≠ 0) : Lf.pE f n m = 1 ∧ Lf.pR f n m = [] ∧ Lf.pB f n m = false := by
  have e : Lf.pE f n m = 1 := by rw [Lf.pE, if_neg h]
  exact ⟨e, by rw [Lf.pR, if_neg (by omega)], by unfold Lf.pB; rw [e]; rfl⟩
theorem p_out {f : Lf.F} {n m : Int} (h : Lf.valF [f] = 0) (h2 : Lf.isRp n m = false) : Lf.pE f n m = 1 ∧ Lf.pR f n m = [] ∧ Lf.pB f n m = false := by
  have e : Lf.pE f n m = 1 := by rw [Lf.pE, if_pos h, if_neg (by rw [h2]; decide)]
  exact ⟨e, by rw [Lf.pR, if_neg (by omega)], by unfold Lf.pB; rw [e]; rfl⟩
theorem p_ok {f : Lf.F} {n m : Int} (h : Lf.valF [f] = 0) (h2 : Lf.isRp n m = true) : Lf.pE f n m = 0 ∧ Lf.pR f n m = Lf.prg f.rs n m ∧ Lf.pB f n m = decide (0 < Lf.dN f.rs n m) := by
  have e : Lf.pE f n m = 0 := by rw [Lf.pE, if_pos h, if_pos h2]
  exact ⟨e, by rw [Lf.pR, if_pos e], by unfold Lf.pB; rw [e]; rfl⟩
/-- A loft in a box, and in a list of one. -/
theorem loft_pair (w : World) (p : Int) (v : Value) (rs : List Int) (hI : Ints w v rs) :
    BlockAt ((w.alloc (.cells (loftA p v) LoftT)).alloc (.cells (loftA p v) LoftT)) w.heap.size (loftA p v) LoftT ∧ Lofts ((w.alloc (.cells (loftA p v) LoftT)).alloc (.cells (loftA p v) LoftT)) (.slice (some ⟨w.heap.size + 1, 0, none⟩) 1 1) [⟨p, rs⟩] ∧
    Below w.heap.size w ((w.alloc (.cells (loftA p v) LoftT)).alloc (.cells (loftA p v) LoftT)) := by
  have hb := below_alloc2 (below_alloc2 (Below.refl w.heap.size w) (.cells (loftA p v) LoftT)) (.cells (loftA p v) LoftT)
  refine ⟨(BlockAt.new w (loftA p v) LoftT).alloc _, lofts_one ?_ (hI.all hb), hb⟩
  have := BlockAt.new (w.alloc (.cells (loftA p v) LoftT)) (loftA p v) LoftT
  simpa using this
set_option maxRecDepth 100000 in
set_option maxHeartbeats 2000000 in
theorem progF_any (p : Int) (u : Value) (rs : List Int) (n m : Int) (w : World) (hu : Ints w u rs) :
    Calls Try.prog 41 #[loftV p u, .int .i64 n, .int .i64 m] w fun e w' => ∃ a c, e = .returned (.tuple #[.slice a (Lf.pR ⟨p, rs⟩ n m).length c, .bool (Lf.pB ⟨p, rs⟩ n m), .int .i64 (Lf.pE ⟨p, rs⟩ n m)]) ∧ OwnI w.heap.size w' (.slice a (Lf.pR ⟨p, rs⟩ n m).length c) (Lf.pR ⟨p, rs⟩ n m) ∧ Below w.heap.size w w' := by
  have HPR := Lib.hid (loft_pair w p u rs hu)
  have HU := Lib.hid hu
  obtain ⟨ua, uc, rfl⟩ := hu.form
  have HW := Lib.hid (loft_box w p (.slice ua rs.length uc))
  have x0 : World.cell? _ _ = some (.int .i64 p) := HW.out.1.cell 0
  have x1 : World.cell? _ _ = some (.slice ua rs.length uc) := HW.out.1.cell 1
  have CV := Lib.hid (valLofts_any _ _ _ HPR.out.2.1)
  have CI := Lib.hid (fun W => isRipe_any n m W)
  clear hu
  by_cases hz : Lf.valF [⟨p, rs⟩] = 0
  case neg =>
    obtain ⟨e1, e2, e3⟩ := p_bad (n := n) (m := m) hz
    rw [e1, e2, e3]
    have hv1 : Lf.valF [(⟨p, rs⟩ : Lf.F)] = 1 := by rcases Lf.valF_01 [(⟨p, rs⟩ : Lf.F)] with h | h; exact absurd h hz; exact h
    rw [hv1] at CV
    clear e1 e2 e3 hz hv1 CI
    go_enter Try.func41, Try.ntmps41
    go_wp2_with fail
    refine CV.out.mono ?_
    rintro e w1 ⟨rfl, hb1⟩
    have HB := Lib.hid (below_step HPR.out.2.2 hb1)
    clear hb1 CV x0 x1
    go_wp2
    refine bodyPost_ret (results_tmp3 rfl _ _ _) rfl ?_
    exact ⟨none, 0, rfl, OwnG.nil _ _, HB.out⟩
  cases hr : Lf.isRp n m
  · obtain ⟨e1, e2, e3⟩ := p_out hz hr
    rw [e1, e2, e3]
    rw [hz] at CV
    rw [hr] at CI
    clear e1 e2 e3 hz hr
    go_enter Try.func41, Try.ntmps41
    go_wp2_with fail
    refine CV.out.mono ?_
    rintro e w1 ⟨rfl, hb1⟩
    have HB := Lib.hid (below_step HPR.out.2.2 hb1)
    clear hb1 CV x0 x1
    go_wp2_with fail
    refine (CI.out _).mono ?_
    rintro e w2 ⟨rfl, rfl⟩
    go_wp2
    refine bodyPost_ret (results_tmp3 rfl _ _ _) rfl ?_
    exact ⟨none, 0, rfl, OwnG.nil _ _, HB.out⟩
  obtain ⟨e1, e2, e3⟩ := p_ok hz hr
  rw [e1, e2, e3]
  have hok := Lf.okF_iff.1 (Lf.valF_one.1 hz)
  have CP := Lib.hid (fun W (hW : Below w.heap.size w W) => program_any p _ rs n m W (HU.out.all hW) hok.2.1 (Lf.okRt_bd hok.2.2) hr)
  rw [hz] at CV
  rw [hr] at CI
  clear e1 e2 e3 hz hr hok
  show Calls _ _ _ _ (fun e w' => ∃ a c, e = .returned (.tuple #[.slice a (Lf.prg rs n m).length c, .bool (decide (0 < Lf.dN rs n m)), .int .i64 0]) ∧ OwnI w.heap.size w' (.slice a (Lf.prg rs n m).length c) (Lf.prg rs n m) ∧ Below w.heap.size w w')
  generalize Lf.prg rs n m = P at *
  generalize decide (0 < Lf.dN rs n m) = D at *
  go_enter Try.func41, Try.ntmps41
  go_wp2_with fail
  refine CV.out.mono ?_
  rintro e w1 ⟨rfl, hb1⟩
  have HB := Lib.hid (And.intro (HPR.out.1.below hb1 HPR.out.1.lt) (below_step HPR.out.2.2 hb1))
  clear hb1 CV x0 x1
  go_wp2_with fail
  refine (CI.out _).mono ?_
  rintro e w2 ⟨rfl, rfl⟩
  have x0 : World.cell? _ _ = some (.int .i64 p) := HB.out.1.cell 0
  have x1 : World.cell? _ _ = some (.slice ua rs.length uc) := HB.out.1.cell 1
  go_wp2_with fail
  refine (CP.out _ HB.out.2).mono ?_
  rintro e w3 ⟨a, c, rfl, ho, hb1⟩
  have HE := Lib.hid (And.intro (ho.mono HB.out.2.size) (below_step HB.out.2 hb1))
  clear ho hb1 x0 x1
  go_wp2
  refine bodyPost_ret (results_tmp3 rfl _ _ _) rfl ?_
  exact ⟨a, c, rfl, HE.out.1, HE.out.2⟩
theorem w_bad {f : Lf.F} {hs : List Int} (h : Lf.valF [f] ≠ 0) : Lf.wE f hs = 1 ∧ Lf.wR f hs = 0 := by
  have e : Lf.wE f hs = 1 := by rw [Lf.wE, if_neg h]
  exact ⟨e, by rw [Lf.wR, if_neg (by omega)]⟩
theorem w_out {f : Lf.F} {hs : List Int} (h : Lf.valF [f] = 0) (h2 : Lf.vHt hs = false) : Lf.wE f hs = 1 ∧ Lf.wR f hs = 0 := by
  have e : Lf.wE f hs = 1 := by rw [Lf.wE, if_pos h, if_neg (by rw [h2]; decide)]
  exact ⟨e, by rw [Lf.wR, if_neg (by omega)]⟩
theorem w_ok {f : Lf.F} {hs : List Int} (h : Lf.valF [f] = 0) (h2 : Lf.vHt hs = true) : Lf.wE f hs = 0 ∧ Lf.wR f hs = Lf.wm f.rs hs hs.length := by
  have e : Lf.wE f hs = 0 := by rw [Lf.wE, if_pos h, if_pos h2]
  exact ⟨e, by rw [Lf.wR, if_pos e]⟩
set_option maxRecDepth 100000 in
set_option maxHeartbeats 2000000 in
theorem warmF_any (p : Int) (u v : Value) (rs hs : List Int) (w : World) (hu : Ints w u rs) (hv : Ints w v hs) :
    Calls Try.prog 35 #[loftV p u, v] w fun e w' => e = .returned (.tuple #[.int .i64 (Lf.wR ⟨p, rs⟩ hs), .int .i64 (Lf.wE ⟨p, rs⟩ hs)]) ∧ Below w.heap.size w w' := by
  have HPR := Lib.hid (loft_pair w p u rs hu)
  have HU := Lib.hid hu
  have HV := Lib.hid hv
  obtain ⟨ua, uc, rfl⟩ := hu.form
  obtain ⟨va, vc, rfl⟩ := hv.form
  have HW := Lib.hid (loft_box w p (.slice ua rs.length uc))
  have x0 : World.cell? _ _ = some (.int .i64 p) := HW.out.1.cell 0
  have x1 : World.cell? _ _ = some (.slice ua rs.length uc) := HW.out.1.cell 1
  have CV := Lib.hid (valLofts_any _ _ _ HPR.out.2.1)
  have CI := Lib.hid (fun W (hW : Below w.heap.size w W) => vHeats_any _ hs W (HV.out.all hW))
  clear hu hv
  by_cases hz : Lf.valF [⟨p, rs⟩] = 0
  case neg =>
    obtain ⟨e1, e2⟩ := w_bad (hs := hs) hz
    rw [e1, e2]
    have hv1 : Lf.valF [(⟨p, rs⟩ : Lf.F)] = 1 := by rcases Lf.valF_01 [(⟨p, rs⟩ : Lf.F)] with h | h; exact absurd h hz; exact h
    rw [hv1] at CV
    clear e1 e2 hz hv1 CI
    go_enter Try.func35, Try.ntmps35
    go_wp2_with fail
    refine CV.out.mono ?_
    rintro e w1 ⟨rfl, hb1⟩
    have HB := Lib.hid (below_step HPR.out.2.2 hb1)
    clear CV x0 x1
    go_wp2
    go_ret2
    exact ⟨rfl, HB.out⟩
  cases hr : Lf.vHt hs
  · obtain ⟨e1, e2⟩ := w_out hz hr
    rw [e1, e2]
    rw [hz] at CV
    rw [hr] at CI
    clear e1 e2 hz hr
    go_enter Try.func35, Try.ntmps35
    go_wp2_with fail
    refine CV.out.mono ?_
    rintro e w1 ⟨rfl, hb1⟩
    have HB := Lib.hid (below_step HPR.out.2.2 hb1)
    clear CV x0 x1
    go_wp2_with fail
    refine (CI.out _ HB.out).mono ?_
    rintro e w2 ⟨rfl, rfl⟩
    go_wp2
    go_ret2
    exact ⟨rfl, HB.out⟩
  obtain ⟨e1, e2⟩ := w_ok hz hr
  rw [e1, e2]
  have hok := Lf.okF_iff.1 (Lf.valF_one.1 hz)
  have hht := Lf.vHt_iff.1 hr
  have CP := Lib.hid (fun W (hW : Below w.heap.size w W) => warm_any p _ _ rs hs W (HU.out.all hW) (HV.out.all hW) hok.2.1 (Lf.okRt_bd hok.2.2) (fun k hk => Lf.okHt_at (hht.2 k hk)) hht.1.2)
  rw [hz] at CV
  rw [hr] at CI
  clear e1 e2 hz hr hok hht
  show Calls _ _ _ _ (fun e w' => e = .returned (.tuple #[.int .i64 (Lf.wm rs hs hs.length), .int .i64 0]) ∧ Below w.heap.size w w')
  generalize Lf.wm rs hs hs.length = X at *
  go_enter Try.func35, Try.ntmps35
  go_wp2_with fail
  refine CV.out.mono ?_
  rintro e w1 ⟨rfl, hb1⟩
  have HB := Lib.hid (And.intro (HPR.out.1.below hb1 HPR.out.1.lt) (below_step HPR.out.2.2 hb1))
  clear CV x0 x1
  go_wp2_with fail
  refine (CI.out _ HB.out.2).mono ?_
  rintro e w2 ⟨rfl, rfl⟩
  have x0 : World.cell? _ _ = some (.int .i64 p) := HB.out.1.cell 0
  have x1 : World.cell? _ _ = some (.slice ua rs.length uc) := HB.out.1.cell 1
  go_wp2_with fail
  refine (CP.out _ HB.out.2).mono ?_
  rintro e w3 ⟨rfl, hb1⟩
  have HE := Lib.hid (below_step HB.out.2 hb1)
  clear hb1 x0 x1
  go_wp2
  go_ret2
  exact ⟨rfl, HE.out⟩
set_option maxRecDepth 100000 in
set_option maxHeartbeats 2000000 in
theorem rwarmF_any (p : Int) (u v : Value) (rs hs : List Int) (w : World) (hu : Ints w u rs) (hv : Ints w v hs) :
    Calls Try.prog 36 #[loftV p u, v] w fun e w' => e = .returned (.tuple #[.int .i64 (Lf.wR ⟨p, rs⟩ hs), .int .i64 (Lf.wE ⟨p, rs⟩ hs)]) ∧ Below w.heap.size w w' := by
  have HPR := Lib.hid (loft_pair w p u rs hu)
  have HU := Lib.hid hu
  have HV := Lib.hid hv
  obtain ⟨ua, uc, rfl⟩ := hu.form
  obtain ⟨va, vc, rfl⟩ := hv.form
  have HW := Lib.hid (loft_box w p (.slice ua rs.length uc))
  have x0 : World.cell? _ _ = some (.int .i64 p) := HW.out.1.cell 0
  have x1 : World.cell? _ _ = some (.slice ua rs.length uc) := HW.out.1.cell 1
  have CV := Lib.hid (rvalLofts_any _ _ _ HPR.out.2.1)
  have CI := Lib.hid (fun W (hW : Below w.heap.size w W) => rvHeats_any _ hs W (HV.out.all hW))
  clear hu hv
  by_cases hz : Lf.valF [⟨p, rs⟩] = 0
  case neg =>
    obtain ⟨e1, e2⟩ := w_bad (hs := hs) hz
    rw [e1, e2]
    have hv1 : Lf.valF [(⟨p, rs⟩ : Lf.F)] = 1 := by rcases Lf.valF_01 [(⟨p, rs⟩ : Lf.F)] with h | h; exact absurd h hz; exact h
    rw [hv1] at CV
    clear e1 e2 hz hv1 CI
    go_enter Try.func36, Try.ntmps36
    go_wp2_with fail
    refine CV.out.mono ?_
    rintro e w1 ⟨rfl, rfl⟩
    have HB := Lib.hid (below_step HPR.out.2.2 (Below.refl _ _))
    clear CV x0 x1
    go_wp2
    go_ret2
    exact ⟨rfl, HB.out⟩
  cases hr : Lf.vHt hs
  · obtain ⟨e1, e2⟩ := w_out hz hr
    rw [e1, e2]
    rw [hz] at CV
    rw [hr] at CI
    clear e1 e2 hz hr
    go_enter Try.func36, Try.ntmps36
    go_wp2_with fail
    refine CV.out.mono ?_
    rintro e w1 ⟨rfl, rfl⟩
    have HB := Lib.hid (below_step HPR.out.2.2 (Below.refl _ _))
    clear CV x0 x1
    go_wp2_with fail
    refine (CI.out _ HB.out).mono ?_
    rintro e w2 ⟨rfl, rfl⟩
    go_wp2
    go_ret2
    exact ⟨rfl, HB.out⟩
  obtain ⟨e1, e2⟩ := w_ok hz hr
  rw [e1, e2]
  have hok := Lf.okF_iff.1 (Lf.valF_one.1 hz)
  have hht := Lf.vHt_iff.1 hr
  have CP := Lib.hid (fun W (hW : Below w.heap.size w W) => rwarm_any p _ _ rs hs W (HU.out.all hW) (HV.out.all hW) hok.2.1 (Lf.okRt_bd hok.2.2) (fun k hk => Lf.okHt_at (hht.2 k hk)) hht.1.2)
  rw [hz] at CV
  rw [hr] at CI
  clear e1 e2 hz hr hok hht
  show Calls _ _ _ _ (fun e w' => e = .returned (.tuple #[.int .i64 (Lf.wm rs hs hs.length), .int .i64 0]) ∧ Below w.heap.size w w')
  generalize Lf.wm rs hs hs.length = X at *
  go_enter Try.func36, Try.ntmps36
  go_wp2_with fail
  refine CV.out.mono ?_
  rintro e w1 ⟨rfl, rfl⟩
  have HB := Lib.hid (And.intro (HPR.out.1.below (Below.refl _ _) HPR.out.1.lt) (below_step HPR.out.2.2 (Below.refl _ _)))
  clear CV x0 x1
  go_wp2_with fail
  refine (CI.out _ HB.out.2).mono ?_
  rintro e w2 ⟨rfl, rfl⟩
  have x0 : World.cell? _ _ = some (.int .i64 p) := HB.out.1.cell 0
  have x1 : World.cell? _ _ = some (.slice ua rs.length uc) := HB.out.1.cell 1
  go_wp2_with fail
  refine (CP.out _ HB.out.2).mono ?_
  rintro e w3 ⟨rfl, hb1⟩
  have HE := Lib.hid (below_step HB.out.2 hb1)
  clear hb1 x0 x1
  go_wp2
  go_ret2
  exact ⟨rfl, HE.out⟩
end Go.Proofs.Ytabfcnfddemblaa.Lo
