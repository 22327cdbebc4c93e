/- Loads with what is known of them, in memory; whether two of them share goods or meet: of the program. -/
import Derived.Test.YtabfcnfddemblaaLf43
namespace Go.Proofs.Ytabfcnfddemblaa.Lo
open Go.RowKit

/-- A load with what is known of it, and the values in which its heats and goods lie. -/
structure KV where
  x : Lf.L
  u : Value
  v : Value
  r : Int
  m : Int
  t : Lf.G
abbrev kV (k : KV) : Value := kvV k.x.l k.x.a k.u k.v k.r k.m k.t
abbrev kA (k : KV) : Array Value := kvA k.x.l k.x.a k.u k.v k.r k.m k.t
def kvC (k : KV) : List Value := [.int .i64 k.x.l, .int .i64 k.x.a, k.u, k.v, .int .i64 k.r, .int .i64 k.m, .int .i64 k.t.p, .int .i64 k.t.n, .int .i64 k.t.m, .int .i64 k.t.a, .int .i64 k.t.u]
theorem kvC_len (k : KV) : (kvC k).length = 11 := rfl
abbrev OwnKv (base : Nat) (w : World) (v : Value) (xs : List KV) : Prop := OwnG 137 11 kvC base w v xs
abbrev Kvs (w : World) (v : Value) (xs : List KV) : Prop := RowsOf 11 kvC w v xs
/-- Its lists can be read, and its numbers are small. -/
def KvW (W : World) (k : KV) : Prop := (Ints W k.u k.x.hs ∧ Ints W k.v k.x.gs) ∧ (0 ≤ k.x.a ∧ k.x.a ≤ 1000) ∧ k.x.hs.length ≤ 1000 ∧ k.x.gs.length ≤ 1000
theorem KvW.all {W W2 : World} {k : KV} (h : KvW W k) (hb : Below W.heap.size W W2) : KvW W2 k := ⟨⟨h.1.1.all hb, h.1.2.all hb⟩, h.2⟩
theorem kv_at {k : KV} {w : World} {b off : Nat} (h : CellsAt (kvC k) w b off) : (w.cell? ⟨b, off, none⟩ = some (.int .i64 k.x.l) ∧ w.cell? ⟨b, off + 1, none⟩ = some (.int .i64 k.x.a) ∧ w.cell? ⟨b, off + 2, none⟩ = some k.u ∧ w.cell? ⟨b, off + 3, none⟩ = some k.v) ∧ (w.cell? ⟨b, off + 4, none⟩ = some (.int .i64 k.r) ∧ w.cell? ⟨b, off + 5, none⟩ = some (.int .i64 k.m)) ∧
    w.cell? ⟨b, off + 6, none⟩ = some (.int .i64 k.t.p) ∧ w.cell? ⟨b, off + 7, none⟩ = some (.int .i64 k.t.n) ∧ w.cell? ⟨b, off + 8, none⟩ = some (.int .i64 k.t.m) ∧ w.cell? ⟨b, off + 9, none⟩ = some (.int .i64 k.t.a) ∧ w.cell? ⟨b, off + 10, none⟩ = some (.int .i64 k.t.u) :=
  ⟨⟨by have := h 0 _ rfl; simpa using this, h 1 _ rfl, h 2 _ rfl, h 3 _ rfl⟩, ⟨h 4 _ rfl, h 5 _ rfl⟩, h 6 _ rfl, h 7 _ rfl, h 8 _ rfl, h 9 _ rfl, h 10 _ rfl⟩
theorem any_hit {α : Type} {l : List α} {f : α → Bool} {j : Nat} (hj : j < l.length) (h : f l[j] = true) : l.any f = true := List.any_eq_true.2 ⟨_, List.getElem_mem hj, h⟩
theorem any_miss {α : Type} {l : List α} {f : α → Bool} (h : ∀ j (hj : j < l.length), f l[j] = false) : l.any f = false := Bool.eq_false_iff.2 fun hc => by
  obtain ⟨x, hx, h2⟩ := List.any_eq_true.1 hc
  obtain ⟨j, hj, rfl⟩ := List.mem_iff_getElem.1 hx
  rw [h j hj] at h2; cases h2
set_option maxRecDepth 20000 in
set_option maxHeartbeats 1000000 in
theorem indexI_any (v : Value) (l : List Int) (n : Int) (w : World) (hv : Ints w v l) (hn : l.length ≤ 1000) :
    Calls Try.prog 152 #[v, .int .i64 n] w fun e w' => ∃ z : Int, e = .returned (.int .i64 z) ∧ decide (0 ≤ z) = l.any (fun m => decide (n = m)) ∧ w = w' := by
  obtain ⟨va, vc, rfl⟩ := hv.form
  have HA := Lib.hid (Ints.at hv)
  have HH := Lib.hid (fun j (hj : j < l.length) (h : decide (n = l[j]) = true) => any_hit (f := fun m => decide (n = m)) hj h)
  have HN := Lib.hid (fun (h : ∀ j (hj : j < l.length), decide (n = l[j]) = false) => any_miss (f := fun m => decide (n = m)) h)
  clear hv
  generalize l.any (fun m => decide (n = m)) = R at *
  go_enter Try.func152, Try.ntmps152
  go_wp2
  go_loop [8] (fun t => ∃ j : Nat, j ≤ l.length ∧ t = .int .i64 j ∧ Hid (∀ q (hq : q < l.length), q < j → decide (n = l[q]) = false)) (fun t => l.length - (intOf t).toNat)
  case atStart => exact ⟨0, Nat.zero_le _, rfl, Lib.hid fun j _ h => absurd h (Nat.not_lt_zero _)⟩
  case round =>
    obtain ⟨j, hj, rfl, hg⟩ := hrel
    by_cases hlt : j < l.length
    · obtain ⟨b, off, rfl, hb, c0⟩ := HA.out j hlt
      have HJ := Lib.hid (HH.out j hlt)
      have HI : Hid (decide (n = l[j]) = false → ∀ q (hq : q < l.length), q < j + 1 → decide (n = l[q]) = false) := Lib.hid fun h q hq hqj => by
        by_cases e : q = j
        · subst e; exact h
        · exact hg.out q hq (by omega)
      rw [show l.getD j 0 = l[j] by simp [hlt]] at c0
      clear hg
      generalize l[j] = y at *
      by_cases he : n = y
      · have hd : decide (n = y) = true := decide_eq_true he
        have hd2 : (n == y) = true := beq_iff_eq.2 he
        have HJ2 := Lib.hid (HJ.out hd)
        clear HI HJ he
        go_wp2
        go_ret
        exact ⟨(j : Int), rfl, by rw [HJ2.out]; simp, rfl⟩
      · have hd : decide (n = y) = false := decide_eq_false he
        have hd2 : (n == y) = false := beq_eq_false_iff_ne.2 he
        have HI2 := Lib.hid (HI.out hd)
        clear HI HJ he
        go_wp2
        go_round
        case rel => exact ⟨j + 1, by omega, by go_num, Lib.hid HI2.out⟩
        case measure => simp [intOf]; omega
    · obtain rfl : j = l.length := by omega
      have HL := Lib.hid (HN.out fun q hq => hg.out q hq hq)
      clear hg
      go_wp2
      go_ret
      exact ⟨-1, rfl, by rw [HL.out]; decide, rfl⟩
set_option maxRecDepth 20000 in
set_option maxHeartbeats 1000000 in
theorem containsI_any (v : Value) (l : List Int) (n : Int) (w : World) (hv : Ints w v l) (hn : l.length ≤ 1000) :
    Calls Try.prog 132 #[v, .int .i64 n] w fun e w' => e = .returned (.bool (l.any (fun m => decide (n = m)))) ∧ w = w' := by
  have C := Lib.hid (indexI_any v l n w hv hn)
  obtain ⟨va, vc, rfl⟩ := hv.form
  clear hv
  generalize l.any (fun m => decide (n = m)) = R at *
  go_enter Try.func132, Try.ntmps132
  go_wp2_with fail
  refine C.out.mono ?_
  rintro e w1 ⟨z, rfl, hz, rfl⟩
  have HZ := Lib.hid hz
  clear hz
  go_wp2
  go_ret
  exact ⟨by rw [← HZ.out]; rfl, rfl⟩
set_option maxRecDepth 20000 in
set_option maxHeartbeats 1000000 in
theorem shares1_any (B : Nat) (v : Value) (l : List Int) (n : Int) (w : World) (hB : w.cell? ⟨B, 3, none⟩ = some v) (hv : Ints w v l) (hn : l.length ≤ 1000) :
    Calls Try.prog 151 #[.int .i64 n, .pointer (some ⟨B, 0, none⟩)] w fun e w' => e = .returned (.bool (l.any (fun m => decide (n = m)))) ∧ Below w.heap.size w w' := by
  have C := Lib.hid (containsI_any v l n w hv hn)
  obtain ⟨va, vc, rfl⟩ := hv.form
  clear hv
  generalize l.any (fun m => decide (n = m)) = R at *
  go_enter Try.func151, Try.ntmps151
  go_wp2_with fail
  refine C.out.mono ?_
  rintro e w1 ⟨rfl, rfl⟩
  go_wp2
  go_ret
  exact ⟨rfl, Below.refl _ _⟩
set_option maxRecDepth 20000 in
set_option maxHeartbeats 1000000 in
theorem indexS (B : Nat) (f : Int → Bool) (v : Value) (l : List Int) (w : World) (hv : Ints w v l) (hn : l.length ≤ 1000)
    (HF : ∀ k (hk : k < l.length) W, Below w.heap.size w W → Calls Try.prog 151 #[.int .i64 l[k], .pointer (some ⟨B, 0, none⟩)] W fun e W' => e = .returned (.bool (f l[k])) ∧ Below W.heap.size W W') :
    Calls Try.prog 167 #[v, .func (.func 151) #[] #[.pointer (some ⟨B, 0, none⟩)]] w fun e w' => ∃ z : Int, e = .returned (.int .i64 z) ∧ decide (0 ≤ z) = l.any f ∧ Below w.heap.size w w' := by
  obtain ⟨va, vc, rfl, _, hk⟩ := hv
  have HK := Lib.hid hk
  have CC := Lib.hid HF
  have HH := Lib.hid (fun j (hj : j < l.length) (h : f l[j] = true) => any_hit hj h)
  have HN := Lib.hid (fun (h : ∀ j (hj : j < l.length), f l[j] = false) => any_miss h)
  clear hk HF
  generalize l.any f = R at *
  go_enter Try.func167, Try.ntmps167
  go_wp2
  go_loopw [8] (fun t wr => ∃ j : Nat, j ≤ l.length ∧ t = .int .i64 j ∧ Hid ((∀ q (hq : q < l.length), q < j → f l[q] = false) ∧ Below w.heap.size w wr)) (fun t _ => l.length - (intOf t).toNat)
  case atStart => exact ⟨0, Nat.zero_le _, rfl, Lib.hid ⟨fun j _ h => absurd h (Nat.not_lt_zero _), Below.refl _ _⟩⟩
  case round =>
    obtain ⟨j, hj, rfl, hg⟩ := hrel
    by_cases hlt : j < l.length
    · obtain ⟨b, off, rfl, hb, hr⟩ := HK.out j hlt
      have c0 := int_at (hr.below hg.out.2 hb)
      rw [Nat.mul_one] at c0
      have C1 := Lib.hid (CC.out j hlt _ hg.out.2)
      have HJ := Lib.hid (HH.out j hlt)
      have HI : Hid (f l[j] = false → ∀ q (hq : q < l.length), q < j + 1 → f l[q] = false) := Lib.hid fun h q hq hqj => by
        by_cases e : q = j
        · subst e; exact h
        · exact hg.out.1 q hq (by omega)
      have HG := Lib.hid hg.out.2
      clear hg hr
      generalize f l[j] = r at *
      generalize l[j] = s at *
      
      go_wp2_with fail
      refine C1.out.mono ?_
      rintro e w1 ⟨rfl, hb1⟩
      have HG1 := Lib.hid (below_step HG.out hb1)
      clear C1 HG hb1
      cases r
      · have HI2 := Lib.hid (HI.out rfl)
        clear HI HJ
        go_wp2
        go_roundw
        case rel => exact ⟨j + 1, by omega, by go_num, Lib.hid ⟨HI2.out, HG1.out⟩⟩
        case measure => simp [intOf]; omega
      · have HJ2 := Lib.hid (HJ.out rfl)
        clear HI HJ
        go_wp2
        go_ret
        exact ⟨(j : Int), rfl, by rw [HJ2.out]; simp, HG1.out⟩
    · obtain rfl : j = l.length := by omega
      have HL := Lib.hid (HN.out fun q hq => hg.out.1 q hq hq)
      have hw := hg.out.2
      clear hg
      go_wp2
      go_ret
      exact ⟨-1, rfl, by rw [HL.out]; decide, hw⟩
set_option maxRecDepth 20000 in
set_option maxHeartbeats 1000000 in
theorem containsS (B : Nat) (f : Int → Bool) (v : Value) (l : List Int) (w : World) (hv : Ints w v l) (hn : l.length ≤ 1000)
    (HF : ∀ k (hk : k < l.length) W, Below w.heap.size w W → Calls Try.prog 151 #[.int .i64 l[k], .pointer (some ⟨B, 0, none⟩)] W fun e W' => e = .returned (.bool (f l[k])) ∧ Below W.heap.size W W') :
    Calls Try.prog 150 #[v, .func (.func 151) #[] #[.pointer (some ⟨B, 0, none⟩)]] w fun e w' => e = .returned (.bool (l.any f)) ∧ Below w.heap.size w w' := by
  have C := Lib.hid (indexS B f v l w hv hn HF)
  obtain ⟨va, vc, rfl⟩ := hv.form
  clear hv HF
  generalize l.any f = R at *
  go_enter Try.func150, Try.ntmps150
  go_wp2_with fail
  refine C.out.mono ?_
  rintro e w1 ⟨z, rfl, hz, hb1⟩
  have HB := Lib.hid hb1
  have HZ := Lib.hid hz
  clear hb1 hz
  go_wp2
  go_ret
  exact ⟨by rw [← HZ.out]; rfl, HB.out⟩
set_option maxRecDepth 20000 in
set_option maxHeartbeats 1000000 in
theorem indexSh (x : KV) (f : KV → Bool) (v : Value) (l : List KV) (w : World) (hv : Kvs w v l) (hn : l.length ≤ 1000)
    (HF : ∀ k (hk : k < l.length) W, Below w.heap.size w W → Calls Try.prog 129 #[kV x, kV l[k]] W fun e W' => e = .returned (.bool (f l[k])) ∧ Below W.heap.size W W') :
    Calls Try.prog 149 #[v, .func (.func 129) #[kV x] #[]] w fun e w' => ∃ z : Int, e = .returned (.int .i64 z) ∧ decide (0 ≤ z) = l.any f ∧ Below w.heap.size w w' := by
  obtain ⟨va, vc, rfl, _, hk⟩ := hv
  have HK := Lib.hid hk
  have CC := Lib.hid HF
  have HH := Lib.hid (fun j (hj : j < l.length) (h : f l[j] = true) => any_hit hj h)
  have HN := Lib.hid (fun (h : ∀ j (hj : j < l.length), f l[j] = false) => any_miss h)
  clear hk HF
  generalize l.any f = R at *
  go_enter Try.func149, Try.ntmps149
  go_wp2
  go_loopw [8] (fun t wr => ∃ j : Nat, j ≤ l.length ∧ t = .int .i64 j ∧ Hid ((∀ q (hq : q < l.length), q < j → f l[q] = false) ∧ Below w.heap.size w wr)) (fun t _ => l.length - (intOf t).toNat)
  case atStart => exact ⟨0, Nat.zero_le _, rfl, Lib.hid ⟨fun j _ h => absurd h (Nat.not_lt_zero _), Below.refl _ _⟩⟩
  case round =>
    obtain ⟨j, hj, rfl, hg⟩ := hrel
    by_cases hlt : j < l.length
    · obtain ⟨b, off, rfl, hb, hr⟩ := HK.out j hlt
      obtain ⟨⟨c0, c1, c2, c3⟩, ⟨c4, c5⟩, c6, c7, c8, c9, c10⟩ := kv_at (hr.below hg.out.2 hb)
      have C1 := Lib.hid (CC.out j hlt _ hg.out.2)
      have HJ := Lib.hid (HH.out j hlt)
      have HI : Hid (f l[j] = false → ∀ q (hq : q < l.length), q < j + 1 → f l[q] = false) := Lib.hid fun h q hq hqj => by
        by_cases e : q = j
        · subst e; exact h
        · exact hg.out.1 q hq (by omega)
      have HG := Lib.hid hg.out.2
      clear hg hr
      generalize f l[j] = r at *
      generalize l[j] = s at *
      obtain ⟨⟨xl, xa, xh, xg⟩, su, sv, sr, sm, ⟨tp, tn, tm, ta, tu⟩⟩ := s
      dsimp only at *
      go_wp2_with fail
      refine C1.out.mono ?_
      rintro e w1 ⟨rfl, hb1⟩
      have HG1 := Lib.hid (below_step HG.out hb1)
      clear C1 HG hb1
      cases r
      · have HI2 := Lib.hid (HI.out rfl)
        clear HI HJ
        go_wp2
        go_roundw
        case rel => exact ⟨j + 1, by omega, by go_num, Lib.hid ⟨HI2.out, HG1.out⟩⟩
        case measure => simp [intOf]; omega
      · have HJ2 := Lib.hid (HJ.out rfl)
        clear HI HJ
        go_wp2
        go_ret
        exact ⟨(j : Int), rfl, by rw [HJ2.out]; simp, HG1.out⟩
    · obtain rfl : j = l.length := by omega
      have HL := Lib.hid (HN.out fun q hq => hg.out.1 q hq hq)
      have hw := hg.out.2
      clear hg
      go_wp2
      go_ret
      exact ⟨-1, rfl, by rw [HL.out]; decide, hw⟩
set_option maxRecDepth 20000 in
set_option maxHeartbeats 1000000 in
theorem containsSh (x : KV) (f : KV → Bool) (v : Value) (l : List KV) (w : World) (hv : Kvs w v l) (hn : l.length ≤ 1000)
    (HF : ∀ k (hk : k < l.length) W, Below w.heap.size w W → Calls Try.prog 129 #[kV x, kV l[k]] W fun e W' => e = .returned (.bool (f l[k])) ∧ Below W.heap.size W W') :
    Calls Try.prog 128 #[v, .func (.func 129) #[kV x] #[]] w fun e w' => e = .returned (.bool (l.any f)) ∧ Below w.heap.size w w' := by
  have C := Lib.hid (indexSh x f v l w hv hn HF)
  obtain ⟨va, vc, rfl⟩ := hv.form
  clear hv HF
  generalize l.any f = R at *
  go_enter Try.func128, Try.ntmps128
  go_wp2_with fail
  refine C.out.mono ?_
  rintro e w1 ⟨z, rfl, hz, hb1⟩
  have HB := Lib.hid hb1
  have HZ := Lib.hid hz
  clear hb1 hz
  go_wp2
  go_ret
  exact ⟨by rw [← HZ.out]; rfl, HB.out⟩
set_option maxRecDepth 20000 in
set_option maxHeartbeats 1000000 in
theorem indexMe (x : KV) (f : KV → Bool) (v : Value) (l : List KV) (w : World) (hv : Kvs w v l) (hn : l.length ≤ 1000)
    (HF : ∀ k (hk : k < l.length) W, Below w.heap.size w W → Calls Try.prog 130 #[kV x, kV l[k]] W fun e W' => e = .returned (.bool (f l[k])) ∧ Below W.heap.size W W') :
    Calls Try.prog 149 #[v, .func (.func 130) #[kV x] #[]] w fun e w' => ∃ z : Int, e = .returned (.int .i64 z) ∧ decide (0 ≤ z) = l.any f ∧ Below w.heap.size w w' := by
  obtain ⟨va, vc, rfl, _, hk⟩ := hv
  have HK := Lib.hid hk
  have CC := Lib.hid HF
  have HH := Lib.hid (fun j (hj : j < l.length) (h : f l[j] = true) => any_hit hj h)
  have HN := Lib.hid (fun (h : ∀ j (hj : j < l.length), f l[j] = false) => any_miss h)
  clear hk HF
  generalize l.any f = R at *
  go_enter Try.func149, Try.ntmps149
  go_wp2
  go_loopw [8] (fun t wr => ∃ j : Nat, j ≤ l.length ∧ t = .int .i64 j ∧ Hid ((∀ q (hq : q < l.length), q < j → f l[q] = false) ∧ Below w.heap.size w wr)) (fun t _ => l.length - (intOf t).toNat)
  case atStart => exact ⟨0, Nat.zero_le _, rfl, Lib.hid ⟨fun j _ h => absurd h (Nat.not_lt_zero _), Below.refl _ _⟩⟩
  case round =>
    obtain ⟨j, hj, rfl, hg⟩ := hrel
    by_cases hlt : j < l.length
    · obtain ⟨b, off, rfl, hb, hr⟩ := HK.out j hlt
      obtain ⟨⟨c0, c1, c2, c3⟩, ⟨c4, c5⟩, c6, c7, c8, c9, c10⟩ := kv_at (hr.below hg.out.2 hb)
      have C1 := Lib.hid (CC.out j hlt _ hg.out.2)
      have HJ := Lib.hid (HH.out j hlt)
      have HI : Hid (f l[j] = false → ∀ q (hq : q < l.length), q < j + 1 → f l[q] = false) := Lib.hid fun h q hq hqj => by
        by_cases e : q = j
        · subst e; exact h
        · exact hg.out.1 q hq (by omega)
      have HG := Lib.hid hg.out.2
      clear hg hr
      generalize f l[j] = r at *
      generalize l[j] = s at *
      obtain ⟨⟨xl, xa, xh, xg⟩, su, sv, sr, sm, ⟨tp, tn, tm, ta, tu⟩⟩ := s
      dsimp only at *
      go_wp2_with fail
      refine C1.out.mono ?_
      rintro e w1 ⟨rfl, hb1⟩
      have HG1 := Lib.hid (below_step HG.out hb1)
      clear C1 HG hb1
      cases r
      · have HI2 := Lib.hid (HI.out rfl)
        clear HI HJ
        go_wp2
        go_roundw
        case rel => exact ⟨j + 1, by omega, by go_num, Lib.hid ⟨HI2.out, HG1.out⟩⟩
        case measure => simp [intOf]; omega
      · have HJ2 := Lib.hid (HJ.out rfl)
        clear HI HJ
        go_wp2
        go_ret
        exact ⟨(j : Int), rfl, by rw [HJ2.out]; simp, HG1.out⟩
    · obtain rfl : j = l.length := by omega
      have HL := Lib.hid (HN.out fun q hq => hg.out.1 q hq hq)
      have hw := hg.out.2
      clear hg
      go_wp2
      go_ret
      exact ⟨-1, rfl, by rw [HL.out]; decide, hw⟩
set_option maxRecDepth 20000 in
set_option maxHeartbeats 1000000 in
theorem containsMe (x : KV) (f : KV → Bool) (v : Value) (l : List KV) (w : World) (hv : Kvs w v l) (hn : l.length ≤ 1000)
    (HF : ∀ k (hk : k < l.length) W, Below w.heap.size w W → Calls Try.prog 130 #[kV x, kV l[k]] W fun e W' => e = .returned (.bool (f l[k])) ∧ Below W.heap.size W W') :
    Calls Try.prog 128 #[v, .func (.func 130) #[kV x] #[]] w fun e w' => e = .returned (.bool (l.any f)) ∧ Below w.heap.size w w' := by
  have C := Lib.hid (indexMe x f v l w hv hn HF)
  obtain ⟨va, vc, rfl⟩ := hv.form
  clear hv HF
  generalize l.any f = R at *
  go_enter Try.func128, Try.ntmps128
  go_wp2_with fail
  refine C.out.mono ?_
  rintro e w1 ⟨z, rfl, hz, hb1⟩
  have HB := Lib.hid hb1
  have HZ := Lib.hid hz
  clear hb1 hz
  go_wp2
  go_ret
  exact ⟨by rw [← HZ.out]; rfl, HB.out⟩
set_option maxRecDepth 20000 in
set_option maxHeartbeats 1000000 in
theorem indexAl (B : Nat) (f : KV → Bool) (v : Value) (l : List KV) (w : World) (hv : Kvs w v l) (hn : l.length ≤ 1000)
    (HF : ∀ k (hk : k < l.length) W, Below w.heap.size w W → Calls Try.prog 131 #[kV l[k], .pointer (some ⟨B, 0, none⟩)] W fun e W' => e = .returned (.bool (f l[k])) ∧ Below W.heap.size W W') :
    Calls Try.prog 149 #[v, .func (.func 131) #[] #[.pointer (some ⟨B, 0, none⟩)]] w fun e w' => ∃ z : Int, e = .returned (.int .i64 z) ∧ decide (0 ≤ z) = l.any f ∧ Below w.heap.size w w' := by
  obtain ⟨va, vc, rfl, _, hk⟩ := hv
  have HK := Lib.hid hk
  have CC := Lib.hid HF
  have HH := Lib.hid (fun j (hj : j < l.length) (h : f l[j] = true) => any_hit hj h)
  have HN := Lib.hid (fun (h : ∀ j (hj : j < l.length), f l[j] = false) => any_miss h)
  clear hk HF
  generalize l.any f = R at *
  go_enter Try.func149, Try.ntmps149
  go_wp2
  go_loopw [8] (fun t wr => ∃ j : Nat, j ≤ l.length ∧ t = .int .i64 j ∧ Hid ((∀ q (hq : q < l.length), q < j → f l[q] = false) ∧ Below w.heap.size w wr)) (fun t _ => l.length - (intOf t).toNat)
  case atStart => exact ⟨0, Nat.zero_le _, rfl, Lib.hid ⟨fun j _ h => absurd h (Nat.not_lt_zero _), Below.refl _ _⟩⟩
  case round =>
    obtain ⟨j, hj, rfl, hg⟩ := hrel
    by_cases hlt : j < l.length
    · obtain ⟨b, off, rfl, hb, hr⟩ := HK.out j hlt
      obtain ⟨⟨c0, c1, c2, c3⟩, ⟨c4, c5⟩, c6, c7, c8, c9, c10⟩ := kv_at (hr.below hg.out.2 hb)
      have C1 := Lib.hid (CC.out j hlt _ hg.out.2)
      have HJ := Lib.hid (HH.out j hlt)
      have HI : Hid (f l[j] = false → ∀ q (hq : q < l.length), q < j + 1 → f l[q] = false) := Lib.hid fun h q hq hqj => by
        by_cases e : q = j
        · subst e; exact h
        · exact hg.out.1 q hq (by omega)
      have HG := Lib.hid hg.out.2
      clear hg hr
      generalize f l[j] = r at *
      generalize l[j] = s at *
      obtain ⟨⟨xl, xa, xh, xg⟩, su, sv, sr, sm, ⟨tp, tn, tm, ta, tu⟩⟩ := s
      dsimp only at *
      go_wp2_with fail
      refine C1.out.mono ?_
      rintro e w1 ⟨rfl, hb1⟩
      have HG1 := Lib.hid (below_step HG.out hb1)
      clear C1 HG hb1
      cases r
      · have HI2 := Lib.hid (HI.out rfl)
        clear HI HJ
        go_wp2
        go_roundw
        case rel => exact ⟨j + 1, by omega, by go_num, Lib.hid ⟨HI2.out, HG1.out⟩⟩
        case measure => simp [intOf]; omega
      · have HJ2 := Lib.hid (HJ.out rfl)
        clear HI HJ
        go_wp2
        go_ret
        exact ⟨(j : Int), rfl, by rw [HJ2.out]; simp, HG1.out⟩
    · obtain rfl : j = l.length := by omega
      have HL := Lib.hid (HN.out fun q hq => hg.out.1 q hq hq)
      have hw := hg.out.2
      clear hg
      go_wp2
      go_ret
      exact ⟨-1, rfl, by rw [HL.out]; decide, hw⟩
set_option maxRecDepth 20000 in
set_option maxHeartbeats 1000000 in
theorem containsAl (B : Nat) (f : KV → Bool) (v : Value) (l : List KV) (w : World) (hv : Kvs w v l) (hn : l.length ≤ 1000)
    (HF : ∀ k (hk : k < l.length) W, Below w.heap.size w W → Calls Try.prog 131 #[kV l[k], .pointer (some ⟨B, 0, none⟩)] W fun e W' => e = .returned (.bool (f l[k])) ∧ Below W.heap.size W W') :
    Calls Try.prog 128 #[v, .func (.func 131) #[] #[.pointer (some ⟨B, 0, none⟩)]] w fun e w' => e = .returned (.bool (l.any f)) ∧ Below w.heap.size w w' := by
  have C := Lib.hid (indexAl B f v l w hv hn HF)
  obtain ⟨va, vc, rfl⟩ := hv.form
  clear hv HF
  generalize l.any f = R at *
  go_enter Try.func128, Try.ntmps128
  go_wp2_with fail
  refine C.out.mono ?_
  rintro e w1 ⟨z, rfl, hz, hb1⟩
  have HB := Lib.hid hb1
  have HZ := Lib.hid hz
  clear hb1 hz
  go_wp2
  go_ret
  exact ⟨by rw [← HZ.out]; rfl, HB.out⟩
end Go.Proofs.Ytabfcnfddemblaa.Lo
