/- The first error of a plan: of the program. -/
import Derived.Test.YtabfcnfddemblaaLf45
namespace Go.Proofs.Ytabfcnfddemblaa.Lo
open Go.RowKit

set_option maxRecDepth 20000 in
set_option maxHeartbeats 2000000 in
theorem checkAfter_any (x : KV) (v : Value) (l : List KV) (w : World) (hx : KvW w x) (hv : Kvs w v l) (hl : ∀ j (hj : j < l.length), KvW w l[j]) (hn : l.length ≤ 1000) :
    Calls Try.prog 88 #[kV x, v] w fun e w' => e = .returned (.int .i64 (if l.any (fun y => Lf.shr x.x y.x) = true then 8 else if l.any (fun y => Lf.mts x.x y.x) = true then 10 else 0)) ∧ Below w.heap.size w w' := by
  have C1 := Lib.hid (fun W (hW : Below w.heap.size w W) => containsSh x (fun y => Lf.shr x.x y.x) v l W (hv.all hW) hn (fun k hk W2 hW2 => shares_any x l[k] W2 (hx.all (below_step hW hW2)) ((hl k hk).all (below_step hW hW2))))
  have C2 := Lib.hid (fun W (hW : Below w.heap.size w W) => containsMe x (fun y => Lf.mts x.x y.x) v l W (hv.all hW) hn (fun k hk W2 hW2 => meets_any x l[k] W2 (hx.all (below_step hW hW2)) ((hl k hk).all (below_step hW hW2))))
  obtain ⟨za, zc, rfl⟩ := hv.form
  obtain ⟨ua, uc, hu⟩ := hx.1.1.form
  obtain ⟨va, vc, hvv⟩ := hx.1.2.form
  have HX := Lib.hid (And.intro (BlockAt.new w (kA x) KvT) (below_alloc2 (Below.refl w.heap.size w) (.cells (kA x) KvT)))
  clear hx hv hl
  generalize l.any (fun y => Lf.shr x.x y.x) = b1 at *
  generalize l.any (fun y => Lf.mts x.x y.x) = b2 at *
  obtain ⟨E, hE⟩ : ∃ E, E = (if b1 = true then (8 : Int) else if b2 = true then 10 else 0) := ⟨_, rfl⟩
  have HEE := Lib.hid hE
  rw [← hE]
  clear hE
  obtain ⟨⟨xl, xa, xh, xg⟩, xu, xv, xr, xm, ⟨xp, xn, xo, xs, xt⟩⟩ := x
  dsimp only at *
  subst hu hvv
  have x0 : World.cell? _ _ = some (.int .i64 xl) := HX.out.1.cell 0
  have x1 : World.cell? _ _ = some (.int .i64 xa) := HX.out.1.cell 1
  have x2 : World.cell? _ _ = some (.slice ua xh.length uc) := HX.out.1.cell 2
  have x3 : World.cell? _ _ = some (.slice va xg.length vc) := HX.out.1.cell 3
  have x4 : World.cell? _ _ = some (.int .i64 xr) := HX.out.1.cell 4
  have x5 : World.cell? _ _ = some (.int .i64 xm) := HX.out.1.cell 5
  have x6 : World.cell? _ _ = some (.int .i64 xp) := HX.out.1.cell 6
  have x7 : World.cell? _ _ = some (.int .i64 xn) := HX.out.1.cell 7
  have x8 : World.cell? _ _ = some (.int .i64 xo) := HX.out.1.cell 8
  have x9 : World.cell? _ _ = some (.int .i64 xs) := HX.out.1.cell 9
  have x10 : World.cell? _ _ = some (.int .i64 xt) := HX.out.1.cell 10
  go_enter Try.func88, Try.ntmps88
  go_wp2_with fail
  refine (C1.out _ HX.out.2).mono ?_
  rintro e w1 ⟨rfl, hb1⟩
  have HX2 := Lib.hid (And.intro (HX.out.1.below hb1 HX.out.1.lt) (below_step HX.out.2 hb1))
  clear hb1 x0 x1 x2 x3 x4 x5 x6 x7 x8 x9 x10 HX C1
  cases b1
  case true =>
    go_wp2
    go_ret
    exact ⟨ret_int HEE.out.symm, HX2.out.2⟩
  have x0 : World.cell? _ _ = some (.int .i64 xl) := HX2.out.1.cell 0
  have x1 : World.cell? _ _ = some (.int .i64 xa) := HX2.out.1.cell 1
  have x2 : World.cell? _ _ = some (.slice ua xh.length uc) := HX2.out.1.cell 2
  have x3 : World.cell? _ _ = some (.slice va xg.length vc) := HX2.out.1.cell 3
  have x4 : World.cell? _ _ = some (.int .i64 xr) := HX2.out.1.cell 4
  have x5 : World.cell? _ _ = some (.int .i64 xm) := HX2.out.1.cell 5
  have x6 : World.cell? _ _ = some (.int .i64 xp) := HX2.out.1.cell 6
  have x7 : World.cell? _ _ = some (.int .i64 xn) := HX2.out.1.cell 7
  have x8 : World.cell? _ _ = some (.int .i64 xo) := HX2.out.1.cell 8
  have x9 : World.cell? _ _ = some (.int .i64 xs) := HX2.out.1.cell 9
  have x10 : World.cell? _ _ = some (.int .i64 xt) := HX2.out.1.cell 10
  go_wp2_with fail
  refine (C2.out _ HX2.out.2).mono ?_
  rintro e w2 ⟨rfl, hb1⟩
  have HX3 := Lib.hid (below_step HX2.out.2 hb1)
  clear hb1 x0 x1 x2 x3 x4 x5 x6 x7 x8 x9 x10 HX2 C2
  cases b2
  · go_wp2
    go_ret
    exact ⟨ret_int HEE.out.symm, HX3.out⟩
  · go_wp2
    go_ret
    exact ⟨ret_int HEE.out.symm, HX3.out⟩
set_option maxRecDepth 20000 in
set_option maxHeartbeats 1000000 in
theorem checkAll1_any (B : Nat) (n : Int) (x : KV) (w : World) (hB : w.cell? ⟨B, 0, none⟩ = some (.int .i64 n)) (hBl : B < w.heap.size) (hx : KvW w x) :
    Calls Try.prog 131 #[kV x, .pointer (some ⟨B, 0, none⟩)] w fun e w' => e = .returned (.bool (x.x.gs.any fun m => decide (n = m))) ∧ Below w.heap.size w w' := by
  have HX := Lib.hid (And.intro (BlockAt.new w (kA x) KvT) (below_alloc2 (Below.refl w.heap.size w) (.cells (kA x) KvT)))
  have C := Lib.hid (containsI_any x.v x.x.gs n _ (hx.1.2.all HX.out.2) hx.2.2.2)
  have y0 := (HX.out.2.cell (p := ⟨B, 0, none⟩) hBl).trans hB
  obtain ⟨ua, uc, hu⟩ := hx.1.1.form
  obtain ⟨va, vc, hvv⟩ := hx.1.2.form
  clear hx hB
  generalize (x.x.gs.any fun m => decide (n = m)) = R at *
  obtain ⟨⟨xl, xa, xh, xg⟩, xu, xv, xr, xm, ⟨xp, xn, xo, xs, xt⟩⟩ := x
  dsimp only at *
  subst hu hvv
  have x3 : World.cell? _ _ = some (.slice va xg.length vc) := HX.out.1.cell 3
  go_enter Try.func131, Try.ntmps131
  go_wp2_with fail
  refine C.out.mono ?_
  rintro e w1 ⟨rfl, rfl⟩
  go_wp2
  go_ret
  exact ⟨rfl, HX.out.2⟩
def hsK (l : List KV) (n : Int) : Bool := l.any fun y => y.x.gs.any fun m => decide (n = m)
theorem hsK_hsG (l : List KV) (n : Int) : Lf.hsG (l.map KV.x) n = hsK l n := by
  unfold Lf.hsG hsK
  rw [List.any_map]
  congr 1
  funext y
  show (y.x.gs.any fun m => decide (m = n)) = y.x.gs.any fun m => decide (n = m)
  congr 1
  funext m
  exact decide_eq_decide.2 eq_comm
theorem cov_yes {gs : List Lf.G} {l : List KV} (h : ∀ j : Nat, j < gs.length → hsK l (j : Int) = true) : Lf.cov gs (l.map KV.x) = true := List.all_eq_true.2 fun j hj => by rw [hsK_hsG]; exact h j (List.mem_range.1 hj)
theorem cov_no {gs : List Lf.G} {l : List KV} {j : Nat} (hj : j < gs.length) (h : hsK l (j : Int) = false) : Lf.cov gs (l.map KV.x) = false := Bool.eq_false_iff.2 fun hc => by
  have := List.all_eq_true.1 hc j (List.mem_range.2 hj)
  rw [hsK_hsG, h] at this; cases this
set_option maxRecDepth 20000 in
set_option maxHeartbeats 2000000 in
theorem checkAll_any (u : Value) (va : Option Addr) (vc : Nat) (gs : List Lf.G) (v : Value) (l : List KV) (w : World) (hg8 : gs.length ≤ 8) (hv : Kvs w v l) (hl : ∀ j (hj : j < l.length), KvW w l[j]) (hn : l.length ≤ 1000) :
    Calls Try.prog 89 #[.agg #[u, .slice va gs.length vc], v] w fun e w' => e = .returned (.int .i64 (if Lf.cov gs (l.map KV.x) = true then 0 else 11)) ∧ Below w.heap.size w w' := by
  have CA := Lib.hid (fun (j : Nat) W (hW : Below w.heap.size w W) B (hB : BlockAt W B #[.int .i64 (j : Int)] 3) => containsAl B (fun y => y.x.gs.any fun m => decide ((j : Int) = m)) v l W (hv.all hW) hn (fun k hk W2 hW2 => checkAll1_any B j l[k] W2 ((hB.below hW2 hB.lt).cell 0) (hB.below hW2 hB.lt).lt ((hl k hk).all (below_step hW hW2))))
  obtain ⟨za, zc, rfl⟩ := hv.form
  have HX := Lib.hid (And.intro (BlockAt.new w #[u, .slice va gs.length vc] DemT) (below_alloc2 (Below.refl w.heap.size w) (.cells #[u, .slice va gs.length vc] DemT)))
  have HY := Lib.hid (fun h => cov_yes (gs := gs) (l := l) h)
  have HN := Lib.hid (fun (j : Nat) (hj : j < gs.length) h => cov_no (gs := gs) (l := l) hj h)
  have HK : Hid (∀ j : Nat, (l.any fun y => y.x.gs.any fun m => decide ((j : Int) = m)) = hsK l (j : Int)) := Lib.hid fun j => rfl
  have x1 : World.cell? _ _ = some (.slice va gs.length vc) := HX.out.1.cell 1
  clear hv hl
  generalize Lf.cov gs (l.map KV.x) = R at *
  obtain ⟨E, hE⟩ : ∃ E, E = (if R = true then (0 : Int) else 11) := ⟨_, rfl⟩
  have HEE := Lib.hid hE
  rw [← hE]
  clear hE
  go_enter Try.func89, Try.ntmps89
  go_wp2
  clear x1
  go_loopw [9] (fun t wr => ∃ j : Nat, j ≤ gs.length ∧ t = .int .i64 j ∧ Hid ((∀ q : Nat, q < j → hsK l (q : Int) = true) ∧ Below w.heap.size w wr)) (fun t _ => gs.length - (intOf t).toNat)
  case atStart => exact ⟨0, Nat.zero_le _, rfl, Lib.hid ⟨fun q h => absurd h (Nat.not_lt_zero _), HX.out.2⟩⟩
  case round =>
    obtain ⟨j, hj, rfl, hg⟩ := hrel
    clear HX
    by_cases hlt : j < gs.length
    · have HB := Lib.hid (BlockAt.new wr #[.int .i64 (j : Int)] 3)
      have HW := Lib.hid (below_alloc2 hg.out.2 (.cells #[.int .i64 (j : Int)] 3))
      have C1 := Lib.hid (CA.out j _ HW.out _ HB.out)
      rw [HK.out j] at C1
      have HNj := Lib.hid (HN.out j hlt)
      have HI : Hid (hsK l (j : Int) = true → ∀ q : Nat, q < j + 1 → hsK l (q : Int) = true) := Lib.hid fun h q hq => by
        by_cases e : q = j
        · subst e; exact h
        · exact hg.out.1 q (by omega)
      clear hg
      generalize hsK l (j : Int) = r at *
      go_wp2_with fail
      refine C1.out.mono ?_
      rintro e w1 ⟨rfl, hb1⟩
      have HW1 := Lib.hid (below_step HW.out hb1)
      clear hb1 C1 HB HW
      cases r
      · have HE := Lib.hid (HNj.out rfl)
        clear HI HNj
        go_wp2
        go_ret
        exact ⟨ret_int (by rw [HEE.out, HE.out] <;> rfl), HW1.out⟩
      · have HI2 := Lib.hid (HI.out rfl)
        clear HI HNj
        go_wp2
        go_roundw
        case rel => exact ⟨j + 1, by omega, by go_num, Lib.hid ⟨HI2.out, HW1.out⟩⟩
        case measure => simp [intOf]; omega
    · obtain rfl : j = gs.length := by omega
      have HE := Lib.hid (HY.out hg.out.1)
      have HW1 := Lib.hid hg.out.2
      clear hg
      go_wp2
      go_ret
      exact ⟨ret_int (by rw [HEE.out, HE.out] <;> rfl), HW1.out⟩
end Go.Proofs.Ytabfcnfddemblaa.Lo
