/- Whether an article can be cut at a place: of the program, by its spans. -/
import Derived.Test.YtbmjjmpdlmbehaaRoll2
namespace Go.Proofs.Ytbmjjmpdlmbehaa
open Go.RowKit

abbrev OffT : TypeId := 87
abbrev offA (a : Ro.A) (n : Int) (u : Value) : Array Value := #[.int .i64 a.l, .int .i64 a.la, .int .i64 a.mo, .int .i64 a.sh, .int .i64 a.fl, .int .i64 a.p, .int .i64 n, u]
theorem Ro.inS_hit {l : Int} {ss : List Bd.S} {f : Int} {j : Nat} (hj : j < ss.length) (h : (decide (ss[j].f ≤ f) && decide (f ≤ ss[j].t - l)) = true) : Ro.inS l ss f = true :=
  List.any_eq_true.2 ⟨_, List.getElem_mem hj, h⟩
theorem Ro.inS_none {l : Int} {ss : List Bd.S} {f : Int} (h : ∀ j (hj : j < ss.length), (decide (ss[j].f ≤ f) && decide (f ≤ ss[j].t - l)) = false) : Ro.inS l ss f = false := by
  apply Bool.eq_false_iff.2
  intro hc
  obtain ⟨s, hs, h2⟩ := List.any_eq_true.1 hc
  obtain ⟨i, hi, rfl⟩ := List.mem_iff_getElem.1 hs
  rw [h i hi] at h2; cases h2
theorem ret_boolD {p : Prop} [Decidable p] {R : Bool} (h : decide p = R) : Ending.returned (.bool (decide p)) = Ending.returned (.bool R) := by rw [h]

set_option maxRecDepth 20000 in
set_option maxHeartbeats 1000000 in
theorem fitsAt1_any (a : Ro.A) (n : Int) (u : Value) (f : Int) (bo bf : Nat) (s : Bd.S) (w : World) (ho : BlockAt w bo (offA a n u) OffT) (hf : BlockAt w bf #[.int .i64 f] 3) (hl : 1 ≤ a.l ∧ a.l ≤ 300) (hs : Bd.okS s) :
    Calls Try.prog 57 #[spnV s, .pointer (some ⟨bo, 0, none⟩), .pointer (some ⟨bf, 0, none⟩)] w fun e w' => e = .returned (.bool (decide (s.f ≤ f) && decide (f ≤ s.t - a.l))) ∧ Below w.heap.size w w' := by
  have hw := below_alloc2 (Below.refl w.heap.size w) (.cells #[.int .i64 s.f, .int .i64 s.t] 70)
  have c0 : World.cell? w ⟨bo, 0, none⟩ = some (.int .i64 a.l) := ho.cell 0
  have c1 : World.cell? w ⟨bf, 0, none⟩ = some (.int .i64 f) := hf.cell 0
  have l0 := ho.lt
  have l1 := hf.lt
  obtain ⟨h1, h2, h3, h4⟩ := hs
  have g1 : IntKind.i64.wrap (s.t - a.l) = s.t - a.l := IntWalk.i64_in _ ⟨by omega, by omega⟩
  have C := Lib.hid (fun W => rollFrom_any s.f (s.t - a.l) f W)
  generalize (decide (s.f ≤ f) && decide (f ≤ s.t - a.l)) = r at *
  have HW := Lib.hid hw
  clear ho hf hw
  go_enter Try.func57, Try.ntmps57
  go_wp2_with fail
  refine (C.out _).mono ?_
  rintro e w1 ⟨rfl, rfl⟩
  go_wp2
  go_ret
  exact ⟨rfl, HW.out⟩

set_option maxRecDepth 20000 in
set_option maxHeartbeats 1000000 in
theorem indexSpan_any (a : Ro.A) (n : Int) (u : Value) (f : Int) (bo bf : Nat) (v : Value) (ss : List Bd.S) (w : World) (ho : BlockAt w bo (offA a n u) OffT) (hf : BlockAt w bf #[.int .i64 f] 3) (hl : 1 ≤ a.l ∧ a.l ≤ 300) (hv : Spns w v ss) (hss : ∀ s ∈ ss, Bd.okS s) (hn : ss.length ≤ 1000) :
    Calls Try.prog 78 #[v, .func (.func 57) #[] #[.pointer (some ⟨bo, 0, none⟩), .pointer (some ⟨bf, 0, none⟩)]] w fun e w' => ∃ z : Int, e = .returned (.int .i64 z) ∧ decide (0 ≤ z) = Ro.inS a.l ss f ∧ Below w.heap.size w w' := by
  obtain ⟨va, vc, rfl, hk⟩ := hv
  have HK := Lib.hid hk
  have CC := Lib.hid (fun (s : Bd.S) W (hW : Below w.heap.size w W) hs => fitsAt1_any a n u f bo bf s W (ho.below hW ho.lt) (hf.below hW hf.lt) hl hs)
  have HS := Lib.hid hss
  have HH := Lib.hid (fun j (hj : j < ss.length) h => Ro.inS_hit (l := a.l) (f := f) hj h)
  have HN := Lib.hid (fun h => Ro.inS_none (l := a.l) (ss := ss) (f := f) h)
  clear hk ho hf hss
  generalize Ro.inS a.l ss f = R at *
  go_enter Try.func78, Try.ntmps78
  go_wp2
  go_loopw [8] (fun t wr => ∃ j : Nat, j ≤ ss.length ∧ t = .int .i64 j ∧ Hid ((∀ q (hq : q < ss.length), q < j → (decide (ss[q].f ≤ f) && decide (f ≤ ss[q].t - a.l)) = false) ∧ Below w.heap.size w wr)) (fun t _ => ss.length - (intOf t).toNat)
  case atStart => exact ⟨0, Nat.zero_le _, rfl, Lib.hid ⟨fun j _ h => absurd h (Nat.not_lt_zero _), Below.refl _ _⟩⟩
  case round =>
    obtain ⟨j, hj, rfl, hg⟩ := hrel
    by_cases hlt : j < ss.length
    · obtain ⟨b, off, rfl, hb, hr⟩ := HK.out j hlt
      obtain ⟨c0, c1⟩ := hr.below hg.out.2 hb
      have C1 := Lib.hid (CC.out ss[j] _ hg.out.2 (HS.out _ (List.getElem_mem hlt)))
      have HJ := Lib.hid (HH.out j hlt)
      have HI : Hid ((decide (ss[j].f ≤ f) && decide (f ≤ ss[j].t - a.l)) = false → ∀ q (hq : q < ss.length), q < j + 1 → (decide (ss[q].f ≤ f) && decide (f ≤ ss[q].t - a.l)) = false) := Lib.hid fun h q hq hqj => by
        by_cases e : q = j
        · subst e; exact h
        · exact hg.out.1 q hq (by omega)
      have HG := Lib.hid hg.out.2
      clear hg hr
      generalize hx : (decide (ss[j].f ≤ f) && decide (f ≤ ss[j].t - a.l)) = r at *
      clear hx
      generalize ss[j] = s at *
      go_wp2_with fail
      refine C1.out.mono ?_
      rintro e w1 ⟨rfl, hb1⟩
      have HG1 := Lib.hid (below_step HG.out hb1)
      clear C1 c0 c1 HG hb1
      cases r
      · have HI2 := Lib.hid (HI.out rfl)
        clear HI HJ
        go_wp2
        go_roundw
        case rel => exact ⟨j + 1, by omega, by go_num, Lib.hid ⟨HI2.out, HG1.out⟩⟩
        case measure => simp [intOf]; omega
      · have HJ2 := Lib.hid (HJ.out rfl)
        clear HI HJ
        go_wp2
        go_ret
        exact ⟨(j : Int), rfl, by rw [HJ2.out]; simp, HG1.out⟩
    · obtain rfl : j = ss.length := by omega
      have HL := Lib.hid (HN.out fun q hq => hg.out.1 q hq hq)
      have hw := hg.out.2
      clear hg
      go_wp2
      go_ret
      exact ⟨-1, rfl, by rw [HL.out]; decide, hw⟩

set_option maxRecDepth 20000 in
set_option maxHeartbeats 1000000 in
theorem fitsAt_any (a : Ro.A) (n : Int) (v : Value) (f : Int) (ss : List Bd.S) (w : World) (hl : 1 ≤ a.l ∧ a.l ≤ 300) (hv : Spns w v ss) (hss : ∀ s ∈ ss, Bd.okS s) (hn : ss.length ≤ 1000) :
    Calls Try.prog 33 #[offV a n v, .int .i64 f] w fun e w' => e = .returned (.bool (Ro.inS a.l ss f)) ∧ Below w.heap.size w w' := by
  have CF : ∀ W bo bf, Below w.heap.size w W → BlockAt W bo (offA a n v) OffT → BlockAt W bf #[.int .i64 f] 3 → Calls Try.prog 56 #[v, .func (.func 57) #[] #[.pointer (some ⟨bo, 0, none⟩), .pointer (some ⟨bf, 0, none⟩)]] W fun e w' => e = .returned (.bool (Ro.inS a.l ss f)) ∧ Below W.heap.size W w' := by
    intro W bo bf hW ho hf
    have C := Lib.hid (indexSpan_any a n v f bo bf v ss W ho hf hl (hv.all hW) hss hn)
    obtain ⟨va, vc, rfl, _⟩ := hv
    clear hW ho hf
    generalize Ro.inS a.l ss f = R at *
    go_enter Try.func56, Try.ntmps56
    go_wp2_with fail
    refine C.out.mono ?_
    rintro e w1 ⟨z, rfl, hz, hb1⟩
    have HZ := Lib.hid hz
    clear hz
    go_wp2
    go_ret
    exact ⟨ret_boolD HZ.out, hb1⟩
  obtain ⟨va, vc, rfl, _⟩ := hv
  have b0 := (BlockAt.new w (offA a n (.slice va ss.length vc)) OffT).alloc (.cells #[.int .i64 f] 3)
  have b1 := BlockAt.new (w.alloc (.cells (offA a n (.slice va ss.length vc)) OffT)) #[.int .i64 f] 3
  simp only [World.size_alloc] at b1
  have hw := below_alloc2 (below_alloc2 (Below.refl w.heap.size w) (.cells (offA a n (.slice va ss.length vc)) OffT)) (.cells #[.int .i64 f] 3)
  have CC := Lib.hid (CF _ _ _ hw b0 b1)
  have q7 : World.cell? _ _ = some (.slice va ss.length vc) := b0.cell 7
  have HW := Lib.hid hw
  clear CF hw b0 b1 hss
  generalize Ro.inS a.l ss f = R at *
  go_enter Try.func33, Try.ntmps33
  go_wp2_with fail
  refine CC.out.mono ?_
  rintro e w1 ⟨rfl, hb1⟩
  have HB := Lib.hid (below_step HW.out hb1)
  clear hb1 q7 CC HW
  go_wp2
  go_ret
  exact ⟨rfl, HB.out⟩
end Go.Proofs.Ytbmjjmpdlmbehaa
