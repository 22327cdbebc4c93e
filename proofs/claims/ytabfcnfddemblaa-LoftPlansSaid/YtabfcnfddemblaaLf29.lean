/- Proofs: of the reference. -/
import Derived.Test.YtabfcnfddemblaaLf28
import Derived.Test.YtabfcnfddemblaaLf27
namespace Go.Proofs.Ytabfcnfddemblaa.Lo
open Go.RowKit

abbrev RWinT : TypeId := 93
theorem plsW_succ (ls : List Lf.F) (W : Int) {k : Nat} (h : k < ls.length) : Lf.pls ls (k + 1) * W = Lf.pls ls k * W + ls[k].p * W := by rw [pls_succ ls h, Int.add_mul]
theorem pW_bd {p a b : Int} (hp : 1 ≤ p ∧ p ≤ 40) (h : 0 ≤ a ∧ a ≤ b ∧ b ≤ 60) : 0 ≤ p * (b - a) ∧ p * (b - a) ≤ 2400 := by
  refine ⟨Int.mul_nonneg (by omega) (by omega), ?_⟩
  have h1 : p * (b - a) ≤ 40 * (b - a) := Int.mul_le_mul_of_nonneg_right hp.2 (by omega)
  omega
theorem plsW_bd {ls : List Lf.F} (hF : ∀ k (hk : k < ls.length), Lf.okF ls[k] = true) {a b : Int} (h : 0 ≤ a ∧ a ≤ b ∧ b ≤ 60) : ∀ k, k ≤ ls.length → 0 ≤ Lf.pls ls k * (b - a) ∧ Lf.pls ls k * (b - a) ≤ 2400 * k
  | 0, _ => by show 0 ≤ (0 : Int) * _ ∧ (0 : Int) * _ ≤ _; rw [Int.zero_mul]; omega
  | k + 1, hk => by
    have ih := plsW_bd hF h k (by omega)
    have := pW_bd (Lf.okF_iff.1 (hF k (by omega))).1 h
    rw [plsW_succ ls _ (by omega)]; omega
theorem ndS_in2 {ls : List Lf.F} {gs : List Lf.G} {a b : Int} {k : Nat} (h : k < gs.length) (hi : Lf.inW gs[k] a b = true) (hd : ¬ Lf.dyN ls gs[k] = 0) : Lf.S (Lf.ndk ls gs a b) (k + 1) = Lf.S (Lf.ndk ls gs a b) k + ned ls gs[k] := by
  rw [ndS_in h hi, ned_1 hd, Int.mul_comm]
theorem ned_neg {ls : List Lf.F} {g : Lf.G} (h : ned ls g < 0) (hp : 1 ≤ g.p) : Lf.dyN ls g = 0 := by
  by_cases hd : Lf.dyN ls g = 0
  · exact hd
  · rw [ned_1 hd] at h
    have := Int.mul_nonneg (show (0 : Int) ≤ (Lf.dyN ls g : Int) by omega) (show 0 ≤ g.p by omega)
    omega
theorem ned_pos {ls : List Lf.F} {g : Lf.G} (h : ¬ ned ls g < 0) : ¬ Lf.dyN ls g = 0 := fun hd => h (by rw [ned_0 hd]; decide)
theorem ned_bd {ls : List Lf.F} {g : Lf.G} (hp : 1 ≤ g.p ∧ g.p ≤ 40) : -1 ≤ ned ls g ∧ ned ls g ≤ 480 := by
  by_cases hd : Lf.dyN ls g = 0
  · rw [ned_0 hd]; omega
  · rw [ned_1 hd, Int.mul_comm]
    have := pd_bd hp (show Lf.dyN ls g ≤ 12 from Lf.dyk_le ls g ls.length)
    omega
set_option maxRecDepth 100000 in
set_option maxHeartbeats 8000000 in
theorem rproves_any (u v x : Value) (ls : List Lf.F) (gs : List Lf.G) (a b : Int) (w : World) (hu : Lofts w u ls) (hv : Goods w v gs) (hx : Ints w x (neds ls gs)) (hF : ∀ k (hk : k < ls.length), Lf.okF ls[k] = true) (h3 : ls.length ≤ 3) (hG : ∀ k (hk : k < gs.length), Lf.okG gs[k] = true) (h8 : gs.length ≤ 8) (hw : Lf.wOk a b = true) :
    Calls Try.prog 108 #[u, v, x, winV a b] w fun e w' => e = .returned (.bool (Lf.prf ls gs a b)) ∧ Below w.heap.size w w' := by
  have HBW := Lib.hid (And.intro (BlockAt.new w (winA a b) RWinT) (below_alloc2 (Below.refl w.heap.size w) (.cells (winA a b) RWinT)))
  have hwi := Lf.wOk_iff.1 hw
  have HNE := Lib.hid (fun k (hk : k < gs.length) => show (neds ls gs).getD k 0 = ned ls gs[k] by simp [neds, hk])
  have HNL := Lib.hid (neds_len ls gs)
  obtain ⟨xa, xc, rfl⟩ := hx.form
  have HNA := Lib.hid (fun (W : World) (hW : Below w.heap.size w W) => Ints.at (hx.all hW))
  obtain ⟨ua, uc, rfl, _, hlk⟩ := hu
  have HU := Lib.hid hlk
  obtain ⟨va, vc, rfl, _, hgk⟩ := hv
  have HV := Lib.hid hgk
  have HPW := Lib.hid (fun k (hk : k < ls.length) => And.intro (plsW_succ ls (b - a) hk) (pW_bd (Lf.okF_iff.1 (hF k hk)).1 hwi))
  have HPB := Lib.hid (fun k (hk : k ≤ ls.length) => plsW_bd hF hwi k hk)
  have HSB := Lib.hid (fun k (hk : k ≤ gs.length) => ndS_bd (ls := ls) hG a b k hk)
  have HIN := Lib.hid (fun k (hk : k < gs.length) h h2 => ndS_in2 (ls := ls) (a := a) (b := b) hk h (ned_pos h2))
  have HOUT := Lib.hid (fun k (hk : k < gs.length) h => ndS_out (ls := ls) (a := a) (b := b) hk h)
  have HNV := Lib.hid (fun k (hk : k < gs.length) => nvr_succ (ls := ls) (a := a) (b := b) hk)
  have HNP := Lib.hid (fun k (hk : k < gs.length) h => decide_eq_false (ned_pos (ls := ls) (g := gs[k]'hk) h))
  have HNB := Lib.hid (fun k (hk : k < gs.length) => ned_bd (ls := ls) (Lf.okG_iff.1 (hG k hk)).1)
  have HID := Lib.hid (fun k (hk : k < gs.length) => inW_def gs[k] a b)
  have H0 : Hid (Lf.S (Lf.ndk ls gs a b) 0 = 0 ∧ Lf.nvr ls gs a b 0 = false ∧ Lf.pls ls 0 * (b - a) = 0) := Lib.hid ⟨rfl, rfl, Int.zero_mul _⟩
  have HY2 := Lib.hid (fun k (hk : k < gs.length) h2 h3 => prf_nvr (ls := ls) (gs := gs) (a := a) (b := b) (k := k) hw hk h2 (ned_neg h3 (Lf.okG_iff.1 (hG k hk)).1.1))
  have HE2 := Lib.hid (fun h2 => prf_end (ls := ls) (gs := gs) (a := a) (b := b) hw h2)
  generalize Lf.prf ls gs a b = R at *
  generalize neds ls gs = X at *
  clear hF hG hw hlk hgk hx
  go_enter Try.func108, Try.ntmps108
  go_wp2
  go_loopw [9, 10] (fun s t wr => ∃ (k : Nat) (x : Int), k ≤ ls.length ∧ s = .int .i64 x ∧ t = .int .i64 k ∧ (0 ≤ x ∧ x ≤ 7200) ∧ Hid (x = Lf.pls ls k * (b - a) ∧ BlockAt wr w.heap.size (winA a b) RWinT ∧ Below w.heap.size w wr)) (fun _ t _ => ls.length - (intOf t).toNat)
  case atStart => exact ⟨0, 0, Nat.zero_le _, rfl, rfl, by omega, Lib.hid ⟨H0.out.2.2.symm, HBW.out.1, HBW.out.2⟩⟩
  case round =>
    obtain ⟨k, x, hk, rfl, rfl, hxb, hg⟩ := hrel
    clear HBW
    by_cases hlt : k < ls.length
    · obtain ⟨bb, off, rfl, hb, hr⟩ := HU.out k hlt
      obtain ⟨v, ⟨c0, c1⟩, _⟩ := hr.all hg.out.2.2 hb
      obtain ⟨e1, e2⟩ := HPW.out k hlt
      have e3 := HPB.out (k + 1) (by omega)
      rw [← hg.out.1] at e1
      have HG := Lib.hid hg.out.2
      obtain ⟨x2, hx2⟩ : ∃ x2, x2 = Lf.pls ls (k + 1) * (b - a) := ⟨_, rfl⟩
      rw [← hx2] at e1 e3
      have HX2 := Lib.hid hx2
      clear hr hg hx2
      generalize ls[k] = f at *
      obtain ⟨fp, fr⟩ := f
      dsimp only at *
      obtain ⟨PW, hPW⟩ : ∃ PW, PW = fp * (b - a) := ⟨_, rfl⟩
      rw [← hPW] at e1 e2
      have x0 : World.cell? _ _ = some (.int .i64 a) := HG.out.1.cell 0
      have x1 : World.cell? _ _ = some (.int .i64 b) := HG.out.1.cell 1
      have g0 : IntKind.i64.wrap (b - a) = b - a := IntWalk.i64_in _ ⟨by omega, by omega⟩
      have g1 : IntKind.i64.wrap (fp * (b - a)) = PW := by rw [← hPW]; exact IntWalk.i64_in _ ⟨by omega, by omega⟩
      have g2 : IntKind.i64.wrap (x + PW) = x2 := by rw [← e1]; exact IntWalk.i64_in _ ⟨by omega, by omega⟩
      clear hPW
      go_wp2
      go_quiet (fail)
      go_wp2
      go_roundw
      case rel => exact ⟨k + 1, x2, by omega, by rw [e1], by go_num, ⟨by omega, by omega⟩, Lib.hid ⟨HX2.out, HG.out.1, below_drewN HG.out.2 _⟩⟩
      case measure => simp [intOf]; omega
    · obtain rfl : k = ls.length := by omega
      have HX := Lib.hid hg.out.1
      have HG := Lib.hid hg.out.2
      clear hg
      obtain ⟨PT, hPT⟩ : ∃ PT, PT = Lf.pls ls ls.length * (b - a) := ⟨_, rfl⟩
      rw [← hPT] at HX HE2
      have e9 := HX.out
      clear HX hPT HPW HPB hk hlt
      subst e9
      go_wp2
      go_loopw [9, 11] (fun s t wr => ∃ (k : Nat) (y : Int), k ≤ gs.length ∧ s = .int .i64 (x - y) ∧ t = .int .i64 k ∧ (0 ≤ y ∧ y ≤ 3840) ∧ Hid (y = Lf.S (Lf.ndk ls gs a b) k ∧ Lf.nvr ls gs a b k = false ∧ BlockAt wr w.heap.size (winA a b) RWinT ∧ Below w.heap.size w wr)) (fun _ t _ => gs.length - (intOf t).toNat)
      case atStart => exact ⟨0, 0, Nat.zero_le _, by rw [Int.sub_zero], rfl, by omega, Lib.hid ⟨H0.out.1.symm, H0.out.2.1, HG.out.1, HG.out.2⟩⟩
      case round =>
        obtain ⟨k, y, hk, rfl, rfl, hyb, hg⟩ := hrel
        clear HG H0
        by_cases hlt : k < gs.length
        · obtain ⟨bb, off, rfl, hb, hr⟩ := HV.out k hlt
          obtain ⟨y0, y1, y2, y3, y4⟩ := gd_at (hr.below hg.out.2.2.2 hb)
          obtain ⟨b2, off2, hxa, hb2, z0⟩ := HNA.out wr hg.out.2.2.2 k (by rw [HNL.out]; exact hlt)
          have z1 : World.cell? wr ⟨b2, off2 + k, none⟩ = some (.int .i64 (ned ls gs[k])) := by rw [z0, HNE.out k hlt]
          subst hxa
          have HINk := Lib.hid (HIN.out k hlt)
          have HOUTk := Lib.hid (HOUT.out k hlt)
          have HNVk := Lib.hid (HNV.out k hlt)
          have hsb := HSB.out (k + 1) (by omega)
          have HIDk := Lib.hid (HID.out k hlt)
          have HYk := Lib.hid (HY2.out k hlt)
          have HNPk := Lib.hid (HNP.out k hlt)
          have hnb := HNB.out k hlt
          have HX := Lib.hid hg.out.2.2
          have HXK := Lib.hid (And.intro hg.out.1 hg.out.2.1)
          have hk2 : k < X.length := by rw [HNL.out]; exact hlt
          clear hr hg z0
          rw [← HXK.out.1] at HINk HOUTk
          rw [HXK.out.2] at HNVk
          obtain ⟨x2, hx2⟩ : ∃ x2, x2 = Lf.S (Lf.ndk ls gs a b) (k + 1) := ⟨_, rfl⟩
          rw [← hx2] at HINk HOUTk hsb
          have HX2 := Lib.hid hx2
          obtain ⟨nv, hnv⟩ : ∃ nv, nv = Lf.nvr ls gs a b (k + 1) := ⟨_, rfl⟩
          rw [← hnv] at HNVk
          have HNV2 := Lib.hid hnv
          clear hx2 hnv HXK
          generalize ned ls gs[k] = nd at *
          generalize Lf.dyN ls gs[k] = D at *
          generalize Lf.inW gs[k] a b = iw at *
          generalize gs[k] = g at *
          obtain ⟨gp, gn, gm, ga, gu⟩ := g
          dsimp only at *
          have x0 : World.cell? _ _ = some (.int .i64 a) := HX.out.1.cell 0
          have x1 : World.cell? _ _ = some (.int .i64 b) := HX.out.1.cell 1
          by_cases q1 : a ≤ ga
          case neg =>
            have hiw : iw = false := by rw [HIDk.out, decide_eq_false q1]; rfl
            have e2 := HOUTk.out (by rw [hiw]; decide)
            have e3 : nv = false := by rw [HNVk.out, hiw]; rfl
            have d1 : decide (ga < a) = true := decide_eq_true (by omega)
            have HF := Lib.hid (And.intro (e2.symm.trans HX2.out) (e3.symm.trans HNV2.out))
            clear hiw e2 e3 HINk HOUTk HNVk HYk HIDk HNPk
            go_wp2
            go_quiet (fail)
            go_wp2
            go_roundw
            case rel => exact ⟨k + 1, y, by omega, rfl, by go_num, hyb, Lib.hid ⟨HF.out.1, HF.out.2.symm, HX.out.1, below_drewN HX.out.2 _⟩⟩
            case measure => simp [intOf]; omega
          have d1 : decide (ga < a) = false := decide_eq_false (by omega)
          by_cases q2 : gu ≤ b
          case neg =>
            have hiw : iw = false := by rw [HIDk.out, decide_eq_false q2, Bool.and_false]
            have e2 := HOUTk.out (by rw [hiw]; decide)
            have e3 : nv = false := by rw [HNVk.out, hiw]; rfl
            have d2 : decide (gu > b) = true := decide_eq_true (by omega)
            have d3 : decide (b < gu) = true := decide_eq_true (by omega)
            have HF := Lib.hid (And.intro (e2.symm.trans HX2.out) (e3.symm.trans HNV2.out))
            clear hiw e2 e3 HINk HOUTk HNVk HYk HIDk HNPk
            go_wp2
            go_quiet (fail)
            go_wp2
            go_roundw
            case rel => exact ⟨k + 1, y, by omega, rfl, by go_num, hyb, Lib.hid ⟨HF.out.1, HF.out.2.symm, HX.out.1, below_drewN HX.out.2 _⟩⟩
            case measure => simp [intOf]; omega
          have d2 : decide (gu > b) = false := decide_eq_false (by omega)
          have d3 : decide (b < gu) = false := decide_eq_false (by omega)
          have hiw : iw = true := by rw [HIDk.out, decide_eq_true q1, decide_eq_true q2]; rfl
          by_cases q4 : nd < 0
          · have e1 := HYk.out hiw q4
            subst e1
            have d4 : decide (nd < 0) = true := decide_eq_true q4
            clear hiw HINk HOUTk HNVk HYk HIDk HE2 HNPk
            go_wp2
            go_quiet (fail)
            go_wp2
            go_ret
            exact ⟨rfl, below_drewN HX.out.2 _⟩
          have d4 : decide (nd < 0) = false := decide_eq_false q4
          have e2 := HINk.out hiw (by omega)
          have e3 : nv = false := by rw [HNVk.out, hiw, HNPk.out (by omega)]; rfl
          have g1 : IntKind.i64.wrap (x - y - nd) = x - x2 := by rw [e2, show x - (y + nd) = x - y - nd by omega]; exact IntWalk.i64_in _ ⟨by omega, by omega⟩
          have HF := Lib.hid (And.intro HX2.out (e3.symm.trans HNV2.out))
          have HXE : Hid (x - y - nd = x - x2) := Lib.hid (by omega)
          clear hiw e3 HINk HOUTk HNVk HYk HIDk HNPk
          go_wp2
          go_quiet (fail)
          go_wp2
          go_roundw
          case rel => exact ⟨k + 1, x2, by omega, by rw [e2], by go_num, ⟨by omega, by omega⟩, Lib.hid ⟨HF.out.1, HF.out.2.symm, HX.out.1, below_drewN HX.out.2 _⟩⟩
          case measure => simp [intOf]; omega
        · obtain rfl : k = gs.length := by omega
          have e1 := HE2.out hg.out.2.1
          rw [← hg.out.1] at e1
          have HG := Lib.hid hg.out.2.2
          have e4 : decide (x - y < 0) = decide (x < y) := by by_cases h : x < y; rw [decide_eq_true h, decide_eq_true (by omega)]; rw [decide_eq_false h, decide_eq_false (by omega)]
          rw [← e4] at e1
          have HE := Lib.hid e1
          clear hg e1 e4
          go_wp2
          go_ret
          exact ⟨by first | (rw [HE.out]; done) | (simp [HE.out]; done) | (simp [HE.out]; omega), HG.out.2⟩
end Go.Proofs.Ytabfcnfddemblaa.Lo
