/- BestOffset of both. -/
import Derived.Test.YtpobkdbnldogcaaFlBo
namespace Go.Proofs.Ytpobkdbnldogcaa
open Go.RowKit

set_option maxRecDepth 20000 in
set_option maxHeartbeats 4000000 in
theorem bestOffset_any (rv dv : Value) (rs : List Fl.R) (ds : List Fl.D) (n : Int) (w : World) (hr : Rects w rv rs) (hd : Doors w dv ds) (h1 : rs.length ≤ 1000) (h2 : ds.length ≤ 1000) :
    Calls Try.prog 31 #[roomV rv dv, .int .i64 n] w fun e w' => e = .returned (.tuple #[.int .i64 (Fl.widOff rs ds n).o, .int .i64 (Fl.widOff rs ds n).n, .bool (Fl.widOff rs ds n).f, .int .i64 (Fl.widE rs ds n)]) ∧ Below w.heap.size w w' := by
  have HW := Lib.hid (And.intro (BlockAt.new w #[rv, dv] RoomT) (below_alloc2 (Below.refl w.heap.size w) (.cells #[rv, dv] RoomT)))
  have x0 : World.cell? _ _ = some rv := HW.out.1.cell 0
  have x1 : World.cell? _ _ = some dv := HW.out.1.cell 1
  have hv := validateWidth_any rv dv rs ds n _ (hr.all HW.out.2) (hd.all HW.out.2) h1 h2
  skip
  have CV := Lib.hid hv
  clear hv
  have HR := Lib.hid (And.intro hr hd)
  obtain ⟨ra, rc, rfl⟩ := hr.form
  obtain ⟨da, dc, rfl⟩ := hd.form
  clear hr hd
  by_cases hz : Fl.widE rs ds n = 0
  case neg =>
    have hA : Fl.widOff rs ds n = ⟨0, 0, false⟩ := if_neg hz
    rw [hA]
    clear hA
    generalize Fl.widE rs ds n = E at *
    have hd : (E == 0) = false := beq_eq_false_iff_ne.2 hz
    have hd2 : (E != 0) = true := by rw [bne, hd]; rfl
    clear hz
    go_enter Try.func31, Try.ntmps31
    go_wp2_with fail
    refine (CV.out).mono ?_
    rintro e w1 ⟨rfl, hb1⟩
    have HB := Lib.hid (below_step HW.out.2 hb1)
    clear hb1 CV
    go_wp2
    (try simp only [Exit.inBlock, Exit.then])
    refine bodyPost_ret (results_tmp4 rfl _ _ _) rfl ?_
    exact ⟨rfl, HB.out⟩
  have HA := Lib.hid (show Fl.widOff rs ds n = Fl.bO rs ds n n.toNat from if_pos hz)
  obtain ⟨z1, n1, n2⟩ := Fl.widE_zero.1 hz
  have hok := Fl.val_ok z1
  have FI := Lib.hid (fun o W (hW : Below w.heap.size w W) a b => inDoor_any _ _ rs ds n o W (HR.out.1.all hW) (HR.out.2.all hW) h1 h2 hok (Fl.val_doors z1) n1 n2 a b)
  have FS := Lib.hid (fun o W (hW : Below w.heap.size w W) a b => strips_any _ (.slice da ds.length dc) rs n o W (HR.out.1.all hW) h1 hok n1 n2 a b)
  have HFT := Lib.hid (fun o => Fl.stL_ft hok (w := n) (o := o))
  have HLN := Lib.hid (fun o a b => Fl.stL_len (rs := rs) (o := o) n1 n2 a b)
  have HQ0 : Hid ((⟨0, 0, false⟩ : Fl.BO) = Fl.bO rs ds n 0) := Lib.hid rfl
  have HQ1 := Lib.hid (fun (k : Nat) h => Fl.bO_in (rs := rs) (ds := ds) (w := n) (k := k) h)
  have HQ2 := Lib.hid (fun (k : Nat) h a b => Fl.bO_old (rs := rs) (ds := ds) (w := n) (k := k) h a b)
  have HQ3 := Lib.hid (fun (k : Nat) h a => Fl.bO_new (rs := rs) (ds := ds) (w := n) (k := k) h a)
  rw [hz] at CV ⊢
  clear hz z1 hok
  generalize Fl.widOff rs ds n = WO at *
  generalize Fl.bO rs ds n = BQ at *
  go_enter Try.func31, Try.ntmps31
  go_wp2_with fail
  refine (CV.out).mono ?_
  rintro e w1 ⟨rfl, hb1⟩
  have HN := Lib.hid (And.intro (HW.out.1.below hb1 HW.out.1.lt) (below_step HW.out.2 hb1))
  clear hb1 CV x0 x1 HW
  go_wp2
  go_loopw [4, 5, 6, 18] (fun s1 s2 s3 s4 wr => ∃ (k : Nat) (q : Fl.BO), (k : Int) ≤ n ∧ s1 = .int .i64 q.o ∧ s2 = .int .i64 q.n ∧ s3 = .bool q.f ∧ s4 = .int .i64 k ∧ Hid (q = BQ k ∧ BlockAt wr w.heap.size #[.slice ra rs.length rc, .slice da ds.length dc] RoomT ∧ Below w.heap.size w wr)) (fun _ _ _ s4 _ => (n - intOf s4).toNat)
  case atStart => exact ⟨0, ⟨0, 0, false⟩, by simp; omega, rfl, rfl, rfl, rfl, Lib.hid ⟨HQ0.out, HN.out⟩⟩
  case round =>
    obtain ⟨k, q, hk, rfl, rfl, rfl, rfl, hg⟩ := hrel
    clear HN HQ0
    by_cases hlt : (k : Int) < n
    · have x0 : World.cell? _ _ = some (.slice ra rs.length rc) := hg.out.2.1.cell 0
      have x1 : World.cell? _ _ = some (.slice da ds.length dc) := hg.out.2.1.cell 1
      have C := Lib.hid (FI.out k _ hg.out.2.2 (by omega) hlt)
      have CS := Lib.hid (fun W hW => FS.out k W hW (by omega) hlt)
      have HP1 := Lib.hid (HQ1.out k)
      have HP2 := Lib.hid (HQ2.out k)
      have HP3 := Lib.hid (HQ3.out k)
      have HT := Lib.hid (HFT.out k)
      have hLN := HLN.out k (by omega) hlt
      rw [← hg.out.1] at HP1 HP2 HP3
      have HG := Lib.hid hg.out.2
      clear hg
      generalize Fl.stL rs n k = L at *
      generalize Fl.indoor rs ds (Fl.smL rs n k) = I at *
      cases hI : I
      case true =>
        rw [hI] at C
        have HE := Lib.hid (HP1.out hI)
        clear hI HP1 HP2 HP3 CS HT
        go_wp2_with fail
        refine C.out.mono ?_
        rintro e w2 ⟨rfl, hb2⟩
        have HG2 := Lib.hid (And.intro (HG.out.1.below hb2 HG.out.1.lt) (below_step HG.out.2 hb2))
        clear hb2 C HG x0 x1
        go_wp2
        go_roundw
        case rel => exact ⟨k + 1, q, by omega, rfl, rfl, rfl, by go_num, Lib.hid ⟨HE.out.symm, HG2.out⟩⟩
        case measure => simp [intOf]; omega
      case false =>
        rw [hI] at C
        have HP2x := Lib.hid (HP2.out hI)
        have HP3x := Lib.hid (HP3.out hI)
        clear hI HP1 HP2 HP3
        have CT := Lib.hid (fun u W hu => total_any u L W hu (by omega) HT.out)
        generalize Fl.tot L L.length = T at *
        go_wp2_with fail
        refine C.out.mono ?_
        rintro e w2 ⟨rfl, hb2⟩
        have HG2 := Lib.hid (And.intro (HG.out.1.below hb2 HG.out.1.lt) (below_step HG.out.2 hb2))
        clear hb2 C HG x0 x1
        have C := Lib.hid (CS.out _ HG2.out.2)
        have x0 : World.cell? _ _ = some (.slice ra rs.length rc) := HG2.out.1.cell 0
        have x1 : World.cell? _ _ = some (.slice da ds.length dc) := HG2.out.1.cell 1
        go_wp2_with fail
        refine C.out.mono ?_
        rintro e w3 ⟨u3, rfl, ho3, hb3⟩
        have HG3 := Lib.hid (And.intro (HG2.out.1.below hb3 HG2.out.1.lt) (below_step HG2.out.2 hb3))
        have D := Lib.hid (CT.out _ _ (OwnG.rows stripC_len ho3))
        clear hb3 ho3 C CS CT HG2 x0 x1 HT
        go_wp2_with fail
        refine D.out.mono ?_
        rintro e w4 ⟨rfl, hb4⟩
        have HG4 := Lib.hid (And.intro (HG3.out.1.below hb4 HG3.out.1.lt) (below_step HG3.out.2 hb4))
        clear hb4 D HG3
        obtain ⟨qo, qn, qf⟩ := q
        dsimp only at *
        cases qf
        case false =>
          have HE := Lib.hid (HP3x.out (.inl rfl))
          clear HP2x HP3x
          go_wp2
          go_roundw
          case rel => exact ⟨k + 1, ⟨k, T, true⟩, by omega, rfl, rfl, rfl, by go_num, Lib.hid ⟨HE.out.symm, HG4.out⟩⟩
          case measure => simp [intOf]; omega
        case true =>
          by_cases hq : T < qn
          · have HE := Lib.hid (HP3x.out (.inr hq))
            clear HP2x HP3x
            go_wp2
            go_roundw
            case rel => exact ⟨k + 1, ⟨k, T, true⟩, by omega, rfl, rfl, rfl, by go_num, Lib.hid ⟨HE.out.symm, HG4.out⟩⟩
            case measure => simp [intOf]; omega
          · have HE := Lib.hid (HP2x.out rfl (by omega))
            clear HP2x HP3x
            go_wp2
            go_roundw
            case rel => exact ⟨k + 1, ⟨qo, qn, true⟩, by omega, rfl, rfl, rfl, by go_num, Lib.hid ⟨HE.out.symm, HG4.out⟩⟩
            case measure => simp [intOf]; omega
    · have HE := Lib.hid (show q = WO by rw [HA.out, hg.out.1, show n.toNat = k by omega])
      have HB := Lib.hid hg.out.2.2
      clear hg HA
      go_wp2
      (try simp only [Exit.inBlock, Exit.then])
      refine bodyPost_ret (results_tmp4 rfl _ _ _) rfl ?_
      exact ⟨by rw [← HE.out]; rfl, HB.out⟩
set_option maxRecDepth 20000 in
set_option maxHeartbeats 4000000 in
theorem rbestOffset_any (rv dv : Value) (rs : List Fl.R) (ds : List Fl.D) (n : Int) (w : World) (hr : Rects w rv rs) (hd : Doors w dv ds) (h1 : rs.length ≤ 1000) (h2 : ds.length ≤ 1000) :
    Calls Try.prog 32 #[roomV rv dv, .int .i64 n] w fun e w' => e = .returned (.tuple #[.int .i64 (Fl.widOff rs ds n).o, .int .i64 (Fl.widOff rs ds n).n, .bool (Fl.widOff rs ds n).f, .int .i64 (Fl.widE rs ds n)]) ∧ Below w.heap.size w w' := by
  have HW := Lib.hid (And.intro (BlockAt.new w #[rv, dv] RoomT) (below_alloc2 (Below.refl w.heap.size w) (.cells #[rv, dv] RoomT)))
  have x0 : World.cell? _ _ = some rv := HW.out.1.cell 0
  have x1 : World.cell? _ _ = some dv := HW.out.1.cell 1
  have hv := sized_any rv dv rs ds n 0 _ (hr.all HW.out.2) (hd.all HW.out.2) h1 h2
  rw [Fl.offE_first] at hv
  have CV := Lib.hid hv
  clear hv
  have HR := Lib.hid (And.intro hr hd)
  obtain ⟨ra, rc, rfl⟩ := hr.form
  obtain ⟨da, dc, rfl⟩ := hd.form
  clear hr hd
  by_cases hz : Fl.widE rs ds n = 0
  case neg =>
    have hA : Fl.widOff rs ds n = ⟨0, 0, false⟩ := if_neg hz
    rw [hA]
    clear hA
    generalize Fl.widE rs ds n = E at *
    have hd : (E == 0) = false := beq_eq_false_iff_ne.2 hz
    have hd2 : (E != 0) = true := by rw [bne, hd]; rfl
    clear hz
    go_enter Try.func32, Try.ntmps32
    go_wp2_with fail
    refine (CV.out).mono ?_
    rintro e w1 ⟨rfl, hb1⟩
    have HB := Lib.hid (below_step HW.out.2 hb1)
    clear hb1 CV
    go_wp2
    (try simp only [Exit.inBlock, Exit.then])
    refine bodyPost_ret (results_tmp4 rfl _ _ _) rfl ?_
    exact ⟨rfl, HB.out⟩
  have HA := Lib.hid (show Fl.widOff rs ds n = Fl.bO rs ds n n.toNat from if_pos hz)
  obtain ⟨z1, n1, n2⟩ := Fl.widE_zero.1 hz
  have hok := Fl.val_ok z1
  have FI := Lib.hid (fun o W (hW : Below w.heap.size w W) a b => rinDoor_any _ _ rs ds n o W (HR.out.1.all hW) (HR.out.2.all hW) h1 h2 hok (Fl.val_doors z1) n1 n2 a b)
  have FS := Lib.hid (fun o W (hW : Below w.heap.size w W) a b => rstrips_any _ (.slice da ds.length dc) rs n o W (HR.out.1.all hW) h1 hok n1 n2 a b)
  have HFT := Lib.hid (fun o => Fl.stL_ft hok (w := n) (o := o))
  have HLN := Lib.hid (fun o a b => Fl.stL_len (rs := rs) (o := o) n1 n2 a b)
  have HQ0 : Hid ((⟨0, 0, false⟩ : Fl.BO) = Fl.bO rs ds n 0) := Lib.hid rfl
  have HQ1 := Lib.hid (fun (k : Nat) h => Fl.bO_in (rs := rs) (ds := ds) (w := n) (k := k) h)
  have HQ2 := Lib.hid (fun (k : Nat) h a b => Fl.bO_old (rs := rs) (ds := ds) (w := n) (k := k) h a b)
  have HQ3 := Lib.hid (fun (k : Nat) h a => Fl.bO_new (rs := rs) (ds := ds) (w := n) (k := k) h a)
  rw [hz] at CV ⊢
  clear hz z1 hok
  generalize Fl.widOff rs ds n = WO at *
  generalize Fl.bO rs ds n = BQ at *
  go_enter Try.func32, Try.ntmps32
  go_wp2_with fail
  refine (CV.out).mono ?_
  rintro e w1 ⟨rfl, hb1⟩
  have HN := Lib.hid (And.intro (HW.out.1.below hb1 HW.out.1.lt) (below_step HW.out.2 hb1))
  clear hb1 CV x0 x1 HW
  go_wp2
  go_loopw [9, 10, 11, 12] (fun s1 s2 s3 s4 wr => ∃ (k : Nat) (q : Fl.BO), (k : Int) ≤ n ∧ s1 = .int .i64 q.o ∧ s2 = .int .i64 q.n ∧ s3 = .bool q.f ∧ s4 = .int .i64 k ∧ Hid (q = BQ k ∧ BlockAt wr w.heap.size #[.slice ra rs.length rc, .slice da ds.length dc] RoomT ∧ Below w.heap.size w wr)) (fun _ _ _ s4 _ => (n - intOf s4).toNat)
  case atStart => exact ⟨0, ⟨0, 0, false⟩, by simp; omega, rfl, rfl, rfl, rfl, Lib.hid ⟨HQ0.out, HN.out⟩⟩
  case round =>
    obtain ⟨k, q, hk, rfl, rfl, rfl, rfl, hg⟩ := hrel
    clear HN HQ0
    by_cases hlt : (k : Int) < n
    · have x0 : World.cell? _ _ = some (.slice ra rs.length rc) := hg.out.2.1.cell 0
      have x1 : World.cell? _ _ = some (.slice da ds.length dc) := hg.out.2.1.cell 1
      have C := Lib.hid (FI.out k _ hg.out.2.2 (by omega) hlt)
      have CS := Lib.hid (fun W hW => FS.out k W hW (by omega) hlt)
      have HP1 := Lib.hid (HQ1.out k)
      have HP2 := Lib.hid (HQ2.out k)
      have HP3 := Lib.hid (HQ3.out k)
      have HT := Lib.hid (HFT.out k)
      have hLN := HLN.out k (by omega) hlt
      rw [← hg.out.1] at HP1 HP2 HP3
      have HG := Lib.hid hg.out.2
      clear hg
      generalize Fl.stL rs n k = L at *
      generalize Fl.indoor rs ds (Fl.smL rs n k) = I at *
      cases hI : I
      case true =>
        rw [hI] at C
        have HE := Lib.hid (HP1.out hI)
        clear hI HP1 HP2 HP3 CS HT
        go_wp2_with fail
        refine C.out.mono ?_
        rintro e w2 ⟨rfl, hb2⟩
        have HG2 := Lib.hid (And.intro (HG.out.1.below hb2 HG.out.1.lt) (below_step HG.out.2 hb2))
        clear hb2 C HG x0 x1
        go_wp2
        go_roundw
        case rel => exact ⟨k + 1, q, by omega, rfl, rfl, rfl, by go_num, Lib.hid ⟨HE.out.symm, HG2.out⟩⟩
        case measure => simp [intOf]; omega
      case false =>
        rw [hI] at C
        have HP2x := Lib.hid (HP2.out hI)
        have HP3x := Lib.hid (HP3.out hI)
        clear hI HP1 HP2 HP3
        have CT := Lib.hid (fun u W hu => lengths_any u L W hu (by omega) HT.out)
        generalize Fl.tot L L.length = T at *
        go_wp2_with fail
        refine C.out.mono ?_
        rintro e w2 ⟨rfl, hb2⟩
        have HG2 := Lib.hid (And.intro (HG.out.1.below hb2 HG.out.1.lt) (below_step HG.out.2 hb2))
        clear hb2 C HG x0 x1
        have C := Lib.hid (CS.out _ HG2.out.2)
        have x0 : World.cell? _ _ = some (.slice ra rs.length rc) := HG2.out.1.cell 0
        have x1 : World.cell? _ _ = some (.slice da ds.length dc) := HG2.out.1.cell 1
        go_wp2_with fail
        refine C.out.mono ?_
        rintro e w3 ⟨a3, c3, rfl, ho3, hb3⟩
        have HG3 := Lib.hid (And.intro (HG2.out.1.below hb3 HG2.out.1.lt) (below_step HG2.out.2 hb3))
        have D := Lib.hid (CT.out _ _ (OwnG.rows stripC_len ho3))
        clear hb3 ho3 C CS CT HG2 x0 x1 HT
        go_wp2_with fail
        refine D.out.mono ?_
        rintro e w4 ⟨rfl, hb4⟩
        have HG4 := Lib.hid (And.intro (HG3.out.1.below hb4 HG3.out.1.lt) (below_step HG3.out.2 hb4))
        clear hb4 D HG3
        obtain ⟨qo, qn, qf⟩ := q
        dsimp only at *
        cases qf
        case false =>
          have HE := Lib.hid (HP3x.out (.inl rfl))
          clear HP2x HP3x
          go_wp2
          go_roundw
          case rel => exact ⟨k + 1, ⟨k, T, true⟩, by omega, rfl, rfl, rfl, by go_num, Lib.hid ⟨HE.out.symm, HG4.out⟩⟩
          case measure => simp [intOf]; omega
        case true =>
          by_cases hq : T < qn
          · have HE := Lib.hid (HP3x.out (.inr hq))
            clear HP2x HP3x
            go_wp2
            go_roundw
            case rel => exact ⟨k + 1, ⟨k, T, true⟩, by omega, rfl, rfl, rfl, by go_num, Lib.hid ⟨HE.out.symm, HG4.out⟩⟩
            case measure => simp [intOf]; omega
          · have HE := Lib.hid (HP2x.out rfl (by omega))
            clear HP2x HP3x
            go_wp2
            go_roundw
            case rel => exact ⟨k + 1, ⟨qo, qn, true⟩, by omega, rfl, rfl, rfl, by go_num, Lib.hid ⟨HE.out.symm, HG4.out⟩⟩
            case measure => simp [intOf]; omega
    · have HE := Lib.hid (show q = WO by rw [HA.out, hg.out.1, show n.toNat = k by omega])
      have HB := Lib.hid hg.out.2.2
      clear hg HA
      go_wp2
      (try simp only [Exit.inBlock, Exit.then])
      refine bodyPost_ret (results_tmp4 rfl _ _ _) rfl ?_
      exact ⟨by rw [← HE.out]; rfl, HB.out⟩
end Go.Proofs.Ytpobkdbnldogcaa
