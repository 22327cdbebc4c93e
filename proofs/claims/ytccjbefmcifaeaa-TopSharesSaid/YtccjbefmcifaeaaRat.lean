/- A share as a fraction in lowest terms. -/
import Derived.Test.YtccjbefmcifaeaaDivs
import Derived.Test.YtccjbefmcifaeaaRedN
namespace Go.Proofs.Ytccjbefmcifaeaa
open Go.RowKit

abbrev fracV (s : Nat) (v : Value) : Value := .agg #[wV s 0, wV s 1, wV s 2, wV s 3, wV s 4, wV s 5, wV s 6, wV s 7, v]
def facF (fs : List Nat) (j : Nat) : Nat := max 1 (fs.getD j 1)
theorem facF_pos (fs : List Nat) (j : Nat) : 0 < facF fs j := by unfold facF; omega
theorem facF_at {fs : List Nat} {j : Nat} (h : j < fs.length) (h1 : 1 ≤ fs.getD j 0) : facF fs j = fs.getD j 0 := by
  unfold facF; simp [h] at h1 ⊢; omega
theorem pr0_facF {fs : List Nat} (h : ∀ k, k < fs.length → 1 ≤ fs.getD k 0) : ∀ {n : Nat}, n ≤ fs.length → Rd.pr0 (facF fs) n = prodL (fs.take n)
  | 0, _ => rfl
  | n + 1, hn => by
    rw [prodL_succ (by omega), ← pr0_facF h (n := n) (by omega)]
    show _ * facF fs n = _
    rw [facF_at (by omega) (h n (by omega))]
    simp [show n < fs.length by omega]
theorem store_other {W : World} {B B' n : Nat} {cs : Array Value} {t : TypeId} (h : BlockAt W B' cs t) (hne : B' ≠ B) : BlockAt (storeN W B n) B' cs t :=
  (((((((h.other hne _).other hne _).other hne _).other hne _).other hne _).other hne _).other hne _).other hne _
theorem store_same {W : World} {B n m : Nat} {t : TypeId} (h : BlockAt W B #[wV m 0, wV m 1, wV m 2, wV m 3, wV m 4, wV m 5, wV m 6, wV m 7] t) :
    BlockAt (storeN W B n) B #[wV n 0, wV n 1, wV n 2, wV n 3, wV n 4, wV n 5, wV n 6, wV n 7] t := set8 h _ _ _ _ _ _ _ _

set_option maxRecDepth 100000 in
set_option maxHeartbeats 2000000 in
theorem rat_any (s : Nat) (v : Value) (fs : List Nat) (w : World) (hv : Nums w v fs) (hl : fs.length ≤ 24) (hf : ∀ k, k < fs.length → 1 ≤ fs.getD k 0 ∧ fs.getD k 0 ≤ 600000) (hs : s < Wd.B ^ 8) (hle : s ≤ prodL fs)
    (hD : ∀ a d, a ≤ s → 0 < d → d ≤ 1048576 → DivAt a d) :
    Calls Try.prog 73 #[fracV s v] w fun e w' => e = .returned (.tuple #[rat (Rd.rN s (prodL fs)) (Rd.rD s (prodL fs)), .int .i64 (Rd.rE s (prodL fs))]) ∧ Below w.heap.size w w' := by
  have hform : ∃ a c, v = .slice a fs.length c := by
    rcases hv with ⟨a, c, rfl, rfl⟩ | ⟨b, off, cap, rfl, _⟩
    · exact ⟨a, c, rfl⟩
    · exact ⟨_, _, rfl⟩
  have HV := Lib.hid hv
  obtain ⟨ao, cp, rfl⟩ := hform
  clear hv
  have hp := pr0_facF (fs := fs) (fun k hk => (hf k hk).1) (Nat.le_refl _)
  rw [List.take_length] at hp
  have HP := Lib.hid hp
  have HF := Lib.hid hf
  have HS := Lib.hid (And.intro hs hle)
  have HD := Lib.hid hD
  clear hp hf hs hle hD
  have H0 : Hid ((1 = Rd.Bl s (facF fs) 0 ∧ s = Rd.A s (facF fs) 0) ∧ BlockAt (((w.alloc (.cells #[wV s 0, wV s 1, wV s 2, wV s 3, wV s 4, wV s 5, wV s 6, wV s 7, .slice ao fs.length cp] 87)).alloc (.cells #[.int .i64 0, .int .i64 0] 43)).alloc (.cells #[wV s 0, wV s 1, wV s 2, wV s 3, wV s 4, wV s 5, wV s 6, wV s 7] 85)) (w.heap.size + 1 + 1) #[wV s 0, wV s 1, wV s 2, wV s 3, wV s 4, wV s 5, wV s 6, wV s 7] 85 ∧ BlockAt (((w.alloc (.cells #[wV s 0, wV s 1, wV s 2, wV s 3, wV s 4, wV s 5, wV s 6, wV s 7, .slice ao fs.length cp] 87)).alloc (.cells #[.int .i64 0, .int .i64 0] 43)).alloc (.cells #[wV s 0, wV s 1, wV s 2, wV s 3, wV s 4, wV s 5, wV s 6, wV s 7] 85)) (w.heap.size + 1) #[.int .i64 0, .int .i64 0] 43 ∧ Below w.heap.size w (((w.alloc (.cells #[wV s 0, wV s 1, wV s 2, wV s 3, wV s 4, wV s 5, wV s 6, wV s 7, .slice ao fs.length cp] 87)).alloc (.cells #[.int .i64 0, .int .i64 0] 43)).alloc (.cells #[wV s 0, wV s 1, wV s 2, wV s 3, wV s 4, wV s 5, wV s 6, wV s 7] 85))) := by
    refine Lib.hid ⟨⟨rfl, rfl⟩, ?_, ?_, below_alloc (below_alloc (below_alloc (Below.refl _ _) _) _) _⟩
    · have := BlockAt.new ((w.alloc (.cells #[wV s 0, wV s 1, wV s 2, wV s 3, wV s 4, wV s 5, wV s 6, wV s 7, .slice ao fs.length cp] 87)).alloc (.cells #[.int .i64 0, .int .i64 0] 43)) #[wV s 0, wV s 1, wV s 2, wV s 3, wV s 4, wV s 5, wV s 6, wV s 7] 85
      simpa only [World.size_alloc] using this
    · have := (BlockAt.new (w.alloc (.cells #[wV s 0, wV s 1, wV s 2, wV s 3, wV s 4, wV s 5, wV s 6, wV s 7, .slice ao fs.length cp] 87)) #[.int .i64 0, .int .i64 0] 43).alloc (.cells #[wV s 0, wV s 1, wV s 2, wV s 3, wV s 4, wV s 5, wV s 6, wV s 7] 85)
      simpa only [World.size_alloc] using this
  go_enter Try.func73, Try.ntmps73
  go_wp2
  go_loopw [5, 17] (fun u t wr => ∃ k b a : Nat, (k ≤ fs.length ∧ b ≤ 1048576) ∧ t = .int .i64 k ∧ u = .int .i64 b ∧ Hid ((b = Rd.Bl s (facF fs) k ∧ a = Rd.A s (facF fs) k) ∧ BlockAt wr (w.heap.size + 1 + 1) #[wV a 0, wV a 1, wV a 2, wV a 3, wV a 4, wV a 5, wV a 6, wV a 7] 85 ∧ BlockAt wr (w.heap.size + 1) #[.int .i64 0, .int .i64 0] 43 ∧ Below w.heap.size w wr)) (fun _ t _ => fs.length - (intOf t).toNat)
  case atStart => exact ⟨0, 1, s, ⟨by omega, by omega⟩, rfl, rfl, H0⟩
  case round =>
    obtain ⟨k, b, a, hk, rfl, rfl, hg⟩ := hrel
    clear H0
    obtain ⟨hk, hb20⟩ := hk
    obtain ⟨⟨hb, ha⟩, b0, b1, hw⟩ := hg.out
    have has : a ≤ s := by rw [ha]; exact Rd.A_le _ _ _
    have ha8 : a < Wd.B ^ 8 := Nat.lt_of_le_of_lt has HS.out.1
    by_cases hlt : k < fs.length
    · obtain ⟨hf1, hf2⟩ := HF.out k hlt
      have hfa := facF_at hlt hf1
      have hcell : ∃ bb off, ao = some ⟨bb, off, none⟩ ∧ wr.cell? ⟨bb, off + k, none⟩ = some (.int .i64 (fs.getD k 0 : Nat)) := by
        rcases HV.out with ⟨a, c, e, rfl⟩ | ⟨bb, off, cap, e, _, h3, h4⟩
        · cases hlt
        · simp only [Value.slice.injEq] at e
          exact ⟨bb, off, e.1, (hw.cell (p := ⟨bb, off + k, none⟩) h3).trans (h4 k hlt)⟩
      obtain ⟨bb, off, rfl, hc⟩ := hcell
      have hbn : Rd.Bl s (facF fs) (k + 1) = b * (fs.getD k 0 / Nat.gcd a (fs.getD k 0)) := by rw [hb, ha, ← hfa]; rfl
      have han : Rd.A s (facF fs) (k + 1) = a / Nat.gcd a (fs.getD k 0) := by rw [ha, ← hfa]; rfl
      generalize fs.getD k 0 = f at *
      have hg0 : 0 < Nat.gcd a f := Nat.gcd_pos_of_pos_right _ hf1
      have hgf : Nat.gcd a f ≤ f := Nat.le_of_dvd hf1 (Nat.gcd_dvd_right _ _)
      have hq1 : 1 ≤ f / Nat.gcd a f := Nat.div_pos hgf hg0
      have hqf : f / Nat.gcd a f ≤ f := Nat.div_le_self _ _
      have hqg : f / (f / Nat.gcd a f) = Nat.gcd a f := Nat.div_div_self (Nat.gcd_dvd_right _ _) (by omega)
      have hde := Rd.de_rest (a := a) (f := f) hf1 (by omega)
      have hml := Nat.mod_lt a hf1
      have MK := Lib.hid (fun W => make_any ((a % f : Nat) : Int) (f : Int) W (by omega) (by omega) (by omega) (by omega))
      rw [hde] at MK
      have D1 := Lib.hid (fun W => divided_any a f W ha8 hf1 (by omega) (HD.out a f has hf1 (by omega)))
      have D2 := Lib.hid (fun W => divided_any a (Nat.gcd a f) W ha8 hg0 (by omega) (HD.out a (Nat.gcd a f) has hg0 (by omega)))
      have hqq : (f : Int) / ((f / Nat.gcd a f : Nat) : Int) = ((Nat.gcd a f : Nat) : Int) := by rw [← Int.natCast_ediv, hqg]
      have hmul : b * (f / Nat.gcd a f) ≤ 1048576 * 600000 := Nat.mul_le_mul hb20 (by omega)
      rw [← han] at D2
      clear hde hqg hfa hb ha hg
      generalize Fr.nu ((a % f : Nat) : Int) (f : Int) = nu at *
      generalize Fr.er ((a % f : Nat) : Int) (f : Int) = er at *
      generalize a % Nat.gcd a f = z2 at *
      generalize f / Nat.gcd a f = q at *
      generalize Nat.gcd a f = g at *
      generalize a % f = z1 at *
      have HB := Lib.hid (And.intro b0 (And.intro b1 hw))
      have HN := Lib.hid (And.intro hbn han)
      have hm0 : (0 : Int) ≤ (b : Int) * (q : Int) := Int.mul_nonneg (by omega) (by omega)
      have hm1 : (b : Int) * (q : Int) ≤ 629145600000 := by have : ((b * q : Nat) : Int) ≤ 629145600000 := by omega
                                                            simpa using this
      obtain ⟨c0, c1, c2, c3, c4, c5, c6, c7⟩ := nat_cells b0
      have hs0 := b0.lt
      clear b0 b1 hw hbn han hmul hml hqf
      go_wp2_with fail
      refine (D1.out _).mono ?_
      rintro e w1 ⟨rfl, hb1⟩
      obtain ⟨b0, b1, hw⟩ := HB.out
      have b0 := (b0.below hb1 b0.lt).alloc (.cells #[wV (a / f) 0, wV (a / f) 1, wV (a / f) 2, wV (a / f) 3, wV (a / f) 4, wV (a / f) 5, wV (a / f) 6, wV (a / f) 7] 85)
      have b1 := (b1.below hb1 b1.lt).alloc (.cells #[wV (a / f) 0, wV (a / f) 1, wV (a / f) 2, wV (a / f) 3, wV (a / f) 4, wV (a / f) 5, wV (a / f) 6, wV (a / f) 7] 85)
      have hw := below_alloc (below_step hw hb1) (.cells #[wV (a / f) 0, wV (a / f) 1, wV (a / f) 2, wV (a / f) 3, wV (a / f) 4, wV (a / f) 5, wV (a / f) 6, wV (a / f) 7] 85)
      have HB := Lib.hid (And.intro b0 (And.intro b1 hw))
      clear b0 b1 hw hb1 c0 c1 c2 c3 c4 c5 c6 c7 D1
      go_wp2_with fail
      refine (MK.out _).mono ?_
      rintro e w2 ⟨rfl, hb2⟩
      obtain ⟨b0, b1, hw⟩ := HB.out
      have b0 := (b0.below hb2 b0.lt).alloc (.cells #[.int .i64 nu, .int .i64 q] 43)
      have b1 := (b1.below hb2 b1.lt).alloc (.cells #[.int .i64 nu, .int .i64 q] 43)
      have b10 := BlockAt.new w2 #[.int .i64 nu, .int .i64 q] 43
      have hw := below_alloc (below_step hw hb2) (.cells #[.int .i64 nu, .int .i64 q] 43)
      clear hb2 MK
      go_wp2_with fail
      obtain ⟨c0, c1, c2, c3, c4, c5, c6, c7⟩ := nat_cells b0
      have hqi : (1 : Int) ≤ (q : Int) := by omega
      have hq0 : ¬ q = 0 := by omega
      have hwg := wrap_i (a := (g : Int)) (by omega) (by omega)
      have hS0 : (w2.alloc (.cells #[.int .i64 nu, .int .i64 q] 43)).drew.cell? ⟨w2.heap.size, 1, none⟩ = some (.int .i64 q) := b10.cell 1
      have hne : (w2.heap.size : Nat) ≠ w.heap.size + 1 + 1 := by have := b0.lt; simp at this; intro e; rw [e] at b10; have := b10.symm.trans b0; simp at this
      have HB := Lib.hid (And.intro b0 (And.intro b1 (And.intro b10 hw)))
      clear b0 b1 b10 hw
      refine wp_region_seq [(1, true), (2, true), (3, true), (4, true), (0, false), (5, false), (6, true), (7, true), (8, true), (9, false)]
        (fun W => W.cell? ⟨w2.heap.size, 1, none⟩ = some (.int .i64 q))
        (by kernel_rfl) (by kernel_rfl) (by kernel_rfl) (by kernel_rfl) (fun d _ _ _ _ h => by cases d <;> exact h) hS0 (fun hS => ?_)
      clear hS0
      repeat (refine SeqH.take (v := ?_) rfl (by rfl) ?_ ?_; rotate_left; (· intro w hSw; (try dsimp only at hSw); go_simp; (try with_reducible rfl)); simp only [Act.put, List.setIfInBounds_toArray, List.set_cons_zero, List.set_cons_succ])
      refine SeqH.step rfl (by rfl) (fun K hK => ?_)
      go_simp
      refine hK.out _ _ hS (fun _ => ?_)
      clear hK K
      try simp only [Act.put, List.setIfInBounds_toArray, List.set_cons_zero, List.set_cons_succ]
      refine SeqH.step rfl (by rfl) (fun K hK => ?_)
      go_simp
      refine (D2.out _).mono ?_
      rintro e w3 ⟨rfl, hb3⟩
      obtain ⟨b0, b1, b10, hw⟩ := HB.out
      have b0 := b0.drew.below hb3 b0.lt
      have b1 := b1.drew.below hb3 b1.lt
      have b10 := b10.drew.below hb3 b10.lt
      have hw := below_step hw.drew hb3
      have hS3 : w3.cell? ⟨w2.heap.size, 1, none⟩ = some (.int .i64 q) := b10.cell 1
      obtain ⟨c0, c1, c2, c3, c4, c5, c6, c7⟩ := nat_cells b0
      obtain ⟨f0, f1, f2, f3, f4, f5, f6, f7⟩ := free8 b0
      have HB := Lib.hid (And.intro b0 (And.intro b1 (And.intro b10 hw)))
      clear hb3 b0 b1 b10 hw hS D2
      try dsimp only
      refine hK.out _ _ hS3 (fun hS => ?_)
      clear hK K hS3
      try simp only [Act.put, List.setIfInBounds_toArray, List.set_cons_zero, List.set_cons_succ]
      repeat (refine SeqH.take (v := ?_) rfl (by rfl) ?_ ?_; rotate_left; (· intro w hSw; (try dsimp only at hSw); go_simp; (try with_reducible rfl)); simp only [Act.put, List.setIfInBounds_toArray, List.set_cons_zero, List.set_cons_succ])
      refine SeqH.step rfl (by rfl) (fun K hK => ?_)
      go_simp
      obtain ⟨b0, b1, b10, hw⟩ := HB.out
      obtain ⟨W2, hW⟩ : ∃ W2, storeN w3 (w.heap.size + 1 + 1) (Rd.A s (facF fs) (k + 1)) = W2 := ⟨_, rfl⟩
      have hb := store_below hw (by omega) hW
      have b0 := store_same (n := Rd.A s (facF fs) (k + 1)) b0
      have b1 := store_other (B := w.heap.size + 1 + 1) (n := Rd.A s (facF fs) (k + 1)) b1 (by omega)
      have b10 := store_other (B := w.heap.size + 1 + 1) (n := Rd.A s (facF fs) (k + 1)) b10 hne
      rw [hW] at b0 b1 b10
      unfold storeN at hW
      rw [hW]
      have hS3 : W2.cell? ⟨w2.heap.size, 1, none⟩ = some (.int .i64 q) := b10.cell 1
      refine hK.out _ _ hS3 (fun _ => ?_)
      try simp only [Act.put, List.setIfInBounds_toArray, List.set_cons_zero, List.set_cons_succ]
      refine SeqH.done ?_
      have d0 := b1.cell 0
      have d1 := b1.cell 1
      have e0 := b1.frozen 0
      have e1 := b1.frozen 1
      have hsz := b1.lt
      have HC := Lib.hid (And.intro b0 (And.intro b1 hb))
      clear b0 b1 b10 hb hW hw hK K hS HB c0 c1 c2 c3 c4 c5 c6 c7 f0 f1 f2 f3 f4 f5 f6 f7 hwg hqq hc
      go_wp2
      · have hbig : (1048576 : Int) < (b : Int) * (q : Int) := by assumption
        have hbq : ((b * q : Nat) : Int) = (b : Int) * q := by simp
        have hbq2 : 1048576 < b * q := by omega
        have hL := Rd.large (facF_pos fs) (s := s) (n := fs.length) (j := k + 1) hlt (by rw [HN.out.1]; exact hbq2)
        rw [HP.out] at hL
        have HL := Lib.hid hL
        have hw := HC.out.2.2
        clear hL
        exact bodyPost_ret (v := .tuple #[rat 0 0, .int .i64 4]) (by simp [results, Try.results73, go_sem, d0, d1, hsz]) rfl ⟨by rw [HL.out.1, HL.out.2.1, HL.out.2.2], (hw.setCell (by simp) _).setCell (by simp) _⟩
      · go_roundw
        case rel =>
          refine ⟨k + 1, b * q, Rd.A s (facF fs) (k + 1), ⟨by omega, ?_⟩, by go_num, by simp, Lib.hid ⟨⟨HN.out.1.symm, rfl⟩, HC.out⟩⟩
          have : (b : Int) * (q : Int) ≤ 1048576 := by omega
          have : ((b * q : Nat) : Int) = (b : Int) * q := by simp
          omega
        case measure => simp [intOf]; omega
    · obtain rfl : k = fs.length := by omega
      have hft := Rd.fits (facF_pos fs) (s := s) (n := fs.length) (by rw [← hb]; exact hb20)
      rw [HP.out, ← ha, ← hb] at hft
      have hcop := Rd.cop (facF_pos fs) s fs.length
      rw [← ha, ← hb] at hcop
      have hbp := Rd.Bl_pos (facF_pos fs) s fs.length
      rw [← hb] at hbp
      have hcr := Rd.cross (facF_pos fs) s fs.length
      rw [HP.out, ← ha, ← hb] at hcr
      have hab : a ≤ b := by
        have hpp := Rd.pr0_pos (facF_pos fs) fs.length
        rw [HP.out] at hpp
        have : a * prodL fs ≤ b * prodL fs := by rw [hcr, Nat.mul_comm b]; exact Nat.mul_le_mul_right _ HS.out.2
        exact Nat.le_of_mul_le_mul_right this hpp
      have hm := Rd.made hcop hbp (by omega) hb20
      have hwd := Wd.wd_zero_of_lt (a := a) (by unfold Wd.B; omega)
      obtain ⟨c0, c1, c2, c3, c4, c5, c6, c7⟩ := nat_cells b0
      unfold wV at c0
      rw [hwd] at c0
      have hwi := wrap_i (a := (a : Int)) (by omega) (by omega)
      have MK := Lib.hid (fun W => make_any (a : Int) (b : Int) W (by omega) (by omega) (by omega) (by omega))
      rw [hm.1, hm.2.1, hm.2.2] at MK
      have HL := Lib.hid hft
      have HB := Lib.hid (And.intro b1 hw)
      clear hft hcop hbp hcr hm hwd c1 c2 c3 c4 c5 c6 c7 b0 b1 hw hg hb ha
      go_wp2_with fail
      refine (MK.out _).mono ?_
      rintro e w1 ⟨rfl, hb1⟩
      obtain ⟨b1, hw⟩ := HB.out
      have b1 := b1.below hb1 b1.lt
      have hw := below_step hw hb1
      have d0 := b1.cell 0
      have d1 := b1.cell 1
      have e0 := b1.frozen 0
      have e1 := b1.frozen 1
      have hsz := b1.lt
      clear b1 hb1 MK HB
      go_wp2
      exact bodyPost_ret (v := .tuple #[rat a b, .int .i64 0]) (by simp [results, Try.results73, go_sem, d0, d1, hsz]) rfl ⟨by rw [HL.out.1, HL.out.2.1, HL.out.2.2], (hw.setCell (by simp) _).setCell (by simp) _⟩
end Go.Proofs.Ytccjbefmcifaeaa
