/- Parts of a laid band, and fewer articles: plain; the program's Best of them. RollSplits returns true, whatever the band, the articles and the place. -/
import Derived.Test.YtilpofmjkcjhdaaRwK
import Derived.Test.YtilpofmjkcjhdaaRbC
import Derived.Test.YtilpofmjkcjhdaaRnA
import Derived.Test.YtilpofmjkcjhdaaRfA
import Derived.Test.YtilpofmjkcjhdaaRwI
namespace Go.Proofs.Ytilpofmjkcjhdaa
open Go.RowKit

namespace Bd
theorem le_len {b : List R} (h : pos b) : ∀ {r : R}, r ∈ b → r.l ≤ len b := by
  induction b with
  | nil => intro r hr; cases hr
  | cons q b ih =>
    intro r hr
    obtain ⟨h1, h2⟩ := pos_cons.1 h
    have h3 := len_nonneg h2
    rcases List.mem_cons.1 hr with rfl | hr
    · simp only [len]; omega
    · have := ih h2 hr; simp only [len]; omega
theorem mem_exp {b : List R} (h : pos b) : ∀ {r : R}, r ∈ b → r.m ∈ exp b := by
  induction b with
  | nil => intro r hr; cases hr
  | cons q b ih =>
    intro r hr
    obtain ⟨h1, h2⟩ := pos_cons.1 h
    rcases List.mem_cons.1 hr with rfl | hr
    · exact List.mem_append_left _ (List.mem_replicate.2 ⟨by omega, rfl⟩)
    · exact List.mem_append_right _ (ih h2 hr)
theorem exp_mem : ∀ {b : List R} {m : M}, m ∈ exp b → ∃ r ∈ b, r.m = m
  | [], m, h => by cases h
  | q :: b, m, h => by
    rcases List.mem_append.1 h with h | h
    · exact ⟨q, by simp, (List.mem_replicate.1 h).2.symm⟩
    · obtain ⟨r, h1, h2⟩ := exp_mem h
      exact ⟨r, by simp [h1], h2⟩
theorem valE_told {b : List R} (hp : pos b) (ho : ∀ m ∈ exp b, okM m = true) (ht : toldE b = 0) : valE (toldR b) = 0 ∧ toldR b = norm b := by
  by_cases h : 40 < (norm b).length ∨ 1000000 < len b
  · rw [(told_large h).1] at ht; omega
  · rw [(told_fits h).2]
    have hq := nrm_pos (norm_nrm hp)
    refine ⟨?_, rfl⟩
    have ha : (norm b).all okR = true := by
      rw [List.all_eq_true]
      intro r hr
      have h1 := le_len hq hr
      have h2 := hq r hr
      rw [norm_len] at h1
      have h3 := mem_exp hq hr
      rw [norm_exp hp] at h3
      simp only [okR, Bool.and_eq_true, decide_eq_true_eq]
      exact ⟨⟨by omega, by omega⟩, ho _ h3⟩
    unfold valE
    rw [if_neg (by omega), if_neg (by rw [ha]; simp), norm_len, if_neg (by omega)]
theorem exp_okM {b : List R} (h : valE b = 0) : ∀ m ∈ exp b, okM m = true := by
  intro m hm
  obtain ⟨r, h1, rfl⟩ := exp_mem hm
  have := (valE_zero h).2.1 r h1
  simp only [okR, Bool.and_eq_true] at this
  exact this.2
end Bd
theorem Ro.sli_part {rs : List Bd.R} {al : List Ro.A} {fr to : Int} (hz : Ro.layE rs al = 0) (hs : Bd.sliE rs fr to = 0) :
    Ro.layE (Bd.sliR rs fr to) al = 0 ∧ Bd.exp (Bd.sliR rs fr to) = ((Bd.exp rs).take to.toNat).drop fr.toNat ∧ (Bd.sliR rs fr to).length ≤ 1000 := by
  obtain ⟨z1, z2, z3, z4⟩ := Ro.layE_zero.1 hz
  obtain ⟨h1, h2, h3, h4⟩ := Bd.sliE_zero.1 hs
  have hf := Bd.fine_of_valid h1
  have hc := Bd.len_cutL hf h2 h3 h4
  have hp := Bd.pos_cutL rs fr to
  have he := Bd.exp_cutL hf (to := to) h2
  obtain ⟨t1, t2⟩ := Bd.told_cut hs
  have hok : ∀ m ∈ Bd.exp (Bd.cutL rs fr to), Bd.okM m = true := fun m hm => by
    rw [he] at hm
    exact Bd.exp_okM h1 m (List.mem_of_mem_take (List.mem_of_mem_drop hm))
  have hv := (Bd.valE_told hp hok t1).1
  rw [t2] at hv
  have hR : Bd.sliR rs fr to = Bd.norm (Bd.cutL rs fr to) := if_pos hs
  rw [hR]
  refine ⟨Ro.layE_zero.2 ⟨hv, ?_, z3, z4⟩, ?_, ?_⟩
  · rw [Bd.norm_len, hc]; omega
  · rw [Bd.norm_exp hp, he]
  · have := (Bd.valE_zero hv).1; omega
theorem Ro.lay_fewer {rs : List Bd.R} {al : List Ro.A} {k : Nat} (hz : Ro.layE rs al = 0) : Ro.layE rs (al.take k) = 0 := by
  obtain ⟨z1, z2, z3, z4⟩ := Ro.layE_zero.1 hz
  exact Ro.layE_zero.2 ⟨z1, z2, by rw [List.length_take]; omega, fun a ha => z4 a (List.mem_of_mem_take ha)⟩
/-- The greatest value of a band, and those of its parts. -/
theorem Ro.two_parts {rs : List Bd.R} {al : List Ro.A} {p : Int} (hz : Ro.layE rs al = 0) (hs : Bd.sliE rs 0 p = 0) :
    Bd.sliE rs p (Bd.lenR rs) = 0 ∧ ∃ a b c : Int, a = Ro.W (Bd.exp (Bd.sliR rs 0 p)) al (Bd.exp (Bd.sliR rs 0 p)).length ∧ b = Ro.W (Bd.exp (Bd.sliR rs p (Bd.lenR rs))) al (Bd.exp (Bd.sliR rs p (Bd.lenR rs))).length ∧ c = Ro.W (Bd.exp rs) al (Bd.exp rs).length ∧ 0 ≤ a ∧ 0 ≤ b ∧ a + b ≤ c ∧ c ≤ 3000000 := by
  obtain ⟨f1, f2, f3, f4, f5, f6⟩ := Ro.lay_facts hz
  obtain ⟨h1, h2, h3, h4⟩ := Bd.sliE_zero.1 hs
  have hL := Bd.lenR_zero f1
  have hs2 : Bd.sliE rs p (Bd.lenR rs) = 0 := Bd.sliE_zero.2 ⟨f1, by rw [hL]; exact ⟨h3, h4, Int.le_refl _⟩⟩
  refine ⟨hs2, _, _, _, rfl, rfl, rfl, Ro.W_nonneg _ _ _, Ro.W_nonneg _ _ _, ?_, ?_⟩
  · have e1 := (Ro.sli_part hz hs).2.1
    have e2 := (Ro.sli_part hz hs2).2.1
    rw [show ((0 : Int).toNat) = 0 from rfl, List.drop_zero] at e1
    rw [hL, f3, Int.toNat_natCast, List.take_length] at e2
    have hn : p.toNat ≤ (Bd.exp rs).length := by omega
    have := Ro.W_parts (ms := Bd.exp rs) f6 hn
    rw [hL, f3, e1, e2, List.length_take, List.length_drop, Nat.min_eq_left hn]
    exact this
  · have := Ro.W_bound (ms := Bd.exp rs) f6 (Bd.exp rs).length
    omega
theorem RowsOf.front {α : Type} {c : Nat} {At : World → Nat → Nat → α → Prop} {w : World} {a : Option Addr} {n k : Nat} {xs : List α} (h : RowsOf c At w (.slice a n k) xs) {m : Nat} (hm : m ≤ n) : RowsOf c At w (.slice a m k) (xs.take m) := by
  obtain ⟨a', k', e, hk⟩ := h
  simp only [Value.slice.injEq] at e
  obtain ⟨rfl, rfl, rfl⟩ := e
  have hl : (xs.take m).length = m := by rw [List.length_take]; omega
  refine ⟨_, _, by rw [hl], fun i hi => ?_⟩
  obtain ⟨b, off, e1, e2, e3⟩ := hk i (by omega)
  exact ⟨b, off, e1, e2, by rw [List.getElem_take]; exact e3⟩
theorem Own.form2 {base : Nat} {w : World} {v : Value} {rs : List Bd.R} (h : Own base w v rs) : ∃ a c, v = .slice a rs.length c := h.runs.form
section
open Go.ChangeShapes Go.WideShapes Go.ChangeAt Go.RowKit Go.Deep
variable {H : Type} {enc : TypeId × Value → H}
set_option maxRecDepth 100000 in
theorem open_artsC {W : World} {base : Nat} {v : Value} {d : DataW H} {p : List MemPlace} (hv : Value.okWide Try.prog W .any base 23 v)
    (h : DataW.Trod enc Try.prog W 0 (fun _ => true) true 23 v d p) : ∃ al, Arts W v al ∧ ∃ a c, v = .slice a al.length c ∧ al.length ≤ c := by
  obtain ⟨a, l, c, rfl⟩ := okWide_slice Try.underlying23 hv
  obtain ⟨fuel, hf⟩ := h
  have hr := rows_of (α := Ro.A) (c := 6) (v := .slice a l c) Try.underlying23 (by kernel_rfl) (by decide) (ArtAt W) ?_ ?_ hf
  · obtain ⟨xs, hx⟩ := hr
    rcases hx with ⟨a1, k, e1, rfl, e2⟩ | ⟨b, off, cap, e1, e2, e3, e4⟩
    · exact ⟨[], ⟨a1, k, e1, fun k hk => by simp at hk⟩, a1, k, e1, Nat.zero_le _⟩
    · refine ⟨xs, ⟨_, cap, e1, fun k hk => ⟨b, off, rfl, e3, ?_⟩⟩, _, cap, e1, e2⟩
      have := e4 k hk
      rwa [show xs.getD k default = xs[k] by simp [hk]] at this
  · intro n cs y h
    obtain ⟨p, rfl⟩ := art_of h
    exact ⟨p, fun b off hc => ⟨hc 0 (by decide), hc 1 (by decide), hc 2 (by decide), hc 3 (by decide), hc 4 (by decide), hc 5 (by decide)⟩⟩
  · intro n cs y h
    obtain ⟨p, rfl⟩ := art_of h
    rfl
end
end Go.Proofs.Ytilpofmjkcjhdaa
namespace Go.Proofs.Ytilpofmjkcjhdaa
open Go.RowKit

theorem best_val (v u : Value) (rs : List Bd.R) (al : List Ro.A) (w : World) (hv : Runs w v rs) (hu : Arts w u al) (hl : rs.length ≤ 1000) (hal : al.length ≤ 1000) (hz : Ro.layE rs al = 0) (r : Int) (hr : r = Ro.W (Bd.exp rs) al (Bd.exp rs).length) :
    Calls Try.prog 31 #[v, u] w fun e w' => ∃ a n c, e = .returned (.tuple #[.slice a n c, .int .i64 r, .int .i64 0]) ∧ Below w.heap.size w w' := by
  refine (best_good v u rs al w hv hu hl hal hz).mono ?_
  rintro e w' ⟨a, c, xs, rfl, _, _, _, hb⟩
  exact ⟨_, _, _, by rw [hr], hb⟩

set_option maxRecDepth 20000 in
set_option maxHeartbeats 4000000 in
theorem splits_walk (v u : Value) (rs : List Bd.R) (al : List Ro.A) (p : Int) (w : World) (hv : Runs w v rs) (hu : Arts w u al) (hcap : ∃ a c, u = .slice a al.length c ∧ al.length ≤ c) :
    Calls Try.prog 14 #[v, u, .int .i64 p] w fun e w' => e = .returned (.bool true) ∧ Below w.heap.size w w' := by
  have LO := Lib.hid (rollLong_any v u (.slice none 0 0) rs al.length 0 _ hv (by obtain ⟨a, c, h, _⟩ := hu; exact ⟨a, c, h⟩) ⟨none, 0, rfl⟩)
  have KN := Lib.hid (fun W => rollKnown_any W)
  cases hL : (decide (100 < rs.length) || (decide (40 < al.length) || decide (400 < 0)))
  case true =>
    rw [hL] at LO
    obtain ⟨va, vc, rfl⟩ := hv.form
    obtain ⟨ua, uc, rfl, _⟩ := hu
    clear hv hL hcap
    go_enter Try.func14, Try.ntmps14
    go_wp2_with fail
    refine LO.out.mono ?_
    rintro e w1 ⟨rfl, hb1⟩
    have HB1 := Lib.hid hb1
    clear hb1 LO
    go_wp2_with fail
    refine (KN.out _).mono ?_
    rintro e w2 ⟨rfl, hb2⟩
    have HB2 := Lib.hid (below_step HB1.out hb2)
    clear hb2 HB1 KN
    go_wp2
    go_ret
    exact ⟨rfl, HB2.out⟩
  rw [hL] at LO
  simp only [Bool.or_eq_false_iff, decide_eq_false_iff_not] at hL
  have hl : rs.length ≤ 1000 := by omega
  have hal : al.length ≤ 1000 := by omega
  have LE := Lib.hid (fun W (hW : Below w.heap.size w W) => num_length_any v rs W (hv.all hW) hl)
  have SL := Lib.hid (fun fr to W (hW : Below w.heap.size w W) => num_slice_any v rs fr to W (hv.all hW) hl)
  by_cases hz : Ro.layE rs al = 0
  case neg =>
    have BE := Lib.hid (fun W (hW : Below w.heap.size w W) => best_bad v u rs al W (hv.all hW) (hu.all hW) hl hal hz)
    generalize Ro.layE rs al = q at *
    have hd : (q == 0) = false := beq_eq_false_iff_ne.2 hz
    have hd2 : (q != 0) = true := by rw [bne, hd]; rfl
    obtain ⟨va, vc, rfl⟩ := hv.form
    obtain ⟨ua, uc, rfl, _⟩ := hu
    clear hv hL hl hal hz hcap
    go_enter Try.func14, Try.ntmps14
    go_wp2_with fail
    refine LO.out.mono ?_
    rintro e w1 ⟨rfl, hb1⟩
    have H1 := Lib.hid hb1
    clear hb1 LO
    go_wp2_with fail
    refine (BE.out _ H1.out).mono ?_
    rintro e w2 ⟨rfl, hb2⟩
    have H2 := Lib.hid (below_step H1.out hb2)
    clear hb2 H1 BE
    go_wp2_with fail
    refine (LE.out _ H2.out).mono ?_
    rintro e w3 ⟨rfl, hb3⟩
    have H3 := Lib.hid (below_step H2.out hb3)
    clear hb3 H2 LE
    go_wp2_with fail
    refine (SL.out _ _ _ H3.out).mono ?_
    rintro e w4 ⟨x, rfl, hx, hb4⟩
    have H4 := Lib.hid (below_step H3.out hb4)
    have HX := Lib.hid hx
    obtain ⟨xa, xc, rfl⟩ := hx.form2
    clear hb4 H3 hx
    go_wp2_with fail
    refine (SL.out _ _ _ H4.out).mono ?_
    rintro e w5 ⟨y, rfl, hy, hb5⟩
    have H5 := Lib.hid (And.intro (HX.out.all hb5) (And.intro hy (below_step H4.out hb5)))
    obtain ⟨ya, yc, rfl⟩ := hy.form2
    clear hb5 H4 hy HX SL
    go_wp2_with fail
    refine (KN.out _).mono ?_
    rintro e w9 ⟨rfl, hb9⟩
    have H9 := Lib.hid (below_step H5.out.2.2 hb9)
    clear hb9 KN
    go_wp2
    go_ret
    exact ⟨rfl, H9.out⟩
  have hvz := (Ro.lay_facts hz).1
  by_cases hs : Bd.sliE rs 0 p = 0
  case neg =>
    have BE := Lib.hid (fun W (hW : Below w.heap.size w W) => best_val v u rs al W (hv.all hW) (hu.all hW) hl hal hz _ rfl)
    rw [hvz] at LE
    generalize Ro.W (Bd.exp rs) al (Bd.exp rs).length = r at *
    obtain ⟨q, hq⟩ : ∃ q, q = Bd.sliE rs 0 p := ⟨_, rfl⟩
    have S1 := Lib.hid (fun W (hW : Below w.heap.size w W) => SL.out 0 p W hW)
    rw [← hq] at S1 hs
    have hd : (q == 0) = false := beq_eq_false_iff_ne.2 hs
    have hd2 : (q != 0) = true := by rw [bne, hd]; rfl
    obtain ⟨va, vc, rfl⟩ := hv.form
    obtain ⟨ua, uc, rfl, _⟩ := hu
    clear hv hL hl hal hz hs hcap hq hvz
    go_enter Try.func14, Try.ntmps14
    go_wp2_with fail
    refine LO.out.mono ?_
    rintro e w1 ⟨rfl, hb1⟩
    have H1 := Lib.hid hb1
    clear hb1 LO
    go_wp2_with fail
    refine (BE.out _ H1.out).mono ?_
    rintro e w2 ⟨ba, bn, bc, rfl, hb2⟩
    have H2 := Lib.hid (below_step H1.out hb2)
    clear hb2 H1 BE
    go_wp2_with fail
    refine (LE.out _ H2.out).mono ?_
    rintro e w3 ⟨rfl, hb3⟩
    have H3 := Lib.hid (below_step H2.out hb3)
    clear hb3 H2 LE
    go_wp2_with fail
    refine (S1.out _ H3.out).mono ?_
    rintro e w4 ⟨x, rfl, hx, hb4⟩
    have H4 := Lib.hid (below_step H3.out hb4)
    have HX := Lib.hid hx
    obtain ⟨xa, xc, rfl⟩ := hx.form2
    clear hb4 H3 hx
    go_wp2_with fail
    refine (SL.out _ _ _ H4.out).mono ?_
    rintro e w5 ⟨y, rfl, hy, hb5⟩
    have H5 := Lib.hid (And.intro (HX.out.all hb5) (And.intro hy (below_step H4.out hb5)))
    obtain ⟨ya, yc, rfl⟩ := hy.form2
    clear hb5 H4 hy HX SL
    go_wp2_with fail
    refine (KN.out _).mono ?_
    rintro e w9 ⟨rfl, hb9⟩
    have H9 := Lib.hid (below_step H5.out.2.2 hb9)
    clear hb9 KN
    go_wp2
    go_ret
    exact ⟨rfl, H9.out⟩
  obtain ⟨hs2, a, b, c, ha, hb, hc, n1, n2, n3, n4⟩ := Ro.two_parts hz hs
  obtain ⟨x1, x2, x3⟩ := Ro.sli_part hz hs
  obtain ⟨y1, y2, y3⟩ := Ro.sli_part hz hs2
  have BE := Lib.hid (fun W (hW : Below w.heap.size w W) => best_val v u rs al W (hv.all hW) (hu.all hW) hl hal hz c hc)
  have BX := Lib.hid (fun x W (hW : Below w.heap.size w W) (hx : Runs W x (Bd.sliR rs 0 p)) => best_val x u _ al W hx (hu.all hW) x3 hal x1 a ha)
  have BY := Lib.hid (fun x W (hW : Below w.heap.size w W) (hx : Runs W x (Bd.sliR rs p (Bd.lenR rs))) => best_val x u _ al W hx (hu.all hW) y3 hal y1 b hb)
  have S1 := Lib.hid (fun W (hW : Below w.heap.size w W) => SL.out 0 p W hW)
  have S2 := Lib.hid (fun W (hW : Below w.heap.size w W) => SL.out p (Bd.lenR rs) W hW)
  rw [hs] at S1
  rw [hs2] at S2
  rw [hvz] at LE
  obtain ⟨ua, uc, rfl, hcp⟩ := hcap
  have BF : Hid (0 < al.length → ∃ d : Int, d ≤ c ∧ ∀ W, Below w.heap.size w W → Calls Try.prog 31 #[v, .slice ua (al.length - 1) uc] W fun e w' => ∃ a n c, e = .returned (.tuple #[.slice a n c, .int .i64 d, .int .i64 0]) ∧ Below W.heap.size W w') := Lib.hid (fun _ => ⟨Ro.W (Bd.exp rs) (al.take (al.length - 1)) (Bd.exp rs).length, by rw [hc]; exact Ro.W_fewer (Ro.lay_facts hz).2.2.2.2.2 (fun a ha => List.mem_of_mem_take ha), fun W hW => best_val v _ rs (al.take (al.length - 1)) W (hv.all hW) (RowsOf.front (hu.all hW) (by omega)) hl (by rw [List.length_take]; omega) (Ro.lay_fewer hz) _ rfl⟩)
  have hwab : IntKind.i64.wrap (a + b) = a + b := IntWalk.i64_in _ ⟨by omega, by omega⟩
  have d1 : decide (c < a + b) = false := decide_eq_false (by omega)
  have d2 : decide (c < a) = false := decide_eq_false (by omega)
  have d3 : decide (c < b) = false := decide_eq_false (by omega)
  obtain ⟨va, vc, rfl⟩ := hv.form
  clear hv hu hL hl hz hs hs2 hvz ha hb hc x1 x2 x3 y1 y2 y3 n1 n2 n3 n4 SL
  generalize Bd.sliR rs 0 p = xs at *
  generalize Bd.sliR rs p (Bd.lenR rs) = ys at *
  generalize Bd.lenR rs = N at *
  generalize al.length = m at *
  rcases Nat.eq_zero_or_pos m with rfl | hm
  · clear BF
    go_enter Try.func14, Try.ntmps14
    go_wp2_with fail
    refine LO.out.mono ?_
    rintro e w1 ⟨rfl, hb1⟩
    have H1 := Lib.hid hb1
    clear hb1 LO
    go_wp2_with fail
    refine (BE.out _ H1.out).mono ?_
    rintro e w2 ⟨ba, bn, bc, rfl, hb2⟩
    have H2 := Lib.hid (below_step H1.out hb2)
    clear hb2 H1 BE
    go_wp2_with fail
    refine (LE.out _ H2.out).mono ?_
    rintro e w3 ⟨rfl, hb3⟩
    have H3 := Lib.hid (below_step H2.out hb3)
    clear hb3 H2 LE
    go_wp2_with fail
    refine (S1.out _ H3.out).mono ?_
    rintro e w4 ⟨x, rfl, hx, hb4⟩
    have H4 := Lib.hid (below_step H3.out hb4)
    have HX := Lib.hid hx
    obtain ⟨xa, xc, rfl⟩ := hx.form2
    clear hb4 H3 hx
    go_wp2_with fail
    refine (S2.out _ H4.out).mono ?_
    rintro e w5 ⟨y, rfl, hy, hb5⟩
    have H5 := Lib.hid (And.intro (HX.out.all hb5) (And.intro hy (below_step H4.out hb5)))
    obtain ⟨ya, yc, rfl⟩ := hy.form2
    clear hb5 H4 hy HX S2
    go_wp2_with fail
    refine (BX.out _ _ H5.out.2.2 H5.out.1.runs).mono ?_
    rintro e w6 ⟨ca, cn, cc, rfl, hb6⟩
    have H6 := Lib.hid (And.intro (H5.out.2.1.all hb6) (below_step H5.out.2.2 hb6))
    clear hb6 H5 BX
    go_wp2_with fail
    refine (BY.out _ _ H6.out.2 H6.out.1.runs).mono ?_
    rintro e w7 ⟨da, dn, dc, rfl, hb7⟩
    have H7 := Lib.hid (below_step H6.out.2 hb7)
    clear hb7 H6 BY
    go_wp2_with fail
    refine (KN.out _).mono ?_
    rintro e w9 ⟨rfl, hb9⟩
    have H9 := Lib.hid (below_step H7.out hb9)
    clear hb9 KN
    go_wp2
    go_ret
    exact ⟨rfl, H9.out⟩
  · obtain ⟨d, hd1, HF0⟩ := BF.out hm
    have HF := Lib.hid HF0
    obtain ⟨k, rfl⟩ : ∃ k, m = k + 1 := ⟨m - 1, by omega⟩
    rw [Nat.add_sub_cancel] at HF
    have d4 : decide (c < d) = false := decide_eq_false (by omega)
    have d5 : decide ((0 : Int) < ((k + 1 : Nat) : Int)) = true := decide_eq_true (by omega)
    have hwk : IntKind.i64.wrap (((k + 1 : Nat) : Int) - 1) = (k : Int) := by rw [IntWalk.i64_in _ ⟨by omega, by omega⟩]; omega
    clear BF HF0
    go_enter Try.func14, Try.ntmps14
    go_wp2_with fail
    refine LO.out.mono ?_
    rintro e w1 ⟨rfl, hb1⟩
    have H1 := Lib.hid hb1
    clear hb1 LO
    go_wp2_with fail
    refine (BE.out _ H1.out).mono ?_
    rintro e w2 ⟨ba, bn, bc, rfl, hb2⟩
    have H2 := Lib.hid (below_step H1.out hb2)
    clear hb2 H1 BE
    go_wp2_with fail
    refine (LE.out _ H2.out).mono ?_
    rintro e w3 ⟨rfl, hb3⟩
    have H3 := Lib.hid (below_step H2.out hb3)
    clear hb3 H2 LE
    go_wp2_with fail
    refine (S1.out _ H3.out).mono ?_
    rintro e w4 ⟨x, rfl, hx, hb4⟩
    have H4 := Lib.hid (below_step H3.out hb4)
    have HX := Lib.hid hx
    obtain ⟨xa, xc, rfl⟩ := hx.form2
    clear hb4 H3 hx
    go_wp2_with fail
    refine (S2.out _ H4.out).mono ?_
    rintro e w5 ⟨y, rfl, hy, hb5⟩
    have H5 := Lib.hid (And.intro (HX.out.all hb5) (And.intro hy (below_step H4.out hb5)))
    obtain ⟨ya, yc, rfl⟩ := hy.form2
    clear hb5 H4 hy HX S2
    go_wp2_with fail
    refine (BX.out _ _ H5.out.2.2 H5.out.1.runs).mono ?_
    rintro e w6 ⟨ca, cn, cc, rfl, hb6⟩
    have H6 := Lib.hid (And.intro (H5.out.2.1.all hb6) (below_step H5.out.2.2 hb6))
    clear hb6 H5 BX
    go_wp2_with fail
    refine (BY.out _ _ H6.out.2 H6.out.1.runs).mono ?_
    rintro e w7 ⟨da, dn, dc, rfl, hb7⟩
    have H7 := Lib.hid (below_step H6.out.2 hb7)
    clear hb7 H6 BY
    go_wp2_with fail
    refine (HF.out _ H7.out).mono ?_
    rintro e w8 ⟨ea, en, ec, rfl, hb8⟩
    have H8 := Lib.hid (below_step H7.out hb8)
    clear hb8 H7 HF
    go_wp2_with fail
    refine (KN.out _).mono ?_
    rintro e w9 ⟨rfl, hb9⟩
    have H9 := Lib.hid (below_step H8.out hb9)
    clear hb9 KN
    go_wp2
    go_ret
    exact ⟨rfl, H9.out⟩
end Go.Proofs.Ytilpofmjkcjhdaa
