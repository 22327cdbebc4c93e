/- Whatever a calendar, times, minutes and weights: working time adds up, After names the smallest time at which so many minutes are worked and goes on from where it stopped, and minutes that are shared are worked whoever works first. For every input, with no condition; the listed tables of the library are tied to the program's text. -/
import Derived.Test.YtmmmlcnclehilaaDoorFrameN
import Derived.Test.YtmmmlcnclehilaaDoorFrameHrs
import Derived.Test.YtmmmlcnclehilaaDoorTimeWalk
namespace Go.Proofs.YtmmmlcnclehilaaDoor.topTime
open Go.ChangeShapes Go.WideShapes Go.ChangeAt Go.RowKit Go.Deep

set_option maxRecDepth 100000 in
theorem contract (H : Type) (enc : TypeId × Value → H) (W : World) (base : Nat) (args : Array Value) (ds gs : List (DataW H)) (before : List MemPlace)
    (hval : ∀ (j : Nat) t v, Tryd.f7.params[j]? = some t → args[j]? = some v → Value.okWide Tryd.prog W .any base t v)
    (hW : DataW.Whole enc Tryd.prog Tryd.f7.params.toList Rows.topTimeSpec.vars false W args.toList ds gs before) :
    Calls Tryd.prog 7 args W fun e W' => ∃ v, e = .returned v ∧ Rows.topTimeSpec.post enc Tryd.prog Tryd.f7 false true false false W args v W' := by
  have hW' := hW
  obtain ⟨p, q, hA0, hV, rfl, hfz, hnd⟩ := hW
  have hA : DataW.TrodAll enc Tryd.prog W 0 (fun _ => true) true Tryd.f7.params.toList args.toList ds p := hA0
  rw [Tryd.params7] at hA hval
  obtain ⟨v0, vs0, d0, ds0, p0, q0, hargs, rfl, rfl, h0, r0⟩ := trodAll_cons hA
  obtain ⟨v1, vs1, d1, ds1, p1, q1, rfl, rfl, rfl, h1, r1⟩ := trodAll_cons r0
  obtain ⟨v2, vs2, d2, ds2, p2, q2, rfl, rfl, rfl, h2, r2⟩ := trodAll_cons r1
  obtain ⟨rfl, rfl, rfl⟩ := trodAll_nil r2
  obtain rfl : args = #[v0, v1, v2] := Array.ext' hargs
  obtain ⟨rfl, rfl⟩ := trodVars_none hV
  obtain ⟨s, e, vr, vh, rs, hs, rfl, hr, hh, ⟨s1, s2⟩, e1, e2⟩ := open_cal Tryd.underlying40 (by kernel_rfl) (by kernel_rfl) Tryd.underlying3 Tryd.underlying3 Tryd.underlying22 Tryd.underlying22 Tryd.underlying3 (by kernel_rfl) (hval 0 40 v0 rfl rfl) h0
  obtain ⟨f, b, t, m, k, rfl, ⟨f1, f2⟩, ⟨b1, b2⟩, ⟨t1, t2⟩, ⟨m1, m2⟩, k1, k2⟩ := open_hours Tryd.underlying42 rfl (by kernel_rfl) (by kernel_rfl) Tryd.underlying3 (by kernel_rfl) (hval 1 42 v1 rfl rfl) h1
  obtain ⟨a2, l2, c2, rfl⟩ := okWide_slice Tryd.underlying22 (hval 2 22 v2 rfl rfl)
  obtain ⟨fu2, hf2⟩ := h2
  obtain ⟨ws, hv2⟩ := ints_of Tryd.underlying22 Tryd.underlying3 (by kernel_rfl) hf2
  clear hA0 hA
  refine (time_walk s e f b t m k vr vh _ rs hs ws W hr hh hv2 s1 s2 e1 e2 f1 f2 b1 b2 t1 t2 m1 m2 k1 k2).mono fun e W' ⟨he, hb⟩ => ?_
  exact ⟨_, he, law_post Tryd.laidOutOk (by kernel_rfl) rfl (by kernel_rfl) Tryd.underlying4 hW' ⟨rfl, rfl, rfl⟩ hb⟩

noncomputable def given : Array Value := #[.agg #[.int .i64 0, .int .i64 0, .slice none 0 0, .slice none 0 0], .agg #[.int .i64 0, .int .i64 0, .int .i64 0, .int .i64 0, .int .i64 0], .slice none 0 0]
theorem reads (os : Os) {H : Type} (enc : TypeId × Value → H) : ∃ x : List (DataW H) × List (DataW H) × List MemPlace, DataW.whole enc Tryd.prog ((Tryd.start os).forCall (fun _ _ => 0) ⟨#[], given, []⟩).memory Tryd.f7.params.toList Rows.topTimeSpec.vars false given.toList 8 = some x :=
  ⟨([.agg [.lit (.int .i64 0), .lit (.int .i64 0), .nil, .nil], .agg [.lit (.int .i64 0), .lit (.int .i64 0), .lit (.int .i64 0), .lit (.int .i64 0), .lit (.int .i64 0)], .nil], [], []), by kernel_rfl⟩
theorem noInit : Tryd.checked.prog.inits.idxOf? 7 = none := by kernel_rfl
theorem okIn (os : Os) : Input.okWideB Tryd.checked.prog ((Tryd.start os).forCall (fun _ _ => 0) ⟨#[], given, []⟩) 7 ⟨#[], given, []⟩ = true := by kernel_rfl
theorem sized (os : Os) {H : Type} (enc : TypeId × Value → H) : (OpenSpec.ofChange Rows.topTimeSpec).bare.sizedB enc Tryd.prog Tryd.f7 false ((Tryd.start os).forCall (fun _ _ => 0) ⟨#[], given, []⟩).memory given 8 = true := by kernel_rfl
set_option maxRecDepth 100000 in
theorem lifted (os : Os) (started : os.Started) (H : Type) (enc : TypeId × Value → H) (F : Stop.Interp) :
    ReturnsInHanded {} Tryd.checked os 7 .any ((OpenSpec.ofChange Rows.topTimeSpec).preRow enc Tryd.prog Tryd.f7 Rows.topTimeRow.domain false Rows.topTimeRow.laid) (((OpenSpec.ofChange Rows.topTimeSpec).at F).post enc Tryd.prog Tryd.f7 false true false false) := by
  obtain ⟨x, hx⟩ := reads os enc
  refine returnsInHanded_of_row (C := Tryd.checked) (s := OpenSpec.ofChange Rows.topTimeSpec) Tryd.ownOk started noInit Tryd.func7
    (witness_row_at (enc := enc) (C := Tryd.checked) false (Tryd.start os) given rfl (Tryd.start_vars os given) (Tryd.start_heap os given) (okIn os)
      (OpenSpec.preRow_of_cond 8 hx (by kernel_rfl) (fun k hk => by cases hk) (sized os enc) (Tryd.start_laid os given))) ?_
  intro W base args ds gs before hval hW _ _ _ _ _ _
  exact contract H enc W base args ds gs before hval hW

theorem said : Rows.TopTimeSaid :=
  OpenClaim.holds_of_cond 7 Tryd.f7 rfl rfl rfl rfl rfl rfl rfl ⟨rfl, rfl, rfl, rfl, rfl⟩ rfl rfl rfl rfl rfl (by kernel_rfl) Tryd.func7 (by kernel_rfl)
    (of_decide_eq_true (by kernel_rfl)) (by unfold Func.isWrapper; first | (rw [if_pos (by decide +kernel)]; kernel_rfl) | (rw [if_neg (by decide +kernel)]; exact ⟨rfl, rfl⟩))
    (fun os started H enc _ F => by rw [OpenClaim.pre_eq_preRow]; exact lifted os started H enc F)

theorem plain (f : FuncId) (fn : Func) (hf : Tryd.pinned.checked.prog.funcNamed "linoleum/linoleumtop.TopTime" = some f) (hfn : Tryd.pinned.checked.prog.funcs[f]? = some fn) :
    true = Tryd.pinned.checked.prog.looks [] ∧ ∀ (j : Nat) t, fn.params[j]? = some t → Tryd.pinned.checked.prog.wantsStandIn t = false := by
  obtain rfl : f = 7 := Option.some.inj ((show Tryd.prog.funcNamed "linoleum/linoleumtop.TopTime" = some 7 by kernel_rfl).symm.trans hf) |>.symm
  obtain rfl : fn = Tryd.f7 := (Option.some.inj (Tryd.func7.symm.trans hfn)).symm
  refine ⟨Tryd.looksOk, fun j t ht => ?_⟩
  have hm : t ∈ Tryd.f7.params.toList := by simpa using Array.mem_of_getElem? ht
  have hall : (Tryd.f7.params.toList.all fun u => !Tryd.prog.wantsStandIn u) = true := by kernel_rfl
  exact (show Tryd.prog.wantsStandIn t = false by simpa using List.all_eq_true.1 hall t hm)
theorem wf : Rows.topTimeRow.wfByText (OpenSpec.ofChange Rows.topTimeSpec) = true := by kernel_rfl
theorem goes : false = Rows.topTimeRow.goesBy Tryd.pinned.checked.prog := by kernel_rfl

theorem card : Rows.TopTimeCardSaid :=
  Claim7.holds_tied_plain_at .later [] _ _ _ _ said (fun _ h => by cases h) wf (fun _ h => by cases h) topTime_row_tie rfl ⟨rfl, rfl⟩ Tryd.mainOk rfl plain goes
end Go.Proofs.YtmmmlcnclehilaaDoor.topTime
