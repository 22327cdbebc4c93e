/- Whatever a calendar and a day: the program and the reference call the same calendars valid, the same days open, and name the same next open day. For every input, with no condition; the listed tables of the library are tied to the program's text. -/
import Derived.Test.YtfgignbmnfeikaaDoorFrame
import Derived.Test.YtfgignbmnfeikaaDoorFrameCal
import Derived.Test.YtfgignbmnfeikaaDoorCalendarsWalk
namespace Go.Proofs.YtfgignbmnfeikaaDoor.numCalendars
open Go.ChangeShapes Go.WideShapes Go.ChangeAt Go.RowKit Go.Deep

set_option maxRecDepth 100000 in
theorem contract (H : Type) (enc : TypeId × Value → H) (W : World) (base : Nat) (args : Array Value) (ds gs : List (DataW H)) (before : List MemPlace)
    (hval : ∀ (j : Nat) t v, Tryd.f13.params[j]? = some t → args[j]? = some v → Value.okWide Tryd.prog W .any base t v)
    (hW : DataW.Whole enc Tryd.prog Tryd.f13.params.toList Rows.numCalendarsSpec.vars false W args.toList ds gs before) :
    Calls Tryd.prog 13 args W fun e W' => ∃ v, e = .returned v ∧ Rows.numCalendarsSpec.post enc Tryd.prog Tryd.f13 false true false false W args v W' := by
  have hW' := hW
  obtain ⟨p, q, hA0, hV, rfl, hfz, hnd⟩ := hW
  have hA : DataW.TrodAll enc Tryd.prog W 0 (fun _ => true) true Tryd.f13.params.toList args.toList ds p := hA0
  rw [Tryd.params13] at hA hval
  obtain ⟨v0, vs0, d0, ds0, p0, q0, hargs, rfl, rfl, h0, r0⟩ := trodAll_cons hA
  obtain ⟨v1, vs1, d1, ds1, p1, q1, rfl, rfl, rfl, h1, r1⟩ := trodAll_cons r0
  obtain ⟨rfl, rfl, rfl⟩ := trodAll_nil r1
  obtain rfl : args = #[v0, v1] := Array.ext' hargs
  obtain ⟨rfl, rfl⟩ := trodVars_none hV
  obtain ⟨s, e, vr, vh, rs, hs, rfl, hr, hh, ⟨s1, s2⟩, e1, e2⟩ := open_cal Tryd.underlying48 (by kernel_rfl) (by kernel_rfl) Tryd.underlying3 Tryd.underlying3 Tryd.underlying36 Tryd.underlying36 Tryd.underlying3 (by kernel_rfl) (hval 0 48 v0 rfl rfl) h0
  obtain ⟨d, rfl, d1, d2⟩ := open_i64 Tryd.underlying3 (hval 1 3 v1 rfl rfl) h1
  clear hA0 hA
  refine (calendars_walk s e d vr vh rs hs W hr hh s1 s2 e1 e2 d1 d2).mono fun e W' ⟨he, hb⟩ => ?_
  exact ⟨_, he, law_post Tryd.laidOutOk (by kernel_rfl) rfl (by kernel_rfl) Tryd.underlying4 hW' ⟨rfl, rfl, rfl⟩ hb⟩

noncomputable def given : Array Value := #[.agg #[.int .i64 0, .int .i64 0, .slice none 0 0, .slice none 0 0], .int .i64 0]
theorem reads (os : Os) {H : Type} (enc : TypeId × Value → H) : ∃ x : List (DataW H) × List (DataW H) × List MemPlace, DataW.whole enc Tryd.prog ((Tryd.start os).forCall (fun _ _ => 0) ⟨#[], given, []⟩).memory Tryd.f13.params.toList Rows.numCalendarsSpec.vars false given.toList 8 = some x :=
  ⟨([.agg [.lit (.int .i64 0), .lit (.int .i64 0), .nil, .nil], .lit (.int .i64 0)], [], []), by kernel_rfl⟩
theorem noInit : Tryd.checked.prog.inits.idxOf? 13 = none := by kernel_rfl
theorem okIn (os : Os) : Input.okWideB Tryd.checked.prog ((Tryd.start os).forCall (fun _ _ => 0) ⟨#[], given, []⟩) 13 ⟨#[], given, []⟩ = true := by kernel_rfl
theorem sized (os : Os) {H : Type} (enc : TypeId × Value → H) : (OpenSpec.ofChange Rows.numCalendarsSpec).bare.sizedB enc Tryd.prog Tryd.f13 false ((Tryd.start os).forCall (fun _ _ => 0) ⟨#[], given, []⟩).memory given 8 = true := by kernel_rfl
set_option maxRecDepth 100000 in
theorem lifted (os : Os) (started : os.Started) (H : Type) (enc : TypeId × Value → H) (F : Stop.Interp) :
    ReturnsInHanded {} Tryd.checked os 13 .any ((OpenSpec.ofChange Rows.numCalendarsSpec).preRow enc Tryd.prog Tryd.f13 Rows.numCalendarsRow.domain false Rows.numCalendarsRow.laid) (((OpenSpec.ofChange Rows.numCalendarsSpec).at F).post enc Tryd.prog Tryd.f13 false true false false) := by
  obtain ⟨x, hx⟩ := reads os enc
  refine returnsInHanded_of_row (C := Tryd.checked) (s := OpenSpec.ofChange Rows.numCalendarsSpec) Tryd.ownOk started noInit Tryd.func13
    (witness_row_at (enc := enc) (C := Tryd.checked) false (Tryd.start os) given rfl (Tryd.start_vars os given) (Tryd.start_heap os given) (okIn os)
      (OpenSpec.preRow_of_cond 8 hx (by kernel_rfl) (fun k hk => by cases hk) (sized os enc) (Tryd.start_laid os given))) ?_
  intro W base args ds gs before hval hW _ _ _ _ _ _
  exact contract H enc W base args ds gs before hval hW

theorem said : Rows.NumCalendarsSaid :=
  OpenClaim.holds_of_cond 13 Tryd.f13 rfl rfl rfl rfl rfl rfl rfl ⟨rfl, rfl, rfl, rfl, rfl⟩ rfl rfl rfl rfl rfl (by kernel_rfl) Tryd.func13 (by kernel_rfl)
    (of_decide_eq_true (by kernel_rfl)) (by unfold Func.isWrapper; first | (rw [if_pos (by decide +kernel)]; kernel_rfl) | (rw [if_neg (by decide +kernel)]; exact ⟨rfl, rfl⟩))
    (fun os started H enc _ F => by rw [OpenClaim.pre_eq_preRow]; exact lifted os started H enc F)

theorem plain (f : FuncId) (fn : Func) (hf : Tryd.pinned.checked.prog.funcNamed "linoleum/linoleumlaw01.NumCalendars" = some f) (hfn : Tryd.pinned.checked.prog.funcs[f]? = some fn) :
    true = Tryd.pinned.checked.prog.looks [] ∧ ∀ (j : Nat) t, fn.params[j]? = some t → Tryd.pinned.checked.prog.wantsStandIn t = false := by
  obtain rfl : f = 13 := Option.some.inj ((show Tryd.prog.funcNamed "linoleum/linoleumlaw01.NumCalendars" = some 13 by kernel_rfl).symm.trans hf) |>.symm
  obtain rfl : fn = Tryd.f13 := (Option.some.inj (Tryd.func13.symm.trans hfn)).symm
  refine ⟨Tryd.looksOk, fun j t ht => ?_⟩
  have hm : t ∈ Tryd.f13.params.toList := by simpa using Array.mem_of_getElem? ht
  have hall : (Tryd.f13.params.toList.all fun u => !Tryd.prog.wantsStandIn u) = true := by kernel_rfl
  exact (show Tryd.prog.wantsStandIn t = false by simpa using List.all_eq_true.1 hall t hm)
theorem wf : Rows.numCalendarsRow.wfByText (OpenSpec.ofChange Rows.numCalendarsSpec) = true := by kernel_rfl
theorem goes : false = Rows.numCalendarsRow.goesBy Tryd.pinned.checked.prog := by kernel_rfl

theorem card : Rows.NumCalendarsCardSaid :=
  Claim7.holds_tied_plain_at .later [] _ _ _ _ said (fun _ h => by cases h) wf (fun _ h => by cases h) numCalendars_row_tie rfl ⟨rfl, rfl⟩ Tryd.mainOk rfl plain goes
end Go.Proofs.YtfgignbmnfeikaaDoor.numCalendars
