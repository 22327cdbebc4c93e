/- Whatever lofts and goods: the program and the reference plan the same loads and leave the same goods over, errors included, and a plan that leaves nothing over is accepted. For every input, with no condition. -/
import Derived.Test.YtabfcnfddemblaaFrameLf
import Derived.Test.YtabfcnfddemblaaLfPlansW
namespace Go.Proofs.Ytabfcnfddemblaa.loftPlans
open Go.ChangeShapes Go.WideShapes Go.ChangeAt Go.RowKit Go.Deep Go.Proofs.Ytabfcnfddemblaa.Lo

set_option maxRecDepth 100000 in
theorem contract (H : Type) (enc : TypeId × Value → H) (W : World) (base : Nat) (args : Array Value) (ds gs : List (DataW H)) (before : List MemPlace)
    (hval : ∀ (j : Nat) t v, Try.f10.params[j]? = some t → args[j]? = some v → Value.okWide Try.prog W .any base t v)
    (hW : DataW.Whole enc Try.prog Try.f10.params.toList Rows.loftPlansSpec.vars false W args.toList ds gs before) :
    Calls Try.prog 10 args W fun e W' => ∃ v, e = .returned v ∧ Rows.loftPlansSpec.post enc Try.prog Try.f10 false true false false W args v W' := by
  have hW' := hW
  obtain ⟨p, q, hA0, hV, rfl, hfz, hnd⟩ := hW
  have hA : DataW.TrodAll enc Try.prog W 0 (fun _ => true) true Try.f10.params.toList args.toList ds p := hA0
  rw [Try.params10] at hA hval
  obtain ⟨v0, vs0, d0, ds0, p0, q0, hargs, rfl, rfl, h0, r0⟩ := trodAll_cons hA
  obtain ⟨rfl, rfl, rfl⟩ := trodAll_nil r0
  obtain rfl : args = #[v0] := Array.ext' hargs
  obtain ⟨rfl, rfl⟩ := trodVars_none hV
  obtain ⟨u, v, ls, gs, rfl, hls, hgs⟩ := open_firm (hval 0 74 v0 rfl rfl) h0
  clear hA0 hA
  refine (plans_walk u v ls gs W hls hgs).mono fun e W' ⟨he, hb⟩ => ?_
  exact ⟨_, he, law_post Try.laidOutOk (by kernel_rfl) rfl (by kernel_rfl) Try.underlying4 hW' ⟨rfl, rfl, rfl⟩ hb⟩

noncomputable def given : Array Value := #[.agg #[.slice none 0 0, .slice none 0 0]]
theorem reads (os : Os) {H : Type} (enc : TypeId × Value → H) : ∃ x : List (DataW H) × List (DataW H) × List MemPlace, DataW.whole enc Try.prog ((Try.start os).forCall (fun _ _ => 0) ⟨#[], given, []⟩).memory Try.f10.params.toList Rows.loftPlansSpec.vars false given.toList 8 = some x :=
  ⟨([.agg [.nil, .nil]], [], []), by kernel_rfl⟩
theorem noInit : Try.checked.prog.inits.idxOf? 10 = none := by kernel_rfl
theorem okIn (os : Os) : Input.okWideB Try.checked.prog ((Try.start os).forCall (fun _ _ => 0) ⟨#[], given, []⟩) 10 ⟨#[], given, []⟩ = true := by kernel_rfl
theorem sized (os : Os) {H : Type} (enc : TypeId × Value → H) : (OpenSpec.ofChange Rows.loftPlansSpec).bare.sizedB enc Try.prog Try.f10 false ((Try.start os).forCall (fun _ _ => 0) ⟨#[], given, []⟩).memory given 8 = true := by kernel_rfl
theorem noLaid (os : Os) : laidMet Try.prog Rows.loftPlansRow.laid ((Try.start os).forCall (fun _ _ => 0) ⟨#[], given, []⟩).memory :=
  laidMet_of_run' 8 (by kernel_rfl) (by kernel_rfl)
set_option maxRecDepth 100000 in
theorem lifted (os : Os) (started : os.Started) (H : Type) (enc : TypeId × Value → H) (F : Stop.Interp) :
    ReturnsInHanded {} Try.checked os 10 .any ((OpenSpec.ofChange Rows.loftPlansSpec).preRow enc Try.prog Try.f10 Rows.loftPlansRow.domain false Rows.loftPlansRow.laid) (((OpenSpec.ofChange Rows.loftPlansSpec).at F).post enc Try.prog Try.f10 false true false false) := by
  obtain ⟨x, hx⟩ := reads os enc
  refine returnsInHanded_of_row (C := Try.checked) (s := OpenSpec.ofChange Rows.loftPlansSpec) Try.ownOk started noInit Try.func10
    (witness_row_at (enc := enc) (C := Try.checked) false (Try.start os) given rfl (Try.start_vars os given) (Try.start_heap os given) (okIn os)
      (OpenSpec.preRow_of_cond 8 hx (by kernel_rfl) (fun k hk => by cases hk) (sized os enc) (noLaid os))) ?_
  intro W base args ds gs before hval hW _ _ _ _ _ _
  exact contract H enc W base args ds gs before hval hW

theorem said : Rows.LoftPlansSaid :=
  OpenClaim.holds_of_cond 10 Try.f10 rfl rfl rfl rfl rfl rfl rfl ⟨rfl, rfl, rfl, rfl, rfl⟩ rfl rfl rfl rfl rfl (by kernel_rfl) Try.func10 (by kernel_rfl)
    (of_decide_eq_true (by kernel_rfl)) (by unfold Func.isWrapper; first | (rw [if_pos (by decide +kernel)]; kernel_rfl) | (rw [if_neg (by decide +kernel)]; exact ⟨rfl, rfl⟩))
    (fun os started H enc _ F => by rw [OpenClaim.pre_eq_preRow]; exact lifted os started H enc F)
end Go.Proofs.Ytabfcnfddemblaa.loftPlans
