/- Whatever a list of runs, a list of articles, a cutting, a phase and a repeat: the program and the reference agree on what is known of each piece, errors included, and the program's answer lies in new memory. For every input, with no condition. -/
import Derived.Test.YtbmjjmpdlmbehaaRmF
import Derived.Test.YtbmjjmpdlmbehaaFrameRc
import Derived.Test.YtbmjjmpdlmbehaaRoll49
namespace Go.Proofs.Ytbmjjmpdlmbehaa.rollRecords
open Go.ChangeShapes Go.WideShapes Go.ChangeAt Go.RowKit Go.Deep

set_option maxRecDepth 100000 in
theorem contract (H : Type) (enc : TypeId × Value → H) (W : World) (base : Nat) (args : Array Value) (ds gs : List (DataW H)) (before : List MemPlace)
    (hval : ∀ (j : Nat) t v, Try.f4.params[j]? = some t → args[j]? = some v → Value.okWide Try.prog W .any base t v)
    (hW : DataW.Whole enc Try.prog Try.f4.params.toList Rows.rollRecordsSpec.vars false W args.toList ds gs before) :
    Calls Try.prog 4 args W fun e W' => ∃ v, e = .returned v ∧ Rows.rollRecordsSpec.post enc Try.prog Try.f4 false true false false W args v W' := by
  have hW' := hW
  obtain ⟨p, q, hA0, hV, rfl, hfz, hnd⟩ := hW
  have hA : DataW.TrodAll enc Try.prog W 0 (fun _ => true) true Try.f4.params.toList args.toList ds p := hA0
  rw [Try.params4] at hA hval
  obtain ⟨v0, vs0, d0, ds0, p0, q0, hargs, rfl, rfl, h0, r0⟩ := trodAll_cons hA
  obtain ⟨v1, vs1, d1, ds1, p1, q1, rfl, rfl, rfl, h1, r1⟩ := trodAll_cons r0
  obtain ⟨v2, vs2, d2, ds2, p2, q2, rfl, rfl, rfl, h2, r2⟩ := trodAll_cons r1
  obtain ⟨rfl, rfl, rfl⟩ := trodAll_nil r2
  obtain rfl : args = #[v0, v1, v2] := Array.ext' hargs
  obtain ⟨rfl, rfl⟩ := trodVars_none hV
  obtain ⟨rs, hv0⟩ := open_runs (hval 0 22 v0 rfl rfl) h0
  obtain ⟨al, hv1⟩ := open_arts (hval 1 23 v1 rfl rfl) h1
  obtain ⟨xu, xp, xr, xx, rfl, x1⟩ := open_recorded (hval 2 38 v2 rfl rfl) h2
  clear hA0 hA
  refine (records_walk v0 v1 xu xp xr rs al xx W hv0 hv1 x1).mono fun e W' ⟨he, hb⟩ => ?_
  exact ⟨_, he, law_post Try.laidOutOk (by kernel_rfl) rfl (by kernel_rfl) Try.underlying4 hW' ⟨rfl, rfl, rfl⟩ hb⟩

noncomputable def given : Array Value := #[.slice none 0 0, .slice none 0 0, .agg #[.slice none 0 0, .int .i64 0, .int .i64 0]]
theorem reads (os : Os) {H : Type} (enc : TypeId × Value → H) : ∃ x : List (DataW H) × List (DataW H) × List MemPlace, DataW.whole enc Try.prog ((Try.start os).forCall (fun _ _ => 0) ⟨#[], given, []⟩).memory Try.f4.params.toList Rows.rollRecordsSpec.vars false given.toList 8 = some x :=
  ⟨([.nil, .nil, .agg [.nil, .lit (.int .i64 0), .lit (.int .i64 0)]], [], []), by kernel_rfl⟩
theorem noInit : Try.checked.prog.inits.idxOf? 4 = none := by kernel_rfl
theorem okIn (os : Os) : Input.okWideB Try.checked.prog ((Try.start os).forCall (fun _ _ => 0) ⟨#[], given, []⟩) 4 ⟨#[], given, []⟩ = true := by kernel_rfl
theorem sized (os : Os) {H : Type} (enc : TypeId × Value → H) : (OpenSpec.ofChange Rows.rollRecordsSpec).bare.sizedB enc Try.prog Try.f4 false ((Try.start os).forCall (fun _ _ => 0) ⟨#[], given, []⟩).memory given 8 = true := by kernel_rfl
theorem noLaid (os : Os) : laidMet Try.prog Rows.rollRecordsRow.laid ((Try.start os).forCall (fun _ _ => 0) ⟨#[], given, []⟩).memory :=
  laidMet_of_run' 8 (by kernel_rfl) (by kernel_rfl)
set_option maxRecDepth 100000 in
theorem lifted (os : Os) (started : os.Started) (H : Type) (enc : TypeId × Value → H) (F : Stop.Interp) :
    ReturnsInHanded {} Try.checked os 4 .any ((OpenSpec.ofChange Rows.rollRecordsSpec).preRow enc Try.prog Try.f4 Rows.rollRecordsRow.domain false Rows.rollRecordsRow.laid) (((OpenSpec.ofChange Rows.rollRecordsSpec).at F).post enc Try.prog Try.f4 false true false false) := by
  obtain ⟨x, hx⟩ := reads os enc
  refine returnsInHanded_of_row (C := Try.checked) (s := OpenSpec.ofChange Rows.rollRecordsSpec) Try.ownOk started noInit Try.func4
    (witness_row_at (enc := enc) (C := Try.checked) false (Try.start os) given rfl (Try.start_vars os given) (Try.start_heap os given) (okIn os)
      (OpenSpec.preRow_of_cond 8 hx (by kernel_rfl) (fun k hk => by cases hk) (sized os enc) (noLaid os))) ?_
  intro W base args ds gs before hval hW _ _ _ _ _ _
  exact contract H enc W base args ds gs before hval hW

theorem said : Rows.RollRecordsSaid :=
  OpenClaim.holds_of_cond 4 Try.f4 rfl rfl rfl rfl rfl rfl rfl ⟨rfl, rfl, rfl, rfl, rfl⟩ rfl rfl rfl rfl rfl (by kernel_rfl) Try.func4 (by kernel_rfl)
    (of_decide_eq_true (by kernel_rfl)) (by unfold Func.isWrapper; first | (rw [if_pos (by decide +kernel)]; kernel_rfl) | (rw [if_neg (by decide +kernel)]; exact ⟨rfl, rfl⟩))
    (fun os started H enc _ F => by rw [OpenClaim.pre_eq_preRow]; exact lifted os started H enc F)
end Go.Proofs.Ytbmjjmpdlmbehaa.rollRecords
