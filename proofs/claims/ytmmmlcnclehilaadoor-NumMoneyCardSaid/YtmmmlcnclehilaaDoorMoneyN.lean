/- Whatever a sum and a text: the program writes and reads sums of money as the reference does, errors included, and reads what it has written as the same sum. For every input, with no condition; the listed tables of the library are tied to the program's text. -/
import Derived.Test.YtmmmlcnclehilaaDoorFrameN
import Derived.Test.YtmmmlcnclehilaaDoorEnvOf
import Derived.Lay
import Derived.Test.YtmmmlcnclehilaaDoorMoneyWalk
namespace Go.Proofs.YtmmmlcnclehilaaDoor.numMoney
open Go.ChangeShapes Go.WideShapes Go.ChangeAt Go.RowKit Go.Deep

set_option maxRecDepth 100000 in
theorem contract (H : Type) (enc : TypeId × Value → H) (W : World) (base : Nat) (args : Array Value) (ds gs : List (DataW H)) (before : List MemPlace)
    (hval : ∀ (j : Nat) t v, Tryd.f6.params[j]? = some t → args[j]? = some v → Value.okWide Tryd.prog W .any base t v)
    (hW : DataW.Whole enc Tryd.prog Tryd.f6.params.toList Rows.numMoneySpec.vars false W args.toList ds gs before) (hL : laidMetH Tryd.prog Rows.numMoneyRow.laid W) (hS : W.ShapedOpen Tryd.prog) :
    Calls Tryd.prog 6 args W fun e W' => ∃ v, e = .returned v ∧ Rows.numMoneySpec.post enc Tryd.prog Tryd.f6 false true false false W args v W' := by
  have hW' := hW
  obtain ⟨p, q, hA0, hV, rfl, hfz, hnd⟩ := hW
  have hA : DataW.TrodAll enc Tryd.prog W 0 (fun _ => true) true Tryd.f6.params.toList args.toList ds p := hA0
  rw [Tryd.params6] at hA hval
  obtain ⟨v0, vs0, d0, ds0, p0, q0, hargs, rfl, rfl, h0, r0⟩ := trodAll_cons hA
  obtain ⟨v1, vs1, d1, ds1, p1, q1, rfl, rfl, rfl, h1, r1⟩ := trodAll_cons r0
  obtain ⟨rfl, rfl, rfl⟩ := trodAll_nil r1
  obtain rfl : args = #[v0, v1] := Array.ext' hargs
  obtain ⟨rfl, rfl⟩ := trodVars_none hV
  obtain ⟨p, rfl, p1, p2⟩ := open_i64 Tryd.underlying3 (hval 0 3 v0 rfl rfl) h0
  obtain ⟨s, rfl, _, _, sm⟩ := Go.ChangeMaps.open_string Tryd.underlying9 (hval 1 9 v1 rfl rfl) h1
  clear hA0 hA
  refine (money_walk p s W (env_money hL hS) (by unfold maxLen at sm; omega)).mono fun e W' ⟨he, hb⟩ => ?_
  exact ⟨_, he, law_post Tryd.laidOutOk (by kernel_rfl) rfl (by kernel_rfl) Tryd.underlying4 hW' ⟨rfl, rfl, rfl⟩ hb⟩

noncomputable def given : Array Value := #[.int .i64 0, .string ⟨#[]⟩]
/-- A world in which all listed variables lie. -/
noncomputable def laidW (os : Os) : World := World.laidAll Tryd.prog os Rows.numMoneyRow.laid
theorem laidW_vars (os : Os) (args : Array Value) : ((laidW os).forCall (fun _ _ => 0) ⟨#[], args, []⟩).variablesB Tryd.prog = true := by kernel_rfl
theorem laidW_heap (os : Os) (args : Array Value) : (((laidW os).forCall (fun _ _ => 0) ⟨#[], args, []⟩).heap.toList.drop Tryd.prog.globals.size).take ((begin Tryd.prog (fun _ _ => 0) default).world.heap.size - Tryd.prog.globals.size) =
    (begin Tryd.prog (fun _ _ => 0) default).world.heap.toList.drop Tryd.prog.globals.size := by kernel_rfl
theorem laidOk (os : Os) (args : Array Value) : laidMet Tryd.prog Rows.numMoneyRow.laid ((laidW os).forCall (fun _ _ => 0) ⟨#[], args, []⟩).memory :=
  laidMet_laidAll args (by kernel_rfl) (by kernel_rfl)
theorem reads (os : Os) {H : Type} (enc : TypeId × Value → H) : ∃ x : List (DataW H) × List (DataW H) × List MemPlace, DataW.whole enc Tryd.prog ((laidW os).forCall (fun _ _ => 0) ⟨#[], given, []⟩).memory Tryd.f6.params.toList Rows.numMoneySpec.vars false given.toList 8 = some x :=
  ⟨([.lit (.int .i64 0), .lit (.string [])], [], []), by kernel_rfl⟩
theorem noInit : Tryd.checked.prog.inits.idxOf? 6 = none := by kernel_rfl
theorem okIn (os : Os) : Input.okWideB Tryd.checked.prog ((laidW os).forCall (fun _ _ => 0) ⟨#[], given, []⟩) 6 ⟨#[], given, []⟩ = true := by kernel_rfl
theorem sized (os : Os) {H : Type} (enc : TypeId × Value → H) : (OpenSpec.ofChange Rows.numMoneySpec).bare.sizedB enc Tryd.prog Tryd.f6 false ((laidW os).forCall (fun _ _ => 0) ⟨#[], given, []⟩).memory given 8 = true := by kernel_rfl
set_option maxRecDepth 100000 in
theorem lifted (os : Os) (started : os.Started) (H : Type) (enc : TypeId × Value → H) (F : Stop.Interp) :
    ReturnsInHanded {} Tryd.checked os 6 .any ((OpenSpec.ofChange Rows.numMoneySpec).preRow enc Tryd.prog Tryd.f6 Rows.numMoneyRow.domain false Rows.numMoneyRow.laid) (((OpenSpec.ofChange Rows.numMoneySpec).at F).post enc Tryd.prog Tryd.f6 false true false false) := by
  obtain ⟨x, hx⟩ := reads os enc
  refine returnsInHanded_of_row (C := Tryd.checked) (s := OpenSpec.ofChange Rows.numMoneySpec) Tryd.ownOk started noInit Tryd.func6
    (witness_row_at (enc := enc) (C := Tryd.checked) false (laidW os) given (World.laidAll_os _ _ _) (laidW_vars os given) (laidW_heap os given) (okIn os)
      (OpenSpec.preRow_of_cond 8 hx (by kernel_rfl) (fun k hk => by cases hk) (sized os enc) (laidOk os given))) ?_
  intro W base args ds gs before hval hW _ _ _ hL hS _
  exact contract H enc W base args ds gs before hval hW hL hS

theorem said : Rows.NumMoneySaid :=
  OpenClaim.holds_of_cond 6 Tryd.f6 rfl rfl rfl rfl rfl rfl rfl ⟨rfl, rfl, rfl, rfl, rfl⟩ rfl rfl rfl rfl rfl (by kernel_rfl) Tryd.func6 (by kernel_rfl)
    (of_decide_eq_true (by kernel_rfl)) (by unfold Func.isWrapper; first | (rw [if_pos (by decide +kernel)]; kernel_rfl) | (rw [if_neg (by decide +kernel)]; exact ⟨rfl, rfl⟩))
    (fun os started H enc _ F => by rw [OpenClaim.pre_eq_preRow]; exact lifted os started H enc F)

theorem plain (f : FuncId) (fn : Func) (hf : Tryd.pinned.checked.prog.funcNamed "linoleum/linoleumlaw01.NumMoney" = some f) (hfn : Tryd.pinned.checked.prog.funcs[f]? = some fn) :
    true = Tryd.pinned.checked.prog.looks [] ∧ ∀ (j : Nat) t, fn.params[j]? = some t → Tryd.pinned.checked.prog.wantsStandIn t = false := by
  obtain rfl : f = 6 := Option.some.inj ((show Tryd.prog.funcNamed "linoleum/linoleumlaw01.NumMoney" = some 6 by kernel_rfl).symm.trans hf) |>.symm
  obtain rfl : fn = Tryd.f6 := (Option.some.inj (Tryd.func6.symm.trans hfn)).symm
  refine ⟨Tryd.looksOk, fun j t ht => ?_⟩
  have hm : t ∈ Tryd.f6.params.toList := by simpa using Array.mem_of_getElem? ht
  have hall : (Tryd.f6.params.toList.all fun u => !Tryd.prog.wantsStandIn u) = true := by kernel_rfl
  exact (show Tryd.prog.wantsStandIn t = false by simpa using List.all_eq_true.1 hall t hm)
theorem wf : Rows.numMoneyRow.wfByText (OpenSpec.ofChange Rows.numMoneySpec) = true := by kernel_rfl
theorem goes : false = Rows.numMoneyRow.goesBy Tryd.pinned.checked.prog := by kernel_rfl

theorem card : Rows.NumMoneyCardSaid :=
  Claim7.holds_tied_plain_at .later [] _ _ _ _ said (fun _ h => by cases h) wf (fun _ h => by cases h) numMoney_row_tie rfl ⟨rfl, rfl⟩ Tryd.mainOk rfl plain goes
end Go.Proofs.YtmmmlcnclehilaaDoor.numMoney
