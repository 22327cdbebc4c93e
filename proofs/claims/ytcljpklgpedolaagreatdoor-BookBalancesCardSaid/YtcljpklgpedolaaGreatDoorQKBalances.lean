/- Whatever some postings and a text: the program's balance of an account, its accounts and its trial balance are the reference's, errors included, and the balances add up to nothing. For every input, with no condition; the listed tables of the library are tied to the program's text. -/
import Derived.Test.YtcljpklgpedolaaGreatDoorFrameKK
import Derived.Lay
import Derived.Test.YtcljpklgpedolaaGreatDoorFrameJJ
import Derived.Test.YtcljpklgpedolaaGreatDoorBkWL
namespace Go.Proofs.YtcljpklgpedolaaGreatDoor.bookBalances
open Go.ChangeShapes Go.WideShapes Go.ChangeAt Go.RowKit Go.Deep

set_option maxRecDepth 100000 in
theorem contract (H : Type) (enc : TypeId × Value → H) (W : World) (base : Nat) (args : Array Value) (ds gs : List (DataW H)) (before : List MemPlace)
    (hval : ∀ (j : Nat) t v, Tryz.f10.params[j]? = some t → args[j]? = some v → Value.okWide Tryz.prog W .any base t v)
    (hW : DataW.Whole enc Tryz.prog Tryz.f10.params.toList Rows.bookBalancesSpec.vars false W args.toList ds gs before) (hL : laidMetH Tryz.prog Rows.bookBalancesRow.laid W) (hS : W.ShapedOpen Tryz.prog) :
    Calls Tryz.prog 10 args W fun e W' => ∃ v, e = .returned v ∧ Rows.bookBalancesSpec.post enc Tryz.prog Tryz.f10 false true false false W args v W' := by
  have hW' := hW
  obtain ⟨p, q, hA0, hV, rfl, hfz, hnd⟩ := hW
  have hA : DataW.TrodAll enc Tryz.prog W 0 (fun _ => true) true Tryz.f10.params.toList args.toList ds p := hA0
  rw [Tryz.params10] at hA hval
  obtain ⟨v0, vs0, d0, ds0, p0, q0, hargs, rfl, rfl, h0, r0⟩ := trodAll_cons hA
  obtain ⟨v1, vs1, d1, ds1, p1, q1, rfl, rfl, rfl, h1, r1⟩ := trodAll_cons r0
  obtain ⟨rfl, rfl, rfl⟩ := trodAll_nil r1
  obtain rfl : args = #[v0, v1] := Array.ext' hargs
  obtain ⟨rfl, rfl⟩ := trodVars_none hV
  obtain ⟨l, lv, lw⟩ := open_posts (hval 0 48 v0 rfl rfl) h0
  obtain ⟨a, rfl, _, _, am⟩ := Go.ChangeMaps.open_string Tryz.underlying9 (hval 1 9 v1 rfl rfl) h1
  clear hA0 hA
  refine (balances_walk v0 l a W (env_book hL rfl hS) lv lw).mono fun e W' ⟨he, hb⟩ => ?_
  exact ⟨_, he, law_post Tryz.laidOutOk (by kernel_rfl) rfl (by kernel_rfl) Tryz.underlying4 hW' ⟨rfl, rfl, rfl⟩ hb⟩

noncomputable def given : Array Value := #[.slice none 0 0, .string ⟨#[]⟩]
/-- A world in which all listed variables lie. -/
noncomputable def laidW (os : Os) : World := World.laidAll Tryz.prog os Rows.bookBalancesRow.laid
theorem laidW_vars (os : Os) (args : Array Value) : ((laidW os).forCall (fun _ _ => 0) ⟨#[], args, []⟩).variablesB Tryz.prog = true := by kernel_rfl
theorem laidW_heap (os : Os) (args : Array Value) : (((laidW os).forCall (fun _ _ => 0) ⟨#[], args, []⟩).heap.toList.drop Tryz.prog.globals.size).take ((begin Tryz.prog (fun _ _ => 0) default).world.heap.size - Tryz.prog.globals.size) =
    (begin Tryz.prog (fun _ _ => 0) default).world.heap.toList.drop Tryz.prog.globals.size := by kernel_rfl
theorem laidOk (os : Os) (args : Array Value) : laidMet Tryz.prog Rows.bookBalancesRow.laid ((laidW os).forCall (fun _ _ => 0) ⟨#[], args, []⟩).memory :=
  laidMet_laidAll args (by kernel_rfl) (by kernel_rfl)
theorem reads (os : Os) {H : Type} (enc : TypeId × Value → H) : ∃ x : List (DataW H) × List (DataW H) × List MemPlace, DataW.whole enc Tryz.prog ((laidW os).forCall (fun _ _ => 0) ⟨#[], given, []⟩).memory Tryz.f10.params.toList Rows.bookBalancesSpec.vars false given.toList 8 = some x :=
  ⟨([.nil, .lit (.string [])], [], []), by kernel_rfl⟩
theorem noInit : Tryz.checked.prog.inits.idxOf? 10 = none := by kernel_rfl
theorem okIn (os : Os) : Input.okWideB Tryz.checked.prog ((laidW os).forCall (fun _ _ => 0) ⟨#[], given, []⟩) 10 ⟨#[], given, []⟩ = true := by kernel_rfl
theorem sized (os : Os) {H : Type} (enc : TypeId × Value → H) : (OpenSpec.ofChange Rows.bookBalancesSpec).bare.sizedB enc Tryz.prog Tryz.f10 false ((laidW os).forCall (fun _ _ => 0) ⟨#[], given, []⟩).memory given 8 = true := by kernel_rfl
set_option maxRecDepth 100000 in
theorem lifted (os : Os) (started : os.Started) (H : Type) (enc : TypeId × Value → H) (F : Stop.Interp) :
    ReturnsInHanded {} Tryz.checked os 10 .any ((OpenSpec.ofChange Rows.bookBalancesSpec).preRow enc Tryz.prog Tryz.f10 Rows.bookBalancesRow.domain false Rows.bookBalancesRow.laid) (((OpenSpec.ofChange Rows.bookBalancesSpec).at F).post enc Tryz.prog Tryz.f10 false true false false) := by
  obtain ⟨x, hx⟩ := reads os enc
  refine returnsInHanded_of_row (C := Tryz.checked) (s := OpenSpec.ofChange Rows.bookBalancesSpec) Tryz.ownOk started noInit Tryz.func10
    (witness_row_at (enc := enc) (C := Tryz.checked) false (laidW os) given (World.laidAll_os _ _ _) (laidW_vars os given) (laidW_heap os given) (okIn os)
      (OpenSpec.preRow_of_cond 8 hx (by kernel_rfl) (fun k hk => by cases hk) (sized os enc) (laidOk os given))) ?_
  intro W base args ds gs before hval hW _ _ _ hL hS _
  exact contract H enc W base args ds gs before hval hW hL hS

set_option maxRecDepth 100000 in
set_option maxHeartbeats 8000000 in
theorem joined : joinedFacts Tryz.prog 10 Tryz.f10 (OpenSpec.ofChange Rows.bookBalancesSpec).bare Rows.bookBalancesRow = true := by
  unfold joinedFacts
  simp only [Bool.and_eq_true]
  repeat' (refine And.intro ?_ ?_)
  all_goals (as_aux_lemma => kernel_rfl)
theorem said : Rows.BookBalancesSaid :=
  OpenClaim.holds_of_cond 10 Tryz.f10 rfl rfl rfl rfl rfl rfl rfl ⟨rfl, rfl, rfl, rfl, rfl⟩ rfl rfl rfl rfl rfl (by kernel_rfl) Tryz.func10 joined
    (of_decide_eq_true (by kernel_rfl)) (by unfold Func.isWrapper; first | (rw [if_pos (by decide +kernel)]; kernel_rfl) | (rw [if_neg (by decide +kernel)]; exact ⟨rfl, rfl⟩))
    (fun os started H enc _ F => by rw [OpenClaim.pre_eq_preRow]; exact lifted os started H enc F)

theorem plain (f : FuncId) (fn : Func) (hf : Tryz.pinned.checked.prog.funcNamed "linoleum/linoleumlaw09.BookBalances" = some f) (hfn : Tryz.pinned.checked.prog.funcs[f]? = some fn) :
    true = Tryz.pinned.checked.prog.looks [] ∧ ∀ (j : Nat) t, fn.params[j]? = some t → Tryz.pinned.checked.prog.wantsStandIn t = false := by
  obtain rfl : f = 10 := Option.some.inj ((show Tryz.prog.funcNamed "linoleum/linoleumlaw09.BookBalances" = some 10 by kernel_rfl).symm.trans hf) |>.symm
  obtain rfl : fn = Tryz.f10 := (Option.some.inj (Tryz.func10.symm.trans hfn)).symm
  refine ⟨Tryz.looksOk, fun j t ht => ?_⟩
  have hm : t ∈ Tryz.f10.params.toList := by simpa using Array.mem_of_getElem? ht
  have hall : (Tryz.f10.params.toList.all fun u => !Tryz.prog.wantsStandIn u) = true := by kernel_rfl
  exact (show Tryz.prog.wantsStandIn t = false by simpa using List.all_eq_true.1 hall t hm)
theorem wf : Rows.bookBalancesRow.wfByText (OpenSpec.ofChange Rows.bookBalancesSpec) = true := by kernel_rfl
theorem goes : false = Rows.bookBalancesRow.goesBy Tryz.pinned.checked.prog := by kernel_rfl

theorem card : Rows.BookBalancesCardSaid :=
  Claim7.holds_tied_plain_at .later [] _ _ _ _ said (fun _ h => by cases h) wf (fun _ h => by cases h) bookBalances_row_tie rfl ⟨rfl, rfl⟩ Tryz.mainOk rfl plain goes
end Go.Proofs.YtcljpklgpedolaaGreatDoor.bookBalances
