/- Whatever beginning of a book a crash leaves: it is repaired to a beginning of it, which the copy completes; two books that part do so at the line that is named; and the postings of a book add up to nothing. For every input, with no condition; the listed tables of the library are tied to the program's text. -/
import Derived.Test.YtcljpklgpedolaaGreatDoorFrameKK
import Derived.Lay
import Derived.Test.YtcljpklgpedolaaGreatDoorFrameJJ
import Derived.Test.YtcljpklgpedolaaGreatDoorBkWM
namespace Go.Proofs.YtcljpklgpedolaaGreatDoor.topBooks
open Go.ChangeShapes Go.WideShapes Go.ChangeAt Go.RowKit Go.Deep

set_option maxRecDepth 100000 in
theorem contract (H : Type) (enc : TypeId × Value → H) (W : World) (base : Nat) (args : Array Value) (ds gs : List (DataW H)) (before : List MemPlace)
    (hval : ∀ (j : Nat) t v, Tryz.f14.params[j]? = some t → args[j]? = some v → Value.okWide Tryz.prog W .any base t v)
    (hW : DataW.Whole enc Tryz.prog Tryz.f14.params.toList Rows.topBooksSpec.vars false W args.toList ds gs before) (hL : laidMetH Tryz.prog Rows.topBooksRow.laid W) (hS : W.ShapedOpen Tryz.prog) :
    Calls Tryz.prog 14 args W fun e W' => ∃ v, e = .returned v ∧ Rows.topBooksSpec.post enc Tryz.prog Tryz.f14 false true false false W args v W' := by
  have hW' := hW
  obtain ⟨p, q, hA0, hV, rfl, hfz, hnd⟩ := hW
  have hA : DataW.TrodAll enc Tryz.prog W 0 (fun _ => true) true Tryz.f14.params.toList args.toList ds p := hA0
  rw [Tryz.params14] at hA hval
  obtain ⟨v0, vs0, d0, ds0, p0, q0, hargs, rfl, rfl, h0, r0⟩ := trodAll_cons hA
  obtain ⟨v1, vs1, d1, ds1, p1, q1, rfl, rfl, rfl, h1, r1⟩ := trodAll_cons r0
  obtain ⟨v2, vs2, d2, ds2, p2, q2, rfl, rfl, rfl, h2, r2⟩ := trodAll_cons r1
  obtain ⟨rfl, rfl, rfl⟩ := trodAll_nil r2
  obtain rfl : args = #[v0, v1, v2] := Array.ext' hargs
  obtain ⟨rfl, rfl⟩ := trodVars_none hV
  obtain ⟨l, lv, lz⟩ := open_strs (hval 0 44 v0 rfl rfl) h0
  obtain ⟨o, ov, oz⟩ := open_strs (hval 1 44 v1 rfl rfl) h1
  obtain ⟨n, rfl, n1, n2⟩ := open_i64 Tryz.underlying3 (hval 2 3 v2 rfl rfl) h2
  clear hA0 hA
  refine (topBooks_walk v0 v1 l o n W (env_book hL rfl hS) lv ov lz oz n1 n2).mono fun e W' ⟨he, hb⟩ => ?_
  exact ⟨_, he, law_post Tryz.laidOutOk (by kernel_rfl) rfl (by kernel_rfl) Tryz.underlying4 hW' ⟨rfl, rfl, rfl⟩ hb⟩

noncomputable def given : Array Value := #[.slice none 0 0, .slice none 0 0, .int .i64 0]
/-- A world in which all listed variables lie. -/
noncomputable def laidW (os : Os) : World := World.laidAll Tryz.prog os Rows.topBooksRow.laid
theorem laidW_vars (os : Os) (args : Array Value) : ((laidW os).forCall (fun _ _ => 0) ⟨#[], args, []⟩).variablesB Tryz.prog = true := by kernel_rfl
theorem laidW_heap (os : Os) (args : Array Value) : (((laidW os).forCall (fun _ _ => 0) ⟨#[], args, []⟩).heap.toList.drop Tryz.prog.globals.size).take ((begin Tryz.prog (fun _ _ => 0) default).world.heap.size - Tryz.prog.globals.size) =
    (begin Tryz.prog (fun _ _ => 0) default).world.heap.toList.drop Tryz.prog.globals.size := by kernel_rfl
theorem laidOk (os : Os) (args : Array Value) : laidMet Tryz.prog Rows.topBooksRow.laid ((laidW os).forCall (fun _ _ => 0) ⟨#[], args, []⟩).memory :=
  laidMet_laidAll args (by kernel_rfl) (by kernel_rfl)
theorem reads (os : Os) {H : Type} (enc : TypeId × Value → H) : ∃ x : List (DataW H) × List (DataW H) × List MemPlace, DataW.whole enc Tryz.prog ((laidW os).forCall (fun _ _ => 0) ⟨#[], given, []⟩).memory Tryz.f14.params.toList Rows.topBooksSpec.vars false given.toList 8 = some x :=
  ⟨([.nil, .nil, .lit (.int .i64 0)], [], []), by kernel_rfl⟩
theorem noInit : Tryz.checked.prog.inits.idxOf? 14 = none := by kernel_rfl
theorem okIn (os : Os) : Input.okWideB Tryz.checked.prog ((laidW os).forCall (fun _ _ => 0) ⟨#[], given, []⟩) 14 ⟨#[], given, []⟩ = true := by kernel_rfl
theorem sized (os : Os) {H : Type} (enc : TypeId × Value → H) : (OpenSpec.ofChange Rows.topBooksSpec).bare.sizedB enc Tryz.prog Tryz.f14 false ((laidW os).forCall (fun _ _ => 0) ⟨#[], given, []⟩).memory given 8 = true := by kernel_rfl
set_option maxRecDepth 100000 in
theorem lifted (os : Os) (started : os.Started) (H : Type) (enc : TypeId × Value → H) (F : Stop.Interp) :
    ReturnsInHanded {} Tryz.checked os 14 .any ((OpenSpec.ofChange Rows.topBooksSpec).preRow enc Tryz.prog Tryz.f14 Rows.topBooksRow.domain false Rows.topBooksRow.laid) (((OpenSpec.ofChange Rows.topBooksSpec).at F).post enc Tryz.prog Tryz.f14 false true false false) := by
  obtain ⟨x, hx⟩ := reads os enc
  refine returnsInHanded_of_row (C := Tryz.checked) (s := OpenSpec.ofChange Rows.topBooksSpec) Tryz.ownOk started noInit Tryz.func14
    (witness_row_at (enc := enc) (C := Tryz.checked) false (laidW os) given (World.laidAll_os _ _ _) (laidW_vars os given) (laidW_heap os given) (okIn os)
      (OpenSpec.preRow_of_cond 8 hx (by kernel_rfl) (fun k hk => by cases hk) (sized os enc) (laidOk os given))) ?_
  intro W base args ds gs before hval hW _ _ _ hL hS _
  exact contract H enc W base args ds gs before hval hW hL hS

set_option maxRecDepth 100000 in
set_option maxHeartbeats 8000000 in
theorem joined : joinedFacts Tryz.prog 14 Tryz.f14 (OpenSpec.ofChange Rows.topBooksSpec).bare Rows.topBooksRow = true := by
  unfold joinedFacts
  simp only [Bool.and_eq_true]
  repeat' (refine And.intro ?_ ?_)
  all_goals (as_aux_lemma => kernel_rfl)
theorem said : Rows.TopBooksSaid :=
  OpenClaim.holds_of_cond 14 Tryz.f14 rfl rfl rfl rfl rfl rfl rfl ⟨rfl, rfl, rfl, rfl, rfl⟩ rfl rfl rfl rfl rfl (by kernel_rfl) Tryz.func14 joined
    (of_decide_eq_true (by kernel_rfl)) (by unfold Func.isWrapper; first | (rw [if_pos (by decide +kernel)]; kernel_rfl) | (rw [if_neg (by decide +kernel)]; exact ⟨rfl, rfl⟩))
    (fun os started H enc _ F => by rw [OpenClaim.pre_eq_preRow]; exact lifted os started H enc F)

theorem plain (f : FuncId) (fn : Func) (hf : Tryz.pinned.checked.prog.funcNamed "linoleum/linoleumtop.TopBooks" = some f) (hfn : Tryz.pinned.checked.prog.funcs[f]? = some fn) :
    true = Tryz.pinned.checked.prog.looks [] ∧ ∀ (j : Nat) t, fn.params[j]? = some t → Tryz.pinned.checked.prog.wantsStandIn t = false := by
  obtain rfl : f = 14 := Option.some.inj ((show Tryz.prog.funcNamed "linoleum/linoleumtop.TopBooks" = some 14 by kernel_rfl).symm.trans hf) |>.symm
  obtain rfl : fn = Tryz.f14 := (Option.some.inj (Tryz.func14.symm.trans hfn)).symm
  refine ⟨Tryz.looksOk, fun j t ht => ?_⟩
  have hm : t ∈ Tryz.f14.params.toList := by simpa using Array.mem_of_getElem? ht
  have hall : (Tryz.f14.params.toList.all fun u => !Tryz.prog.wantsStandIn u) = true := by kernel_rfl
  exact (show Tryz.prog.wantsStandIn t = false by simpa using List.all_eq_true.1 hall t hm)
theorem wf : Rows.topBooksRow.wfByText (OpenSpec.ofChange Rows.topBooksSpec) = true := by kernel_rfl
theorem goes : false = Rows.topBooksRow.goesBy Tryz.pinned.checked.prog := by kernel_rfl

theorem card : Rows.TopBooksCardSaid :=
  Claim7.holds_tied_plain_at .later [] _ _ _ _ said (fun _ h => by cases h) wf (fun _ h => by cases h) topBooks_row_tie rfl ⟨rfl, rfl⟩ Tryz.mainOk rfl plain goes
end Go.Proofs.YtcljpklgpedolaaGreatDoor.topBooks
