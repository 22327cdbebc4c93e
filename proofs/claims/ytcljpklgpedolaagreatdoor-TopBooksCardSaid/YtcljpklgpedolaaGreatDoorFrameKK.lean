/- The frame that all laws of layer 9 share: a law whose walk ends in 'true' and leaves all that was there as it was meets its row; the listed variables at the witness; how a fraction among the arguments is opened. What a row lists of the library's variables gives what the texts of numbers look at. -/
import Derived.Test.YtcljpklgpedolaaGreatDoorCards
import Derived.Test.YtcljpklgpedolaaGreatDoorTie
import Derived.WalkKit
import Derived.ProofKit
import Derived.OpenShut
import Derived.Deep.DeepHandedRow
import Derived.Lib.LaidTab
import Derived.Lib.SmallJoins
import Derived.Carry
import Derived.LaidMore
import Derived.ChangeSlices
import Derived.Test.YtcljpklgpedolaaGreatDoorBkQA
import Derived.Test.YtcljpklgpedolaaGreatDoorRows
import Derived.Stop.LaidErr
import Derived.Shelf.Vars
import Derived.ChangeMaps5
import Derived.Lib.LaidU8
namespace Go.Proofs.YtcljpklgpedolaaGreatDoor
open Go.ChangeShapes Go.WideShapes Go.ChangeAt Go.RowKit Go.Deep

theorem Tryz.ownOk : ownKnob Tryz.prog.godebug = none := by kernel_rfl
theorem Tryz.laidOutOk : laidOutB Tryz.prog = true := by kernel_rfl

section
variable {H : Type} {enc : TypeId × Value → H} {P : Program}

/-- What came in reads behind the call as it did, whatever the types. -/
theorem trodAll_below (hl : laidOutB P = true) {W W' : World} (hb : Below W.heap.size W W') :
    ∀ {ts : List TypeId} {vs : List Value} {ds : List (DataW H)} {p : List MemPlace}, (ts.all fun t => P.readableRec t && decide (t < P.types.size)) = true → (∀ x ∈ p, x.block < W.heap.size) →
      DataW.TrodAll enc P W 0 (fun _ => true) true ts vs ds p → DataW.TrodAll enc P W' 0 (fun b => decide (b < W.heap.size)) true ts vs ds p
  | [], [], [], _, _, _, h => h
  | t :: ts, v :: vs, d :: ds, ps, hr, hlt, h => by
    simp only [List.all_cons, Bool.and_eq_true, decide_eq_true_eq] at hr
    obtain ⟨p, q, h1, h2, rfl⟩ := h
    exact ⟨p, q, Below.trod hl hr.1.1 hr.1.2 h1 hb (fun x hx => hlt x (List.mem_append.2 (Or.inl hx))),
      trodAll_below hl hb (by simpa using hr.2) (fun x hx => hlt x (List.mem_append.2 (Or.inr hx))) h2, rfl⟩
  | [], _ :: _, _, _, _, _, h => h.elim
  | [], [], _ :: _, _, _, _, h => h.elim
  | _ :: _, [], _, _, _, _, h => h.elim
  | _ :: _, _ :: _, [], _, _, _, h => h.elim

/-- A law's row is met by a walk that ends in 'true' and has turned nothing that was there. -/
theorem law_post (hl : laidOutB P = true) {f : Func} {s : ChangeSpec} {W W' : World} {args : Array Value} {ds gs : List (DataW H)} {before : List MemPlace} {b : TypeId}
    (hrd : (f.params.toList.all fun t => P.readableRec t && decide (t < P.types.size)) = true) (hv : s.vars = []) (hres : f.resultTypes = #[b]) (hbool : P.underlying b = some .bool)
    (hW : DataW.Whole enc P f.params.toList s.vars false W args.toList ds gs before)
    (hfn : (s.fn H (ds ++ gs)).results = [.lit (.bool true)] ∧ (s.fn H (ds ++ gs)).args = ds ∧ (s.fn H (ds ++ gs)).vars = [])
    (hb : Below W.heap.size W W') : s.post enc P f false true false false W args (.bool true) W' := by
  have hW' := hW
  obtain ⟨p, q, hA, hV, rfl, hfz, hnd⟩ := hW
  have hq : q = [] ∧ gs = [] := by
    rw [hv] at hV
    cases gs with
    | nil => exact ⟨hV, rfl⟩
    | cons _ _ => exact hV.elim
  obtain ⟨rfl, rfl⟩ := hq
  have hlt : ∀ x ∈ p, x.block < W.heap.size := fun x hx => hW'.lt x (List.mem_append.2 (Or.inl hx))
  refine ⟨ds, [], p ++ [], [], p, [], hW', ?_, ?_, ?_, hb.frame _, fun h => by cases h⟩
  · rw [hfn.1, hres]
    exact trodAll_cons_mk (shut_bool hbool _) trodAll_mk0
  · rw [hfn.2.1]
    exact trodAll_below hl hb hrd hlt hA
  · rw [hfn.2.2, hv]
    rfl

/-- A fraction that came in: two numbers. -/
theorem open_rat {W : World} {base : Nat} {t : TypeId} {f0 f1 : Field} {v : Value} {d : DataW H} {p : List MemPlace} (hs : P.underlying t = some (.struct #[f0, f1])) (hone : oneCellFields P #[f0, f1] = true) (hC : P.cellsOf t = 2)
    (i0 : P.underlying f0.type = some (.int .i64)) (i1 : P.underlying f1.type = some (.int .i64)) (hv : Value.okWide P W .any base t v) (h : DataW.Trod enc P W 0 (fun _ => true) true t v d p) :
    ∃ n m : Int, v = .agg #[.int .i64 n, .int .i64 m] ∧ (-9223372036854775808 ≤ n ∧ n ≤ 9223372036854775807) ∧ (-9223372036854775808 ≤ m ∧ m ≤ 9223372036854775807) := by
  obtain ⟨c0, c1, y0, y1, k, rfl, rfl, rfl, h0, h1⟩ := Joins.open_agg2 hs hone hC hv h
  obtain ⟨a, e0, _, wa⟩ := DataW.trod_int i0 h0
  obtain ⟨c, e1, _, wc⟩ := DataW.trod_int i1 h1
  simp at e0 e1
  subst e0 e1
  refine ⟨a, c, rfl, ?_, ?_⟩
  · simpa [Lit.wf, IntKind.min, IntKind.max, IntKind.signed, IntKind.bits] using wa
  · simpa [Lit.wf, IntKind.min, IntKind.max, IntKind.signed, IntKind.bits] using wc

/-- An int that came in. -/
theorem open_i64 {W : World} {base : Nat} {t : TypeId} {v : Value} {d : DataW H} {p : List MemPlace} (ht : P.underlying t = some (.int .i64)) (hv : Value.okWide P W .any base t v) (h : DataW.Trod enc P W 0 (fun _ => true) true t v d p) :
    ∃ n : Int, v = .int .i64 n ∧ (-9223372036854775808 ≤ n ∧ n ≤ 9223372036854775807) := by
  obtain ⟨x, rfl, _, _, wx⟩ := open_int ht hv h
  refine ⟨x, rfl, ?_⟩
  simpa [Lit.wf, IntKind.min, IntKind.max, IntKind.signed, IntKind.bits] using wx
end

theorem Tryz.looksOk : true = Tryz.pinned.checked.prog.looks [] := by kernel_rfl
theorem Tryz.mainOk : Tryz.pinned.checked.prog.mainIs = some (Rows.bookSumsCard.stood.harness.1, Rows.bookSumsCard.stood.harness.2.toList) := by kernel_rfl
theorem spot_none {w : World} {a : Addr} {v : Value} (h : w.cell? a = some v) : a.spot = none ∧ a.block < w.heap.size := by
  unfold World.cell? at h
  split at h
  · rename_i c e f hb
    have hlt := (Array.getElem?_eq_some_iff.1 hb).1
    cases hs : a.spot with
    | none => exact ⟨rfl, hlt⟩
    | some x => rw [hs] at h; simp at h
  · simp at h

end Go.Proofs.YtcljpklgpedolaaGreatDoor
namespace Go.Proofs.YtcljpklgpedolaaGreatDoor
open Go.RowKit Go.ChangeShapes

theorem envStar : "*" ++ "errors.errorString" = "*errors.errorString" := by decide
theorem rowErr (u : TypeId) (h : Tryz.prog.typeName? 3 u = some "*errors.errorString") : u = 209 :=
  typeName_ptr_named (nm := "errors.errorString") (by rw [envStar]; kernel_rfl) (by kernel_rfl) (by decide) u (by rw [envStar]; exact h)
theorem pow_of {W : World} {r : List (String × DataW Unit)} (h : laidMet Tryz.prog (("internal/strconv.uint64pow10", Lib.tabData .u64 Lib.pow10Tab) :: r) W) : Lib.TabIs Tryz.prog W "internal/strconv.uint64pow10" .u64 Lib.pow10Tab :=
  Lib.tabIs_of_head (g := 3) (t := 179) (e := 129) (n := 20) (by kernel_rfl) (by kernel_rfl) (by kernel_rfl) (by kernel_rfl) (by kernel_rfl) (by kernel_rfl) h
theorem err_of {W : World} {n : String} {g : Nat} {text : List UInt8} {r : List (String × DataW Unit)} (hg : Tryz.prog.globalNamed n = some g) (ht : (Tryz.prog.globals[g]?).map (·.type) = some 92)
    (h : laidMet Tryz.prog ((n, .iface "*errors.errorString" (.ptr (.agg [.lit (.string text)]))) :: r) W) : ∃ t p, W.cell? ⟨g, 0, none⟩ = some (.iface t p) := by
  obtain ⟨a, _, hv, _⟩ := laid_sentinel h hg ht Tryz.underlying92 rowErr Tryz.underlying209 Tryz.underlying211 rfl rfl Tryz.underlying9 (by kernel_rfl) (by kernel_rfl)
  exact ⟨_, _, (World.var?_cell hg hv 0).trans rfl⟩
theorem max_of {W : World} (h : W.ShapedOpen Tryz.prog) : ∃ m, W.cell? ⟨2, 0, none⟩ = some (.int .i64 m) :=
  cell_of_shapedOpen_int (t := 3) (zero := #[.int .i64 0]) h (by decide +kernel) (by kernel_rfl) rfl (by kernel_rfl) (by kernel_rfl) Tryz.underlying3
theorem first_is : Lib.firstData = Go.Pinned.utf8First := by kernel_rfl
theorem accept_is : Lib.acceptData = Rows.laid_unicode_utf8_acceptRanges := by kernel_rfl
theorem u8extra : U8Extra Tryz.prog Tryz.lays197_ren := { n3 := by kernel_rfl, n4 := by kernel_rfl, y3 := by kernel_rfl, y4 := by kernel_rfl, c5 := by kernel_rfl, c119 := by kernel_rfl, c138 := by kernel_rfl }
theorem env_book {W : World} {l : List (String × DataW Unit)} (hL : laidMetH Tryz.prog l W) (hl : l = Rows.bookSumsRow.laid) (hS : W.ShapedOpen Tryz.prog) : EnvB W := by
  subst hl
  have h : laidMet Tryz.prog Rows.bookSumsRow.laid W := hL
  have h2 := laidMet.tail (laidMet.tail h)
  have h3 := laidMet.tail (laidMet.tail h2)
  have h4 := laidMet.tail h3
  refine ⟨⟨pow_of h2, max_of hS, err_of (g := 4) (by kernel_rfl) (by kernel_rfl) h4, err_of (g := 5) (by kernel_rfl) (by kernel_rfl) h3⟩, ?_⟩
  have m3 : ("unicode/utf8.first", Rows.laid_unicode_utf8_first) ∈ Rows.bookSumsRow.laid := by simp [Rows.bookSumsRow]
  have m4 : ("unicode/utf8.acceptRanges", Rows.laid_unicode_utf8_acceptRanges) ∈ Rows.bookSumsRow.laid := by simp [Rows.bookSumsRow]
  have r3 := Lib.laidMet.reads h m3
  have r4 := Lib.laidMet.reads h m4
  rw [show (Rows.laid_unicode_utf8_first : DataW Unit) = Lib.firstData from first_is.symm] at r3
  rw [← accept_is] at r4
  exact utf8Tabs_of_reads (P := Tryz.prog) (ρ := Tryz.lays197_ren) { Tryz.lays197 with } u8extra r3 r4
end Go.Proofs.YtcljpklgpedolaaGreatDoor
