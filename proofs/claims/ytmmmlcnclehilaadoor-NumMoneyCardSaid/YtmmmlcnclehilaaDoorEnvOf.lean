/- What a row lists of the library's variables gives what the texts of numbers look at. -/
import Derived.Test.YtmmmlcnclehilaaDoorText1
import Derived.Test.YtmmmlcnclehilaaDoorRows
import Derived.Stop.LaidErr
import Derived.Shelf.Vars
import Derived.Lib.LaidTab
import Derived.ChangeMaps5
namespace Go.Proofs.YtmmmlcnclehilaaDoor
open Go.RowKit Go.ChangeShapes

theorem envStar : "*" ++ "errors.errorString" = "*errors.errorString" := by decide
theorem rowErr (u : TypeId) (h : Tryd.prog.typeName? 3 u = some "*errors.errorString") : u = 134 :=
  typeName_ptr_named (nm := "errors.errorString") (by rw [envStar]; kernel_rfl) (by kernel_rfl) (by decide) u (by rw [envStar]; exact h)
theorem pow_of {W : World} {r : List (String × DataW Unit)} (h : laidMet Tryd.prog (("internal/strconv.uint64pow10", Lib.tabData .u64 Lib.pow10Tab) :: r) W) : Lib.TabIs Tryd.prog W "internal/strconv.uint64pow10" .u64 Lib.pow10Tab :=
  Lib.tabIs_of_head (g := 3) (t := 126) (e := 77) (n := 20) (by kernel_rfl) (by kernel_rfl) (by kernel_rfl) (by kernel_rfl) (by kernel_rfl) (by kernel_rfl) h
theorem err_of {W : World} {n : String} {g : Nat} {text : List UInt8} {r : List (String × DataW Unit)} (hg : Tryd.prog.globalNamed n = some g) (ht : (Tryd.prog.globals[g]?).map (·.type) = some 58)
    (h : laidMet Tryd.prog ((n, .iface "*errors.errorString" (.ptr (.agg [.lit (.string text)]))) :: r) W) : ∃ t p, W.cell? ⟨g, 0, none⟩ = some (.iface t p) := by
  obtain ⟨a, _, hv, _⟩ := laid_sentinel h hg ht Tryd.underlying58 rowErr Tryd.underlying134 Tryd.underlying136 rfl rfl Tryd.underlying9 (by kernel_rfl) (by kernel_rfl)
  exact ⟨_, _, (World.var?_cell hg hv 0).trans rfl⟩
theorem max_of {W : World} (h : W.ShapedOpen Tryd.prog) : ∃ m, W.cell? ⟨0, 0, none⟩ = some (.int .i64 m) :=
  cell_of_shapedOpen_int (t := 3) (zero := #[.int .i64 0]) h (by decide +kernel) (by kernel_rfl) rfl (by kernel_rfl) (by kernel_rfl) Tryd.underlying3
theorem env_texts {W : World} (hL : laidMetH Tryd.prog Rows.numTextsRow.laid W) (hS : W.ShapedOpen Tryd.prog) : Env W := by
  have h : laidMet Tryd.prog Rows.numTextsRow.laid W := hL
  have h2 := laidMet.tail (laidMet.tail h)
  have h3 := laidMet.tail h2
  have h4 := laidMet.tail h3
  exact ⟨pow_of h2, max_of hS, err_of (g := 1) (by kernel_rfl) (by kernel_rfl) h4, err_of (g := 2) (by kernel_rfl) (by kernel_rfl) h3⟩
theorem env_money {W : World} (hL : laidMetH Tryd.prog Rows.numMoneyRow.laid W) (hS : W.ShapedOpen Tryd.prog) : Env W := by
  have h : laidMet Tryd.prog Rows.numMoneyRow.laid W := hL
  have h2 := laidMet.tail (laidMet.tail h)
  have h3 := laidMet.tail (laidMet.tail h2)
  have h4 := laidMet.tail h3
  exact ⟨pow_of h2, max_of hS, err_of (g := 1) (by kernel_rfl) (by kernel_rfl) h4, err_of (g := 2) (by kernel_rfl) (by kernel_rfl) h3⟩
end Go.Proofs.YtmmmlcnclehilaaDoor
